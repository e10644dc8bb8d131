/- The reference of layer 6: cutting: a contract of the call, in whatever memory. Conditions: the pages' cells are known. -/
import Derived.Test.YtnneeojgakjalaaHg
import Derived.Test.YtnneeojgakjalaaHk
import Derived.Deep.Cut
namespace Go.Proofs.Ytnneeojgakjalaa
open Go.RowKit

/-- What Cut must answer. -/
def HAns (w : World) (a : Option Addr) (E : List PgE) (h : Hp) (er : Int) (e : Ending) (w' : World) : Prop :=
  (∃ a' c E', e = .returned (.tuple #[.agg #[.slice a' E'.length c], .int .i64 er]) ∧ HpAt w' a' c E' ∧ hp E' = h ∧ AwayH w a E a' E') ∧ Below w.heap.size w w'

theorem trimH_all : ∀ (g : Hp), (∀ p ∈ g, p = []) → trimH g = []
  | [], _ => rfl
  | p :: g, h => by
    have e := trimH_all g (fun q hq => h q (by simp [hq]))
    have hp := h p (by simp)
    subst hp
    simp [trimH, e]
theorem trimH_append : ∀ (h g : Hp), (∀ p ∈ g, p = []) → lastFull h = true → trimH (h ++ g) = h
  | [], g, hg, _ => trimH_all g hg
  | [p], g, hg, hl => by
    have hp : (!p.isEmpty) = true := hl
    simp [trimH, trimH_all g hg] at hp ⊢
    exact hp
  | p :: q :: h, g, hg, hl => by
    have e := trimH_append (q :: h) g hg hl
    rw [List.cons_append, trimH, e]
/-- n pages are left when all behind them have no slot, and the last of them has one. -/
theorem trimH_at {h : Hp} {n : Nat} (h1 : ∀ i (hi : i < h.length), n ≤ i → h[i] = []) (h2 : n = 0 ∨ ∃ hl : n - 1 < h.length, 0 < n ∧ h[n - 1] ≠ []) : trimH h = h.take n := by
  have e : h = h.take n ++ h.drop n := (List.take_append_drop n h).symm
  conv => lhs; rw [e]
  refine trimH_append _ _ (fun p hp => ?_) ?_
  · obtain ⟨j, hj, rfl⟩ := List.mem_iff_getElem.1 hp
    rw [List.getElem_drop]
    exact h1 _ _ (by omega)
  · rcases h2 with rfl | ⟨hl, h0, hu⟩
    · rfl
    · rw [lastFull_at (by rw [List.length_take]; omega), List.getElem_take]
      have : (h.take n).length - 1 = n - 1 := by rw [List.length_take]; omega
      simp only [this]
      cases hq : h[n - 1] with
      | nil => exact absurd hq hu
      | cons _ _ => rfl
theorem HCells.take {w : World} {a : Option Addr} {E : List PgE} (h : HCells w a E) (n : Nat) : HCells w a (E.take n) := by
  intro hne
  have hp : E ≠ [] := fun e => hne (by rw [e]; simp)
  obtain ⟨b, off, e, hc⟩ := h hp
  refine ⟨b, off, e, fun i hi => ?_⟩
  rw [List.getElem_take]
  exact hc i (by rw [List.length_take] at hi; omega)
theorem hp_take (E : List PgE) (n : Nat) : hp (E.take n) = (hp E).take n := by simp [hp, List.map_take]
theorem away_less {w w0 : World} {a : Option Addr} {p : Pg} {a' : Option Addr} {q : Pg} (h : Away w a p a' q) (hw : w0.heap.size ≤ w.heap.size) : Away w0 a p a' q := h.imp id (fun h b off e => Nat.le_trans hw (h b off e))
theorem cell_alloc_keep {W : World} {o : Obj} {p : Addr} {v : Value} (h : W.cell? p = some v) : (W.alloc o).cell? p = some v := cell_later ((Below.refl _ _).alloc (Nat.le_refl _) _) h
theorem store_new_keep {W0 W : World} {T B o : Nat} {u v v0 : Value} (h0 : W0.cell? ⟨B, o, none⟩ = some v0) (hT : W0.heap.size ≤ T) (h : W.cell? ⟨B, o, none⟩ = some v) : (W.setCell ⟨T, 0, none⟩ u).cell? ⟨B, o, none⟩ = some v := by
  have hlt : B < W0.heap.size := World.block_lt_of_cell? _ _ h0
  have hne : T ≠ B := by omega
  rw [World.cell?_setCell_other _ _ _ _ (fun e => hne (by simpa using congrArg Addr.block e))]
  exact h
set_option maxHeartbeats 4000000 in
set_option maxRecDepth 1000000 in
theorem refHCut_any (a : Option Addr) (c : Nat) (E : List PgE) (x y : Int) (w : World) (h : HpAt w a c E) (hx : x ≤ 9223372036854775807) (hy : y ≤ 9223372036854775807) :
    Calls Try.prog 15 #[.agg #[.slice a E.length c], .agg #[.int .i64 x, .int .i64 y]] w (HAns w a E (cutHP (hp E) x y) (getHE (hp E) x y)) := by
  have A := hid0 h
  have hlb : E.length ≤ 5864062014805 := by have := h.len; omega
  have v0 := (((VarAt.new w (.slice a E.length c) 24).alloc (Obj.cells #[.int .i64 x, .int .i64 y] 26)).alloc (Obj.cells #[.slice none 0 0] 24))
  have d0 := (IdAt.new (w.alloc (Obj.cells #[.slice a E.length c] 24)) x y 26).alloc (Obj.cells #[.slice none 0 0] 24)
  have r0 := VarAt.new ((w.alloc (Obj.cells #[.slice a E.length c] 24)).alloc (Obj.cells #[.int .i64 x, .int .i64 y] 26)) (.slice none 0 0) 24
  rw [World.size_alloc] at d0
  rw [World.size_alloc, World.size_alloc] at r0
  have hB0 : Below w.heap.size w (((w.alloc (Obj.cells #[.slice a E.length c] 24)).alloc (Obj.cells #[.int .i64 x, .int .i64 y] 26)).alloc (Obj.cells #[.slice none 0 0] 24)) := (((Below.refl _ _).alloc (Nat.le_refl _) _).alloc (by simp) _).alloc (by simp; omega) _
  have C := refHGet_any a c E x y _ (((h.alloc (Obj.cells #[.slice a E.length c] 24)).alloc (Obj.cells #[.int .i64 x, .int .i64 y] 26)).alloc (Obj.cells #[.slice none 0 0] 24)) hx hy
  clear h
  rcases getHE_cases (hp E) x y with ⟨hne, hgd, _⟩ | ⟨hr, i, k, rfl, rfl, hi, hk, hg, he0⟩
  · have e1 : cutHP (hp E) x y = hp E := if_neg hne
    rw [e1]
    obtain ⟨er, her⟩ : ∃ er, getHE (hp E) x y = er := ⟨_, rfl⟩
    rw [her] at C hne ⊢
    clear e1 hgd her
    obtain ⟨q0, f0⟩ := v0
    obtain ⟨i0, i1, fi⟩ := d0
    go_enter Try.func15, Try.ntmps15
    go_wp2_with fail
    refine C.mono ?_
    rintro e w1 ⟨rfl, hb⟩
    obtain ⟨q1, f1⟩ := (VarAt.mk q0 f0).later hb
    obtain ⟨s1, g1⟩ := r0.later hb
    have hB1 := below_through hb hB0.size hB0
    have x1 := (VarAt.mk s1 g1).set (.slice a E.length c)
    have c0 := x1.cell
    have hB2 := hB1.setCell (p := ⟨w.heap.size + 1 + 1, 0, none⟩) (by show w.heap.size ≤ w.heap.size + 1 + 1; omega) (.slice a E.length c)
    go_wp2
    exact bodyPost_ret (v := .tuple #[.agg #[.slice a E.length c], .int .i64 er]) (by simp [results, Try.results15, go_sem, c0]) rfl ⟨⟨a, c, E, rfl, A.out.later hB2, rfl, AwayH.same _ _ _⟩, hB2⟩
  · have hiE : i < E.length := by simpa [hp_len] using hi
    obtain ⟨gd, hgd⟩ : ∃ g, getHD (hp E) (i : Int) (k : Int) = g := ⟨_, rfl⟩
    rw [he0, hgd] at C
    have e1 : cutHP (hp E) (i : Int) (k : Int) = cutHR (hp E) i k := by unfold cutHP; rw [if_pos he0, Int.toNat_natCast, Int.toNat_natCast]
    rw [e1, he0]
    have hk' : k < E[i].p.length := by rw [hp_at hiE] at hk; exact hk
    have hgp : gotP E[i].p k = some gd := by rw [hp_at hiE] at hg; rw [hg, hgd]
    have hRp : RightP E[i].p := hr.pages _ (List.mem_map_of_mem (f := PgE.p) (List.getElem_mem hiE))
    have hcutp : cutP E[i].p (k : Int) = cutR E[i].p k ∧ getE E[i].p (k : Int) = 0 := by
      have h0 := (getE_of hRp hgp).1
      exact ⟨by unfold cutP; rw [if_pos h0, Int.toNat_natCast], h0⟩
    have HC := hid0 hcutp
    have HR := hid0 hr
    have HRP := hid0 hRp
    have hkb : (k : Int) ≤ 9223372036854775807 := hy
    clear e1 he0 hgd hg hk hgp hRp hcutp hr hi
    obtain ⟨q0, f0⟩ := v0
    obtain ⟨i0, i1, fi⟩ := d0
    go_enter Try.func15, Try.ntmps15
    go_wp2_with fail
    refine C.mono ?_
    rintro e w1 ⟨rfl, hb⟩
    have V0 := (VarAt.mk q0 f0).later hb
    have R0 := r0.later hb
    have D0 := (IdAt.mk i0 i1 fi).later hb
    have hB1 := below_through hb hB0.size hB0
    clear q0 f0 i0 i1 fi r0 hB0 hb C
    have hne : E ≠ [] := by intro e; rw [e] at hiE; exact absurd hiE (by simp)
    obtain ⟨b, o, rfl, hcs⟩ := (A.out.later hB1).cells hne
    have p1 := hcs i hiE
    clear hcs hne
    have C36 := hid0 (fun W (hb : Below w.heap.size w W) => refCut_any E[i].a E[i].c E[i].p (k : Int) W (((A.out.pages _ (List.getElem_mem hiE)).later hb).out) (A.out.pages _ (List.getElem_mem hiE)).cap (A.out.pages _ (List.getElem_mem hiE)).len (A.out.pages _ (List.getElem_mem hiE)).small hkb)
    have hii : (i : Int) < (E.length : Int) := by omega
    obtain ⟨q0, f0⟩ := V0
    obtain ⟨i0, i1, fi⟩ := D0
    go_wp2_with fail
    go_cut [8] from 9 (fun tv wr => ∃ (T : Nat) (a2 : Option Addr) (c2 : Nat) (Q : Pg), tv = .pointer (some ⟨T, 0, none⟩) ∧ Q.length ≤ c2 ∧ Hid (Q = cutP E[i].p (k : Int)) ∧ Below w1.heap.size w1 wr ∧ SlotsAt wr a2 Q ∧ wr.cell? ⟨T, 0, none⟩ = some (.slice a2 Q.length c2) ∧ w1.heap.size ≤ T ∧ Away w1 E[i].a E[i].p a2 Q)
    case first =>
      go_region_held3 (fun w' => w'.cell? ⟨w.heap.size, 0, none⟩ = some (.slice (some ⟨b, o, none⟩) E.length c) ∧ w'.cell? ⟨w.heap.size + 1, 0, none⟩ = some (.int .i64 (i : Int)) ∧ w'.cell? ⟨w.heap.size + 1, 1, none⟩ = some (.int .i64 (k : Int)) ∧ w'.cell? ⟨b, o + i, none⟩ = some (.slice E[i].a E[i].p.length E[i].c) ∧ Below w.heap.size w w')
        ((go_split_ands; (try dsimp only); (repeat' apply And.intro); all_goals (first
          | assumption
          | exact cell_later hbn ‹_›
          | exact Below.drew hB1
          | exact below_through hbn (Below.size (by assumption)) (by assumption)
          | exact cell_alloc_keep ‹_›
          | exact cell_alloc_keep (cell_later hbn q0)
          | exact cell_alloc_keep (cell_later hbn i0)
          | exact cell_alloc_keep (cell_later hbn i1)
          | exact cell_alloc_keep (cell_later hbn p1)
          | exact Below.alloc (below_through hbn (Below.drew hB1).size (Below.drew hB1)) (Below.size (below_through hbn (Below.drew hB1).size (Below.drew hB1))) _
          | exact Below.alloc (by assumption) (Below.size (by assumption)) _
          | exact store_new_keep q0 (by first | (simp; done) | (have := hbn.size; simp at this ⊢; omega)) ‹_›
          | exact store_new_keep i0 (by first | (simp; done) | (have := hbn.size; simp at this ⊢; omega)) ‹_›
          | exact store_new_keep i1 (by first | (simp; done) | (have := hbn.size; simp at this ⊢; omega)) ‹_›
          | exact store_new_keep p1 (by first | (simp; done) | (have := hbn.size; simp at this ⊢; omega)) ‹_›
          | exact Below.setCell (by assumption) (by first | (have := hB1.size; simp; omega) | (have := hB1.size; have := hbn.size; simp at this ⊢; omega)) _
          | go_keep)))
        (first
          | (go_at_call 36; (try go_split_ands); refine (C36.out _ (by assumption)).mono ?_; rintro e wn ⟨⟨a2, c2, Q, rfl, hc2, hq2, hqe, hAw⟩, hbn⟩; have HQE := hid0 hqe; clear hqe; try (have tv : VarAt wn w1.heap.size (.slice none 0 0) := VarAt.later (VarAt.new w1.drew (.slice none 0 0) 62) hbn; obtain ⟨tc, tf⟩ := tv)))
      all_goals (first
        | (have PV := ((VarAt.mk tc tf).set (.slice a2 Q.length c2)).cell
           have hW0 : Below w1.heap.size w1 (w1.drew.alloc (Obj.cells #[.slice none 0 0] 62)) := (Below.drew (Below.refl _ _)).alloc (Nat.le_refl _) _
           have hBf := (below_through hbn hW0.size hW0).setCell (p := ⟨w1.heap.size, 0, none⟩) (Nat.le_refl _) (.slice a2 Q.length c2)
           have hP0 := (A.out.pages _ (List.getElem_mem hiE)).later hB1
           have hqf := hq2.setCell w1.heap.size 0 (.slice a2 Q.length c2) (far_away hAw (far_old hP0.out (Nat.le_refl _)) (by simp))
           have hAf : Away w1 E[i].a E[i].p a2 Q := away_less hAw (by simp)
           go_wp2_with fail
           go_meet
           case rel => exact ⟨w1.heap.size, a2, c2, Q, rfl, hc2, HQE, hBf, hqf, PV, Nat.le_refl _, hAf⟩)
        | (have PV := (VarAt.new wn (.slice a2 Q.length c2) 62).cell
           have hW0 : Below w1.heap.size w1 wn := below_through hbn (Nat.le_refl _) (Below.drew (Below.refl _ _))
           have hBf := hW0.alloc hW0.size (Obj.cells #[.slice a2 Q.length c2] 62)
           have hqf := hq2.later ((Below.refl _ _).alloc (Nat.le_refl _) (Obj.cells #[.slice a2 Q.length c2] 62))
           have hAf : Away w1 E[i].a E[i].p a2 Q := away_less hAw (Nat.le_refl _)
           go_wp2_with fail
           go_meet
           case rel => exact ⟨wn.heap.size, a2, c2, Q, rfl, hc2, HQE, hBf, hqf, PV, hW0.size, hAf⟩))
    case rest =>
      obtain ⟨T, a2, c2, Q, rfl, hc2, HQE, hBf, hqf, PV, hTl, hAf⟩ := hcut
      generalize wc = Wf at hBf hqf PV ⊢
      have V1 := (VarAt.mk q0 f0).later hBf
      have D1 := (IdAt.mk i0 i1 fi).later hBf
      have R1 := R0.later hBf
      have hlR := R0.lt
      have hBw := hB1.trans (hBf.mono hB1.size)
      have hszf := hBf.size
      have hsz1 := hB1.size
      have hTW : T < Wf.heap.size := World.block_lt_of_cell? _ _ PV
      have hPE := A.out.pages _ (List.getElem_mem hiE)
      have hfine := cut_fine (p := E[i].p) ⟨hPE.len, hPE.small⟩ (k : Int)
      have hQ : PgAt Wf a2 c2 Q := ⟨hqf, hc2, by rw [HQE.out]; exact hfine.1, by rw [HQE.out]; exact hfine.2⟩
      have F0 : ∀ B, w.heap.size ≤ B → B < w1.heap.size → Far a2 Q B := fun B h1 h2 => far_away hAf (far_old hPE.out h1) h2
      have FG : ∀ B, Wf.heap.size ≤ B → Far a2 Q B := fun B h1 => far_old hqf h1
      have HAW := hid0 hAf
      have C30 := refHWith_any (some ⟨b, o, none⟩) c E Wf (A.out.later hBw).cellsH A.out.len
      clear R0 hB1 hBf hqf hAf hfine hPE q0 f0 i0 i1 fi C36 p1 hc2
      obtain ⟨q0, f0⟩ := V1
      obtain ⟨i0, i1, fi⟩ := D1
      go_wp2_with fail
      refine C30.mono ?_
      rintro e w4 ⟨⟨v, rfl, hown⟩, hb⟩
      obtain ⟨g, c4, rfl, hg, hcap4, hf4, hc4⟩ := hown.form (by omega)
      have hgi := hc4 i hiE
      have V4 := (VarAt.mk q0 f0).later hb
      have D4 := (IdAt.mk i0 i1 fi).later hb
      have R4 := R1.later hb
      have PV4 := cell_later hb PV
      have hQ4 := hQ.later hb
      have hB4 := below_through hb hBw.size hBw
      have g0 : g ≠ w.heap.size := by omega
      have g2 : g ≠ w.heap.size + 1 + 1 := by omega
      have gT : w.heap.size ≠ T := by omega
      have HO9 := ((hown.setCell (a := ⟨w.heap.size, 0, none⟩) (by show w.heap.size < Wf.heap.size; omega) (.slice (some ⟨g, 0, none⟩) E.length c4)).write i ⟨a2, c2, Q⟩)
      have V9 := (V4.set (.slice (some ⟨g, 0, none⟩) E.length c4)).other ⟨g, i, none⟩ (.slice a2 Q.length c2) g0
      have R9 := (R4.other ⟨w.heap.size, 0, none⟩ (.slice (some ⟨g, 0, none⟩) E.length c4) (by show w.heap.size ≠ w.heap.size + 1 + 1; omega)).other ⟨g, i, none⟩ (.slice a2 Q.length c2) g2
      have Q9 := (hQ4.setCell w.heap.size 0 (.slice (some ⟨g, 0, none⟩) E.length c4) (F0 _ (Nat.le_refl _) (by omega))).setCell g i (.slice a2 Q.length c2) (FG _ hg)
      have B9 := (hB4.setCell (p := ⟨w.heap.size, 0, none⟩) (Nat.le_refl _) (.slice (some ⟨g, 0, none⟩) E.length c4)).setCell (p := ⟨g, i, none⟩) (by show w.heap.size ≤ g; omega) (.slice a2 Q.length c2)
      clear hQ hQ4 hBw hB4 hown hb q0 f0 i0 i1 fi R1 R4 PV hc4
      obtain ⟨q0, f0⟩ := V4
      obtain ⟨i0, i1, fi⟩ := D4
      have HF := hid0 (And.intro HO9 (And.intro V9 (And.intro R9 (And.intro Q9 B9))))
      clear HO9 V9 R9 Q9 B9
      go_wp2_with fail
      obtain ⟨HO9, V9, R9, Q9, B9⟩ := HF.out
      have hcut : cutHR (hp E) i k = trimH (hp (E.set i ⟨a2, c2, Q⟩)) := by
        have hi' : i < (hp E).length := by rw [hp_len]; exact hiE
        unfold cutHR
        rw [dif_pos hi', hp_set, hp_at hiE, HQE.out, HC.out.1]
      have hpg : ∀ e ∈ E.set i ⟨a2, c2, Q⟩, e ∈ E ∨ e = ⟨a2, c2, Q⟩ := fun e he => List.mem_or_eq_of_mem_set he
      have HFAR := hid0 (And.intro (F0 w.heap.size (Nat.le_refl _) (by omega)) (F0 (w.heap.size + 1 + 1) (by omega) (by omega)))
      have haw := mem_set_away (w := w) (E := E) (i := i) (e := ⟨a2, c2, Q⟩) (by
        rcases HAW.out with ⟨e1, e2⟩ | h
        · exact .inl ⟨E[i], List.getElem_mem hiE, e1, e2⟩
        · exact .inr (fun b off e => by have := h b off e; omega))
      have hEl : (E.set i ⟨a2, c2, Q⟩).length = E.length := List.length_set
      obtain ⟨E2, hE2⟩ : ∃ E2, E.set i ⟨a2, c2, Q⟩ = E2 := ⟨_, rfl⟩
      obtain ⟨len, hlen⟩ : ∃ len, E.length = len := ⟨_, rfl⟩
      rw [hE2, hlen] at HO9 hEl
      rw [hE2] at hcut hpg haw
      rw [hlen] at V9 B9 R9 Q9 hcap4 hlb
      rw [hEl] at HO9
      have HCUT := hid0 hcut
      have HL := hid0 (And.intro hEl A.out.len)
      have HLEN := hid0 hlen
      have HPG := hid0 hpg
      have HAE := hid0 haw
      have HQ9 := hid0 Q9
      have HGW := hid0 (And.intro hg hsz1)
      rw [hlen]
      clear hcut hE2 hEl haw hpg HF HAW FG F0 Q9 PV4 hgi hii hlen q0 f0 i0 i1 fi
      generalize (w4.setCell ⟨w.heap.size, 0, none⟩ (.slice (some ⟨g, 0, none⟩) len c4)).setCell ⟨g, i, none⟩ (.slice a2 Q.length c2) = W9 at HO9 V9 R9 B9 HQ9 ⊢
      have HO := hid0 HO9
      have HR9 := hid0 R9
      have HB := hid0 B9
      clear HO9 B9
      obtain ⟨m0, n0⟩ := V9
      obtain ⟨m1, n1⟩ := R9
      go_loopw [10] (fun nv wr => ∃ n : Nat, n ≤ len ∧ nv = .int .i64 n ∧ Hid (∀ j (h : j < E2.length), n ≤ j → E2[j].p = []) ∧ wr = W9) (fun nv _ => (intOf nv).toNat)
      case atStart => exact ⟨len, Nat.le_refl _, rfl, hid0 (fun j h hn => by have := HL.out.1; omega), rfl⟩
      case round =>
        obtain ⟨n, hn, rfl, hU, rfl⟩ := hrel
        have hlb2 : len * 24 ≤ 140737488351232 := by have h1 := HL.out.2; have h2 := HLEN.out; omega
        have hsl : ∀ W : World, (Instr.slice 22 (.slice (some ⟨g, 0, none⟩) len c4) none (some (.int .i64 n)) none).run Try.prog W = .ok (.slice (some ⟨g, 0, none⟩) n c4) W := by
          intro W
          rw [run_slice_h W 22 (some ⟨g, 0, none⟩) len c4 Try.underlying22 .i64 n (by omega) (by omega)]
          simp [go_sem, Result.andThen, sliced]
        have hBf := (HB.out.setCell (p := ⟨w.heap.size, 0, none⟩) (Nat.le_refl _) (.slice (some ⟨g, 0, none⟩) n c4)).setCell (p := ⟨w.heap.size + 1 + 1, 0, none⟩) (by show w.heap.size ≤ w.heap.size + 1 + 1; omega) (.slice (some ⟨g, 0, none⟩) n c4)
        have hgw := HGW.out
        have hlrr := hlR
        have hOf := (HO.out.setCell (a := ⟨w.heap.size, 0, none⟩) (by show w.heap.size < Wf.heap.size; omega) (.slice (some ⟨g, 0, none⟩) n c4)).setCell (a := ⟨w.heap.size + 1 + 1, 0, none⟩) (by show w.heap.size + 1 + 1 < Wf.heap.size; omega) (.slice (some ⟨g, 0, none⟩) n c4)
        have hpf : ∀ e ∈ E2, PgAt ((wr.setCell ⟨w.heap.size, 0, none⟩ (.slice (some ⟨g, 0, none⟩) n c4)).setCell ⟨w.heap.size + 1 + 1, 0, none⟩ (.slice (some ⟨g, 0, none⟩) n c4)) e.a e.c e.p := fun e he => by
          rcases HPG.out e he with he | rfl
          · exact (A.out.pages e he).later hBf
          · exact (HQ9.out.setCell w.heap.size 0 _ HFAR.out.1).setCell (w.heap.size + 1 + 1) 0 _ HFAR.out.2
        have c0 := (((VarAt.mk m1 n1).other ⟨w.heap.size, 0, none⟩ (.slice (some ⟨g, 0, none⟩) n c4) (by show w.heap.size ≠ w.heap.size + 1 + 1; omega)).set (.slice (some ⟨g, 0, none⟩) n c4)).cell
        have C0 := hid0 c0
        have hfin : ∀ (hu : n = 0 ∨ ∃ h : n - 1 < E2.length, 0 < n ∧ E2[n - 1].p ≠ []), HAns w (some ⟨b, o, none⟩) E (cutHR (hp E) i k) 0 (Ending.returned (.tuple #[.agg #[.slice (some ⟨g, 0, none⟩) n c4], .int .i64 0])) ((wr.setCell ⟨w.heap.size, 0, none⟩ (.slice (some ⟨g, 0, none⟩) n c4)).setCell ⟨w.heap.size + 1 + 1, 0, none⟩ (.slice (some ⟨g, 0, none⟩) n c4)) := fun hu => by
          have hql : (E2.take n).length = n := by rw [List.length_take]; have := HL.out.1; omega
          rw [HCUT.out]
          refine ⟨⟨some ⟨g, 0, none⟩, c4, E2.take n, ret_page hql.symm, ⟨hOf.slots.take n, fun e he => hpf e (List.mem_of_mem_take he), by rw [hql]; omega, by rw [hql]; omega⟩, ?_, ⟨.inr (fun b' o' e => ?_), fun e he => HAE.out e (List.mem_of_mem_take he)⟩⟩, hBf⟩
          · rw [hp_take]
            refine (trimH_at (fun j hj hle => ?_) ?_).symm
            · rw [hp_at (by rw [← hp_len]; exact hj)]
              exact hU.out j (by rw [← hp_len]; exact hj) hle
            · rcases hu with rfl | ⟨h1, h2, h3⟩
              · exact .inl rfl
              · exact .inr ⟨by rw [hp_len]; exact h1, h2, by rw [hp_at h1]; exact h3⟩
          · obtain ⟨rfl, -⟩ : g = b' ∧ 0 = o' := by simpa using e
            omega
        have HFIN := hid0 hfin
        clear hfin c0 hpf hOf hBf hgw
        by_cases h0 : n = 0
        · have hni : ¬ (0 : Int) < (n : Int) := by omega
          have HE := hid0 (HFIN.out (.inl h0))
          clear h0
          go_wp2
          exact bodyPost_ret (v := .tuple #[.agg #[.slice (some ⟨g, 0, none⟩) n c4], .int .i64 0]) (by simp [results, Try.results15, go_sem, C0.out]) rfl HE.out
        · obtain ⟨m, hm⟩ : ∃ m, n - 1 = m := ⟨_, rfl⟩
          have hml : m < E2.length := by have := HL.out.1; omega
          have hni : (0 : Int) < (n : Int) := by omega
          have hwm : IntKind.i64.wrap ((n : Int) - 1) = (m : Int) := by rw [IntWalk.i64_in _ (by omega)]; omega
          have hmi : (m : Int) < (len : Int) := by have := HL.out.1; omega
          obtain ⟨b', o', e', hcl⟩ := HO.out.slots (by intro e; rw [e] at hml; exact absurd hml (by simp))
          obtain ⟨rfl, rfl⟩ : g = b' ∧ 0 = o' := by simpa using e'
          have q0 := hcl m hml
          rw [Nat.zero_add] at q0
          clear hcl e'
          by_cases hu : E2[m].p = []
          · have hz : E2[m].p.length = 0 := by rw [hu]; rfl
            rw [hz] at q0
            have hUn := hid0 (show ∀ j (h : j < E2.length), m ≤ j → E2[j].p = [] from fun j h hj => by
              by_cases e : j = m
              · subst e; exact hu
              · exact hU.out j h (by omega))
            clear hu HFIN hz
            go_wp2
            exact ⟨⟨m, by omega, by go_num, hUn, trivial⟩, by simp [intOf]; omega⟩
          · have hz : (0 : Int) < (E2[m].p.length : Int) := by
              have : E2[m].p.length ≠ 0 := fun h => hu (List.length_eq_zero_iff.1 h)
              omega
            obtain ⟨z, hzz⟩ : ∃ z, E2[m].p.length = z := ⟨_, rfl⟩
            rw [hzz] at hz q0
            have hz0 : ((z : Int) == 0) = false := by simp; omega
            have HE := hid0 (HFIN.out (.inr ⟨by rw [hm]; exact hml, by omega, by simp only [hm]; exact hu⟩))
            clear hu HFIN hzz
            go_wp2
            exact bodyPost_ret (v := .tuple #[.agg #[.slice (some ⟨g, 0, none⟩) n c4], .int .i64 0]) (by simp [results, Try.results15, go_sem, C0.out]) rfl HE.out
end Go.Proofs.Ytnneeojgakjalaa
