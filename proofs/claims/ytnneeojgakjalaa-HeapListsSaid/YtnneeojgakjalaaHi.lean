/- The reference of layer 6: setting: a contract of the call, in whatever memory. Conditions: the pages' cells are known. -/
import Derived.Test.YtnneeojgakjalaaHh
import Derived.Deep.Cut
namespace Go.Proofs.Ytnneeojgakjalaa
open Go.RowKit

/-- The heap doesn't lie in block B. -/
structure HFar (a : Option Addr) (E : List PgE) (B : Nat) : Prop where
  outer : E ≠ [] → ∀ b off, a = some ⟨b, off, none⟩ → b ≠ B
  inner : ∀ e ∈ E, Far e.a e.p B
theorem HpAt.setCell {w : World} {a : Option Addr} {c : Nat} {E : List PgE} (h : HpAt w a c E) (B o : Nat) (u : Value) (hf : HFar a E B) : HpAt (w.setCell ⟨B, o, none⟩ u) a c E := by
  refine ⟨fun hn => ?_, fun e he => (h.pages e he).setCell B o u (hf.inner e he), h.cap, h.len⟩
  obtain ⟨b, off, e, hc⟩ := h.cells hn
  have hb := hf.outer hn b off e
  refine ⟨b, off, e, fun i hi => ?_⟩
  rw [World.cell?_setCell_other _ _ _ _ (fun e => hb (by simpa using (congrArg Addr.block e).symm))]
  exact hc i hi
theorem HpAt.drew {w : World} {a : Option Addr} {c : Nat} {E : List PgE} (h : HpAt w a c E) : HpAt w.drew a c E := ⟨h.cells, fun e he => (h.pages e he).drew, h.cap, h.len⟩
theorem hfar_old {w : World} {a : Option Addr} {c : Nat} {E : List PgE} {B : Nat} (h : HpAt w a c E) (hB : w.heap.size ≤ B) : HFar a E B := by
  refine ⟨fun hn b off e => ?_, fun e he => far_old (h.pages e he).out hB⟩
  obtain ⟨b', off', e', hc⟩ := h.cells hn
  rw [e] at e'
  obtain ⟨rfl, rfl⟩ : b = b' ∧ off = off' := by simpa using e'
  have h0 : 0 < E.length := by
    rcases Nat.eq_zero_or_pos E.length with h | h
    · exact absurd (List.length_eq_zero_iff.1 h) hn
    · exact h
  have hlt : b < w.heap.size := World.block_lt_of_cell? _ _ (hc 0 h0)
  omega
theorem hfar_away {w : World} {a a' : Option Addr} {E E' : List PgE} {B : Nat} (h : AwayH w a E a' E') (hf : HFar a E B) (hB : B < w.heap.size) : HFar a' E' B := by
  refine ⟨fun hn b off e => ?_, fun x hx hn b off e => ?_⟩
  · rcases h.outer with ⟨rfl, rfl⟩ | h
    · exact hf.outer hn b off e
    · have := h b off e; omega
  · rcases h.inner x hx with ⟨e0, he0, e1, e2⟩ | h
    · exact hf.inner e0 he0 (by rw [← e2]; exact hn) b off (by rw [← e1]; exact e)
    · have := h b off e; omega
theorem AwayH.trans {w W : World} {a a' a'' : Option Addr} {E E' E'' : List PgE} (h : AwayH w a E a' E') (k : AwayH W a' E' a'' E'') (hw : w.heap.size ≤ W.heap.size) : AwayH w a E a'' E'' := by
  refine ⟨?_, fun x hx => ?_⟩
  · rcases k.outer with ⟨rfl, rfl⟩ | k
    · exact h.outer
    · exact .inr (fun b off e => by have := k b off e; omega)
  · rcases k.inner x hx with ⟨e0, he0, e1, e2⟩ | k
    · rcases h.inner e0 he0 with ⟨e3, he3, e4, e5⟩ | h
      · exact .inl ⟨e3, he3, e1.trans e4, e2.trans e5⟩
      · exact .inr (fun b off e => h b off (by rw [← e1]; exact e))
    · exact .inr (fun b off e => by have := k b off e; omega)
theorem AwayH.less {w w0 : World} {a a' : Option Addr} {E E' : List PgE} (h : AwayH w a E a' E') (hw : w0.heap.size ≤ w.heap.size) : AwayH w0 a E a' E' :=
  ⟨h.outer.imp id (fun k b off e => Nat.le_trans hw (k b off e)), fun x hx => (h.inner x hx).imp id (fun k b off e => Nat.le_trans hw (k b off e))⟩

/-- The two results' variables are written: what is answered. -/
theorem idans_fin {w W : World} {a : Option Addr} {E : List PgE} {h : Hp} {B : Nat} {v0 : Value} {x0 y0 : Int} (hv : VarAt W B v0) (hi : IdAt W (B + 1) x0 y0) (hb : w.heap.size ≤ B) (hB : Below w.heap.size w W) {a' : Option Addr} {c' : Nat} {E' : List PgE}
    (HA : HpAt W a' c' E') (hf0 : HFar a' E' B) (hf1 : HFar a' E' (B + 1)) (hh : hp E' = h) (haw : AwayH w a E a' E') (x y er : Int) :
    (((W.setCell ⟨B, 0, none⟩ (.slice a' E'.length c')).setCell ⟨B + 1, 0, none⟩ (.int .i64 x)).setCell ⟨B + 1, 1, none⟩ (.int .i64 y)).cell? ⟨B, 0, none⟩ = some (.slice a' E'.length c')
      ∧ IdAt (((W.setCell ⟨B, 0, none⟩ (.slice a' E'.length c')).setCell ⟨B + 1, 0, none⟩ (.int .i64 x)).setCell ⟨B + 1, 1, none⟩ (.int .i64 y)) (B + 1) x y
      ∧ HIdAns w a E h x y er (.returned (.tuple #[.agg #[.slice a' E'.length c'], .agg #[.int .i64 x, .int .i64 y], .int .i64 er])) (((W.setCell ⟨B, 0, none⟩ (.slice a' E'.length c')).setCell ⟨B + 1, 0, none⟩ (.int .i64 x)).setCell ⟨B + 1, 1, none⟩ (.int .i64 y)) := by
  have hbf := ((hB.setCell (p := ⟨B, 0, none⟩) hb (.slice a' E'.length c')).setCell (p := ⟨B + 1, 0, none⟩) (by show w.heap.size ≤ B + 1; omega) (.int .i64 x)).setCell (p := ⟨B + 1, 1, none⟩) (by show w.heap.size ≤ B + 1; omega) (.int .i64 y)
  exact ⟨(((hv.set (.slice a' E'.length c')).other ⟨B + 1, 0, none⟩ (.int .i64 x) (by show B + 1 ≠ B; omega)).other ⟨B + 1, 1, none⟩ (.int .i64 y) (by show B + 1 ≠ B; omega)).cell,
    (hi.other ⟨B, 0, none⟩ _ (by show B ≠ B + 1; omega)).set x y,
    ⟨a', c', E', rfl, ((HA.setCell B 0 _ hf0).setCell (B + 1) 0 _ hf1).setCell (B + 1) 1 _ hf1, hh, haw⟩, hbf⟩
theorem idans_fin_drew {w W : World} {a : Option Addr} {E : List PgE} {h : Hp} {B : Nat} {v0 : Value} {x0 y0 : Int} (hv : VarAt W B v0) (hi : IdAt W (B + 1) x0 y0) (hb : w.heap.size ≤ B) (hB : Below w.heap.size w W) {a' : Option Addr} {c' : Nat} {E' : List PgE}
    (HA : HpAt W a' c' E') (hf0 : HFar a' E' B) (hf1 : HFar a' E' (B + 1)) (hh : hp E' = h) (haw : AwayH w a E a' E') (x y er : Int) :
    (((W.setCell ⟨B, 0, none⟩ (.slice a' E'.length c')).setCell ⟨B + 1, 0, none⟩ (.int .i64 x)).setCell ⟨B + 1, 1, none⟩ (.int .i64 y)).drew.cell? ⟨B, 0, none⟩ = some (.slice a' E'.length c')
      ∧ IdAt (((W.setCell ⟨B, 0, none⟩ (.slice a' E'.length c')).setCell ⟨B + 1, 0, none⟩ (.int .i64 x)).setCell ⟨B + 1, 1, none⟩ (.int .i64 y)).drew (B + 1) x y
      ∧ HIdAns w a E h x y er (.returned (.tuple #[.agg #[.slice a' E'.length c'], .agg #[.int .i64 x, .int .i64 y], .int .i64 er])) (((W.setCell ⟨B, 0, none⟩ (.slice a' E'.length c')).setCell ⟨B + 1, 0, none⟩ (.int .i64 x)).setCell ⟨B + 1, 1, none⟩ (.int .i64 y)).drew := by
  obtain ⟨x1, x2, ⟨a2, c2, E2, e1, e2, e3, e4⟩, x4⟩ := idans_fin hv hi hb hB HA hf0 hf1 hh haw x y er
  exact ⟨x1, ⟨x2.c0, x2.c1, x2.f⟩, ⟨a2, c2, E2, e1, e2.drew, e3, e4⟩, Below.drew x4⟩
theorem store_other_keep {W : World} {T o' B o : Nat} {u v : Value} (hne : T ≠ B) (h : W.cell? ⟨B, o, none⟩ = some v) : (W.setCell ⟨T, o', none⟩ u).cell? ⟨B, o, none⟩ = some v := by
  rw [World.cell?_setCell_other _ _ _ _ (fun e => hne (by simpa using congrArg Addr.block e))]
  exact h
theorem IdAt.drew {w : World} {B : Nat} {x y : Int} (h : IdAt w B x y) : IdAt w.drew B x y := ⟨h.c0, h.c1, h.f⟩
theorem VarAt.drew {w : World} {B : Nat} {v : Value} (h : VarAt w B v) : VarAt w.drew B v := ⟨h.cell, h.frz⟩

set_option maxHeartbeats 8000000 in
set_option maxRecDepth 1000000 in
theorem refHSet_any (a : Option Addr) (c : Nat) (E : List PgE) (x y : Int) (d : List UInt8) (most : Int) (w : World) (h : HpAt w a c E) (hx : x ≤ 9223372036854775807) (hy : y ≤ 9223372036854775807) (hd : d.length ≤ 140737488351232) :
    Calls Try.prog 17 #[.agg #[.slice a E.length c], .agg #[.int .i64 x, .int .i64 y], .string (txt d), .int .i64 most] w (HIdAns w a E (setHP (hp E) x y d most) (setHX (hp E) x y d most) (setHY (hp E) x y d most) (setHE (hp E) x y d most)) := by
  have A := hid0 h
  have hlb : E.length ≤ 5864062014805 := by have := h.len; omega
  have hz : (txt d).size = d.length := txt_size d
  have v0 := ((((VarAt.new w (.slice a E.length c) 24).alloc (Obj.cells #[.int .i64 x, .int .i64 y] 26)).alloc (Obj.cells #[.slice none 0 0] 24)).alloc (Obj.cells #[.int .i64 0, .int .i64 0] 26))
  have d0 := (((IdAt.new (w.alloc (Obj.cells #[.slice a E.length c] 24)) x y 26).alloc (Obj.cells #[.slice none 0 0] 24)).alloc (Obj.cells #[.int .i64 0, .int .i64 0] 26))
  have r0 := ((VarAt.new ((w.alloc (Obj.cells #[.slice a E.length c] 24)).alloc (Obj.cells #[.int .i64 x, .int .i64 y] 26)) (.slice none 0 0) 24).alloc (Obj.cells #[.int .i64 0, .int .i64 0] 26))
  have s0 := (IdAt.new (((w.alloc (Obj.cells #[.slice a E.length c] 24)).alloc (Obj.cells #[.int .i64 x, .int .i64 y] 26)).alloc (Obj.cells #[.slice none 0 0] 24)) 0 0 26)
  rw [World.size_alloc] at d0
  rw [World.size_alloc, World.size_alloc] at r0
  rw [World.size_alloc, World.size_alloc, World.size_alloc] at s0
  have hB0 : Below w.heap.size w ((((w.alloc (Obj.cells #[.slice a E.length c] 24)).alloc (Obj.cells #[.int .i64 x, .int .i64 y] 26)).alloc (Obj.cells #[.slice none 0 0] 24)).alloc (Obj.cells #[.int .i64 0, .int .i64 0] 26)) := ((((Below.refl _ _).alloc (Nat.le_refl _) _).alloc (by simp) _).alloc (by simp; omega) _).alloc (by simp; omega) _
  have C := refHGet_any a c E x y _ ((((h.alloc (Obj.cells #[.slice a E.length c] 24)).alloc (Obj.cells #[.int .i64 x, .int .i64 y] 26)).alloc (Obj.cells #[.slice none 0 0] 24)).alloc (Obj.cells #[.int .i64 0, .int .i64 0] 26)) hx hy
  -- the ways that are refused
  have fin : ∀ (W : World) (er : Int), VarAt W (w.heap.size + 1 + 1) (.slice none 0 0) → IdAt W (w.heap.size + 1 + 1 + 1) 0 0 → Below w.heap.size w W → Hid _ := fun W er hv hi hb =>
    hid0 (idans_fin hv hi (by omega) hb (A.out.later hb) (hfar_old A.out (by omega)) (hfar_old A.out (by omega)) rfl (AwayH.same w a E) 0 0 er)
  clear h
  rcases getHE_cases (hp E) x y with ⟨hne, hgd, _⟩ | ⟨hr, i, k, rfl, rfl, hi, hk, hg, he0⟩
  · obtain ⟨e1, e2, e3, e4⟩ := setH_not d most hne
    rw [e1, e2, e3, e4]
    obtain ⟨er, her⟩ : ∃ er, getHE (hp E) x y = er := ⟨_, rfl⟩
    rw [her] at C hne ⊢
    clear e1 e2 e3 e4 hgd her
    obtain ⟨q0, f0⟩ := v0
    obtain ⟨i0, i1, fi⟩ := d0
    go_enter Try.func17, Try.ntmps17
    go_wp2_with fail
    refine C.mono ?_
    rintro e w1 ⟨rfl, hb⟩
    obtain ⟨q1, f1⟩ := (VarAt.mk q0 f0).later hb
    have R1 := r0.later hb
    have S1 := s0.later hb
    have hB1 := below_through hb hB0.size hB0
    have FN := fin w1 er R1 S1 hB1
    clear q0 f0 i0 i1 fi r0 s0
    obtain ⟨m1, n1⟩ := R1
    obtain ⟨s1, s2, s3⟩ := S1
    go_wp2
    obtain ⟨x1, ⟨x2, x3, _⟩, x4⟩ := FN.out
    exact bodyPost_ret (v := .tuple #[.agg #[.slice a E.length c], .agg #[.int .i64 0, .int .i64 0], .int .i64 er]) (by simp [results, Try.results17, go_sem, x1, x2, x3]) rfl x4
  · by_cases hl : d.length ≤ 1016
    · have hiE : i < E.length := by simpa [hp_len] using hi
      obtain ⟨gd, hgd⟩ : ∃ g, getHD (hp E) (i : Int) (k : Int) = g := ⟨_, rfl⟩
      rw [he0, hgd] at C
      have hgp : gotP E[i].p k = some gd := by rw [hp_at hiE] at hg; rw [hg, hgd]
      have hk' : k < E[i].p.length := by rw [hp_at hiE] at hk; exact hk
      have hRp : RightP E[i].p := hr.pages _ (List.mem_map_of_mem (f := PgE.p) (List.getElem_mem hiE))
      have hge := (getE_of hRp hgp).1
      have hroom : roomH (hp E) (i : Int) (k : Int) d = roomB E[i].p (k : Int) d := by
        have hi' : i < (hp E).length := by rw [hp_len]; exact hiE
        unfold roomH
        rw [Int.toNat_natCast, List.getElem?_eq_getElem hi', hp_at hiE]
      obtain ⟨er2, her2⟩ : ∃ e, setE E[i].p (k : Int) d = e := ⟨_, rfl⟩
      have hli : ¬ (1016 : Int) < (d.length : Int) := by omega
      have hkb : (k : Int) ≤ 9223372036854775807 := hy
      have HALL := hid0 (And.intro hr (And.intro he0 (And.intro hroom (And.intro hge (And.intro her2 (And.intro hl hd))))))
      have hdm : d.length ≤ maxLen := le47 hd
      have C38 := hid0 (fun W (hb : Below w.heap.size w W) => her2 ▸ refSet_any E[i].a E[i].c E[i].p (k : Int) d W (((A.out.pages _ (List.getElem_mem hiE)).later hb).out) (A.out.pages _ (List.getElem_mem hiE)).cap (A.out.pages _ (List.getElem_mem hiE)).len (A.out.pages _ (List.getElem_mem hiE)).small hkb hdm)
      clear hgd hg hk hgp hRp hr hi hroom hge her2 hl he0 hdm
      obtain ⟨q0, f0⟩ := v0
      obtain ⟨i0, i1, fi⟩ := d0
      go_enter Try.func17, Try.ntmps17
      go_wp2_with fail
      refine C.mono ?_
      rintro e w1 ⟨rfl, hb⟩
      have V0 := (VarAt.mk q0 f0).later hb
      have R0 := r0.later hb
      have S0 := s0.later hb
      have D0 := (IdAt.mk i0 i1 fi).later hb
      have hB1 := below_through hb hB0.size hB0
      clear q0 f0 i0 i1 fi r0 s0 hB0 hb C
      have hne : E ≠ [] := by intro e; rw [e] at hiE; exact absurd hiE (by simp)
      obtain ⟨b, o, rfl, hcs⟩ := (A.out.later hB1).cells hne
      have p1 := hcs i hiE
      clear hcs hne
      have hii : (i : Int) < (E.length : Int) := by omega
      obtain ⟨q0, f0⟩ := V0
      obtain ⟨i0, i1, fi⟩ := D0
      go_wp2_with fail
      go_cut [12, 13] from 14 (fun ev tv wr => ∃ (T : Nat) (a2 : Option Addr) (c2 : Nat) (Q : Pg), tv = .pointer (some ⟨T, 0, none⟩) ∧ ev = .int .i64 er2 ∧ Q.length ≤ c2 ∧ Hid (Q = setP E[i].p (k : Int) d) ∧ Below w1.heap.size w1 wr ∧ SlotsAt wr a2 Q ∧ wr.cell? ⟨T, 0, none⟩ = some (.slice a2 Q.length c2) ∧ w1.heap.size ≤ T ∧ Away w1 E[i].a E[i].p a2 Q)
      case first =>
        go_region_held3 (fun w' => w'.cell? ⟨w.heap.size, 0, none⟩ = some (.slice (some ⟨b, o, none⟩) E.length c) ∧ w'.cell? ⟨w.heap.size + 1, 0, none⟩ = some (.int .i64 (i : Int)) ∧ w'.cell? ⟨w.heap.size + 1, 1, none⟩ = some (.int .i64 (k : Int)) ∧ w'.cell? ⟨b, o + i, none⟩ = some (.slice E[i].a E[i].p.length E[i].c) ∧ Below w.heap.size w w')
          ((go_split_ands; (try dsimp only); (repeat' apply And.intro); all_goals (first
            | assumption
            | exact cell_later hbn ‹_›
            | exact Below.drew hB1
            | exact below_through hbn (Below.size (by assumption)) (by assumption)
            | exact cell_alloc_keep ‹_›
            | exact cell_alloc_keep (cell_later hbn q0)
            | exact cell_alloc_keep (cell_later hbn i0)
            | exact cell_alloc_keep (cell_later hbn i1)
            | exact cell_alloc_keep (cell_later hbn p1)
            | exact Below.alloc (below_through hbn (Below.drew hB1).size (Below.drew hB1)) (Below.size (below_through hbn (Below.drew hB1).size (Below.drew hB1))) _
            | exact Below.alloc (by assumption) (Below.size (by assumption)) _
            | exact store_new_keep q0 (by first | (simp; done) | (have := hbn.size; simp at this ⊢; omega)) ‹_›
            | exact store_new_keep i0 (by first | (simp; done) | (have := hbn.size; simp at this ⊢; omega)) ‹_›
            | exact store_new_keep i1 (by first | (simp; done) | (have := hbn.size; simp at this ⊢; omega)) ‹_›
            | exact store_new_keep p1 (by first | (simp; done) | (have := hbn.size; simp at this ⊢; omega)) ‹_›
            | exact Below.setCell (by assumption) (by first | (have := hB1.size; simp; omega) | (have := hB1.size; have := hbn.size; simp at this ⊢; omega)) _
            | go_keep)))
          (first
            | (go_at_call 39; (try go_split_ands); refine (C38.out _ (by assumption)).mono ?_; rintro e wn ⟨⟨a2, c2, Q, rfl, hc2, hq2, hqe, hAw⟩, hbn⟩; have HQE := hid0 hqe; clear hqe; try (have tv : VarAt wn w1.heap.size (.slice none 0 0) := VarAt.later (VarAt.new w1.drew (.slice none 0 0) 62) hbn; obtain ⟨tc, tf⟩ := tv)))
        all_goals (first
          | (have PV := ((VarAt.mk tc tf).set (.slice a2 Q.length c2)).cell
             have hW0 : Below w1.heap.size w1 (w1.drew.alloc (Obj.cells #[.slice none 0 0] 62)) := (Below.drew (Below.refl _ _)).alloc (Nat.le_refl _) _
             have hBf := (below_through hbn hW0.size hW0).setCell (p := ⟨w1.heap.size, 0, none⟩) (Nat.le_refl _) (.slice a2 Q.length c2)
             have hP0 := (A.out.pages _ (List.getElem_mem hiE)).later hB1
             have hqf := hq2.setCell w1.heap.size 0 (.slice a2 Q.length c2) (far_away hAw (far_old hP0.out (Nat.le_refl _)) (by simp))
             have hAf : Away w1 E[i].a E[i].p a2 Q := away_less hAw (by simp)
             go_wp2_with fail
             go_meet
             case rel => exact ⟨w1.heap.size, a2, c2, Q, rfl, rfl, hc2, HQE, hBf, hqf, PV, Nat.le_refl _, hAf⟩)
          | (have PV := (VarAt.new wn (.slice a2 Q.length c2) 62).cell
             have hW0 : Below w1.heap.size w1 wn := below_through hbn (Nat.le_refl _) (Below.drew (Below.refl _ _))
             have hBf := hW0.alloc hW0.size (Obj.cells #[.slice a2 Q.length c2] 62)
             have hqf := hq2.later ((Below.refl _ _).alloc (Nat.le_refl _) (Obj.cells #[.slice a2 Q.length c2] 62))
             have hAf : Away w1 E[i].a E[i].p a2 Q := away_less hAw (Nat.le_refl _)
             go_wp2_with fail
             go_meet
             case rel => exact ⟨wn.heap.size, a2, c2, Q, rfl, rfl, hc2, HQE, hBf, hqf, PV, hW0.size, hAf⟩))
      case rest =>
        obtain ⟨T, a2, c2, Q, rfl, rfl, hc2, HQE, hBf, hqf, PV, hTl, hAf⟩ := hcut
        generalize wc = Wf at hBf hqf PV ⊢
        have V1 := (VarAt.mk q0 f0).later hBf
        have D1 := (IdAt.mk i0 i1 fi).later hBf
        have R1 := R0.later hBf
        have S1 := S0.later hBf
        have hlR := S0.lt
        have hBw := hB1.trans (hBf.mono hB1.size)
        have hszf := hBf.size
        have hsz1 := hB1.size
        have hTW : T < Wf.heap.size := World.block_lt_of_cell? _ _ PV
        have hPE := A.out.pages _ (List.getElem_mem hiE)
        have hfine := set_fine (p := E[i].p) ⟨hPE.len, hPE.small⟩ (k : Int) d
        have hQ : PgAt Wf a2 c2 Q := ⟨hqf, hc2, by rw [HQE.out]; exact hfine.1, by rw [HQE.out]; exact hfine.2⟩
        have F0 : ∀ B, w.heap.size ≤ B → B < w1.heap.size → Far a2 Q B := fun B h1 h2 => far_away hAf (far_old hPE.out h1) h2
        have FG : ∀ B, Wf.heap.size ≤ B → Far a2 Q B := fun B h1 => far_old hqf h1
        have HAW := hid0 hAf
        clear R0 S0 hB1 hBf hqf hAf hfine hPE q0 f0 i0 i1 fi C38 p1 hc2
        obtain ⟨hr, he0, hroom, hge, her2, hl, hd⟩ := HALL.out
        cases hrb : roomB E[i].p (k : Int) d with
        | true =>
          -- there is room: it is set where it is
          obtain ⟨s1, s2⟩ := set_done hge hrb
          rw [s2] at her2
          obtain rfl : er2 = 0 := her2.symm
          have HIN := hid0 (setH_in most he0 hl (hroom.trans hrb))
          have HS1 := hid0 s1
          have C30 := refHWith_any (some ⟨b, o, none⟩) c E Wf (A.out.later hBw).cellsH A.out.len
          clear hr he0 hroom hge her2 hl hrb s1 s2 fin
          obtain ⟨q0, f0⟩ := V1
          obtain ⟨i0, i1, fi⟩ := D1
          go_wp2_with fail
          refine C30.mono ?_
          rintro e w4 ⟨⟨v, rfl, hown⟩, hb⟩
          obtain ⟨g, c4, rfl, hg, hcap4, hf4, hc4⟩ := hown.form (by omega)
          have hgi := hc4 i hiE
          have V4 := (VarAt.mk q0 f0).later hb
          have D4 := (IdAt.mk i0 i1 fi).later hb
          have R4 := R1.later hb
          have S4 := S1.later hb
          have PV4 := cell_later hb PV
          have hQ4 := hQ.later hb
          have hB4 := below_through hb hBw.size hBw
          have g0 : g ≠ w.heap.size := by omega
          have g1 : g ≠ w.heap.size + 1 := by omega
          have g2 : g ≠ w.heap.size + 1 + 1 := by omega
          have g3 : g ≠ w.heap.size + 1 + 1 + 1 := by omega
          have gT : w.heap.size ≠ T := by omega
          have HO9 := ((hown.setCell (a := ⟨w.heap.size, 0, none⟩) (by show w.heap.size < Wf.heap.size; omega) (.slice (some ⟨g, 0, none⟩) E.length c4)).write i ⟨a2, c2, Q⟩)
          have V9 := (V4.set (.slice (some ⟨g, 0, none⟩) E.length c4)).other ⟨g, i, none⟩ (.slice a2 Q.length c2) g0
          have D9 := (D4.other ⟨w.heap.size, 0, none⟩ (.slice (some ⟨g, 0, none⟩) E.length c4) (by show w.heap.size ≠ w.heap.size + 1; omega)).other ⟨g, i, none⟩ (.slice a2 Q.length c2) g1
          have R9 := (R4.other ⟨w.heap.size, 0, none⟩ (.slice (some ⟨g, 0, none⟩) E.length c4) (by show w.heap.size ≠ w.heap.size + 1 + 1; omega)).other ⟨g, i, none⟩ (.slice a2 Q.length c2) g2
          have S9 := (S4.other ⟨w.heap.size, 0, none⟩ (.slice (some ⟨g, 0, none⟩) E.length c4) (by show w.heap.size ≠ w.heap.size + 1 + 1 + 1; omega)).other ⟨g, i, none⟩ (.slice a2 Q.length c2) g3
          have Q9 := (hQ4.setCell w.heap.size 0 (.slice (some ⟨g, 0, none⟩) E.length c4) (F0 _ (Nat.le_refl _) (by omega))).setCell g i (.slice a2 Q.length c2) (FG _ hg)
          have B9 := (hB4.setCell (p := ⟨w.heap.size, 0, none⟩) (Nat.le_refl _) (.slice (some ⟨g, 0, none⟩) E.length c4)).setCell (p := ⟨g, i, none⟩) (by show w.heap.size ≤ g; omega) (.slice a2 Q.length c2)
          have haw := mem_set_away (w := w) (E := E) (i := i) (e := ⟨a2, c2, Q⟩) (by
            rcases HAW.out with ⟨e1, e2⟩ | h
            · exact .inl ⟨E[i], List.getElem_mem hiE, e1, e2⟩
            · exact .inr (fun b off e => by have := h b off e; omega))
          have hfar : ∀ B, w.heap.size ≤ B → B < w1.heap.size → HFar (some ⟨g, 0, none⟩) (E.set i ⟨a2, c2, Q⟩) B := fun B h1 h2 => by
            refine ⟨fun _ b' o' e => ?_, fun e he => ?_⟩
            · obtain ⟨rfl, -⟩ : g = b' ∧ 0 = o' := by simpa using e
              omega
            · rcases List.mem_or_eq_of_mem_set he with he | rfl
              · exact far_old (A.out.pages e he).out h1
              · exact F0 B h1 h2
          have HA9 : HpAt _ (some ⟨g, 0, none⟩) c4 (E.set i ⟨a2, c2, Q⟩) := ⟨HO9.slots, fun e he => by
            rcases List.mem_or_eq_of_mem_set he with he | rfl
            · exact (A.out.pages e he).later B9
            · exact Q9, by rw [List.length_set]; exact hcap4, by rw [List.length_set]; exact A.out.len⟩
          have HF := hid0 (idans_fin_drew (a := some ⟨b, o, none⟩) R9 S9 (by omega) B9 HA9 (hfar _ (by omega) (by omega)) (hfar _ (by omega) (by omega)) rfl ⟨.inr (fun b' o' e => by
            obtain ⟨rfl, -⟩ : g = b' ∧ 0 = o' := by simpa using e
            omega), haw⟩ (i : Int) (k : Int) 0)
          rw [List.length_set] at HF
          have H9 := hid0 (And.intro V9 (And.intro D9 (And.intro R9 S9)))
          clear hQ hQ4 hBw hB4 hown hb q0 f0 i0 i1 fi R1 R4 S1 S4 PV hc4 HO9 V9 D9 R9 S9 Q9 B9 haw hfar HA9 F0 FG
          obtain ⟨q0, f0⟩ := V4
          obtain ⟨i0, i1, fi⟩ := D4
          go_wp2_with fail
          obtain ⟨V9, D9, R9, S9⟩ := H9.out
          clear H9 hgi hf4 q0 f0 i0 i1 fi PV4
          generalize (w4.setCell ⟨w.heap.size, 0, none⟩ (.slice (some ⟨g, 0, none⟩) E.length c4)).setCell ⟨g, i, none⟩ (.slice a2 Q.length c2) = W9 at V9 D9 R9 S9 HF ⊢
          have q6 := V9.cell
          have j0 := D9.c0
          have j1 := D9.c1
          have n2 : w.heap.size + 1 + 1 ≠ w.heap.size := by omega
          have n3 : w.heap.size + 1 + 1 + 1 ≠ w.heap.size := by omega
          have n4 : w.heap.size + 1 + 1 ≠ w.heap.size + 1 := by omega
          have n5 : w.heap.size + 1 + 1 + 1 ≠ w.heap.size + 1 := by omega
          have hd0 : W9.drew.cell? ⟨w.heap.size + 1 + 1, 0, none⟩ = some (.slice none 0 0) := R9.cell
          have hd1 : W9.drew.frozen? ⟨w.heap.size + 1 + 1, 0, none⟩ = false := R9.frz
          have D2 := S9.drew.other ⟨w.heap.size + 1 + 1, 0, none⟩ (.slice (some ⟨g, 0, none⟩) E.length c4) (by show w.heap.size + 1 + 1 ≠ w.heap.size + 1 + 1 + 1; omega)
          obtain ⟨k0, k1, kf⟩ := D2
          obtain ⟨l0, l1, lf⟩ := S9.drew
          have lf0 := lf 0
          have lf1 := lf 1
          have kf0 := kf 0
          have kf1 := kf 1
          obtain ⟨m0, m1, mf⟩ := S9
          have mf0 := mf 0
          have mf1 := mf 1
          obtain ⟨o0, o1⟩ := R9
          go_region_held3 (fun w' => w'.cell? ⟨w.heap.size, 0, none⟩ = some (.slice (some ⟨g, 0, none⟩) E.length c4) ∧ w'.cell? ⟨w.heap.size + 1, 0, none⟩ = some (.int .i64 (i : Int)) ∧ w'.cell? ⟨w.heap.size + 1, 1, none⟩ = some (.int .i64 (k : Int)))
            ((go_split_ands; (try dsimp only); (repeat' apply And.intro); all_goals (first
              | assumption
              | exact store_other_keep (by assumption) ‹_›
              | exact store_other_keep (by assumption) (store_other_keep (by assumption) ‹_›)
              | go_keep)))
            (fail)
          clear q6 j0 j1 hd0 hd1 k0 k1 kf l0 l1 lf lf0 lf1 kf0 kf1 m0 m1 mf mf0 mf1 o0 o1 V9 D9
          obtain ⟨x1, ⟨x2, x3, _⟩, x4⟩ := HF.out
          go_wp2_with fail
          refine bodyPost_ret (v := .tuple #[.agg #[.slice (some ⟨g, 0, none⟩) E.length c4], .agg #[.int .i64 (i : Int), .int .i64 (k : Int)], .int .i64 0]) (by simp [results, Try.results17, go_sem, x1, x2, x3]) rfl ?_
          obtain ⟨e1, e2, e3, e4⟩ := HIN.out
          rw [e1, e2, e3, e4]
          have hin : inH (hp E) (i : Int) (k : Int) d = hp (E.set i ⟨a2, c2, Q⟩) := by
            have hi' : i < (hp E).length := by rw [hp_len]; exact hiE
            unfold inH
            rw [Int.toNat_natCast, Int.toNat_natCast, List.getElem?_eq_getElem hi', hp_at hiE, hp_set, HQE.out, HS1.out, Int.toNat_natCast]
          rw [hin]
          exact x4
        | false =>
          -- there is none: it is cut and put anew
          obtain ⟨s1, s2⟩ := set_full hge hrb
          rw [s2] at her2
          obtain rfl : er2 = 17 := her2.symm
          have hrf := hroom.trans hrb
          have hcl : cutHP (hp E) (i : Int) (k : Int) = leftH (hp E) (i : Int) (k : Int) := by unfold cutHP leftH; rw [if_pos he0]
          have C15 := refHCut_any (some ⟨b, o, none⟩) c E (i : Int) (k : Int) Wf (A.out.later hBw) hx hy
          rw [hcl, he0] at C15
          unfold HAns at C15
          have hrl := (rightH_iff _).2 (leftH_right he0)
          obtain ⟨LH, hLH⟩ : ∃ L, leftH (hp E) (i : Int) (k : Int) = L := ⟨_, rfl⟩
          rw [hLH] at C15 hrl
          have HS := hid0 (And.intro he0 (And.intro hl (And.intro hrf (And.intro hLH hrl))))
          have HD := hid0 hd
          clear hr he0 hroom hge her2 hl hd hrb s1 s2 hrf hcl hLH hrl F0 FG hQ
          obtain ⟨q0, f0⟩ := V1
          obtain ⟨i0, i1, fi⟩ := D1
          go_wp2_with fail
          refine C15.mono ?_
          rintro e w5 ⟨⟨a5, c5, E5, rfl, hA5, hh5, haw5⟩, hb5⟩
          have V5 := ((VarAt.mk q0 f0).later hb5).alloc (Obj.cells #[.slice a5 E5.length c5] 24)
          have R5 := (R1.later hb5).alloc (Obj.cells #[.slice a5 E5.length c5] 24)
          have S5 := (S1.later hb5).alloc (Obj.cells #[.slice a5 E5.length c5] 24)
          have L5 := VarAt.new w5 (.slice a5 E5.length c5) 24
          have hz5 := hb5.size
          have hB5 := (below_through hb5 hBw.size hBw).alloc (by omega) (Obj.cells #[.slice a5 E5.length c5] 24)
          have C9 := refHPut_any a5 c5 E5 d most _ (hA5.alloc (Obj.cells #[.slice a5 E5.length c5] 24)) HD.out
          unfold HIdAns at C9
          rw [hh5] at C9
          have HA5 := hid0 hA5
          have HW5 := hid0 haw5
          clear hh5 hA5 haw5 C15 hb5 R1 S1 hBw q0 f0 i0 i1 fi
          obtain ⟨q0, f0⟩ := V5
          obtain ⟨l0, g0⟩ := L5
          go_wp2_with fail
          cases hcan : canH LH d most with
          | true =>
            obtain ⟨he0, hl, hrf, hLH, hrl⟩ := HS.out
            obtain ⟨e1, e2, e3, e4⟩ := putHE_done hrl hl hcan
            rw [e1, e2, e3, e4] at C9
            have HM := hid0 (setH_moved he0 hl hrf (by rw [hLH]; exact hcan))
            have HLH := hid0 hLH
            clear e1 e2 e3 e4 hcan he0 hl hrf hLH hrl fin
            obtain ⟨X, hX⟩ : ∃ X, fitH (d.length : Int) LH = X := ⟨_, rfl⟩
            obtain ⟨Y, hY⟩ : ∃ Y, slotH LH d = Y := ⟨_, rfl⟩
            rw [hX, hY] at C9
            have HXY := hid0 (And.intro hX hY)
            clear hX hY
            refine C9.mono ?_
            rintro e w7 ⟨⟨a7, c7, E7, rfl, hA7, hh7, haw7⟩, hb7⟩
            have hz7 := hb7.size
            rw [World.size_alloc] at hz7
            have V7 := ((VarAt.mk q0 f0).later hb7).alloc (Obj.cells #[.int .i64 0, .int .i64 0] 26)
            have R7 := (R5.later hb7).alloc (Obj.cells #[.int .i64 0, .int .i64 0] 26)
            have S7 := (S5.later hb7).alloc (Obj.cells #[.int .i64 0, .int .i64 0] 26)
            have L7 := ((VarAt.mk l0 g0).later hb7).alloc (Obj.cells #[.int .i64 0, .int .i64 0] 26)
            have Y7 := (IdAt.new w7 0 0 26).other ⟨w5.heap.size, 0, none⟩ (.slice a7 E7.length c7) (by show w5.heap.size ≠ w7.heap.size; omega)
            have hB7 := (below_through hb7 hB5.size hB5).alloc (by have := hB5.size; simp at this; omega) (Obj.cells #[.int .i64 0, .int .i64 0] 26)
            have hfL : HFar a7 E7 w5.heap.size := hfar_away haw7 (hfar_old HA5.out (Nat.le_refl _)) (by simp)
            have hf7 : ∀ B, w.heap.size ≤ B → B < Wf.heap.size → HFar a7 E7 B := fun B h1 h2 => hfar_away haw7 (hfar_away HW5.out (hfar_old A.out h1) h2) (by simp; omega)
            have haw : AwayH w (some ⟨b, o, none⟩) E a7 E7 := (HW5.out.less (by omega)).trans haw7 (by simp; omega)
            have hfY : HFar a7 E7 w7.heap.size := hfar_old hA7 (Nat.le_refl _)
            have HA8 := (((hA7.alloc (Obj.cells #[.int .i64 0, .int .i64 0] 26)).setCell w5.heap.size 0 (.slice a7 E7.length c7) hfL).setCell w7.heap.size 0 (.int .i64 (X : Int)) hfY).setCell w7.heap.size 1 (.int .i64 (Y : Int)) hfY
            have V8 := ((V7.other ⟨w5.heap.size, 0, none⟩ (.slice a7 E7.length c7) (by show w5.heap.size ≠ w.heap.size; omega)).other ⟨w7.heap.size, 0, none⟩ (.int .i64 (X : Int)) (by show w7.heap.size ≠ w.heap.size; omega)).other ⟨w7.heap.size, 1, none⟩ (.int .i64 (Y : Int)) (by show w7.heap.size ≠ w.heap.size; omega)
            have R8 := ((R7.other ⟨w5.heap.size, 0, none⟩ (.slice a7 E7.length c7) (by show w5.heap.size ≠ w.heap.size + 1 + 1; omega)).other ⟨w7.heap.size, 0, none⟩ (.int .i64 (X : Int)) (by show w7.heap.size ≠ w.heap.size + 1 + 1; omega)).other ⟨w7.heap.size, 1, none⟩ (.int .i64 (Y : Int)) (by show w7.heap.size ≠ w.heap.size + 1 + 1; omega)
            have S8 := ((S7.other ⟨w5.heap.size, 0, none⟩ (.slice a7 E7.length c7) (by show w5.heap.size ≠ w.heap.size + 1 + 1 + 1; omega)).other ⟨w7.heap.size, 0, none⟩ (.int .i64 (X : Int)) (by show w7.heap.size ≠ w.heap.size + 1 + 1 + 1; omega)).other ⟨w7.heap.size, 1, none⟩ (.int .i64 (Y : Int)) (by show w7.heap.size ≠ w.heap.size + 1 + 1 + 1; omega)
            have L8 := ((L7.set (.slice a7 E7.length c7)).other ⟨w7.heap.size, 0, none⟩ (.int .i64 (X : Int)) (by show w7.heap.size ≠ w5.heap.size; omega)).other ⟨w7.heap.size, 1, none⟩ (.int .i64 (Y : Int)) (by show w7.heap.size ≠ w5.heap.size; omega)
            have Y8 := Y7.set (X : Int) (Y : Int)
            have hB8 := ((hB7.setCell (p := ⟨w5.heap.size, 0, none⟩) (by show w.heap.size ≤ w5.heap.size; omega) (.slice a7 E7.length c7)).setCell (p := ⟨w7.heap.size, 0, none⟩) (by show w.heap.size ≤ w7.heap.size; omega) (.int .i64 (X : Int))).setCell (p := ⟨w7.heap.size, 1, none⟩) (by show w.heap.size ≤ w7.heap.size; omega) (.int .i64 (Y : Int))
            have HF := hid0 (idans_fin_drew (a := some ⟨b, o, none⟩) R8 S8 (by omega) hB8 HA8 (hf7 _ (by omega) (by omega)) (hf7 _ (by omega) (by omega)) hh7 haw (X : Int) (Y : Int) 0)
            have n2 : w.heap.size + 1 + 1 ≠ w5.heap.size := by omega
            have n3 : w.heap.size + 1 + 1 + 1 ≠ w5.heap.size := by omega
            have n4 : w.heap.size + 1 + 1 ≠ w7.heap.size := by omega
            have n5 : w.heap.size + 1 + 1 + 1 ≠ w7.heap.size := by omega
            have n6 : w5.heap.size ≠ w7.heap.size := by omega
            clear q0 f0 l0 g0 hA7 hh7 haw7 hb7 V7 R7 S7 hB7 hfL hf7 hfY haw HA8 hB8 C9 R5 S5 hB5
            obtain ⟨l7, g7⟩ := L7
            obtain ⟨y0, y1, yf⟩ := Y7
            have yf0 := yf 0
            have yf1 := yf 1
            go_wp2_with fail
            clear l7 g7 y0 y1 yf yf0 yf1 V8
            generalize (((w7.alloc (Obj.cells #[.int .i64 0, .int .i64 0] 26)).setCell ⟨w5.heap.size, 0, none⟩ (.slice a7 E7.length c7)).setCell ⟨w7.heap.size, 0, none⟩ (.int .i64 (X : Int))).setCell ⟨w7.heap.size, 1, none⟩ (.int .i64 (Y : Int)) = W8 at R8 S8 L8 Y8 HF ⊢
            have q6 := L8.cell
            have j0 := Y8.c0
            have j1 := Y8.c1
            have hd0 : W8.drew.cell? ⟨w.heap.size + 1 + 1, 0, none⟩ = some (.slice none 0 0) := R8.cell
            have hd1 : W8.drew.frozen? ⟨w.heap.size + 1 + 1, 0, none⟩ = false := R8.frz
            have D2 := S8.drew.other ⟨w.heap.size + 1 + 1, 0, none⟩ (.slice a7 E7.length c7) (by show w.heap.size + 1 + 1 ≠ w.heap.size + 1 + 1 + 1; omega)
            obtain ⟨k0, k1, kf⟩ := D2
            obtain ⟨l0, l1, lf⟩ := S8.drew
            have lf0 := lf 0
            have lf1 := lf 1
            have kf0 := kf 0
            have kf1 := kf 1
            obtain ⟨m0, m1, mf⟩ := S8
            have mf0 := mf 0
            have mf1 := mf 1
            obtain ⟨o0, o1⟩ := R8
            go_region_held3 (fun w' => w'.cell? ⟨w5.heap.size, 0, none⟩ = some (.slice a7 E7.length c7) ∧ w'.cell? ⟨w7.heap.size, 0, none⟩ = some (.int .i64 (X : Int)) ∧ w'.cell? ⟨w7.heap.size, 1, none⟩ = some (.int .i64 (Y : Int)))
              ((go_split_ands; (try dsimp only); (repeat' apply And.intro); all_goals (first
                | assumption
                | exact store_other_keep (by assumption) ‹_›
                | exact store_other_keep (by assumption) (store_other_keep (by assumption) ‹_›)
                | go_keep)))
              (fail)
            clear q6 j0 j1 hd0 hd1 k0 k1 kf l0 l1 lf lf0 lf1 kf0 kf1 m0 m1 mf mf0 mf1 o0 o1 L8 Y8
            obtain ⟨x1, ⟨x2, x3, _⟩, x4⟩ := HF.out
            go_wp2_with fail
            refine bodyPost_ret (v := .tuple #[.agg #[.slice a7 E7.length c7], .agg #[.int .i64 (X : Int), .int .i64 (Y : Int)], .int .i64 0]) (by simp [results, Try.results17, go_sem, x1, x2, x3]) rfl ?_
            obtain ⟨e1, e2, e3, e4⟩ := HM.out
            rw [e1, e2, e3, e4, HLH.out, HXY.out.1, HXY.out.2]
            exact x4
          | false =>
            obtain ⟨he0, hl, hrf, hLH, hrl⟩ := HS.out
            obtain ⟨e1, e2, e3, e4⟩ := putHE_full hrl hl hcan
            rw [e1, e2, e3, e4] at C9
            have HM := hid0 (setH_full he0 hl hrf (by rw [hLH]; exact hcan))
            clear e1 e2 e3 e4 hcan he0 hl hrf hLH hrl
            rw [show ((0 : Nat) : Int) = 0 from rfl] at C9
            refine C9.mono ?_
            rintro e w7 ⟨⟨a7, c7, E7, rfl, _, _, _⟩, hb7⟩
            have hz7 := hb7.size
            rw [World.size_alloc] at hz7
            have V7 := ((VarAt.mk q0 f0).later hb7).alloc (Obj.cells #[.int .i64 0, .int .i64 0] 26)
            have R7 := (R5.later hb7).alloc (Obj.cells #[.int .i64 0, .int .i64 0] 26)
            have S7 := (S5.later hb7).alloc (Obj.cells #[.int .i64 0, .int .i64 0] 26)
            have L7 := ((VarAt.mk l0 g0).later hb7).alloc (Obj.cells #[.int .i64 0, .int .i64 0] 26)
            have hB7 := (below_through hb7 hB5.size hB5).alloc (by have := hB5.size; simp at this; omega) (Obj.cells #[.int .i64 0, .int .i64 0] 26)
            have V8 := ((V7.other ⟨w5.heap.size, 0, none⟩ (.slice a7 E7.length c7) (by show w5.heap.size ≠ w.heap.size; omega)).other ⟨w7.heap.size, 0, none⟩ (.int .i64 0) (by show w7.heap.size ≠ w.heap.size; omega)).other ⟨w7.heap.size, 1, none⟩ (.int .i64 0) (by show w7.heap.size ≠ w.heap.size; omega)
            have R8 := ((R7.other ⟨w5.heap.size, 0, none⟩ (.slice a7 E7.length c7) (by show w5.heap.size ≠ w.heap.size + 1 + 1; omega)).other ⟨w7.heap.size, 0, none⟩ (.int .i64 0) (by show w7.heap.size ≠ w.heap.size + 1 + 1; omega)).other ⟨w7.heap.size, 1, none⟩ (.int .i64 0) (by show w7.heap.size ≠ w.heap.size + 1 + 1; omega)
            have S8 := ((S7.other ⟨w5.heap.size, 0, none⟩ (.slice a7 E7.length c7) (by show w5.heap.size ≠ w.heap.size + 1 + 1 + 1; omega)).other ⟨w7.heap.size, 0, none⟩ (.int .i64 0) (by show w7.heap.size ≠ w.heap.size + 1 + 1 + 1; omega)).other ⟨w7.heap.size, 1, none⟩ (.int .i64 0) (by show w7.heap.size ≠ w.heap.size + 1 + 1 + 1; omega)
            have hB8 := ((hB7.setCell (p := ⟨w5.heap.size, 0, none⟩) (by show w.heap.size ≤ w5.heap.size; omega) (.slice a7 E7.length c7)).setCell (p := ⟨w7.heap.size, 0, none⟩) (by show w.heap.size ≤ w7.heap.size; omega) (.int .i64 0)).setCell (p := ⟨w7.heap.size, 1, none⟩) (by show w.heap.size ≤ w7.heap.size; omega) (.int .i64 0)
            have Y7 := (IdAt.new w7 0 0 26).other ⟨w5.heap.size, 0, none⟩ (.slice a7 E7.length c7) (by show w5.heap.size ≠ w7.heap.size; omega)
            have FN := fin _ 17 R8 S8 hB8
            clear q0 f0 l0 g0 hb7 V7 R7 S7 hB7 hB8 C9 R5 S5 hB5
            obtain ⟨l7, g7⟩ := L7
            obtain ⟨y0, y1, yf⟩ := Y7
            have yf0 := yf 0
            have yf1 := yf 1
            go_upto_if 73 with (fail)
            clear l7 g7 y0 y1 yf yf0 yf1
            generalize (((w7.alloc (Obj.cells #[.int .i64 0, .int .i64 0] 26)).setCell ⟨w5.heap.size, 0, none⟩ (.slice a7 E7.length c7)).setCell ⟨w7.heap.size, 0, none⟩ (.int .i64 0)).setCell ⟨w7.heap.size, 1, none⟩ (.int .i64 0) = W8 at V8 R8 S8 FN ⊢
            obtain ⟨q8, f8⟩ := V8
            obtain ⟨m1, n1⟩ := R8
            obtain ⟨s1, s2, s3⟩ := S8
            go_wp2
            obtain ⟨x1, ⟨x2, x3, _⟩, x4⟩ := FN.out
            exact bodyPost_ret (v := .tuple #[.agg #[.slice (some ⟨b, o, none⟩) E.length c], .agg #[.int .i64 0, .int .i64 0], .int .i64 17]) (by simp [results, Try.results17, go_sem, x1, x2, x3]) rfl (by obtain ⟨e1, e2, e3, e4⟩ := HM.out; rw [e1, e2, e3, e4]; exact x4)
    · have hli : (1016 : Int) < (d.length : Int) := by omega
      obtain ⟨e1, e2, e3, e4⟩ := setH_long most he0 hl
      rw [e1, e2, e3, e4]
      obtain ⟨gd, hgd⟩ : ∃ g, getHD (hp E) (i : Int) (k : Int) = g := ⟨_, rfl⟩
      rw [he0, hgd] at C
      clear e1 e2 e3 e4 hl hr hg hgd he0
      obtain ⟨q0, f0⟩ := v0
      obtain ⟨i0, i1, fi⟩ := d0
      go_enter Try.func17, Try.ntmps17
      go_wp2_with fail
      refine C.mono ?_
      rintro e w1 ⟨rfl, hb⟩
      obtain ⟨q1, f1⟩ := (VarAt.mk q0 f0).later hb
      have R1 := r0.later hb
      have S1 := s0.later hb
      have hB1 := below_through hb hB0.size hB0
      have FN := fin w1 3 R1 S1 hB1
      clear q0 f0 i0 i1 fi r0 s0
      obtain ⟨m1, n1⟩ := R1
      obtain ⟨s1, s2, s3⟩ := S1
      go_wp2
      obtain ⟨x1, ⟨x2, x3, _⟩, x4⟩ := FN.out
      exact bodyPost_ret (v := .tuple #[.agg #[.slice a E.length c], .agg #[.int .i64 0, .int .i64 0], .int .i64 3]) (by simp [results, Try.results17, go_sem, x1, x2, x3]) rfl x4
end Go.Proofs.Ytnneeojgakjalaa
