/- The reference of layer 5: setting, cutting: contracts of the calls, in whatever memory. Conditions: the slots' cells are known. -/
import Derived.Test.YtnneeojgakjalaaQg
namespace Go.Proofs.Ytnneeojgakjalaa
open Go.RowKit

theorem getE_cases (p : Pg) (i : Int) : (getE p i ≠ 0 ∧ getD p i = []) ∨ (rightB p = true ∧ ∃ k : Nat, i = k ∧ ∃ h : k < p.length, p[k] = (true, getD p i) ∧ getE p i = 0) := by
  cases hr : rightB p with
  | false => left; unfold getE getD; rw [hr]; exact ⟨by simp, rfl⟩
  | true =>
    cases hg : gotP p i with
    | none => left; unfold getE getD; rw [hr, hg]; exact ⟨by simp, rfl⟩
    | some d =>
      right
      obtain ⟨h0, hl, he⟩ := gotP_some hg
      refine ⟨rfl, i.toNat, by omega, hl, ?_⟩
      unfold getE getD; rw [hr, hg]; exact ⟨he, rfl⟩
/-- Is there room for d in the place of the slot's bytes? -/
def roomB (p : Pg) (i : Int) (d : List UInt8) : Bool := decide (d.length ≤ 1024) && decide ((d.length : Int) - (getD p i).length ≤ 1024 - (sizeP p : Int))
def setP (p : Pg) (i : Int) (d : List UInt8) : Pg := if getE p i = 0 ∧ roomB p i d = true then p.set i.toNat (true, d) else p
def setE (p : Pg) (i : Int) (d : List UInt8) : Int := if getE p i = 0 then (if roomB p i d then 0 else 17) else getE p i
theorem set_not {p : Pg} {i : Int} (d : List UInt8) (h : getE p i ≠ 0) : setP p i d = p ∧ setE p i d = getE p i := by
  unfold setP setE
  exact ⟨if_neg (fun hh => h hh.1), if_neg h⟩
theorem set_full {p : Pg} {i : Int} {d : List UInt8} (h : getE p i = 0) (hr : roomB p i d = false) : setP p i d = p ∧ setE p i d = 17 := by
  unfold setP setE
  rw [hr]; simp [h]
theorem set_done {p : Pg} {i : Int} {d : List UInt8} (h : getE p i = 0) (hr : roomB p i d = true) : setP p i d = p.set i.toNat (true, d) ∧ setE p i d = 0 := by
  unfold setP setE
  rw [hr]; simp [h]
/-- What Set, and Cut, must answer. -/
def PgAns (w : World) (a : Option Addr) (p q : Pg) (er : Int) (e : Ending) (w' : World) : Prop :=
  (∃ a' c q', e = .returned (.tuple #[.agg #[.slice a' q'.length c], .int .i64 er]) ∧ q'.length ≤ c ∧ SlotsAt w' a' q' ∧ q' = q ∧ Away w a p a' q') ∧ Below w.heap.size w w'
theorem set_same_used {p : Pg} {k : Nat} (h : k < p.length) {g : List UInt8} (hu : p[k] = (true, g)) (w : World) (base gb c : Nat) (d : List UInt8) (ho : OwnS w base (.slice (some ⟨gb, 0, none⟩) p.length c) p) :
    OwnS (w.setCell ⟨gb, k * 2 + 1, none⟩ (.string (txt d))) base (.slice (some ⟨gb, 0, none⟩) (p.set k (true, d)).length c) (p.set k (true, d)) := by
  have h2 := (World.ownsRow.stored ho.out (k * 2 + 1) (.string (txt d))).1
  refine ⟨?_⟩
  have e : (slotCells p).set (k * 2) (.bool true) = slotCells p := by
    have h1 := (slotCells_at p k h).1
    rw [hu] at h1
    obtain ⟨hl, h1⟩ := List.getElem?_eq_some_iff.1 h1
    rw [← h1, List.set_getElem_self]
  rw [slotCells_set, List.length_set, e]
  exact h2

set_option maxHeartbeats 4000000 in
theorem refSet_any (a : Option Addr) (c : Nat) (p : Pg) (i : Int) (d : List UInt8) (w : World) (h : SlotsAt w a p) (hc : p.length ≤ c) (hl : p.length * 24 ≤ 140737488351232) (hs : slotsIn p) (hi : i ≤ 9223372036854775807) (hd : d.length ≤ maxLen) :
    Calls Try.prog 39 #[.agg #[.slice a p.length c], .int .i64 i, .string (txt d)] w (PgAns w a p (setP p i d) (setE p i d)) := by
  have A := hid0 h
  have HS := hid0 hs
  unfold maxLen at hd
  have hlm : p.length ≤ maxLen := by unfold maxLen; omega
  have C14 := fun W (hb : Below w.heap.size w W) => refGet_any a c p i W (A.out.later hb) hlm HS.out hi
  have hB0 : Below w.heap.size w ((w.alloc (Obj.cells #[.slice a p.length c] 62)).alloc (Obj.cells #[.slice none 0 0] 62)) := ((Below.refl _ _).alloc (Nat.le_refl _) _).alloc (by simp) _
  have v0 := (VarAt.new w (.slice a p.length c) 62).alloc (Obj.cells #[.slice none 0 0] 62)
  have v1 := VarAt.new (w.alloc (Obj.cells #[.slice a p.length c] 62)) (.slice none 0 0) 62
  rw [World.size_alloc] at v1
  have hz : (txt d).size = d.length := txt_size d
  rcases getE_cases p i with ⟨hne, hgd⟩ | ⟨hr, k, rfl, hk, hpk, he0⟩
  · obtain ⟨e1, e2⟩ := set_not d hne
    rw [e1, e2]
    obtain ⟨er, her⟩ : ∃ er, getE p i = er := ⟨_, rfl⟩
    rw [her] at C14 hne ⊢
    clear e1 e2 h hs hgd her
    go_enter Try.func39, Try.ntmps39
    go_wp2_with (go_at_call 32; go_must (refine (C14 _ hB0).mono ?_; rintro e w1 ⟨rfl, hb⟩; obtain ⟨q0, f0⟩ := v0.later hb; obtain ⟨q1, f1⟩ := v1.later hb; have hB1 := below_through hb hB0.size hB0))
    have x1 := (VarAt.mk q1 f1).set (.slice a p.length c)
    have c0 := x1.cell
    have hB2 := hB1.setCell (p := ⟨w.heap.size + 1, 0, none⟩) (by show w.heap.size ≤ w.heap.size + 1; omega) (.slice a p.length c)
    exact bodyPost_ret (v := .tuple #[.agg #[.slice a p.length c], .int .i64 er]) (by simp [results, Try.results39, go_sem, c0]) rfl ⟨⟨a, c, p, rfl, hc, A.out.later hB2, rfl, .inl ⟨rfl, rfl⟩⟩, hB2⟩
  · obtain ⟨g, hgd⟩ : ∃ g, getD p (k : Int) = g := ⟨_, rfl⟩
    have hzg : (txt g).size = g.length := txt_size g
    obtain ⟨hw, hsz, hl256⟩ := right_sizeW hr
    have hgl : g.length ≤ 1024 := by
      have := (((rightB_iff p).1 hr).slots _ (List.getElem_mem hk)).2
      rw [hpk, hgd] at this; exact this
    have C22 := fun W (hb : Below w.heap.size w W) => refSize_any a c p W (A.out.later hb) hlm HS.out
    rw [hw] at C22
    obtain ⟨sz, hszz⟩ : ∃ sz, sizeP p = sz := ⟨_, rfl⟩
    have HRB : roomB p k d = (decide (d.length ≤ 1024) && decide ((d.length : Int) - g.length ≤ 1024 - (sz : Int))) := by unfold roomB; rw [hgd, hszz]
    rw [hszz] at C22 hsz
    rw [he0, hgd] at C14
    rw [hgd] at hpk
    by_cases hrm : roomB p k d = true
    · obtain ⟨e1, e2⟩ := set_done he0 hrm
      rw [e1, e2]
      rw [HRB, Bool.and_eq_true, decide_eq_true_eq, decide_eq_true_eq] at hrm
      obtain ⟨h1, h2⟩ := hrm
      have hd1 : ¬ (1024 : Int) < (d.length : Int) := by omega
      have hd2 : ¬ (1024 : Int) - (sz : Int) < (d.length : Int) - (g.length : Int) := by omega
      have hw1 : IntKind.i64.wrap ((d.length : Int) - (g.length : Int)) = (d.length : Int) - (g.length : Int) := IntWalk.i64_in _ (by omega)
      have hw2 : IntKind.i64.wrap ((1024 : Int) - (sz : Int)) = (1024 : Int) - (sz : Int) := IntWalk.i64_in _ (by omega)
      have C34 := fun W (hb : Below w.heap.size w W) => refWith_any a c p W (A.out.later hb) hl
      have HPK := hid0 hpk
      clear e1 e2 h hs hgd hpk hr hszz HRB he0 hw
      go_enter Try.func39, Try.ntmps39
      go_wp2_with (first
        | (go_at_call 32; go_must (refine (C14 _ hB0).mono ?_; rintro e w1 ⟨rfl, hb⟩; obtain ⟨q0, f0⟩ := v0.later hb; have y1 := v1.later hb; have hB1 := below_through hb hB0.size hB0; clear C14 v0 v1 hB0 hb))
        | (go_at_call 46; go_must (refine (C22 _ hB1).mono ?_; rintro e w2 ⟨rfl, hb2⟩; obtain ⟨r0, g0⟩ := (VarAt.mk q0 f0).later hb2; have y2 := y1.later hb2; have hB2 := below_through hb2 hB1.size hB1; clear C22 y1 hB1 hb2 q0 f0))
        | (go_at_call 52; go_must (refine (C34 _ hB2).mono ?_; rintro e w4 ⟨⟨v, rfl, hown⟩, hb4⟩; obtain ⟨m0, n0⟩ := (VarAt.mk r0 g0).later hb4; obtain ⟨m1, n1⟩ := y2.later hb4; have hB4 := below_through hb4 hB2.size hB2; have hz4 := hB2.size; have hlt3 := y2.lt; obtain ⟨g5, c5, rfl, hg5, hcap5, hf5, hc5⟩ := hown.form (by omega); have HO := hid0 hown; have hgne : g5 ≠ w.heap.size := (by omega); have hgne1 : g5 ≠ w.heap.size + 1 := (by omega); obtain ⟨hk0, hk1⟩ := hc5 k hk; clear C34 hB2 hb4 y2 r0 g0 hown hc5)))
      have hfin := (set_same_used hk HPK.out _ w2.heap.size g5 c5 d (HO.out.setCell (a := ⟨w.heap.size, 0, none⟩) (by show w.heap.size < w2.heap.size; omega) (.slice (some ⟨g5, 0, none⟩) p.length c5))).setCell (a := ⟨w.heap.size + 1, 0, none⟩) (by show w.heap.size + 1 < w2.heap.size; omega) (.slice (some ⟨g5, 0, none⟩) p.length c5)
      have hBf := ((hB4.setCell (p := ⟨w.heap.size, 0, none⟩) (Nat.le_refl _) (.slice (some ⟨g5, 0, none⟩) p.length c5)).setCell (p := ⟨g5, k * 2 + 1, none⟩) (by show w.heap.size ≤ g5; omega) (.string (txt d))).setCell (p := ⟨w.heap.size + 1, 0, none⟩) (by show w.heap.size ≤ w.heap.size + 1; omega) (.slice (some ⟨g5, 0, none⟩) p.length c5)
      have xr := (((VarAt.mk m1 n1).other ⟨w.heap.size, 0, none⟩ (.slice (some ⟨g5, 0, none⟩) p.length c5) (by show w.heap.size ≠ w.heap.size + 1; omega)).other ⟨g5, k * 2 + 1, none⟩ (.string (txt d)) hgne1).set (.slice (some ⟨g5, 0, none⟩) p.length c5)
      have c0 := xr.cell
      refine bodyPost_ret (v := .tuple #[.agg #[.slice (some ⟨g5, 0, none⟩) p.length c5], .int .i64 0]) (by simp [results, Try.results39, go_sem, c0]) rfl ⟨⟨some ⟨g5, 0, none⟩, c5, p.set k (true, d), ?_, ?_, ?_, by rw [Int.toNat_natCast], away_new (by omega)⟩, hBf⟩
      · rw [List.length_set]
      · rw [List.length_set]; exact hcap5
      · exact hfin.slots
    · have hrm' : roomB p k d = false := by simpa using hrm
      obtain ⟨e1, e2⟩ := set_full he0 hrm'
      rw [e1, e2]
      rw [HRB, Bool.and_eq_true, decide_eq_true_eq, decide_eq_true_eq] at hrm
      by_cases h1 : d.length ≤ 1024
      · have hd1 : ¬ (1024 : Int) < (d.length : Int) := by omega
        have hd2 : (1024 : Int) - (sz : Int) < (d.length : Int) - (g.length : Int) := by
          rcases Int.lt_or_le ((1024 : Int) - (sz : Int)) ((d.length : Int) - (g.length : Int)) with h | h
          · exact h
          · exact absurd ⟨h1, h⟩ hrm
        have hw1 : IntKind.i64.wrap ((d.length : Int) - (g.length : Int)) = (d.length : Int) - (g.length : Int) := IntWalk.i64_in _ (by omega)
        have hw2 : IntKind.i64.wrap ((1024 : Int) - (sz : Int)) = (1024 : Int) - (sz : Int) := IntWalk.i64_in _ (by omega)
        clear e1 e2 h hs hgd hpk hr hszz HRB he0 hw hrm hrm'
        go_enter Try.func39, Try.ntmps39
        go_wp2_with (first
          | (go_at_call 32; go_must (refine (C14 _ hB0).mono ?_; rintro e w1 ⟨rfl, hb⟩; obtain ⟨q0, f0⟩ := v0.later hb; have y1 := v1.later hb; have hB1 := below_through hb hB0.size hB0; clear C14 v0 v1 hB0 hb))
          | (go_at_call 46; go_must (refine (C22 _ hB1).mono ?_; rintro e w2 ⟨rfl, hb2⟩; obtain ⟨r0, g0⟩ := (VarAt.mk q0 f0).later hb2; obtain ⟨m1, n1⟩ := y1.later hb2; have hB2 := below_through hb2 hB1.size hB1; clear C22 y1 hB1 hb2 q0 f0)))
        have x1 := (VarAt.mk m1 n1).set (.slice a p.length c)
        have c0 := x1.cell
        have hB3 := hB2.setCell (p := ⟨w.heap.size + 1, 0, none⟩) (by show w.heap.size ≤ w.heap.size + 1; omega) (.slice a p.length c)
        exact bodyPost_ret (v := .tuple #[.agg #[.slice a p.length c], .int .i64 17]) (by simp [results, Try.results39, go_sem, c0]) rfl ⟨⟨a, c, p, rfl, hc, A.out.later hB3, rfl, .inl ⟨rfl, rfl⟩⟩, hB3⟩
      · have hd1 : (1024 : Int) < (d.length : Int) := by omega
        clear e1 e2 h hs hgd hpk hr hszz HRB he0 hw hrm hrm' C22
        go_enter Try.func39, Try.ntmps39
        go_wp2_with (go_at_call 32; go_must (refine (C14 _ hB0).mono ?_; rintro e w1 ⟨rfl, hb⟩; obtain ⟨q0, f0⟩ := v0.later hb; obtain ⟨m1, n1⟩ := v1.later hb; have hB1 := below_through hb hB0.size hB0; clear C14 v0 v1 hB0 hb))
        have x1 := (VarAt.mk m1 n1).set (.slice a p.length c)
        have c0 := x1.cell
        have hB3 := hB1.setCell (p := ⟨w.heap.size + 1, 0, none⟩) (by show w.heap.size ≤ w.heap.size + 1; omega) (.slice a p.length c)
        exact bodyPost_ret (v := .tuple #[.agg #[.slice a p.length c], .int .i64 17]) (by simp [results, Try.results39, go_sem, c0]) rfl ⟨⟨a, c, p, rfl, hc, A.out.later hB3, rfl, .inl ⟨rfl, rfl⟩⟩, hB3⟩

/-! ### Cutting -/
def cutP (p : Pg) (i : Int) : Pg := if getE p i = 0 then cutR p i.toNat else p
theorem trimP_le : ∀ p : Pg, (trimP p).length ≤ p.length
  | [] => Nat.le_refl _
  | s :: p => by
    have := trimP_le p
    unfold trimP
    split
    · split <;> simp
    · rename_i e
      rw [e] at this
      simp only [List.length_cons] at this ⊢; omega
theorem trimP_all : ∀ (q : Pg), (∀ s ∈ q, s.1 = false) → trimP q = []
  | [], _ => rfl
  | s :: q, h => by
    have e := trimP_all q (fun t ht => h t (by simp [ht]))
    have hs := h s (by simp)
    simp [trimP, e, hs]
theorem trimP_append : ∀ (p q : Pg), (∀ s ∈ q, s.1 = false) → lastUsed p = true → trimP (p ++ q) = p
  | [], q, h, _ => trimP_all q h
  | [s], q, h, hl => by
    have hs : s.1 = true := hl
    simp [trimP, trimP_all q h, hs]
  | s :: t :: p, q, h, hl => by
    have e := trimP_append (t :: p) q h hl
    rw [List.cons_append, trimP, e]
/-- n slots are left when all behind them aren't used, and the last of them is. -/
theorem trimP_at {p : Pg} {n : Nat} (h1 : ∀ i (h : i < p.length), n ≤ i → (p[i]).1 = false) (h2 : n = 0 ∨ ∃ h : n - 1 < p.length, 0 < n ∧ (p[n - 1]).1 = true) : trimP p = p.take n := by
  have e : p = p.take n ++ p.drop n := (List.take_append_drop n p).symm
  conv => lhs; rw [e]
  refine trimP_append _ _ (fun s hs => ?_) ?_
  · obtain ⟨j, hj, rfl⟩ := List.mem_iff_getElem.1 hs
    rw [List.getElem_drop]
    exact h1 _ _ (by omega)
  · rcases h2 with rfl | ⟨hl, h0, hu⟩
    · rfl
    · rw [lastUsed_at (by rw [List.length_take]; omega)]
      rw [List.getElem_take]
      have : (p.take n).length - 1 = n - 1 := by rw [List.length_take]; omega
      simp only [this]; exact hu
theorem OwnS.take {w : World} {a : Option Addr} {p : Pg} (h : SlotsAt w a p) (n : Nat) : SlotsAt w a (p.take n) := by
  intro hne
  have hp : p ≠ [] := fun e => hne (by rw [e]; simp)
  obtain ⟨b, off, e, hc⟩ := h hp
  refine ⟨b, off, e, fun i hi => ?_⟩
  rw [List.getElem_take]
  exact hc i (by rw [List.length_take] at hi; omega)

set_option maxHeartbeats 4000000 in
theorem refCut_any (a : Option Addr) (c : Nat) (p : Pg) (i : Int) (w : World) (h : SlotsAt w a p) (hc : p.length ≤ c) (hl : p.length * 24 ≤ 140737488351232) (hs : slotsIn p) (hi : i ≤ 9223372036854775807) :
    Calls Try.prog 36 #[.agg #[.slice a p.length c], .int .i64 i] w (PgAns w a p (cutP p i) (getE p i)) := by
  have A := hid0 h
  have HS := hid0 hs
  have hlm : p.length ≤ maxLen := by unfold maxLen; omega
  have C14 := fun W (hb : Below w.heap.size w W) => refGet_any a c p i W (A.out.later hb) hlm HS.out hi
  have hB0 : Below w.heap.size w ((w.alloc (Obj.cells #[.slice a p.length c] 62)).alloc (Obj.cells #[.slice none 0 0] 62)) := ((Below.refl _ _).alloc (Nat.le_refl _) _).alloc (by simp) _
  have v0 := (VarAt.new w (.slice a p.length c) 62).alloc (Obj.cells #[.slice none 0 0] 62)
  have v1 := VarAt.new (w.alloc (Obj.cells #[.slice a p.length c] 62)) (.slice none 0 0) 62
  rw [World.size_alloc] at v1
  rcases getE_cases p i with ⟨hne, hgd⟩ | ⟨hr, k, rfl, hk, hpk, he0⟩
  · have e1 : cutP p i = p := if_neg hne
    rw [e1]
    obtain ⟨er, her⟩ : ∃ er, getE p i = er := ⟨_, rfl⟩
    rw [her] at C14 hne ⊢
    clear e1 h hs hgd her
    go_enter Try.func36, Try.ntmps36
    go_wp2_with (go_at_call 32; go_must (refine (C14 _ hB0).mono ?_; rintro e w1 ⟨rfl, hb⟩; obtain ⟨q0, f0⟩ := v0.later hb; obtain ⟨q1, f1⟩ := v1.later hb; have hB1 := below_through hb hB0.size hB0))
    have x1 := (VarAt.mk q1 f1).set (.slice a p.length c)
    have c0 := x1.cell
    have hB2 := hB1.setCell (p := ⟨w.heap.size + 1, 0, none⟩) (by show w.heap.size ≤ w.heap.size + 1; omega) (.slice a p.length c)
    exact bodyPost_ret (v := .tuple #[.agg #[.slice a p.length c], .int .i64 er]) (by simp [results, Try.results36, go_sem, c0]) rfl ⟨⟨a, c, p, rfl, hc, A.out.later hB2, rfl, .inl ⟨rfl, rfl⟩⟩, hB2⟩
  · rw [he0] at C14 ⊢
    have e1 : cutP p k = trimP (p.set k noS) := by unfold cutP; rw [if_pos he0, Int.toNat_natCast]; rfl
    rw [e1]
    have C34 := fun W (hb : Below w.heap.size w W) => refWith_any a c p W (A.out.later hb) hl
    obtain ⟨g, hgd⟩ : ∃ g, getD p (k : Int) = g := ⟨_, rfl⟩
    rw [hgd] at C14
    clear e1 h hs hgd hpk hr he0
    go_enter Try.func36, Try.ntmps36
    go_wp2_with (first
      | (go_at_call 32; go_must (refine (C14 _ hB0).mono ?_; rintro e w1 ⟨rfl, hb⟩; obtain ⟨q0, f0⟩ := v0.later hb; have y1 := v1.later hb; have hB1 := below_through hb hB0.size hB0; clear C14 v0 v1 hB0 hb))
      | (go_at_call 52; go_must (refine (C34 _ hB1).mono ?_; rintro e w4 ⟨⟨v, rfl, hown⟩, hb4⟩; obtain ⟨m0, n0⟩ := (VarAt.mk q0 f0).later hb4; have y4 := y1.later hb4; have hB4 := below_through hb4 hB1.size hB1; have hz4 := hB1.size; have hlt3 := y1.lt; obtain ⟨g5, c5, rfl, hg5, hcap5, hf5, hc5⟩ := hown.form (by omega); have HO := hid0 hown; have hgne : g5 ≠ w.heap.size := (by omega); have hgne1 : g5 ≠ w.heap.size + 1 := (by omega); obtain ⟨hk0, hk1⟩ := hc5 k hk; clear C34 hB1 hb4 y1 q0 f0 hown hc5)))
    have hF : OwnS (((w4.setCell ⟨w.heap.size, 0, none⟩ (.slice (some ⟨g5, 0, none⟩) p.length c5)).setCell ⟨g5, k * 2, none⟩ (.bool false)).setCell ⟨g5, k * 2 + 1, none⟩ (.string ⟨#[]⟩)) w1.heap.size (.slice (some ⟨g5, 0, none⟩) (p.set k noS).length c5) (p.set k noS) :=
      (HO.out.setCell (a := ⟨w.heap.size, 0, none⟩) (by show w.heap.size < w1.heap.size; omega) (.slice (some ⟨g5, 0, none⟩) p.length c5)).write k noS
    have hBW := ((hB4.setCell (p := ⟨w.heap.size, 0, none⟩) (Nat.le_refl _) (.slice (some ⟨g5, 0, none⟩) p.length c5)).setCell (p := ⟨g5, k * 2, none⟩) (by show w.heap.size ≤ g5; omega) (.bool false)).setCell (p := ⟨g5, k * 2 + 1, none⟩) (by show w.heap.size ≤ g5; omega) (.string ⟨#[]⟩)
    have x0 := (((VarAt.mk m0 n0).set (.slice (some ⟨g5, 0, none⟩) p.length c5)).other ⟨g5, k * 2, none⟩ (.bool false) hgne).other ⟨g5, k * 2 + 1, none⟩ (.string ⟨#[]⟩) hgne
    have xr := ((y4.other ⟨w.heap.size, 0, none⟩ (.slice (some ⟨g5, 0, none⟩) p.length c5) (by show w.heap.size ≠ w.heap.size + 1; omega)).other ⟨g5, k * 2, none⟩ (.bool false) hgne1).other ⟨g5, k * 2 + 1, none⟩ (.string ⟨#[]⟩) hgne1
    clear hk0 hk1 hf5 m0 n0 y4 hB4 HO A HS
    generalize (((w4.setCell ⟨w.heap.size, 0, none⟩ (.slice (some ⟨g5, 0, none⟩) p.length c5)).setCell ⟨g5, k * 2, none⟩ (.bool false)).setCell ⟨g5, k * 2 + 1, none⟩ (.string ⟨#[]⟩)) = W at hF hBW x0 xr ⊢
    have hPl : (p.set k noS).length = p.length := List.length_set
    obtain ⟨P, hP⟩ : ∃ P, p.set k noS = P := ⟨_, rfl⟩
    have HP := hid0 hP
    rw [hP] at hF hPl
    clear hP
    obtain ⟨len, hlen⟩ : ∃ len, p.length = len := ⟨_, rfl⟩
    rw [hPl] at hF
    rw [hlen] at hF x0 hPl hl hcap5 ⊢
    have HF := hid0 hF
    have HX := hid0 xr
    have HB := hid0 hBW
    have HL := hid0 (And.intro hPl hl)
    obtain ⟨m0, n0⟩ := x0
    obtain ⟨m1, n1⟩ := xr
    clear hF hBW hl hlen hk hlm hc hi
    go_loopw [8] (fun nv wr => ∃ n : Nat, n ≤ len ∧ nv = .int .i64 n ∧ Hid (∀ i (h : i < P.length), n ≤ i → (P[i]).1 = false) ∧ wr = W) (fun nv _ => (intOf nv).toNat)
    case atStart => exact ⟨len, Nat.le_refl _, rfl, hid0 (fun i h hn => by omega), rfl⟩
    case round =>
      obtain ⟨n, hn, rfl, hU, rfl⟩ := hrel
      have hlb : len * 24 ≤ 140737488351232 := HL.out.2
      have hsl : ∀ W : World, (Instr.slice 60 (.slice (some ⟨g5, 0, none⟩) len c5) none (some (.int .i64 n)) none).run Try.prog W = .ok (.slice (some ⟨g5, 0, none⟩) n c5) W := by
        intro W
        rw [run_slice_h W 60 (some ⟨g5, 0, none⟩) len c5 Try.underlying60 .i64 n (by omega) (by omega)]
        simp [go_sem, Result.andThen, sliced]
      have hBf := (HB.out.setCell (p := ⟨w.heap.size, 0, none⟩) (Nat.le_refl _) (.slice (some ⟨g5, 0, none⟩) n c5)).setCell (p := ⟨w.heap.size + 1, 0, none⟩) (by show w.heap.size ≤ w.heap.size + 1; omega) (.slice (some ⟨g5, 0, none⟩) n c5)
      have hSf := hid0 (OwnS.take (((HF.out.setCell (a := ⟨w.heap.size, 0, none⟩) (by show w.heap.size < w1.heap.size; omega) (.slice (some ⟨g5, 0, none⟩) n c5)).setCell (a := ⟨w.heap.size + 1, 0, none⟩) (by show w.heap.size + 1 < w1.heap.size; omega) (.slice (some ⟨g5, 0, none⟩) n c5)).slots) n)
      have c0 := ((HX.out.other ⟨w.heap.size, 0, none⟩ (.slice (some ⟨g5, 0, none⟩) n c5) (by show w.heap.size ≠ w.heap.size + 1; omega)).set (.slice (some ⟨g5, 0, none⟩) n c5)).cell
      have hBf := hid0 hBf
      have C0 := hid0 c0
      clear c0
      have hfin : ∀ (hu : n = 0 ∨ ∃ h : n - 1 < P.length, 0 < n ∧ (P[n - 1]).1 = true), (∃ a2 c q', Ending.returned (.tuple #[.agg #[.slice (some ⟨g5, 0, none⟩) n c5], .int .i64 0]) = .returned (.tuple #[.agg #[.slice a2 q'.length c], .int .i64 0]) ∧ q'.length ≤ c ∧ SlotsAt ((wr.setCell ⟨w.heap.size, 0, none⟩ (.slice (some ⟨g5, 0, none⟩) n c5)).setCell ⟨w.heap.size + 1, 0, none⟩ (.slice (some ⟨g5, 0, none⟩) n c5)) a2 q' ∧ q' = trimP (p.set k noS) ∧ Away w a p a2 q') := fun hu => by
        rw [HP.out]
        have hql : (P.take n).length = n := by rw [List.length_take]; have := HL.out.1; omega
        exact ⟨some ⟨g5, 0, none⟩, c5, P.take n, by rw [hql], by rw [hql]; omega, hSf.out, (trimP_at hU.out hu).symm, away_new (by omega)⟩
      have HFIN := hid0 hfin
      clear hfin
      by_cases h0 : n = 0
      · have hni : ¬ (0 : Int) < (n : Int) := by omega
        have HE := hid0 (HFIN.out (.inl h0))
        clear h0
        go_wp2
        exact bodyPost_ret (v := .tuple #[.agg #[.slice (some ⟨g5, 0, none⟩) n c5], .int .i64 0]) (by simp [results, Try.results36, go_sem, C0.out]) rfl ⟨HE.out, hBf.out⟩
      · obtain ⟨m, hm⟩ : ∃ m, n - 1 = m := ⟨_, rfl⟩
        have hml : m < P.length := by have := HL.out.1; omega
        have hni : (0 : Int) < (n : Int) := by omega
        have hwm : IntKind.i64.wrap ((n : Int) - 1) = (m : Int) := by rw [IntWalk.i64_in _ (by omega)]; omega
        have hmi : (m : Int) < (len : Int) := by omega
        obtain ⟨b', o', e', hcl⟩ := HF.out.slots (by intro e; rw [e] at hml; exact absurd hml (by simp))
        obtain ⟨rfl, rfl⟩ : g5 = b' ∧ 0 = o' := by simpa using e'
        have q0 := (hcl m hml).1
        rw [Nat.zero_add] at q0
        clear hcl e'
        cases hu : (P[m]).1 with
        | false =>
          rw [hu] at q0
          have hUn := hid0 (show ∀ i (h : i < P.length), m ≤ i → (P[i]).1 = false from fun i h hi => by
            by_cases e : i = m
            · subst e; exact hu
            · exact hU.out i h (by omega))
          clear hu HFIN
          go_wp2
          exact ⟨⟨m, by omega, by go_num, hUn, trivial⟩, by simp [intOf]; omega⟩
        | true =>
          rw [hu] at q0
          have HE := hid0 (HFIN.out (.inr ⟨by rw [hm]; exact hml, by omega, by simp only [hm]; exact hu⟩))
          clear hu HFIN
          go_wp2
          exact bodyPost_ret (v := .tuple #[.agg #[.slice (some ⟨g5, 0, none⟩) n c5], .int .i64 0]) (by simp [results, Try.results36, go_sem, C0.out]) rfl ⟨HE.out, hBf.out⟩
end Go.Proofs.Ytnneeojgakjalaa
