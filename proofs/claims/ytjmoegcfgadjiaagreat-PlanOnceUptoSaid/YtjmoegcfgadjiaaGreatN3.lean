/- Several of my texts laid together, each as it was: P3. Conditions: each names its own. -/
import Derived.Test.YtjmoegcfgadjiaaGreatN0
import Derived.Test.YtjmoegcfgadjiaaGreatH5
import Derived.Test.YtjmoegcfgadjiaaGreatL1
/- PlanOnce: the law's call, in whatever memory: it is true. Conditions: the part's and the names' cells are known. -/
namespace Go.Proofs.YtjmoegcfgadjiaaGreat
open Go.RowKit

set_option maxHeartbeats 8000000 in
set_option maxRecDepth 1000000 in
theorem lawPlanOnce {n : Nat} (p : Px) (a2 : Option Addr) (c2 : Nat) (l : List Nx) (w : World) (hP : PxOk w n p) (hL : NsOk w a2 l) :
    Calls Tryz.prog 4 #[p.val, .slice a2 l.length c2] w fun e w' => e = .returned (.bool true) ∧ Below w.heap.size w w' := by
  have h20 := p.cells_len
  have e0 : ({ p with d := false } : Px).cells = p.cells.set 0 (.bool false) := rfl
  have e1 : ({ p with d := true } : Px).cells = (p.cells.set 0 (.bool false)).set 0 (.bool true) := rfl
  have hP0 : PxOk w n { p with d := false } := ⟨hP.fs, hP.ws, hP.wh, hP.gs, hP.os, hP.es, hP.fewF, hP.fewO, hP.capF, hP.capW, hP.capG, hP.capO, hP.sizeT, hP.sizeC⟩
  have hP1 : PxOk w n { p with d := true } := ⟨hP.fs, hP.ws, hP.wh, hP.gs, hP.os, hP.es, hP.fewF, hP.fewO, hP.capF, hP.capW, hP.capG, hP.capO, hP.sizeT, hP.sizeC⟩
  have C0 := rwP_of (c2 := c2) e0 hP0 hL
  have C1 := rwP_of (c2 := c2) e1 hP1 hL
  rw [px_err l p true false] at C1
  have hvI : ∀ x ∈ l, ∀ e ∈ x.E, ∀ v ∈ e.r, inI v := fun x hx e he v hv => ((hL.ok x hx).1.i e he).1 v hv
  have CA := hid0 (fun W => awake12_any W)
  have HON := hid0 (fun (h : (rowsM l [{ p with d := false }]).2 = 0) => And.intro (once_is hvI h) (rows_few1 hvI h))
  have HNO := hid0 (fun (h : (rowsM l [{ p with d := false }]).2 ≠ 0) => rowsM_none h)
  generalize rowsM l [{ p with d := false }] = R0 at C0 C1 HON HNO
  generalize (rowsM l [{ p with d := true }]).1 = RB at C1 HON
  obtain ⟨RA, f⟩ := R0
  have C0 : RwP w (p.cells.set 0 (.bool false)) a2 l.length c2 RA f := C0
  have C1 : RwP w ((p.cells.set 0 (.bool false)).set 0 (.bool true)) a2 l.length c2 RB f := C1
  have hu0 : p.cells[0]? = some (.bool p.d) := rfl
  unfold Px.val
  obtain ⟨us, hus⟩ : ∃ us, p.cells = us := ⟨_, rfl⟩
  rw [hus] at h20 C0 C1 hu0 ⊢
  clear hus e0 e1 hP0 hP1 hP hL hvI
  generalize p.d = pd at hu0
  have hV : VarB (w.alloc (Obj.cells us.toArray 46)) w.heap.size us := VarB.new w us 46
  have hB0 : Below w.heap.size w (w.alloc (Obj.cells us.toArray 46)) := (Below.refl _ _).alloc (Nat.le_refl _) _
  obtain ⟨W1, hW1⟩ : ∃ W1, w.alloc (Obj.cells us.toArray 46) = W1 := ⟨_, rfl⟩
  rw [hW1] at hV hB0
  have HW1 := hid0 hW1
  clear hW1
  have hV0 := hV.setQ (i := 0) (.bool false) (by omega)
  have hB1 : Below w.heap.size w (W1.setCell ⟨w.heap.size, 0, none⟩ (.bool false)) := below_setCells [.bool false] 0 (b := w.heap.size) hB0 (Nat.le_refl _)
  have a0 := hV.cell 0 hu0
  have f0 := hV.frz 0 (by omega)
  have hl0 : (us.set 0 (.bool false)).length = 20 := by rw [List.length_set]; exact h20
  have hv0 : (us.set 0 (.bool false))[0]? = some (.bool false) := by rw [List.getElem?_set_self (by omega)]
  obtain ⟨vs0, hvs0⟩ : ∃ vs0, us.set 0 (.bool false) = vs0 := ⟨_, rfl⟩
  rw [hvs0] at C0 C1 hV0 hl0 hv0
  have hl1 : (vs0.set 0 (.bool true)).length = 20 := by rw [List.length_set]; exact hl0
  have HL0 := hid0 hl0
  have HL1 := hid0 hl1
  have C0 := hid0 C0
  have C1 := hid0 C1
  clear hvs0
  go_enter Tryz.func4, Tryz.ntmps4
  go_upto_region 1 with fail
  rw [HW1.out]
  go_wp2_with (first | ((with_reducible refine wp_getB hV0.at_ Tryz.underlying46 ?_ ?_ ?_ ?_); (rfl); (rw [HL0.out]; exact sizePx); (rfl); simp only [Act.put]) | fail)
  rw [fold20Q vs0 _ hl0 rfl]
  obtain ⟨W0, hW0⟩ : ∃ W0, W1.setCell ⟨w.heap.size, 0, none⟩ (.bool false) = W0 := ⟨_, rfl⟩
  have hs0 : W1.heap.size = W0.heap.size := by rw [← hW0]; simp
  rw [hW0] at hV0 hB1 ⊢
  have hbA : Below W0.heap.size W0 (W0.alloc (Obj.cells vs0.toArray 46)) := (Below.refl _ _).alloc (Nat.le_refl _) _
  clear hW0 a0 f0 hV hB0
  refine (C0.out.out _ W1.heap.size (VarB.newAt W0 vs0 46 hs0) (below_through hbA hB1.size hB1)).mono ?_
  rintro e w1 ⟨⟨a5, c5, E5, rfl, hc5, hE5, hm5⟩, hb1⟩
  have hw1 := below_through hb1 hbA.size hbA
  have hV1 := hV0.below hw1
  have hB2 := below_through hw1 hB1.size hB1
  have hlt1 : w.heap.size < w1.heap.size := hV1.lt
  have a1 := hV1.cell 0 hv0
  have f1 := hV1.frz 0 (by omega)
  have hV2 := hV1.setQ (i := 0) (.bool true) (by omega)
  have hB3 : Below w.heap.size w (w1.setCell ⟨w.heap.size, 0, none⟩ (.bool true)) := below_setCells [.bool true] 0 (b := w.heap.size) hB2 (Nat.le_refl _)
  have hE5' := hE5.bool (v := .bool true) a1
  clear hE5 hb1 hbA hw1 hV0 hB1 hB2 hV1
  obtain ⟨vs1, hvs1⟩ : ∃ vs1, vs0.set 0 (.bool true) = vs1 := ⟨_, rfl⟩
  rw [hvs1] at hV2 HL1 C1 hl1
  clear hvs1
  have hE5' := hid0 hE5'
  have hm5 := hid0 hm5
  go_wp2_with (first | ((with_reducible refine wp_getB hV2.at_ Tryz.underlying46 ?_ ?_ ?_ ?_); (rfl); (rw [HL1.out]; exact sizePx); (rfl); simp only [Act.put]) | fail)
  rw [fold20Q vs1 _ HL1.out rfl]
  obtain ⟨W2, hW2⟩ : ∃ W2, w1.setCell ⟨w.heap.size, 0, none⟩ (.bool true) = W2 := ⟨_, rfl⟩
  have hs2 : w1.heap.size = W2.heap.size := by rw [← hW2]; simp
  rw [hW2] at hV2 hB3 hE5' ⊢
  have hbB : Below W2.heap.size W2 (W2.alloc (Obj.cells vs1.toArray 46)) := (Below.refl _ _).alloc (Nat.le_refl _) _
  clear hW2 a1 f1
  refine (C1.out.out _ w1.heap.size (VarB.newAt W2 vs1 46 hs2) (below_through hbB hB3.size hB3)).mono ?_
  rintro e w3 ⟨⟨a6, c6, E6, rfl, hc6, hE6, hm6⟩, hb3⟩
  have hw3 := below_through hb3 hbB.size hbB
  have HE5 := hid0 (hE5'.out.later hw3)
  have HE6 := hid0 hE6
  have Hm6 := hid0 hm6
  have hB4 := below_through hw3 hB3.size hB3
  clear hE6 hm6 hb3 hbB hw3 hV2 hB3 hE5' C0 C1
  by_cases hf : f = 0
  · subst hf
    have HON2 := hid0 (HON.out rfl)
    have hl5 : E5.length ≤ 2001 := by
      have := HON2.out.2
      rw [← hm5.out, List.length_map] at this; exact this
    have hl6 : E6.length = E5.length := by
      have h1 := HON2.out.1.1
      have h2 := congrArg List.length h1
      rw [← Hm6.out, ← hm5.out] at h2
      simpa using h2
    have hl6i : (E6.length : Int) = (E5.length : Int) := by omega
    have HAT := hid0 (fun (j : Nat) (hj : j < E6.length) => (show E6[j].n = 1 ∧ ¬ findP (E5.map pr) E6[j].r < 1 by
      have h1 := HON2.out.1.1
      have h2 : pr E6[j] ∈ RB := by rw [← Hm6.out]; exact List.mem_map_of_mem (List.getElem_mem hj)
      rw [h1] at h2
      obtain ⟨x, hx, hxe⟩ := List.mem_map.1 h2
      have e1 : x.1 = E6[j].r := congrArg Prod.fst hxe
      have e2 : (1 : Int) = E6[j].n := congrArg Prod.snd hxe
      have h3 := HON2.out.1.2 x hx
      rw [e1] at h3
      rw [hm5.out]
      exact ⟨e2.symm, by omega⟩))
    clear HON HNO
    go_wp2_with fail
    go_loopw [9] (fun iv wq => ∃ i : Nat, i ≤ E6.length ∧ iv = .int .i64 i ∧ Below w3.heap.size w3 wq) (fun iv _ => E6.length - (intOf iv).toNat)
    case atStart => exact ⟨0, Nat.zero_le _, rfl, Below.refl _ _⟩
    case round =>
      obtain ⟨j, hj, rfl, hBj⟩ := hrel
      have hBjs := hBj.size
      by_cases hlt2 : j < E6.length
      · obtain ⟨b5, o5, rfl, hc5'⟩ := (HE6.out.1.later hBj) (by intro e; rw [e] at hlt2; exact absurd hlt2 (by simp))
        obtain ⟨q0, q1⟩ := hc5' j hlt2
        clear hc5'
        have hro := HE6.out.2 _ (List.getElem_mem hlt2)
        have CF := refFind_any a5 c5 E5 E6[j].a E6[j].c E6[j].r wr (HE5.out.later hBj) (hro.1.later hBj) (by omega)
        obtain ⟨h1n, hnl⟩ := HAT.out j hlt2
        generalize findP (E5.map pr) E6[j].r = fd at CF hnl
        generalize E6[j] = ee at q0 q1 CF h1n
        rw [h1n] at q1
        have CF := hid0 CF
        have hjn : (j : Int) < (E6.length : Int) := by omega
        have hnd : decide (fd < 1) = false := by simp; omega
        clear hro hl6i
        go_wp2_with (first | (go_at_call 18; go_must (refine CF.out.mono ?_; rintro e wn ⟨rfl, hbn⟩)) | fail)
        exact ⟨⟨j + 1, by omega, by go_num, below_through hbn hBjs hBj⟩, by simp [intOf]; omega⟩
      · have hie : ¬ (j : Int) < (E6.length : Int) := by omega
        clear hl6i
        go_wp2_with (first | (go_at_call 15; go_must (refine (CA.out _).mono ?_; rintro e wn ⟨rfl, hbn⟩)) | fail)
        go_ret
        exact ⟨rfl, below_through (below_through hbn hBjs hBj) hB4.size hB4⟩
  · have hf0 : (f == 0) = false := by simpa using hf
    go_wp2_with (first | (go_at_call 15; go_must (refine (CA.out _).mono ?_; rintro e wn ⟨rfl, hbn⟩)) | fail)
    go_ret
    exact ⟨ret_bool (by simp), below_through hbn hB4.size hB4⟩
end Go.Proofs.YtjmoegcfgadjiaaGreat
