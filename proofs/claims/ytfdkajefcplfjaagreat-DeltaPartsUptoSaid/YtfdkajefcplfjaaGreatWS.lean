/- Several of my texts laid together, each as it was: D58, D61. Conditions: each names its own. -/
import Derived.Test.YtfdkajefcplfjaaGreatWP
import Derived.Test.YtfdkajefcplfjaaGreatWN
/- What the model of Rows tells isn't much, where it is told. Nothing of any program here. Conditions: each lemma names its own. -/
namespace Go.Proofs.YtfdkajefcplfjaaGreat
open Go.RowKit

theorem dRows_small {old ch : List Nx} {ps : List Px} (h : (dRowsM old ch ps).2 = 0) : absS (dRowsM old ch ps).1 ≤ 24000 ∧ (dRowsM old ch ps).1.length ≤ 24000 := by
  obtain ⟨hG, _, e⟩ := dRowsM_ok h
  obtain ⟨h4, hs⟩ := dAll_small hG
  have h5 := hs ps.length
  rw [List.take_of_length_le (Nat.le_refl _)] at h5
  rw [e]
  have h6 := absS_ofB (dAllL old ch ps)
  have h7 := len_ofB (dAllL old ch ps)
  omega
end Go.Proofs.YtfdkajefcplfjaaGreat

/- DeltaParts: the law's call, in whatever memory: it is true. Conditions: the plan's and the names' cells are known; at most 400000 rows in a list that came in, and in two of them together. -/
namespace Go.Proofs.YtfdkajefcplfjaaGreat
open Go.RowKit

/-- The boxes of the plan and of both changes. -/
structure SPt (w : World) (us vs : List Value) (W : World) : Prop where
  v : VarB W w.heap.size us
  u : VarB W (w.heap.size + 1) vs
  b : Below w.heap.size w W
theorem SPt.below {w : World} {us vs : List Value} {W W' : World} (h : SPt w us vs W) (hb : Below W.heap.size W W') : SPt w us vs W' := ⟨h.v.below hb, h.u.below hb, below_through hb h.b.size h.b⟩
/-- What came in: names as they were, and two changes. -/
structure ThreeN (w : World) (a1 : Option Addr) (old : List Nx) (a2 : Option Addr) (p1 : List Nx) (a3 : Option Addr) (p2 : List Nx) : Prop where
  o : NsOk w a1 old
  c1 : NsOk w a2 p1
  c2 : NsOk w a3 p2
  lo : ∀ x ∈ old, x.E.length ≤ 400000
  l1 : ∀ x ∈ p1, x.E.length ≤ 400000
  l2 : ∀ x ∈ p2, x.E.length ≤ 400000
  few : old.length ≤ 1048576
  j1 : ∀ x ∈ old, ∀ z ∈ p1, x.E.length + z.E.length ≤ 400000
  j2 : ∀ x ∈ p1, ∀ z ∈ p2, x.E.length + z.E.length ≤ 400000
theorem wrong_small {p1 : List Nx} (h : wrongB p1 = false) (l1 : ∀ x ∈ p1, x.E.length ≤ 400000) (s : List UInt8) : absS (bagN p1 s) ≤ 1099511627776 * 400000 := by
  have h1 := (wrong_at h s).2
  have h2 := absS_bound (k := maxMany) (L := bagN p1 s) (fun y hy => (h1 y hy).2)
  have h3 := bag_few l1 s
  unfold maxMany at h2
  omega
theorem bag_joint {p1 p2 : List Nx} (l1 : ∀ x ∈ p1, x.E.length ≤ 400000) (l2 : ∀ x ∈ p2, x.E.length ≤ 400000) (hj : ∀ x ∈ p1, ∀ z ∈ p2, x.E.length + z.E.length ≤ 400000) (s : List UInt8) : (bagN p1 s).length + (bagN p2 s).length ≤ 400000 := by
  have h1 := bag_few l1 s
  have h2 := bag_few l2 s
  unfold bagN at h1 h2 ⊢
  cases hf : findN p1 s with
  | none => rw [hf] at h1; simp; simpa using h2
  | some x =>
    cases hg : findN p2 s with
    | none => rw [hf] at h1; simp; simpa using h1
    | some z =>
      have := hj x (findN_mem hf) z (findN_mem hg)
      simpa using this
set_option maxHeartbeats 16000000 in
set_option maxRecDepth 1000000 in
theorem lawDeltaParts {n : Nat} (a : Option Addr) (c : Nat) (ps : List Px) (a1' : Option Addr) (c1' : Nat) (old : List Nx) (a2 : Option Addr) (c2 : Nat) (p1 : List Nx) (a3 : Option Addr) (c3 : Nat) (p2 : List Nx) (w : World) (hP : PsOk w n a c ps) (hL : ThreeN w a1' old a2 p1 a3 p2) :
    Calls Tryz.prog 8 #[planV a ps.length c, .slice a1' old.length c1', .agg #[.slice a2 p1.length c2, .slice a3 p2.length c3]] w fun e w' => e = .returned (.bool true) ∧ Below w.heap.size w w' := by
  have HP := hid0 hP
  have HL := hid0 hL
  have CA := hid0 (fun W => awake14_any W)
  have CR : DwC w a ps.length c a1' old.length c1' a2 p1.length c2 (dRowsM old p1 ps).1 (dRowsM old p1 ps).2 := dwC_of hP ⟨hL.o, hL.c1, hL.lo, hL.l1⟩
  have CN0 : ∀ W, Below w.heap.size w W → Calls Tryz.prog 29 #[.slice a1' old.length c1', .slice a2 p1.length c2] W (NowAns W old p1) := fun W hW => refNow_any a1' c1' old a2 c2 p1 W (hL.o.later hW) (hL.c1.later hW) hL.few hL.lo hL.l1
  clear hP hL
  obtain ⟨N1, hN1⟩ : ∃ N, p1.length = N := ⟨_, rfl⟩
  obtain ⟨N2, hN2⟩ : ∃ N, p2.length = N := ⟨_, rfl⟩
  obtain ⟨No, hNo⟩ : ∃ No, old.length = No := ⟨_, rfl⟩
  rw [hN1, hNo] at CR
  rw [hN1, hNo] at CN0
  rw [hN1, hN2, hNo]
  have HN1 := hid0 hN1
  have HN2 := hid0 hN2
  have HNo := hid0 hNo
  have CN := hid0 CN0
  clear hN1 hN2 hNo CN0
  have hS : SPt w [.slice a ps.length c] [.slice a2 N1 c2, .slice a3 N2 c3] ((w.alloc (Obj.cells #[.slice a ps.length c] 24)).alloc (Obj.cells #[.slice a2 N1 c2, .slice a3 N2 c3] 73)) := by
    have h0 : Below w.heap.size w (w.alloc (Obj.cells #[.slice a ps.length c] 24)) := (Below.refl _ _).alloc (Nat.le_refl _) _
    have h1 := VarB.new w [.slice a ps.length c] 24
    have h2 := VarB.new (w.alloc (Obj.cells #[.slice a ps.length c] 24)) [.slice a2 N1 c2, .slice a3 N2 c3] 73
    refine ⟨h1.below ((Below.refl _ _).alloc (Nat.le_refl _) _), ?_, h0.alloc h0.size _⟩
    have e : (w.alloc (Obj.cells #[.slice a ps.length c] 24)).heap.size = w.heap.size + 1 := by simp
    rw [e] at h2
    exact h2
  have v0 := hS.u.cell 0 rfl
  have v1 := hS.u.cell 1 rfl
  unfold planV
  go_enter Tryz.func8, Tryz.ntmps8
  by_cases h1 : (dRowsM old p1 ps).2 = 0
  · rw [h1] at CR
    have CR := hid0 CR
    obtain ⟨hG, _, _⟩ := dRowsM_ok h1
    have HG := hid0 hG
    have HH1 := hid0 h1
    have HS1 := hid0 (dRows_small h1)
    clear h1 hG
    generalize hR1 : (dRowsM old p1 ps).1 = R1 at CR HS1
    have HR1 := hid0 hR1
    clear hR1
    go_wp2_with (first | ((with_reducible refine wp_getB hS.v.at_ Tryz.underlying24 ?_ ?_ ?_ ?_); (rfl); (exact sizePlan); (rfl); simp only [Act.put]) | ((with_reducible refine wp_getB hS1.v.at_ Tryz.underlying24 ?_ ?_ ?_ ?_); (rfl); (exact sizePlan); (rfl); simp only [Act.put]) | ((with_reducible refine wp_getB hS2.v.at_ Tryz.underlying24 ?_ ?_ ?_ ?_); (rfl); (exact sizePlan); (rfl); simp only [Act.put]) | (go_at_call 27; (with_reducible refine (CR.out.out _ hS.b).mono ?_); rintro e w1 ⟨⟨a8, c8, E1, rfl, hc1, hE1, hm1⟩, hb1⟩; (have hS1 := hS.below hb1); (have y0 := hS1.u.cell 0 rfl); (have y1 := hS1.u.cell 1 rfl)) | (go_at_call 29; (with_reducible refine (CN.out _ hS1.b).mono ?_); rintro e w2 ⟨⟨a9, c9, mid, rfl, hNm, hmid⟩, hb2⟩; (have hS2 := hS1.below hb2); (have z0 := hS2.u.cell 0 rfl); (have z1 := hS2.u.cell 1 rfl)) | fail)
    have CR20 : DwC w2 a ps.length c a9 mid.length c9 a3 p2.length c3 (dRowsM mid p2 ps).1 (dRowsM mid p2 ps).2 := dwC_of (HP.out.later hS2.b) ⟨hNm, HL.out.c2.later hS2.b, mid_few hmid HL.out.lo HL.out.j1, HL.out.l2⟩
    rw [HN2.out] at CR20
    have hmo := mid_ok HG.out hmid HL.out.lo HL.out.l1
    have hPB := hid0 (fun (both : List Nx) (hb : both.map nd = old.map (bothF p1 p2)) (h2 : (dRowsM mid p2 ps).2 = 0) => dParts_of hmo hb HH1.out h2)
    have hsm := hid0 (fun (h2 : (dRowsM mid p2 ps).2 = 0) => dRows_small h2)
    have hw2 := hid0 (fun (h2 : (dRowsM mid p2 ps).2 = 0) => (dRowsM_ok h2).1.rc)
    obtain ⟨R2, hR2⟩ : ∃ R, (dRowsM mid p2 ps).1 = R := ⟨_, rfl⟩
    obtain ⟨f2, hf2⟩ : ∃ f, (dRowsM mid p2 ps).2 = f := ⟨_, rfl⟩
    by_cases h2 : (dRowsM mid p2 ps).2 = 0
    · have hPB := hid0 (fun both hb => hPB.out both hb h2)
      have hsm := hid0 (hsm.out h2)
      have hw2 := hid0 (hw2.out h2)
      rw [h2] at CR20
      have HE1 := hid0 hE1
      have HM1 := hid0 hm1
      rw [hR2] at CR20 hPB hsm
      have CR2 := hid0 CR20
      generalize mid.length = nm at *
      clear hf2 h2 hR2 hE1 hm1 hNm hmid hmo CR20 CR CN hc1 v0 v1
      go_wp2_with (first | ((with_reducible refine wp_getB hS2.v.at_ Tryz.underlying24 ?_ ?_ ?_ ?_); (rfl); (exact sizePlan); (rfl); simp only [Act.put]) | (go_at_call 27; (with_reducible refine (CR2.out.out _ (Below.refl _ _)).mono ?_); rintro e w3 ⟨⟨a10, c10, E2, rfl, hc2, hE2, hm2⟩, hb3⟩; (have hS3 := hS2.below hb3); (have x0 := hS3.u.cell 0 rfl); (have x1 := hS3.u.cell 1 rfl)) | fail)
      have HE1 := hid0 (HE1.out.later (below_through hb3 hb2.size hb2))
      have HE2 := hid0 hE2
      have HM2 := hid0 hm2
      have hb03 := hid0 hS3.b
      have hM0 := WideAt.nil (Below.refl w3.heap.size w3)
      clear hE2 hm2 hS hS1 hS2 hb1 hb2 hb3 CR2 hc2 y0 y1 z0 z1
      go_loopw [12, 13, 14, 15, 16, 17] (fun rv iv _ _ _ _ wr => ∃ (i : Nat) (M : List Nx), i ≤ No ∧ iv = .int .i64 i ∧ WideAt w3 wr rv M ∧ Hid (M.map nd = (old.take i).map (bothF p1 p2))) (fun _ iv _ _ _ _ _ => No - (intOf iv).toNat)
      case atStart => exact ⟨0, [], Nat.zero_le _, rfl, hM0, hid0 rfl⟩
      case round =>
      clear hM0
      obtain ⟨i, M, hi, rfl, hM, hT⟩ := hrel
      have hfew := HL.out.few
      rw [HNo.out] at hfew
      have hml : M.length = i := by
        have h1 := congrArg List.length hT.out
        rw [List.length_map, List.length_map, List.length_take, HNo.out] at h1
        omega
      by_cases hlt : i < No
      · have hlt' : (i : Int) < (No : Int) := by omega
        have g1 : i < old.length := by rw [HNo.out]; exact hlt
        obtain ⟨b, o, rfl, hbl, hR⟩ := (HL.out.o.later hb03.out).name i g1
        have hxo := (HL.out.o.later hb03.out).ok _ (List.getElem_mem g1)
        have hstep : old.take (i + 1) = old.take i ++ [old[i]] := List.take_succ_eq_append_getElem g1
        generalize old[i] = x at hR hxo hstep
        have q0 := rng hR 0 (u := .string x.s) rfl
        rw [Nat.add_zero] at q0
        obtain ⟨s, hs⟩ : ∃ s, x.s = s := ⟨_, rfl⟩
        rw [hs] at q0
        obtain ⟨aA, cA, A, eA, hAI, mA⟩ := slc_at (fun y hy => ((HL.out.c1.later hb03.out).ok y hy).1) s.data.toList
        obtain ⟨aB, cB, B, eB, hBI, mB⟩ := slc_at (fun y hy => ((HL.out.c2.later hb03.out).ok y hy).1) s.data.toList
        obtain ⟨ok1, hok1⟩ := hasV_slc p1 s.data.toList
        obtain ⟨ok2, hok2⟩ := hasV_slc p2 s.data.toList
        rw [eA] at hok1
        rw [eB] at hok2
        have hjl := bag_joint HL.out.l1 HL.out.l2 HL.out.j2 s.data.toList
        have hsa := wrong_small HG.out.rc HL.out.l1 s.data.toList
        have hsb := wrong_small hw2.out HL.out.l2 s.data.toList
        rw [← mA, ← mB, List.length_map, List.length_map] at hjl
        rw [← mA] at hsa
        rw [← mB] at hsb
        have CH1 := hid0 (fun (W : World) (hW : Below w3.heap.size w3 W) => by
          have h := refHas_any a2 c2 p1 s W ((HL.out.c1.later hb03.out).later hW)
          rw [hok1, HN1.out] at h
          exact h)
        have CH2 := hid0 (fun (W : World) (hW : Below w3.heap.size w3 W) => by
          have h := refHas_any a3 c3 p2 s W ((HL.out.c2.later hb03.out).later hW)
          rw [hok2, HN2.out] at h
          exact h)
        have C8 := hid0 (fun (W : World) (hW : Below w3.heap.size w3 W) => addE_any aA aB cA cB A B W (hAI.later hW) (hBI.later hW) (by omega))
        have HAp := hid0 (fun (W : World) (a5 : Option Addr) (c5 : Nat) (E5 : List Elem) (hE : ElemsAt W a5 E5) (hc : E5.length ≤ c5) (hm : AddE A B E5) (ht : TagL W a5) (hg : ∀ e ∈ E5, GoodE W e) => apart_some (s := s) hAI hBI (by omega) hE hc hm ht hg)
        have HNX := hid0 (fun (y : Nx) (hy : y.s = s) (hm : AddE A B y.E) => (show (M ++ [y]).map nd = (old.take (i + 1)).map (bothF p1 p2) from by
          rw [hstep, List.map_append, List.map_append, hT.out, List.map_cons, List.map_cons, List.map_nil, List.map_nil]
          congr 2
          show (y.s, y.E.map pr) = (x.s, ofB (bagN p1 x.s.data.toList ++ bagN p2 x.s.data.toList))
          rw [hy, hs, hm.is (by rw [absS_append]; omega), mA, mB]))
        have HM := hid0 (hM.below (Below.drew (Below.refl _ _)))
        have HSS := hid0 (show s.size ≤ maxLen from by rw [← hs]; exact hxo.2)
        have hlen8 : (M.length + 1) * 40 ≤ 140737488355328 := by omega
        have hB : Below w3.heap.size w3 wr.drew := Below.drew hM.b
        generalize A.length = nA at *
        generalize B.length = nB at *
        clear hR hxo hstep hAI hBI mA mB eA eB hok1 hok2 hT hM hs g1 hbl hS3 hjl hsa hsb
        go_wp2_with fail
        refine wp_region_held_drew (S := (fun W => Below w3.heap.size w3 W)) (by kernel_rfl) hB (fun hHeld => ?_)
        generalize wr.drew = W12 at hB HM hHeld ⊢
        refine wpAnyH_take (i := 0) (v := ?_) rfl (by kernel_rfl) (by kernel_rfl) (by kernel_rfl) (fun _ _ _ h => h) (Or.inl ⟨by rfl, ?_⟩) (by assumption) ?_
        rotate_left
        · (intro wx hSw; go_simp; (try with_reducible rfl); (try omega))
        (try simp only [Act.put, List.setIfInBounds_toArray, List.set_cons_zero, List.set_cons_succ, List.getElem_toArray, List.getElem_cons_zero])
        refine wpAnyH_take (i := 1) (v := ?_) rfl (by kernel_rfl) (by kernel_rfl) (by kernel_rfl) (fun _ _ _ h => h) (Or.inl ⟨by rfl, ?_⟩) (by assumption) ?_
        rotate_left
        · (intro wx hSw; have hk := cell_later hSw x0; go_simp; (try with_reducible rfl); (try omega))
        (try simp only [Act.put, List.setIfInBounds_toArray, List.set_cons_zero, List.set_cons_succ, List.getElem_toArray, List.getElem_cons_zero, List.getElem_cons_succ])
        refine wpAnyH_take (i := 2) (v := ?_) rfl (by kernel_rfl) (by kernel_rfl) (by kernel_rfl) (fun _ _ _ h => h) (Or.inl ⟨by rfl, ?_⟩) (by assumption) ?_
        rotate_left
        · (intro wx hSw; go_simp; (try with_reducible rfl); (try omega))
        (try simp only [Act.put, List.setIfInBounds_toArray, List.set_cons_zero, List.set_cons_succ, List.getElem_toArray, List.getElem_cons_zero, List.getElem_cons_succ])
        refine wpAnyH_take (i := 3) (v := ?_) rfl (by kernel_rfl) (by kernel_rfl) (by kernel_rfl) (fun _ _ _ h => h) (Or.inl ⟨by rfl, ?_⟩) (by assumption) ?_
        rotate_left
        · (intro wx hSw; go_simp; (try with_reducible rfl); (try omega))
        (try simp only [Act.put, List.setIfInBounds_toArray, List.set_cons_zero, List.set_cons_succ, List.getElem_toArray, List.getElem_cons_zero, List.getElem_cons_succ])
        refine wpAnyH_take (i := 4) (v := ?_) rfl (by kernel_rfl) (by kernel_rfl) (by kernel_rfl) (fun _ _ _ h => h) (Or.inl ⟨by rfl, ?_⟩) (by assumption) ?_
        rotate_left
        · (intro wx hSw; go_simp; (try with_reducible rfl); (try omega))
        (try simp only [Act.put, List.setIfInBounds_toArray, List.set_cons_zero, List.set_cons_succ, List.getElem_toArray, List.getElem_cons_zero, List.getElem_cons_succ])
        refine wpAnyH_take (i := 5) (v := ?_) rfl (by kernel_rfl) (by kernel_rfl) (by kernel_rfl) (fun _ _ _ h => h) (Or.inl ⟨by rfl, ?_⟩) (by assumption) ?_
        rotate_left
        · (intro wx hSw; go_simp; (try with_reducible rfl); (try omega))
        (try simp only [Act.put, List.setIfInBounds_toArray, List.set_cons_zero, List.set_cons_succ, List.getElem_toArray, List.getElem_cons_zero, List.getElem_cons_succ])
        refine wpAnyH_take (i := 6) (v := ?_) rfl (by kernel_rfl) (by kernel_rfl) (by kernel_rfl) (fun _ _ _ h => h) (Or.inl ⟨by rfl, ?_⟩) (by assumption) ?_
        rotate_left
        · (intro wx hSw; have hk := cell_later hSw q0; go_simp; (try with_reducible rfl); (try omega))
        (try simp only [Act.put, List.setIfInBounds_toArray, List.set_cons_zero, List.set_cons_succ, List.getElem_toArray, List.getElem_cons_zero, List.getElem_cons_succ])
        refine wpAnyH_ready (rs := [7]) (by kernel_rfl) (by simp) ?_
        refine AllReadyH.cons rfl (fun K hK => ?_) ?_
        · (try simp only [Act.put, List.setIfInBounds_toArray, List.set_cons_zero, List.set_cons_succ, List.getElem_toArray, List.getElem_cons_zero, List.getElem_cons_succ])
          go_simp
          refine (CH1.out _ hB).mono ?_
          rintro e W1 ⟨rfl, hW1⟩
          rw [hW1]
          clear hW1 W1
          refine hK.out _ _ hB (fun hHeld => ?_)
          clear hK K
          (try simp only [Act.put, List.setIfInBounds_toArray, List.set_cons_zero, List.set_cons_succ, List.getElem_toArray, List.getElem_cons_zero, List.getElem_cons_succ])
          refine wpAnyH_take (i := 8) (v := ?_) rfl (by kernel_rfl) (by kernel_rfl) (by kernel_rfl) (fun _ _ _ h => h) (Or.inl ⟨by rfl, ?_⟩) (by assumption) ?_
          rotate_left
          · (intro wx hSw; go_simp; (try with_reducible rfl); (try omega))
          (try simp only [Act.put, List.setIfInBounds_toArray, List.set_cons_zero, List.set_cons_succ, List.getElem_toArray, List.getElem_cons_zero, List.getElem_cons_succ])
          refine wpAnyH_take (i := 9) (v := ?_) rfl (by kernel_rfl) (by kernel_rfl) (by kernel_rfl) (fun _ _ _ h => h) (Or.inl ⟨by rfl, ?_⟩) (by assumption) ?_
          rotate_left
          · (intro wx hSw; go_simp; (try with_reducible rfl); (try omega))
          (try simp only [Act.put, List.setIfInBounds_toArray, List.set_cons_zero, List.set_cons_succ, List.getElem_toArray, List.getElem_cons_zero, List.getElem_cons_succ])
          refine wpAnyH_take (i := 10) (v := ?_) rfl (by kernel_rfl) (by kernel_rfl) (by kernel_rfl) (fun _ _ _ h => h) (Or.inl ⟨by rfl, ?_⟩) (by assumption) ?_
          rotate_left
          · (intro wx hSw; go_simp; (try with_reducible rfl); (try omega))
          (try simp only [Act.put, List.setIfInBounds_toArray, List.set_cons_zero, List.set_cons_succ, List.getElem_toArray, List.getElem_cons_zero, List.getElem_cons_succ])
          refine wpAnyH_take (i := 11) (v := ?_) rfl (by kernel_rfl) (by kernel_rfl) (by kernel_rfl) (fun _ _ _ h => h) (Or.inl ⟨by rfl, ?_⟩) (by assumption) ?_
          rotate_left
          · (intro wx hSw; go_simp; (try with_reducible rfl); (try omega))
          (try simp only [Act.put, List.setIfInBounds_toArray, List.set_cons_zero, List.set_cons_succ, List.getElem_toArray, List.getElem_cons_zero, List.getElem_cons_succ])
          refine wpAnyH_take (i := 12) (v := ?_) rfl (by kernel_rfl) (by kernel_rfl) (by kernel_rfl) (fun _ _ _ h => h) (Or.inl ⟨by rfl, ?_⟩) (by assumption) ?_
          rotate_left
          · (intro wx hSw; go_simp; (try with_reducible rfl); (try omega))
          (try simp only [Act.put, List.setIfInBounds_toArray, List.set_cons_zero, List.set_cons_succ, List.getElem_toArray, List.getElem_cons_zero, List.getElem_cons_succ])
          refine wpAnyH_done (by kernel_rfl) ?_ _
          have HM := hid0 (HM.out.below (Below.drew (Below.refl _ _)))
          have hB := Below.drew hB
          go_wp2_with fail
          refine wp_region_held_drew (S := (fun W => Below w3.heap.size w3 W)) (by kernel_rfl) hB (fun hHeld => ?_)
          generalize W12.drew = W13 at hB HM hHeld ⊢
          refine wpAnyH_take (i := 0) (v := ?_) rfl (by kernel_rfl) (by kernel_rfl) (by kernel_rfl) (fun _ _ _ h => h) (Or.inl ⟨by rfl, ?_⟩) (by assumption) ?_
          rotate_left
          · (intro wx hSw; go_simp; (try with_reducible rfl); (try omega))
          (try simp only [Act.put, List.setIfInBounds_toArray, List.set_cons_zero, List.set_cons_succ, List.getElem_toArray, List.getElem_cons_zero])
          refine wpAnyH_take (i := 1) (v := ?_) rfl (by kernel_rfl) (by kernel_rfl) (by kernel_rfl) (fun _ _ _ h => h) (Or.inl ⟨by rfl, ?_⟩) (by assumption) ?_
          rotate_left
          · (intro wx hSw; have hk := cell_later hSw x1; go_simp; (try with_reducible rfl); (try omega))
          (try simp only [Act.put, List.setIfInBounds_toArray, List.set_cons_zero, List.set_cons_succ, List.getElem_toArray, List.getElem_cons_zero, List.getElem_cons_succ])
          refine wpAnyH_take (i := 2) (v := ?_) rfl (by kernel_rfl) (by kernel_rfl) (by kernel_rfl) (fun _ _ _ h => h) (Or.inl ⟨by rfl, ?_⟩) (by assumption) ?_
          rotate_left
          · (intro wx hSw; go_simp; (try with_reducible rfl); (try omega))
          (try simp only [Act.put, List.setIfInBounds_toArray, List.set_cons_zero, List.set_cons_succ, List.getElem_toArray, List.getElem_cons_zero, List.getElem_cons_succ])
          refine wpAnyH_take (i := 3) (v := ?_) rfl (by kernel_rfl) (by kernel_rfl) (by kernel_rfl) (fun _ _ _ h => h) (Or.inl ⟨by rfl, ?_⟩) (by assumption) ?_
          rotate_left
          · (intro wx hSw; go_simp; (try with_reducible rfl); (try omega))
          (try simp only [Act.put, List.setIfInBounds_toArray, List.set_cons_zero, List.set_cons_succ, List.getElem_toArray, List.getElem_cons_zero, List.getElem_cons_succ])
          refine wpAnyH_take (i := 4) (v := ?_) rfl (by kernel_rfl) (by kernel_rfl) (by kernel_rfl) (fun _ _ _ h => h) (Or.inl ⟨by rfl, ?_⟩) (by assumption) ?_
          rotate_left
          · (intro wx hSw; go_simp; (try with_reducible rfl); (try omega))
          (try simp only [Act.put, List.setIfInBounds_toArray, List.set_cons_zero, List.set_cons_succ, List.getElem_toArray, List.getElem_cons_zero, List.getElem_cons_succ])
          refine wpAnyH_take (i := 5) (v := ?_) rfl (by kernel_rfl) (by kernel_rfl) (by kernel_rfl) (fun _ _ _ h => h) (Or.inl ⟨by rfl, ?_⟩) (by assumption) ?_
          rotate_left
          · (intro wx hSw; go_simp; (try with_reducible rfl); (try omega))
          (try simp only [Act.put, List.setIfInBounds_toArray, List.set_cons_zero, List.set_cons_succ, List.getElem_toArray, List.getElem_cons_zero, List.getElem_cons_succ])
          refine wpAnyH_take (i := 6) (v := ?_) rfl (by kernel_rfl) (by kernel_rfl) (by kernel_rfl) (fun _ _ _ h => h) (Or.inl ⟨by rfl, ?_⟩) (by assumption) ?_
          rotate_left
          · (intro wx hSw; have hk := cell_later hSw q0; go_simp; (try with_reducible rfl); (try omega))
          (try simp only [Act.put, List.setIfInBounds_toArray, List.set_cons_zero, List.set_cons_succ, List.getElem_toArray, List.getElem_cons_zero, List.getElem_cons_succ])
          refine wpAnyH_ready (rs := [7]) (by kernel_rfl) (by simp) ?_
          refine AllReadyH.cons rfl (fun K hK => ?_) ?_
          · (try simp only [Act.put, List.setIfInBounds_toArray, List.set_cons_zero, List.set_cons_succ, List.getElem_toArray, List.getElem_cons_zero, List.getElem_cons_succ])
            go_simp
            refine (CH2.out _ hB).mono ?_
            rintro e W1 ⟨rfl, hW1⟩
            rw [hW1]
            clear hW1 W1
            refine hK.out _ _ hB (fun hHeld => ?_)
            clear hK K
            (try simp only [Act.put, List.setIfInBounds_toArray, List.set_cons_zero, List.set_cons_succ, List.getElem_toArray, List.getElem_cons_zero, List.getElem_cons_succ])
            refine wpAnyH_take (i := 8) (v := ?_) rfl (by kernel_rfl) (by kernel_rfl) (by kernel_rfl) (fun _ _ _ h => h) (Or.inl ⟨by rfl, ?_⟩) (by assumption) ?_
            rotate_left
            · (intro wx hSw; go_simp; (try with_reducible rfl); (try omega))
            (try simp only [Act.put, List.setIfInBounds_toArray, List.set_cons_zero, List.set_cons_succ, List.getElem_toArray, List.getElem_cons_zero, List.getElem_cons_succ])
            refine wpAnyH_take (i := 9) (v := ?_) rfl (by kernel_rfl) (by kernel_rfl) (by kernel_rfl) (fun _ _ _ h => h) (Or.inl ⟨by rfl, ?_⟩) (by assumption) ?_
            rotate_left
            · (intro wx hSw; go_simp; (try with_reducible rfl); (try omega))
            (try simp only [Act.put, List.setIfInBounds_toArray, List.set_cons_zero, List.set_cons_succ, List.getElem_toArray, List.getElem_cons_zero, List.getElem_cons_succ])
            refine wpAnyH_take (i := 10) (v := ?_) rfl (by kernel_rfl) (by kernel_rfl) (by kernel_rfl) (fun _ _ _ h => h) (Or.inl ⟨by rfl, ?_⟩) (by assumption) ?_
            rotate_left
            · (intro wx hSw; go_simp; (try with_reducible rfl); (try omega))
            (try simp only [Act.put, List.setIfInBounds_toArray, List.set_cons_zero, List.set_cons_succ, List.getElem_toArray, List.getElem_cons_zero, List.getElem_cons_succ])
            refine wpAnyH_take (i := 11) (v := ?_) rfl (by kernel_rfl) (by kernel_rfl) (by kernel_rfl) (fun _ _ _ h => h) (Or.inl ⟨by rfl, ?_⟩) (by assumption) ?_
            rotate_left
            · (intro wx hSw; go_simp; (try with_reducible rfl); (try omega))
            (try simp only [Act.put, List.setIfInBounds_toArray, List.set_cons_zero, List.set_cons_succ, List.getElem_toArray, List.getElem_cons_zero, List.getElem_cons_succ])
            refine wpAnyH_take (i := 12) (v := ?_) rfl (by kernel_rfl) (by kernel_rfl) (by kernel_rfl) (fun _ _ _ h => h) (Or.inl ⟨by rfl, ?_⟩) (by assumption) ?_
            rotate_left
            · (intro wx hSw; go_simp; (try with_reducible rfl); (try omega))
            (try simp only [Act.put, List.setIfInBounds_toArray, List.set_cons_zero, List.set_cons_succ, List.getElem_toArray, List.getElem_cons_zero, List.getElem_cons_succ])
            refine wpAnyH_done (by kernel_rfl) ?_ _
            have HM := hid0 (HM.out.below (Below.drew (Below.refl _ _)))
            have hB := Below.drew hB
            go_wp2_with fail
            refine wp_region_held_drew (S := (fun W => Below w3.heap.size w3 W)) (by kernel_rfl) hB (fun hHeld => ?_)
            generalize W13.drew = W14 at hB HM hHeld ⊢
            refine wpAnyH_take (i := 0) (v := ?_) rfl (by kernel_rfl) (by kernel_rfl) (by kernel_rfl) (fun _ _ _ h => h) (Or.inl ⟨by rfl, ?_⟩) (by assumption) ?_
            rotate_left
            · (intro wx hSw; go_simp; (try with_reducible rfl); (try omega))
            (try simp only [Act.put, List.setIfInBounds_toArray, List.set_cons_zero, List.set_cons_succ, List.getElem_toArray, List.getElem_cons_zero])
            refine wpAnyH_take (i := 1) (v := ?_) rfl (by kernel_rfl) (by kernel_rfl) (by kernel_rfl) (fun _ _ _ h => h) (Or.inl ⟨by rfl, ?_⟩) (by assumption) ?_
            rotate_left
            · (intro wx hSw; go_simp; (try with_reducible rfl); (try omega))
            (try simp only [Act.put, List.setIfInBounds_toArray, List.set_cons_zero, List.set_cons_succ, List.getElem_toArray, List.getElem_cons_zero, List.getElem_cons_succ])
            refine wpAnyH_take (i := 2) (v := ?_) rfl (by kernel_rfl) (by kernel_rfl) (by kernel_rfl) (fun _ _ _ h => h) (Or.inl ⟨by rfl, ?_⟩) (by assumption) ?_
            rotate_left
            · (intro wx hSw; go_simp; (try with_reducible rfl); (try omega))
            (try simp only [Act.put, List.setIfInBounds_toArray, List.set_cons_zero, List.set_cons_succ, List.getElem_toArray, List.getElem_cons_zero, List.getElem_cons_succ])
            refine wpAnyH_take (i := 3) (v := ?_) rfl (by kernel_rfl) (by kernel_rfl) (by kernel_rfl) (fun _ _ _ h => h) (Or.inl ⟨by rfl, ?_⟩) (by assumption) ?_
            rotate_left
            · (intro wx hSw; go_simp; (try with_reducible rfl); (try omega))
            (try simp only [Act.put, List.setIfInBounds_toArray, List.set_cons_zero, List.set_cons_succ, List.getElem_toArray, List.getElem_cons_zero, List.getElem_cons_succ])
            refine wpAnyH_take (i := 4) (v := ?_) rfl (by kernel_rfl) (by kernel_rfl) (by kernel_rfl) (fun _ _ _ h => h) (Or.inl ⟨by rfl, ?_⟩) (by assumption) ?_
            rotate_left
            · (intro wx hSw; go_simp; (try with_reducible rfl); (try omega))
            (try simp only [Act.put, List.setIfInBounds_toArray, List.set_cons_zero, List.set_cons_succ, List.getElem_toArray, List.getElem_cons_zero, List.getElem_cons_succ])
            refine wpAnyH_take (i := 5) (v := ?_) rfl (by kernel_rfl) (by kernel_rfl) (by kernel_rfl) (fun _ _ _ h => h) (Or.inl ⟨by rfl, ?_⟩) (by assumption) ?_
            rotate_left
            · (intro wx hSw; have hk := cell_later hSw q0; go_simp; (try with_reducible rfl); (try omega))
            (try simp only [Act.put, List.setIfInBounds_toArray, List.set_cons_zero, List.set_cons_succ, List.getElem_toArray, List.getElem_cons_zero, List.getElem_cons_succ])
            refine wpAnyH_take (i := 6) (v := ?_) rfl (by kernel_rfl) (by kernel_rfl) (by kernel_rfl) (fun _ _ _ h => h) (Or.inl ⟨by rfl, ?_⟩) (by assumption) ?_
            rotate_left
            · (intro wx hSw; go_simp; (try with_reducible rfl); (try omega))
            (try simp only [Act.put, List.setIfInBounds_toArray, List.set_cons_zero, List.set_cons_succ, List.getElem_toArray, List.getElem_cons_zero, List.getElem_cons_succ])
            refine wpAnyH_take (i := 7) (v := ?_) rfl (by kernel_rfl) (by kernel_rfl) (by kernel_rfl) (fun _ _ _ h => h) (Or.inl ⟨by rfl, ?_⟩) (by assumption) ?_
            rotate_left
            · (intro wx hSw; go_simp; (try with_reducible rfl); (try omega))
            (try simp only [Act.put, List.setIfInBounds_toArray, List.set_cons_zero, List.set_cons_succ, List.getElem_toArray, List.getElem_cons_zero, List.getElem_cons_succ])
            refine wpAnyH_ready (rs := [8]) (by kernel_rfl) (by simp) ?_
            refine AllReadyH.cons rfl (fun K hK => ?_) ?_
            · (try simp only [Act.put, List.setIfInBounds_toArray, List.set_cons_zero, List.set_cons_succ, List.getElem_toArray, List.getElem_cons_zero, List.getElem_cons_succ])
              go_simp
              refine (C8.out _ hB).mono ?_
              rintro e W1 ⟨⟨a11, c11, E11, rfl, hc11, hE11, hA11, ht11, hg11⟩, hb11⟩
              have hM8 := hid0 (fun o => (HM.out.below hb11).below ((Below.refl _ _).alloc (Nat.le_refl _) o))
              have hB := below_through hb11 hB.size hB
              have HAP := hid0 (HAp.out _ _ _ _ hE11 hc11 hA11 ht11 hg11)
              have HAA := hid0 hA11
              obtain ⟨n11, hn11⟩ : ∃ n, E11.length = n := ⟨_, rfl⟩
              have HN11 := hid0 hn11
              rw [hn11]
              clear hE11 hA11 ht11 hg11 hc11 hn11
              refine hK.out _ _ hB (fun hHeld => ?_)
              clear hK K
              (try simp only [Act.put, List.setIfInBounds_toArray, List.set_cons_zero, List.set_cons_succ, List.getElem_toArray, List.getElem_cons_zero, List.getElem_cons_succ])
              refine wpAnyH_take (i := 9) (v := ?_) rfl (by kernel_rfl) (by kernel_rfl) (by kernel_rfl) (fun _ _ _ h => h) (Or.inl ⟨by rfl, ?_⟩) (by assumption) ?_
              rotate_left
              · (intro wx hSw; go_simp; (try with_reducible rfl); (try omega))
              (try simp only [Act.put, List.setIfInBounds_toArray, List.set_cons_zero, List.set_cons_succ, List.getElem_toArray, List.getElem_cons_zero, List.getElem_cons_succ])
              refine wpAnyH_ready (rs := [10]) (by kernel_rfl) (by simp) ?_
              refine AllReadyH.cons rfl (fun K hK => ?_) ?_
              · (try simp only [Act.put, List.setIfInBounds_toArray, List.set_cons_zero, List.set_cons_succ, List.getElem_toArray, List.getElem_cons_zero, List.getElem_cons_succ])
                go_simp
                have hB5 := hB.alloc hB.size (Obj.cells #[.string s, .slice a11 n11 c11] 65)
                refine hK.out _ _ hB5 (fun hHeld => ?_)
                clear hK K
                (try simp only [Act.put, List.setIfInBounds_toArray, List.set_cons_zero, List.set_cons_succ, List.getElem_toArray, List.getElem_cons_zero, List.getElem_cons_succ])
                refine wpAnyH_ready (rs := [11]) (by kernel_rfl) (by simp) ?_
                refine AllReadyH.cons rfl (fun K hK => ?_) ?_
                · refine step_nx (by rfl) _ _ (by rfl) (by rfl) (hM8.out _) ⟨s, a11, c11, E11⟩ W1.heap.size (by rw [← HN11.out]; rfl) (elem_new _ _ _ _).1 (by rw [HN11.out]; exact (elem_new _ _ _ _).2) ⟨HSS.out, .inr (HAP.out.later ((Below.refl _ _).alloc (Nat.le_refl _) _))⟩ hlen8 ?_
                  intro v8 w8 hM9 _
                  refine hK.out _ _ hM9.b (fun hHeld => ?_)
                  clear hK K
                  (try simp only [Act.put, List.setIfInBounds_toArray, List.set_cons_zero, List.set_cons_succ, List.getElem_toArray, List.getElem_cons_zero, List.getElem_cons_succ])
                  refine wpAnyH_take (i := 12) (v := ?_) rfl (by kernel_rfl) (by kernel_rfl) (by kernel_rfl) (fun _ _ _ h => h) (Or.inl ⟨by rfl, ?_⟩) (by assumption) ?_
                  rotate_left
                  · (intro wx hSw; go_simp; (try with_reducible rfl); (try omega))
                  (try simp only [Act.put, List.setIfInBounds_toArray, List.set_cons_zero, List.set_cons_succ, List.getElem_toArray, List.getElem_cons_zero, List.getElem_cons_succ])
                  refine wpAnyH_done (by kernel_rfl) ?_ _
                  go_wp2
                  exact ⟨⟨i + 1, M ++ [⟨s, a11, c11, E11⟩], by omega, by go_num, hM9, hid0 (HNX.out _ rfl HAA.out)⟩, by simp [intOf]; omega⟩
                exact AllReadyH.nil
              exact AllReadyH.nil
            exact AllReadyH.nil
          exact AllReadyH.nil
        exact AllReadyH.nil
      obtain rfl : i = No := by omega
      have hie : ¬ (i : Int) < (i : Int) := by omega
      have hbo : M.map nd = old.map (bothF p1 p2) := by have h := hT.out; rwa [List.take_of_length_le (by rw [HNo.out]; omega)] at h
      obtain ⟨a4, c4, rfl, hN4⟩ := hM.names (by omega)
      have hbf : ∀ y ∈ M, y.E.length ≤ 400000 := fun y hy => by
        have h2 : nd y ∈ old.map (bothF p1 p2) := by rw [← hbo]; exact List.mem_map_of_mem hy
        obtain ⟨x, hx, e⟩ := List.mem_map.1 h2
        have h3 : ofB (bagN p1 x.s.data.toList ++ bagN p2 x.s.data.toList) = y.E.map pr := congrArg Prod.snd e
        have h4 := len_ofB (bagN p1 x.s.data.toList ++ bagN p2 x.s.data.toList)
        have h5 := bag_joint HL.out.l1 HL.out.l2 HL.out.j2 x.s.data.toList
        rw [h3, List.length_map, List.length_append] at h4
        omega
      have hS4 := hS3.below hM.b
      have hPB := hPB.out M hbo
      rw [HR1.out] at hPB
      have CR3 : DwC wr a ps.length c a1' old.length c1' a4 M.length c4 (dRowsM old M ps).1 (dRowsM old M ps).2 := dwC_of (HP.out.later hS4.b) ⟨HL.out.o.later hS4.b, hN4, HL.out.lo, hbf⟩
      have h3s := hid0 (fun (h3 : (dRowsM old M ps).2 = 0) => dRows_small h3)
      rw [HNo.out] at CR3
      obtain ⟨m4, hm4⟩ : ∃ m, M.length = m := ⟨_, rfl⟩
      rw [hm4] at CR3 ⊢
      have HE1 := hid0 (HE1.out.later hM.b)
      have HE2 := hid0 (HE2.out.later hM.b)
      obtain ⟨hor, heq⟩ := hPB
      clear hN4 hT hbo hbf hm4 hlt hS3 hM hml
      by_cases h3 : (dRowsM old M ps).2 = 0
      · have heq := heq h3
        obtain ⟨s1, s2⟩ := h3s.out h3
        obtain ⟨s3, s4⟩ := HS1.out
        obtain ⟨s5, s6⟩ := hsm.out
        rw [h3] at CR3
        have CR3 := hid0 CR3
        have m1 := HM1.out
        have m2 := HM2.out
        have hl1 : E1.length ≤ 24000 := by rw [← m1, List.length_map] at s4; exact s4
        have hl2 : E2.length ≤ 24000 := by rw [← m2, List.length_map] at s6; exact s6
        have AD := hid0 (fun (W : World) (hW : Below wr.heap.size wr W) => refAdd_any a8 a10 c8 c10 E1 E2 W (HE1.out.later hW) (HE2.out.later hW) (by omega) (by rw [absS_append, m1, m2]; omega))
        rw [← m1, ← m2] at heq
        have HQ := hid0 heq
        have HS2 := hid0 s2
        clear heq h3 hor s1 s2 s3 s4 s5 s6 m1 m2 hl1 hl2 h3s
        go_wp2_with (first | ((with_reducible refine wp_getB hS4.v.at_ Tryz.underlying24 ?_ ?_ ?_ ?_); (rfl); (exact sizePlan); (rfl); simp only [Act.put]) | (go_at_call 27; (with_reducible refine (CR3.out.out _ (Below.refl _ _)).mono ?_); rintro e w5 ⟨⟨a5, c5, E3, rfl, hc5, hE3, hm3⟩, hb5⟩; (have hS5 := hS4.below hb5); (have HE3 := hid0 hE3); (have HM3 := hid0 hm3); clear hE3 hm3) | (go_at_call 30; go_must (refine (CA.out _).mono ?_; rintro e w6 ⟨rfl, hb6⟩; (have hS6 := hS5.below hb6))) | (go_at_call 26; go_must (refine (AD.out _ (below_through hb6 hb5.size hb5)).mono ?_; rintro e w7 ⟨⟨a6, c6, E6, rfl, hc6, hE6, hm6⟩, hb7⟩; (have hS7 := hS6.below hb7); (have HE6 := hid0 hE6); (have HM6 := hid0 hm6); clear hE6 hm6)) | (go_at_call 22; go_must (refine (refSame_any a5 a6 c5 c6 E3 E6 w7 (HE3.out.later (below_through hb7 hb6.size hb6)) HE6.out (by have h := HS2.out; rw [← HM3.out, List.length_map] at h; omega) (by rw [HM3.out, HM6.out, HQ.out])).mono ?_; rintro e w8 ⟨rfl, hb8⟩; (have hS8 := hS7.below hb8))) | fail)
        go_ret
        exact ⟨ret_bool (by simp), hS8.b⟩
      · rcases hor.resolve_left h3 with h3 | h3
        all_goals
          rw [h3] at CR3
          have CR3 := hid0 CR3
          clear h3 hor heq h3s
          go_wp2_with (first | ((with_reducible refine wp_getB hS4.v.at_ Tryz.underlying24 ?_ ?_ ?_ ?_); (rfl); (exact sizePlan); (rfl); simp only [Act.put]) | (go_at_call 27; (with_reducible refine (CR3.out.out _ (Below.refl _ _)).mono ?_); rintro e w5 ⟨⟨a5, c5, E3, rfl, hc5, hE3, hm3⟩, hb5⟩; (have hS5 := hS4.below hb5)) | (go_at_call 30; go_must (refine (CA.out _).mono ?_; rintro e w6 ⟨rfl, hb6⟩; (have hS6 := hS5.below hb6))) | fail)
          go_ret
          exact ⟨rfl, hS6.b⟩
    · have hnil := dRowsM_none h2
      rw [hnil, hf2] at CR20
      rw [hf2] at h2
      have CR2 := hid0 CR20
      have hf0 : (f2 == 0) = false := by simpa using h2
      generalize mid.length = nm at *
      clear hnil hPB hsm hw2 hmo hmid hNm CR20 hf2 hR2 R2
      go_wp2_with (first | ((with_reducible refine wp_getB hS2.v.at_ Tryz.underlying24 ?_ ?_ ?_ ?_); (rfl); (exact sizePlan); (rfl); simp only [Act.put]) | (go_at_call 27; (with_reducible refine (CR2.out.out _ (Below.refl _ _)).mono ?_); rintro e w3 ⟨⟨a10, c10, E2, rfl, hc2, hE2, hm2⟩, hb3⟩; (have hS3 := hS2.below hb3); (have x0 := hS3.u.cell 0 rfl); (have x1 := hS3.u.cell 1 rfl); (have hl2 : E2.length = 0 := (by have := congrArg List.length hm2; simpa using this)); clear hm2 hE2) | (go_at_call 30; go_must (refine (CA.out _).mono ?_; rintro e w9 ⟨rfl, hb9⟩; (have hS9 := hS3.below hb9))) | fail)
      go_ret
      exact ⟨ret_bool (by simp), hS9.b⟩
  · have hnil := dRowsM_none h1
    rw [hnil] at CR
    have CR := hid0 CR
    generalize (dRowsM old p1 ps).2 = f at h1 CR
    have hf0 : (f == 0) = false := by simpa using h1
    clear hnil
    go_wp2_with (first | ((with_reducible refine wp_getB hS.v.at_ Tryz.underlying24 ?_ ?_ ?_ ?_); (rfl); (exact sizePlan); (rfl); simp only [Act.put]) | (go_at_call 27; (with_reducible refine (CR.out.out _ hS.b).mono ?_); rintro e w1 ⟨⟨a8, c8, E1, rfl, hc1, hE1, hm1⟩, hb1⟩; (have hS1 := hS.below hb1); (have y0 := hS1.u.cell 0 rfl); (have y1 := hS1.u.cell 1 rfl); (have hl1 : E1.length = 0 := (by have := congrArg List.length hm1; simpa using this)); clear hm1 hE1) | (go_at_call 30; go_must (refine (CA.out _).mono ?_; rintro e w9 ⟨rfl, hb9⟩; (have hS9 := hS1.below hb9))) | fail)
    go_ret
    exact ⟨ret_bool (by simp), hS9.b⟩
end Go.Proofs.YtfdkajefcplfjaaGreat
