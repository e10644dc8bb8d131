/- Several of my texts laid together, each as it was: S14. Conditions: each names its own. -/
import Derived.Test.YtfdkajefcplfjaaC9
/- The example of stage 15 holds: the call's last step. Conditions: none. -/
namespace Go.Proofs.Ytfdkajefcplfjaa
open Go.RowKit

theorem fold_zipS : ∀ (us : List Value) (z : Array Value) (k : Nat), k + us.length ≤ z.size → (List.foldl (fun (cs : Array Value) (x : Value × Nat) => cs.setIfInBounds x.snd x.fst) z (us.zipIdx k)).toList = z.toList.take k ++ us ++ z.toList.drop (k + us.length)
  | [], z, k, _ => by simp
  | u :: us, z, k, h => by
    rw [List.zipIdx_cons, List.foldl_cons, fold_zipS us _ (k + 1) (by simp at h ⊢; omega)]
    have hk : k < z.toList.length := by simp at h ⊢; omega
    simp only [Array.toList_setIfInBounds, List.length_cons]
    rw [List.take_succ_eq_append_getElem (by simpa using hk), List.take_set_of_le (Nat.le_refl _), List.drop_set_of_lt (by omega)]
    simp [Nat.add_assoc, Nat.add_comm 1]
theorem fold20S (us : List Value) (z : Array Value) (h : us.length = 20) (hz : z.size = 20) : List.foldl (fun cs x => cs.setIfInBounds x.snd x.fst) z us.zipIdx = us.toArray := by
  apply Array.toList_inj.1
  rw [fold_zipS us z 0 (by omega)]
  simp [h, hz]
theorem A15.drew {w : World} {f q g o T U : Nat} {us vs : List Value} {W : World} (h : A15 w f q g o T U us vs W) : A15 w f q g o T U us vs W.drew := h.below (Below.drew (Below.refl _ _))
theorem fold_off : ∀ (vs : List Value) (k : Nat) (z : Array Value), List.foldl (fun (cs : Array Value) (x : Value × Nat) => cs.setIfInBounds (20 + x.snd) x.fst) z (vs.zipIdx k) = List.foldl (fun (cs : Array Value) (x : Value × Nat) => cs.setIfInBounds x.snd x.fst) z (vs.zipIdx (20 + k))
  | [], _, _ => by simp
  | v :: vs, k, z => by
    rw [List.zipIdx_cons, List.zipIdx_cons, List.foldl_cons, List.foldl_cons, fold_off vs (k + 1), Nat.add_assoc]
theorem fold_sz (us : List Value) (z : Array Value) (h : us.length = 20) (hz : z.size = 40) : (List.foldl (fun (cs : Array Value) (x : Value × Nat) => cs.setIfInBounds x.snd x.fst) z us.zipIdx).size = 40 := by
  have h3 := fold_zipS us z 0 (by omega)
  rw [← Array.length_toList, h3]; simp [h, hz]
theorem fold40S (us vs : List Value) (z : Array Value) (h : us.length = 20) (h2 : vs.length = 20) (hz : z.size = 40) : List.foldl (fun cs x => cs.setIfInBounds (20 + x.snd) x.fst) (List.foldl (fun cs x => cs.setIfInBounds x.snd x.fst) z us.zipIdx) vs.zipIdx = (us ++ vs).toArray := by
  rw [fold_off vs 0]
  apply Array.toList_inj.1
  have h3 := fold_zipS us z 0 (by omega)
  have h4 := fold_sz us z h hz
  rw [fold_zipS vs _ (20 + 0) (by omega), h3]
  simp [h, h2, hz]
set_option maxHeartbeats 8000000 in
set_option maxRecDepth 1000000 in
theorem piece15 : awakeSkel.1 := by
  intro w z1 z2 z3 z4 zQ w1 z5 z6 z7 z8 w2 w3 s3 us hul HUS Kq hKq w7 hS7
  clear z1 z2 z3 z4 z5 z6 z7 z8
  obtain ⟨vs, hvs⟩ : ∃ vs, us.set 19 (.slice (some ⟨w3.heap.size, 0, none⟩) 3 4) = vs := ⟨_, rfl⟩
  rw [hvs] at hS7
  have hvl : vs.length = 20 := by rw [← hvs, List.length_set]; exact hul
  have hu : us = (exP w.heap.size (w.heap.size + 1) (w.heap.size + 1 + 1) w3.heap.size exOs).cells := by rw [HUS.out]; rfl
  have hv : vs = (exP w.heap.size (w.heap.size + 1) (w.heap.size + 1 + 1) w3.heap.size (exOs.take 3)).cells := by rw [← hvs, HUS.out]; rfl
  have CF := hid0 (fun (W : World) (B : Nat) (h : M15 w w.heap.size (w.heap.size + 1) (w.heap.size + 1 + 1) w3.heap.size W) (hB : VarB W B us) => (show Calls Try.prog 12 #[.agg #[.slice (some ⟨B, 0, none⟩) 1 1]] W (fun e w' => e = .returned (.bool true) ∧ Below W.heap.size W w') from by
    have := shFast_any (some ⟨B, 0, none⟩) 1 [exP w.heap.size (w.heap.size + 1) (w.heap.size + 1 + 1) w3.heap.size exOs] W (h.sole (.inl rfl) (by rw [← hu]; exact hB))
    rw [ex_fast] at this
    exact this))
  have CF3 := hid0 (fun (W : World) (B : Nat) (h : M15 w w.heap.size (w.heap.size + 1) (w.heap.size + 1 + 1) w3.heap.size W) (hB : VarB W B vs) => (show Calls Try.prog 12 #[.agg #[.slice (some ⟨B, 0, none⟩) 1 1]] W (fun e w' => e = .returned (.bool false) ∧ Below W.heap.size W w') from by
    have := shFast_any (some ⟨B, 0, none⟩) 1 [exP w.heap.size (w.heap.size + 1) (w.heap.size + 1 + 1) w3.heap.size (exOs.take 3)] W (h.sole (.inr rfl) (by rw [← hv]; exact hB))
    rw [ex_fast3] at this
    exact this))
  have CPl := hid0 (fun (W : World) (h : M15 w w.heap.size (w.heap.size + 1) (w.heap.size + 1 + 1) w3.heap.size W) => (show Calls Try.prog 9 #[.agg us.toArray, .int .i64 3, .agg #[.int .i64 1, .int .i64 1, .int .i64 0, .int .i64 0, .string ⟨#[]⟩, .slice none 0 0]] W (fun e w' => e = .returned (.int .i64 2) ∧ Below W.heap.size W w') from by
    have := shPlace_any (exP w.heap.size (w.heap.size + 1) (w.heap.size + 1 + 1) w3.heap.size exOs) 3 (colX 1) W (h.part (.inl rfl)) (colX_at W (by unfold in64; omega))
    rw [show (exP w.heap.size (w.heap.size + 1) (w.heap.size + 1 + 1) w3.heap.size exOs).os = exOs from rfl, ex_place] at this
    unfold Px.val at this
    rw [← hu] at this
    exact this))
  have CRf := hid0 (fun (W : World) (B : Nat) (h : M15 w w.heap.size (w.heap.size + 1) (w.heap.size + 1 + 1) w3.heap.size W) (hB : VarB W B (us ++ vs)) => (show Calls Try.prog 6 #[.agg #[.slice (some ⟨B, 0, none⟩) 2 2]] W (fun e w' => (∃ a c, e = .returned (.slice a 1 c)) ∧ Below W.heap.size W w') from by
    have := shRefs_any (some ⟨B, 0, none⟩) 2 [exP w.heap.size (w.heap.size + 1) (w.heap.size + 1 + 1) w3.heap.size exOs, exP w.heap.size (w.heap.size + 1) (w.heap.size + 1 + 1) w3.heap.size (exOs.take 3)] W (h.both (by rw [← hu, ← hv]; exact hB)) (by show (1 + (1 + 0) : Nat) ≤ _; omega)
    rw [ex_refs] at this
    exact this.mono (by rintro e w' ⟨⟨a, c, rfl, _⟩, hb⟩; exact ⟨⟨a, c, rfl⟩, hb⟩)))
  clear hu hv HUS hvs s3 w1 w2
  have hS := A15.drew hS7
  clear hS7
  refine wp_region_held_drew (S := A15 w w.heap.size (w.heap.size + 1) (w.heap.size + 1 + 1) w3.heap.size (w3.heap.size + 1) (w3.heap.size + 1 + 1) us vs) (by kernel_rfl) hS (fun hHeld => ?_)
  generalize w7.drew = W0 at hS hHeld ⊢
  refine wpAnyH_take (i := 0) (v := .agg us.toArray) rfl (by kernel_rfl) (by kernel_rfl) (by kernel_rfl) (fun _ _ _ h => h) (yieldsIf_load_mid rfl 40 _ rfl (w3.heap.size + 1) (0) rfl us _ (fun w h => h.t.at_) Try.underlying40 rfl (by rw [hul]; exact sizePx)) (by assumption) ?_
  (try simp only [Act.put, List.setIfInBounds_toArray, List.set_cons_zero, List.set_cons_succ, List.getElem_toArray, List.getElem_cons_zero])
  refine wpAnyH_ready (rs := [1]) (by kernel_rfl) (by simp) ?_
  refine AllReadyH.cons rfl (fun K hK => ?_) AllReadyH.nil
  go_simp
  rw [fold20S us _ hul (by rfl)]
  obtain ⟨W1, hW1⟩ : ∃ W', W0.alloc (.cells us.toArray 40) = W' := ⟨_, rfl⟩
  have X1 : VarB W1 W0.heap.size us := by rw [← hW1]; exact VarB.new _ _ _
  have hS := hS.alloc (.cells us.toArray 40)
  rw [hW1] at hS
  rw [hW1]
  clear hW1
  refine hK.out _ _ hS (fun hHeld => ?_)
  clear hK K
  (try simp only [Act.put, List.setIfInBounds_toArray, List.set_cons_zero, List.set_cons_succ, List.getElem_toArray, List.getElem_cons_zero, List.getElem_cons_succ])
  refine wpAnyH_take (i := 2) (v := ?_) rfl (by kernel_rfl) (by kernel_rfl) (by kernel_rfl) (fun _ _ _ h => h) (Or.inl ⟨by rfl, ?_⟩) (by assumption) ?_
  rotate_left
  · (intro wx hSw; go_simp; (try with_reducible rfl); (try omega))
  (try simp only [Act.put, List.setIfInBounds_toArray, List.set_cons_zero, List.set_cons_succ, List.getElem_toArray, List.getElem_cons_zero, List.getElem_cons_succ])
  refine wpAnyH_ready (rs := [3]) (by kernel_rfl) (by simp) ?_
  refine AllReadyH.cons rfl (fun K hK => ?_) AllReadyH.nil
  go_simp
  refine (CF.out _ _ hS.m X1).mono ?_
  rintro e v2 ⟨rfl, hbx⟩
  have hS := hS.below hbx
  clear hbx
  refine hK.out _ _ hS (fun hHeld => ?_)
  clear hK K
  (try simp only [Act.put, List.setIfInBounds_toArray, List.set_cons_zero, List.set_cons_succ, List.getElem_toArray, List.getElem_cons_zero, List.getElem_cons_succ])
  refine wpAnyH_take (i := 4) (v := ?_) rfl (by kernel_rfl) (by kernel_rfl) (by kernel_rfl) (fun _ _ _ h => h) (Or.inl ⟨by rfl, ?_⟩) (by assumption) ?_
  rotate_left
  · (intro wx hSw; go_simp; (try with_reducible rfl); (try omega))
  (try simp only [Act.put, List.setIfInBounds_toArray, List.set_cons_zero, List.set_cons_succ, List.getElem_toArray, List.getElem_cons_zero, List.getElem_cons_succ])
  refine wpAnyH_take (i := 5) (v := .agg vs.toArray) rfl (by kernel_rfl) (by kernel_rfl) (by kernel_rfl) (fun _ _ _ h => h) (yieldsIf_load_mid rfl 40 _ rfl (w3.heap.size + 1 + 1) (0) rfl vs _ (fun w h => h.u.at_) Try.underlying40 rfl (by rw [hvl]; exact sizePx)) (by assumption) ?_
  (try simp only [Act.put, List.setIfInBounds_toArray, List.set_cons_zero, List.set_cons_succ, List.getElem_toArray, List.getElem_cons_zero, List.getElem_cons_succ])
  refine wpAnyH_ready (rs := [6]) (by kernel_rfl) (by simp) ?_
  refine AllReadyH.cons rfl (fun K hK => ?_) AllReadyH.nil
  go_simp
  rw [fold20S vs _ hvl (by rfl)]
  obtain ⟨W3, hW3⟩ : ∃ W', v2.alloc (.cells vs.toArray 40) = W' := ⟨_, rfl⟩
  have X3 : VarB W3 v2.heap.size vs := by rw [← hW3]; exact VarB.new _ _ _
  have hS := hS.alloc (.cells vs.toArray 40)
  rw [hW3] at hS
  rw [hW3]
  clear hW3
  refine hK.out _ _ hS (fun hHeld => ?_)
  clear hK K
  (try simp only [Act.put, List.setIfInBounds_toArray, List.set_cons_zero, List.set_cons_succ, List.getElem_toArray, List.getElem_cons_zero, List.getElem_cons_succ])
  refine wpAnyH_take (i := 7) (v := ?_) rfl (by kernel_rfl) (by kernel_rfl) (by kernel_rfl) (fun _ _ _ h => h) (Or.inl ⟨by rfl, ?_⟩) (by assumption) ?_
  rotate_left
  · (intro wx hSw; go_simp; (try with_reducible rfl); (try omega))
  (try simp only [Act.put, List.setIfInBounds_toArray, List.set_cons_zero, List.set_cons_succ, List.getElem_toArray, List.getElem_cons_zero, List.getElem_cons_succ])
  refine wpAnyH_ready (rs := [8]) (by kernel_rfl) (by simp) ?_
  refine AllReadyH.cons rfl (fun K hK => ?_) AllReadyH.nil
  go_simp
  refine (CF3.out _ _ hS.m X3).mono ?_
  rintro e v4 ⟨rfl, hbx⟩
  have hS := hS.below hbx
  clear hbx
  refine hK.out _ _ hS (fun hHeld => ?_)
  clear hK K
  (try simp only [Act.put, List.setIfInBounds_toArray, List.set_cons_zero, List.set_cons_succ, List.getElem_toArray, List.getElem_cons_zero, List.getElem_cons_succ])
  refine wpAnyH_take (i := 9) (v := ?_) rfl (by kernel_rfl) (by kernel_rfl) (by kernel_rfl) (fun _ _ _ h => h) (Or.inl ⟨by rfl, ?_⟩) (by assumption) ?_
  rotate_left
  · (intro wx hSw; go_simp; (try with_reducible rfl); (try omega))
  (try simp only [Act.put, List.setIfInBounds_toArray, List.set_cons_zero, List.set_cons_succ, List.getElem_toArray, List.getElem_cons_zero, List.getElem_cons_succ])
  refine wpAnyH_take (i := 10) (v := ?_) rfl (by kernel_rfl) (by kernel_rfl) (by kernel_rfl) (fun _ _ _ h => h) (Or.inl ⟨by rfl, ?_⟩) (by assumption) ?_
  rotate_left
  · (intro wx hSw; go_simp; (try with_reducible rfl); (try omega))
  (try simp only [Act.put, List.setIfInBounds_toArray, List.set_cons_zero, List.set_cons_succ, List.getElem_toArray, List.getElem_cons_zero, List.getElem_cons_succ])
  refine wpAnyH_take (i := 11) (v := ?_) rfl (by kernel_rfl) (by kernel_rfl) (by kernel_rfl) (fun _ _ _ h => h) (Or.inl ⟨by rfl, ?_⟩) (by assumption) ?_
  rotate_left
  · (intro wx hSw; go_simp; (try with_reducible rfl); (try omega))
  (try simp only [Act.put, List.setIfInBounds_toArray, List.set_cons_zero, List.set_cons_succ, List.getElem_toArray, List.getElem_cons_zero, List.getElem_cons_succ])
  refine wpAnyH_take (i := 12) (v := .agg us.toArray) rfl (by kernel_rfl) (by kernel_rfl) (by kernel_rfl) (fun _ _ _ h => h) (yieldsIf_load_mid rfl 40 _ rfl (w3.heap.size + 1) (0) rfl us _ (fun w h => h.t.at_) Try.underlying40 rfl (by rw [hul]; exact sizePx)) (by assumption) ?_
  (try simp only [Act.put, List.setIfInBounds_toArray, List.set_cons_zero, List.set_cons_succ, List.getElem_toArray, List.getElem_cons_zero, List.getElem_cons_succ])
  refine wpAnyH_ready (rs := [13]) (by kernel_rfl) (by simp) ?_
  refine AllReadyH.cons rfl (fun K hK => ?_) AllReadyH.nil
  go_simp
  refine (col15_any _ _).mono ?_
  rintro e v5 ⟨rfl, hbx⟩
  have hS := hS.below hbx
  clear hbx
  refine hK.out _ _ hS (fun hHeld => ?_)
  clear hK K
  (try simp only [Act.put, List.setIfInBounds_toArray, List.set_cons_zero, List.set_cons_succ, List.getElem_toArray, List.getElem_cons_zero, List.getElem_cons_succ])
  refine wpAnyH_ready (rs := [14]) (by kernel_rfl) (by simp) ?_
  refine AllReadyH.cons rfl (fun K hK => ?_) AllReadyH.nil
  go_simp
  refine (CPl.out _ hS.m).mono ?_
  rintro e v6 ⟨rfl, hbx⟩
  have hS := hS.below hbx
  clear hbx
  refine hK.out _ _ hS (fun hHeld => ?_)
  clear hK K
  (try simp only [Act.put, List.setIfInBounds_toArray, List.set_cons_zero, List.set_cons_succ, List.getElem_toArray, List.getElem_cons_zero, List.getElem_cons_succ])
  refine wpAnyH_take (i := 15) (v := ?_) rfl (by kernel_rfl) (by kernel_rfl) (by kernel_rfl) (fun _ _ _ h => h) (Or.inl ⟨by rfl, ?_⟩) (by assumption) ?_
  rotate_left
  · (intro wx hSw; go_simp; (try with_reducible rfl); (try omega))
  (try simp only [Act.put, List.setIfInBounds_toArray, List.set_cons_zero, List.set_cons_succ, List.getElem_toArray, List.getElem_cons_zero, List.getElem_cons_succ])
  refine wpAnyH_take (i := 16) (v := ?_) rfl (by kernel_rfl) (by kernel_rfl) (by kernel_rfl) (fun _ _ _ h => h) (Or.inl ⟨by rfl, ?_⟩) (by assumption) ?_
  rotate_left
  · (intro wx hSw; go_simp; (try with_reducible rfl); (try omega))
  (try simp only [Act.put, List.setIfInBounds_toArray, List.set_cons_zero, List.set_cons_succ, List.getElem_toArray, List.getElem_cons_zero, List.getElem_cons_succ])
  refine wpAnyH_take (i := 17) (v := ?_) rfl (by kernel_rfl) (by kernel_rfl) (by kernel_rfl) (fun _ _ _ h => h) (Or.inl ⟨by rfl, ?_⟩) (by assumption) ?_
  rotate_left
  · (intro wx hSw; go_simp; (try with_reducible rfl); (try omega))
  (try simp only [Act.put, List.setIfInBounds_toArray, List.set_cons_zero, List.set_cons_succ, List.getElem_toArray, List.getElem_cons_zero, List.getElem_cons_succ])
  refine wpAnyH_take (i := 18) (v := .agg us.toArray) rfl (by kernel_rfl) (by kernel_rfl) (by kernel_rfl) (fun _ _ _ h => h) (yieldsIf_load_mid rfl 40 _ rfl (w3.heap.size + 1) (0) rfl us _ (fun w h => h.t.at_) Try.underlying40 rfl (by rw [hul]; exact sizePx)) (by assumption) ?_
  (try simp only [Act.put, List.setIfInBounds_toArray, List.set_cons_zero, List.set_cons_succ, List.getElem_toArray, List.getElem_cons_zero, List.getElem_cons_succ])
  refine wpAnyH_take (i := 19) (v := .agg vs.toArray) rfl (by kernel_rfl) (by kernel_rfl) (by kernel_rfl) (fun _ _ _ h => h) (yieldsIf_load_mid rfl 40 _ rfl (w3.heap.size + 1 + 1) (0) rfl vs _ (fun w h => h.u.at_) Try.underlying40 rfl (by rw [hvl]; exact sizePx)) (by assumption) ?_
  (try simp only [Act.put, List.setIfInBounds_toArray, List.set_cons_zero, List.set_cons_succ, List.getElem_toArray, List.getElem_cons_zero, List.getElem_cons_succ])
  refine wpAnyH_ready (rs := [20]) (by kernel_rfl) (by simp) ?_
  refine AllReadyH.cons rfl (fun K hK => ?_) AllReadyH.nil
  go_simp
  rw [fold40S us vs _ hul hvl (by rfl), if_neg (by rw [fold_sz us _ hul (by rfl)]; omega)]; go_simp
  obtain ⟨W7, hW7⟩ : ∃ W', v6.alloc (.cells (us ++ vs).toArray 40) = W' := ⟨_, rfl⟩
  have X7 : VarB W7 v6.heap.size (us ++ vs) := by rw [← hW7]; exact VarB.new _ _ _
  have hS := hS.alloc (.cells (us ++ vs).toArray 40)
  rw [hW7] at hS
  rw [hW7]
  clear hW7
  refine hK.out _ _ hS (fun hHeld => ?_)
  clear hK K
  (try simp only [Act.put, List.setIfInBounds_toArray, List.set_cons_zero, List.set_cons_succ, List.getElem_toArray, List.getElem_cons_zero, List.getElem_cons_succ])
  refine wpAnyH_take (i := 21) (v := ?_) rfl (by kernel_rfl) (by kernel_rfl) (by kernel_rfl) (fun _ _ _ h => h) (Or.inl ⟨by rfl, ?_⟩) (by assumption) ?_
  rotate_left
  · (intro wx hSw; go_simp; (try with_reducible rfl); (try omega))
  (try simp only [Act.put, List.setIfInBounds_toArray, List.set_cons_zero, List.set_cons_succ, List.getElem_toArray, List.getElem_cons_zero, List.getElem_cons_succ])
  refine wpAnyH_ready (rs := [22]) (by kernel_rfl) (by simp) ?_
  refine AllReadyH.cons rfl (fun K hK => ?_) AllReadyH.nil
  go_simp
  refine (CRf.out _ _ hS.m X7).mono ?_
  rintro e v8 ⟨⟨a8, c8, rfl⟩, hbx⟩
  have hS := hS.below hbx
  clear hbx
  refine hK.out _ _ hS (fun hHeld => ?_)
  clear hK K
  (try simp only [Act.put, List.setIfInBounds_toArray, List.set_cons_zero, List.set_cons_succ, List.getElem_toArray, List.getElem_cons_zero, List.getElem_cons_succ])
  refine wpAnyH_take (i := 23) (v := ?_) rfl (by kernel_rfl) (by kernel_rfl) (by kernel_rfl) (fun _ _ _ h => h) (Or.inl ⟨by rfl, ?_⟩) (by assumption) ?_
  rotate_left
  · (intro wx hSw; go_simp; (try with_reducible rfl); (try omega))
  (try simp only [Act.put, List.setIfInBounds_toArray, List.set_cons_zero, List.set_cons_succ, List.getElem_toArray, List.getElem_cons_zero, List.getElem_cons_succ])
  refine wpAnyH_take (i := 24) (v := ?_) rfl (by kernel_rfl) (by kernel_rfl) (by kernel_rfl) (fun _ _ _ h => h) (Or.inl ⟨by rfl, ?_⟩) (by assumption) ?_
  rotate_left
  · (intro wx hSw; go_simp; (try with_reducible rfl); (try omega))
  (try simp only [Act.put, List.setIfInBounds_toArray, List.set_cons_zero, List.set_cons_succ, List.getElem_toArray, List.getElem_cons_zero, List.getElem_cons_succ])
  refine wpAnyH_take (i := 25) (v := ?_) rfl (by kernel_rfl) (by kernel_rfl) (by kernel_rfl) (fun _ _ _ h => h) (Or.inl ⟨by rfl, ?_⟩) (by assumption) ?_
  rotate_left
  · (intro wx hSw; go_simp; (try with_reducible rfl); (try omega))
  (try simp only [Act.put, List.setIfInBounds_toArray, List.set_cons_zero, List.set_cons_succ, List.getElem_toArray, List.getElem_cons_zero, List.getElem_cons_succ])
  refine wpAnyH_take (i := 26) (v := ?_) rfl (by kernel_rfl) (by kernel_rfl) (by kernel_rfl) (fun _ _ _ h => h) (Or.inl ⟨by rfl, ?_⟩) (by assumption) ?_
  rotate_left
  · (intro wx hSw; go_simp; (try with_reducible rfl); (try omega))
  (try simp only [Act.put, List.setIfInBounds_toArray, List.set_cons_zero, List.getElem_toArray, List.getElem_cons_zero, List.getElem_cons_succ])
  refine wpAnyH_done (by kernel_rfl) ?_ _
  have hb := hS.m.b
  clear hS hHeld
  go_wp2_with fail
  go_ret
  exact ⟨rfl, hb⟩
theorem awake15_any (w : World) : Calls Try.prog 8 #[] w fun e w' => e = .returned (.bool true) ∧ Below w.heap.size w w' := awakeSkel.2 ⟨piece15⟩ w
end Go.Proofs.Ytfdkajefcplfjaa
