/- Several of my texts laid together, each as it was: T27. Conditions: each names its own. -/
import Derived.Test.YtadidikegfiedabD4
/- TracePurges: the law's call, in whatever memory: it is true. Conditions: the steps' cells are known. -/
namespace Go.Proofs.Ytadidikegfiedab
open Go.RowKit

theorem filt_at {α : Type} (p : α → Bool) : ∀ (D : List α) (i : Nat) (h : i < D.length), p D[i] = true → (D.filter p)[((D.take i).filter p).length]? = some D[i]
  | x :: D, 0, _, hp => by
    have hp : p x = true := hp
    simp [hp]
  | x :: D, i + 1, h, hp => by
    have ih := filt_at p D i (by simpa using h) (by simpa using hp)
    rw [List.take_succ_cons, List.filter_cons, List.filter_cons]
    by_cases hx : p x = true
    · rw [if_pos hx, if_pos hx, List.length_cons, List.getElem?_cons_succ]
      simpa using ih
    · rw [if_neg hx, if_neg hx]
      simpa using ih
theorem keep_next (k : Int) (D : List Dat) (i : Nat) (h : i < D.length) : (keepD k (D.take (i + 1))).length = (keepD k (D.take i)).length + (if k < D[i].1 then 1 else 0) := by
  rw [List.take_succ_eq_append_getElem h, keepD_append, List.length_append]
  congr 1
  unfold keepD
  by_cases hx : k < D[i].1
  · rw [if_pos hx]; simp [hx]
  · rw [if_neg hx]; simp [hx]
structure SPr (b9 b7 : Nat) (us vs : List Value) (w0 W : World) : Prop where
  v9 : VarB W b9 us
  v7 : VarB W b7 vs
  b : Below w0.heap.size w0 W
theorem SPr.below {b9 b7 : Nat} {us vs : List Value} {w0 W W' : World} (h : SPr b9 b7 us vs w0 W) (hb : Below W.heap.size W W') : SPr b9 b7 us vs w0 W' := ⟨h.v9.below hb, h.v7.below hb, below_through hb h.b.size h.b⟩
set_option maxHeartbeats 8000000 in
set_option maxRecDepth 1000000 in
theorem lawTracePurges (a : Option Addr) (c : Nat) (S : List StX) (low less : Int) (w : World) (h : StepsAt w a S) :
    Calls Try.prog 4 #[.slice a S.length c, .int .i64 low, .int .i64 less] w fun e w' => e = .returned (.bool true) ∧ Below w.heap.size w w' := by
  have CP0 := play_any a c S w h
  have CA := hid0 awake16_any
  obtain ⟨N, hN⟩ : ∃ N, S.length = N := ⟨_, rfl⟩
  rw [hN] at CP0 ⊢
  clear h hN
  go_enter Try.func4, Try.ntmps4
  have HCP := hid0 CP0
  clear CP0
  go_wp2_with fail
  refine Calls.mono HCP.out ?_
  rintro e w2 ⟨⟨i, la, lc, L, ba, cb, Bs, pl, rfl, hi, hL, hB, hI⟩, hb2⟩
  obtain ⟨n, hn⟩ : ∃ n, L.length = n := ⟨_, rfl⟩
  obtain ⟨nb, hnb⟩ : ∃ nb, Bs.length = nb := ⟨_, rfl⟩
  rw [hn, hnb]
  have hfw : n ≤ 240000 := by have := hI.few; rw [List.length_map] at this; omega
  have V3 := VarB.new w2 [.int .i64 0, .slice la n lc, .slice ba nb cb, .int .i64 pl] 28
  have hbA : Below w2.heap.size w2 (w2.alloc (Obj.cells #[.int .i64 0, .slice la n lc, .slice ba nb cb, .int .i64 pl] 28)) := (Below.refl _ _).alloc (Nat.le_refl _) _
  replace hL := hL.later hbA
  have HBW := hid0 (below_through hbA hb2.size hb2)
  have HN := hid0 hn
  have hc0 := V3.cell 0 rfl
  have hc1 := V3.cell 1 rfl
  have HL := hid0 hL
  have HV := hid0 V3
  have CPu := trPurge_any 0 la lc L low _ hL (by rw [hn]; omega)
  rw [hn] at CPu
  have HCPu := hid0 CPu
  clear hI hn hnb hbA hb2 HCP hB hL V3 CPu hi
  go_wp2_with fail
  refine Calls.mono HCPu.out ?_
  generalize w2.alloc (Obj.cells #[.int .i64 0, .slice la n lc, .slice ba nb cb, .int .i64 pl] 28) = w3 at *
  generalize w2.heap.size = b7 at *
  rintro e w4 ⟨v9, F9, rfl, hM9, hF9⟩
  obtain ⟨a9, c9, rfl, _, hE9⟩ := hM9.ents
  have hF9l : F9.length ≤ 240000 := by
    have h1 := congrArg List.length hF9
    rw [List.length_map] at h1
    have h2 := List.length_filter_le (fun x : Dat => decide (low < x.1)) (L.map dat)
    rw [List.length_map, HN.out] at h2
    unfold keepD at h1
    omega
  obtain ⟨n9, hn9⟩ : ∃ n9, F9.length = n9 := ⟨_, rfl⟩
  rw [hn9] at hF9l ⊢
  have HN9 := hid0 hn9
  have HF9 := hid0 hF9
  have V9 := VarB.new w4 [.int .i64 0, .slice a9 n9 c9] 25
  have hbB : Below w4.heap.size w4 (w4.alloc (Obj.cells #[.int .i64 0, .slice a9 n9 c9] 25)) := (Below.refl _ _).alloc (Nat.le_refl _) _
  have HBW := hid0 (below_through (below_through hbB hM9.b.size hM9.b) HBW.out.size HBW.out)
  have HL := hid0 ((HL.out.later hM9.b).later hbB)
  have HV7 := hid0 ((HV.out.below hM9.b).below hbB)
  have HE9 := hid0 (hE9.later hbB)
  have HV9 := hid0 V9
  clear hM9 hE9 hF9 hn9 V9 hbB HCPu HV hc0 hc1
  go_wp2_with fail
  generalize w4.alloc (Obj.cells #[.int .i64 0, .slice a9 n9 c9] 25) = w6 at *
  generalize w4.heap.size = b9 at *
  go_loopw [10, 11] (fun mv iv wr => ∃ i : Nat, i ≤ n ∧ mv = .int .i64 ((keepD low ((L.map dat).take i)).length : Nat) ∧ iv = .int .i64 i ∧ Below w6.heap.size w6 wr) (fun _ iv _ => n - (intOf iv).toNat)
  case atStart => exact ⟨0, Nat.zero_le _, rfl, rfl, Below.refl _ _⟩
  case round =>
    obtain ⟨i, hi, rfl, rfl, hB⟩ := hrel
    have hc1 := (HV7.out.below hB).cell 1 rfl
    by_cases hlt : i < n
    rotate_left
    · obtain rfl : i = n := by omega
      have e : (L.map dat).take i = L.map dat := List.take_of_length_le (by rw [List.length_map, HN.out]; exact Nat.le_refl _)
      have hk : (keepD low ((L.map dat).take i)).length = n9 := by
        rw [e, ← HF9.out, List.length_map, HN9.out]
      rw [hk]
      have HB := hid0 hB
      have HK1 := hid0 (show keepD low (F9.map dat) = F9.map dat by rw [HF9.out, keepD_keep, if_neg (by omega)])
      have HK2 := hid0 (show keepD (min low less) (F9.map dat) = F9.map dat by
        rw [HF9.out, keepD_keep]
        by_cases hm : min low less < low
        · rw [if_pos hm]
        · rw [if_neg hm]
          have : min low less = low := by have := Int.min_le_left low less; omega
          rw [this])
      have CP := hid0 (fun W (hS : SPr b9 b7 [.int .i64 0, .slice a9 n9 c9] [.int .i64 0, .slice la i lc, .slice ba nb cb, .int .i64 pl] w6 W) (k : Int) => (show Calls Try.prog 12 #[.agg #[.int .i64 0, .slice a9 n9 c9], .int .i64 k] W (fun e w' => ∃ v F, e = .returned (.agg #[.int .i64 0, v]) ∧ MkN 0 W w' v F ∧ F.map dat = keepD k (F9.map dat)) from by
        have h := trPurge_any 0 a9 c9 F9 k W (HE9.out.later hS.b) (by rw [HN9.out]; omega)
        rwa [HN9.out] at h))
      have CS := hid0 (fun W (hS : SPr b9 b7 [.int .i64 0, .slice a9 n9 c9] [.int .i64 0, .slice la i lc, .slice ba nb cb, .int .i64 pl] w6 W) (aR : Option Addr) (cR : Nat) (FR : List Ent) (nR : Nat) (hn : FR.length = nR) (hE : EntsAt W aR FR) (he : FR.map dat = F9.map dat) => (show Calls Try.prog 14 #[.agg #[.int .i64 0, .slice aR nR cR], .agg #[.int .i64 0, .slice a9 n9 c9]] W (fun e w' => e = .returned (.bool true) ∧ Below W.heap.size W w') from by
        have h := refSameN_any 0 aR a9 cR c9 FR F9 W hE (HE9.out.later hS.b) (by have := congrArg List.length he; rw [List.length_map, List.length_map, HN9.out] at this; omega) he
        rwa [hn, HN9.out] at h))
      have hS : SPr b9 b7 [.int .i64 0, .slice a9 n9 c9] [.int .i64 0, .slice la i lc, .slice ba nb cb, .int .i64 pl] w6 wr := ⟨HV9.out.below hB, HV7.out.below hB, hB⟩
      clear hk e hB
      go_wp2_with fail
      have hS := hS.below (Below.drew (Below.refl _ _))
      clear hc1
      refine wp_region_held_drew (S := SPr b9 b7 [.int .i64 0, .slice a9 n9 c9] [.int .i64 0, .slice la i lc, .slice ba nb cb, .int .i64 pl] w6) (by kernel_rfl) hS (fun hHeld => ?_)
      generalize wr.drew = W0 at hS hHeld ⊢
      refine wpAnyH_ready (rs := [0]) (by kernel_rfl) (by simp) ?_
      refine AllReadyH.cons rfl (fun K hK => ?_) AllReadyH.nil
      go_simp
      refine (CA.out _).mono ?_
      rintro e WA ⟨rfl, hbA⟩
      have hS := hS.below hbA
      clear hbA
      refine hK.out _ _ hS (fun hHeld => ?_)
      clear hK K
      (try simp only [Act.put, List.setIfInBounds_toArray, List.set_cons_zero, List.set_cons_succ, List.getElem_toArray, List.getElem_cons_zero, List.getElem_cons_succ])
      refine wpAnyH_take (i := 1) (v := ?_) rfl (by kernel_rfl) (by kernel_rfl) (by kernel_rfl) (fun _ _ _ h => h) (Or.inl ⟨by rfl, ?_⟩) (by assumption) ?_
      rotate_left
      · (intro wx hSw; have l0 := hSw.v9.cell 0 rfl; have l1 := hSw.v9.cell 1 rfl; have m0 := hSw.v7.cell 0 rfl; go_simp; (try with_reducible rfl); (try omega))
      (try simp only [Act.put, List.setIfInBounds_toArray, List.set_cons_zero, List.set_cons_succ, List.getElem_toArray, List.getElem_cons_zero, List.getElem_cons_succ])
      refine wpAnyH_take (i := 2) (v := ?_) rfl (by kernel_rfl) (by kernel_rfl) (by kernel_rfl) (fun _ _ _ h => h) (Or.inl ⟨by rfl, ?_⟩) (by assumption) ?_
      rotate_left
      · (intro wx hSw; have l0 := hSw.v9.cell 0 rfl; have l1 := hSw.v9.cell 1 rfl; have m0 := hSw.v7.cell 0 rfl; go_simp; (try with_reducible rfl); (try omega))
      (try simp only [Act.put, List.setIfInBounds_toArray, List.set_cons_zero, List.set_cons_succ, List.getElem_toArray, List.getElem_cons_zero, List.getElem_cons_succ])
      refine wpAnyH_take (i := 3) (v := ?_) rfl (by kernel_rfl) (by kernel_rfl) (by kernel_rfl) (fun _ _ _ h => h) (Or.inl ⟨by rfl, ?_⟩) (by assumption) ?_
      rotate_left
      · (intro wx hSw; have l0 := hSw.v9.cell 0 rfl; have l1 := hSw.v9.cell 1 rfl; have m0 := hSw.v7.cell 0 rfl; go_simp; (try with_reducible rfl); (try omega))
      (try simp only [Act.put, List.setIfInBounds_toArray, List.set_cons_zero, List.set_cons_succ, List.getElem_toArray, List.getElem_cons_zero, List.getElem_cons_succ])
      refine wpAnyH_take (i := 4) (v := ?_) rfl (by kernel_rfl) (by kernel_rfl) (by kernel_rfl) (fun _ _ _ h => h) (Or.inl ⟨by rfl, ?_⟩) (by assumption) ?_
      rotate_left
      · (intro wx hSw; have l0 := hSw.v9.cell 0 rfl; have l1 := hSw.v9.cell 1 rfl; have m0 := hSw.v7.cell 0 rfl; go_simp; (try with_reducible rfl); (try omega))
      (try simp only [Act.put, List.setIfInBounds_toArray, List.set_cons_zero, List.set_cons_succ, List.getElem_toArray, List.getElem_cons_zero, List.getElem_cons_succ])
      refine wpAnyH_take (i := 5) (v := ?_) rfl (by kernel_rfl) (by kernel_rfl) (by kernel_rfl) (fun _ _ _ h => h) (Or.inl ⟨by rfl, ?_⟩) (by assumption) ?_
      rotate_left
      · (intro wx hSw; have l0 := hSw.v9.cell 0 rfl; have l1 := hSw.v9.cell 1 rfl; have m0 := hSw.v7.cell 0 rfl; go_simp; (try with_reducible rfl); (try omega))
      (try simp only [Act.put, List.setIfInBounds_toArray, List.set_cons_zero, List.set_cons_succ, List.getElem_toArray, List.getElem_cons_zero, List.getElem_cons_succ])
      refine wpAnyH_take (i := 6) (v := .bool true) rfl (by kernel_rfl) (by kernel_rfl) (by kernel_rfl) (fun _ _ _ h => h) (Or.inl ⟨by rfl, ?_⟩) (by assumption) ?_
      · (intro wx hSw; go_simp; (try with_reducible rfl); (try simp))
      (try simp only [Act.put, List.setIfInBounds_toArray, List.set_cons_zero, List.set_cons_succ, List.getElem_toArray, List.getElem_cons_zero, List.getElem_cons_succ])
      refine wpAnyH_take (i := 7) (v := ?_) rfl (by kernel_rfl) (by kernel_rfl) (by kernel_rfl) (fun _ _ _ h => h) (Or.inl ⟨by rfl, ?_⟩) (by assumption) ?_
      rotate_left
      · (intro wx hSw; have l0 := hSw.v9.cell 0 rfl; have l1 := hSw.v9.cell 1 rfl; have m0 := hSw.v7.cell 0 rfl; go_simp; (try with_reducible rfl); (try omega))
      (try simp only [Act.put, List.setIfInBounds_toArray, List.set_cons_zero, List.set_cons_succ, List.getElem_toArray, List.getElem_cons_zero, List.getElem_cons_succ])
      refine wpAnyH_take (i := 8) (v := ?_) rfl (by kernel_rfl) (by kernel_rfl) (by kernel_rfl) (fun _ _ _ h => h) (Or.inl ⟨by rfl, ?_⟩) (by assumption) ?_
      rotate_left
      · (intro wx hSw; have l0 := hSw.v9.cell 0 rfl; have l1 := hSw.v9.cell 1 rfl; have m0 := hSw.v7.cell 0 rfl; go_simp; (try with_reducible rfl); (try omega))
      (try simp only [Act.put, List.setIfInBounds_toArray, List.set_cons_zero, List.set_cons_succ, List.getElem_toArray, List.getElem_cons_zero, List.getElem_cons_succ])
      refine wpAnyH_take (i := 9) (v := ?_) rfl (by kernel_rfl) (by kernel_rfl) (by kernel_rfl) (fun _ _ _ h => h) (Or.inl ⟨by rfl, ?_⟩) (by assumption) ?_
      rotate_left
      · (intro wx hSw; have l0 := hSw.v9.cell 0 rfl; have l1 := hSw.v9.cell 1 rfl; have m0 := hSw.v7.cell 0 rfl; go_simp; (try with_reducible rfl); (try omega))
      (try simp only [Act.put, List.setIfInBounds_toArray, List.set_cons_zero, List.set_cons_succ, List.getElem_toArray, List.getElem_cons_zero, List.getElem_cons_succ])
      refine wpAnyH_take (i := 10) (v := ?_) rfl (by kernel_rfl) (by kernel_rfl) (by kernel_rfl) (fun _ _ _ h => h) (Or.inl ⟨by rfl, ?_⟩) (by assumption) ?_
      rotate_left
      · (intro wx hSw; have l0 := hSw.v9.cell 0 rfl; have l1 := hSw.v9.cell 1 rfl; have m0 := hSw.v7.cell 0 rfl; go_simp; (try with_reducible rfl); (try omega))
      (try simp only [Act.put, List.setIfInBounds_toArray, List.set_cons_zero, List.set_cons_succ, List.getElem_toArray, List.getElem_cons_zero, List.getElem_cons_succ])
      refine wpAnyH_take (i := 12) (v := ?_) rfl (by kernel_rfl) (by kernel_rfl) (by kernel_rfl) (fun _ _ _ h => h) (Or.inl ⟨by rfl, ?_⟩) (by assumption) ?_
      rotate_left
      · (intro wx hSw; have l0 := hSw.v9.cell 0 rfl; have l1 := hSw.v9.cell 1 rfl; have m0 := hSw.v7.cell 0 rfl; go_simp; (try with_reducible rfl); (try omega))
      (try simp only [Act.put, List.setIfInBounds_toArray, List.set_cons_zero, List.set_cons_succ, List.getElem_toArray, List.getElem_cons_zero, List.getElem_cons_succ])
      refine wpAnyH_ready (rs := [11]) (by kernel_rfl) (by simp) ?_
      refine AllReadyH.cons rfl (fun K hK => ?_) AllReadyH.nil
      go_simp
      refine Calls.mono (CP.out _ hS low) ?_
      rintro e WR ⟨vR, FR, rfl, hMR, hFR⟩
      have hS := hS.below hMR.b
      obtain ⟨aR, cR, rfl, _, hER⟩ := hMR.ents
      have HER := hid0 hER
      have HFR := hid0 hFR
      obtain ⟨nR, hnR⟩ : ∃ nR, FR.length = nR := ⟨_, rfl⟩
      have HNR := hid0 hnR
      rw [hnR]
      clear hMR hER hFR hnR
      refine hK.out _ _ hS (fun hHeld => ?_)
      clear hK K
      (try simp only [Act.put, List.setIfInBounds_toArray, List.set_cons_zero, List.set_cons_succ, List.getElem_toArray, List.getElem_cons_zero, List.getElem_cons_succ])
      refine wpAnyH_ready (rs := [13]) (by kernel_rfl) (by simp) ?_
      refine AllReadyH.cons rfl (fun K hK => ?_) AllReadyH.nil
      go_simp
      refine Calls.mono (CS.out _ hS aR cR FR nR HNR.out HER.out (HFR.out.trans HK1.out)) ?_
      rintro e WS ⟨rfl, hbS⟩
      have hS := hS.below hbS
      clear hbS HER HFR HNR
      refine hK.out _ _ hS (fun hHeld => ?_)
      clear hK K
      (try simp only [Act.put, List.setIfInBounds_toArray, List.set_cons_zero, List.set_cons_succ, List.getElem_toArray, List.getElem_cons_zero, List.getElem_cons_succ])
      refine wpAnyH_take (i := 14) (v := ?_) rfl (by kernel_rfl) (by kernel_rfl) (by kernel_rfl) (fun _ _ _ h => h) (Or.inl ⟨by rfl, ?_⟩) (by assumption) ?_
      rotate_left
      · (intro wx hSw; have l0 := hSw.v9.cell 0 rfl; have l1 := hSw.v9.cell 1 rfl; have m0 := hSw.v7.cell 0 rfl; go_simp; (try with_reducible rfl); (try omega))
      (try simp only [Act.put, List.setIfInBounds_toArray, List.set_cons_zero, List.set_cons_succ, List.getElem_toArray, List.getElem_cons_zero, List.getElem_cons_succ])
      refine wpAnyH_take (i := 15) (v := ?_) rfl (by kernel_rfl) (by kernel_rfl) (by kernel_rfl) (fun _ _ _ h => h) (Or.inl ⟨by rfl, ?_⟩) (by assumption) ?_
      rotate_left
      · (intro wx hSw; have l0 := hSw.v9.cell 0 rfl; have l1 := hSw.v9.cell 1 rfl; have m0 := hSw.v7.cell 0 rfl; go_simp; (try with_reducible rfl); (try omega))
      (try simp only [Act.put, List.setIfInBounds_toArray, List.set_cons_zero, List.set_cons_succ, List.getElem_toArray, List.getElem_cons_zero, List.getElem_cons_succ])
      refine wpAnyH_take (i := 16) (v := ?_) rfl (by kernel_rfl) (by kernel_rfl) (by kernel_rfl) (fun _ _ _ h => h) (Or.inl ⟨by rfl, ?_⟩) (by assumption) ?_
      rotate_left
      · (intro wx hSw; have l0 := hSw.v9.cell 0 rfl; have l1 := hSw.v9.cell 1 rfl; have m0 := hSw.v7.cell 0 rfl; go_simp; (try with_reducible rfl); (try omega))
      (try simp only [Act.put, List.setIfInBounds_toArray, List.set_cons_zero, List.set_cons_succ, List.getElem_toArray, List.getElem_cons_zero, List.getElem_cons_succ])
      refine wpAnyH_take (i := 17) (v := ?_) rfl (by kernel_rfl) (by kernel_rfl) (by kernel_rfl) (fun _ _ _ h => h) (Or.inl ⟨by rfl, ?_⟩) (by assumption) ?_
      rotate_left
      · (intro wx hSw; have l0 := hSw.v9.cell 0 rfl; have l1 := hSw.v9.cell 1 rfl; have m0 := hSw.v7.cell 0 rfl; go_simp; (try with_reducible rfl); (try omega))
      (try simp only [Act.put, List.setIfInBounds_toArray, List.set_cons_zero, List.set_cons_succ, List.getElem_toArray, List.getElem_cons_zero, List.getElem_cons_succ])
      refine wpAnyH_take (i := 18) (v := ?_) rfl (by kernel_rfl) (by kernel_rfl) (by kernel_rfl) (fun _ _ _ h => h) (Or.inl ⟨by rfl, ?_⟩) (by assumption) ?_
      rotate_left
      · (intro wx hSw; have l0 := hSw.v9.cell 0 rfl; have l1 := hSw.v9.cell 1 rfl; have m0 := hSw.v7.cell 0 rfl; go_simp; (try with_reducible rfl); (try omega))
      (try simp only [Act.put, List.setIfInBounds_toArray, List.set_cons_zero, List.set_cons_succ, List.getElem_toArray, List.getElem_cons_zero, List.getElem_cons_succ])
      refine wpAnyH_take (i := 19) (v := ?_) rfl (by kernel_rfl) (by kernel_rfl) (by kernel_rfl) (fun _ _ _ h => h) (Or.inl ⟨by rfl, ?_⟩) (by assumption) ?_
      rotate_left
      · (intro wx hSw; have l0 := hSw.v9.cell 0 rfl; have l1 := hSw.v9.cell 1 rfl; have m0 := hSw.v7.cell 0 rfl; go_simp; (try with_reducible rfl); (try omega))
      (try simp only [Act.put, List.setIfInBounds_toArray, List.set_cons_zero, List.set_cons_succ, List.getElem_toArray, List.getElem_cons_zero, List.getElem_cons_succ])
      refine wpAnyH_take (i := 21) (v := ?_) rfl (by kernel_rfl) (by kernel_rfl) (by kernel_rfl) (fun _ _ _ h => h) (Or.inl ⟨by rfl, ?_⟩) (by assumption) ?_
      rotate_left
      · (intro wx hSw; have l0 := hSw.v9.cell 0 rfl; have l1 := hSw.v9.cell 1 rfl; have m0 := hSw.v7.cell 0 rfl; go_simp; (try with_reducible rfl); (try omega))
      (try simp only [Act.put, List.setIfInBounds_toArray, List.set_cons_zero, List.set_cons_succ, List.getElem_toArray, List.getElem_cons_zero, List.getElem_cons_succ])
      refine wpAnyH_ready (rs := [20]) (by kernel_rfl) (by simp) ?_
      refine AllReadyH.cons rfl (fun K hK => ?_) AllReadyH.nil
      go_simp
      refine Calls.mono (CP.out _ hS (min low less)) ?_
      rintro e WR ⟨vR, FR, rfl, hMR, hFR⟩
      have hS := hS.below hMR.b
      obtain ⟨aR, cR, rfl, _, hER⟩ := hMR.ents
      have HER := hid0 hER
      have HFR := hid0 hFR
      obtain ⟨nR, hnR⟩ : ∃ nR, FR.length = nR := ⟨_, rfl⟩
      have HNR := hid0 hnR
      rw [hnR]
      clear hMR hER hFR hnR
      refine hK.out _ _ hS (fun hHeld => ?_)
      clear hK K
      (try simp only [Act.put, List.setIfInBounds_toArray, List.set_cons_zero, List.set_cons_succ, List.getElem_toArray, List.getElem_cons_zero, List.getElem_cons_succ])
      refine wpAnyH_ready (rs := [22]) (by kernel_rfl) (by simp) ?_
      refine AllReadyH.cons rfl (fun K hK => ?_) AllReadyH.nil
      go_simp
      refine Calls.mono (CS.out _ hS aR cR FR nR HNR.out HER.out (HFR.out.trans HK2.out)) ?_
      rintro e WS ⟨rfl, hbS⟩
      have hS := hS.below hbS
      clear hbS HER HFR HNR
      refine hK.out _ _ hS (fun hHeld => ?_)
      clear hK K
      (try simp only [Act.put, List.setIfInBounds_toArray, List.set_cons_zero, List.set_cons_succ, List.getElem_toArray, List.getElem_cons_zero, List.getElem_cons_succ])
      refine wpAnyH_take (i := 23) (v := ?_) rfl (by kernel_rfl) (by kernel_rfl) (by kernel_rfl) (fun _ _ _ h => h) (Or.inl ⟨by rfl, ?_⟩) (by assumption) ?_
      rotate_left
      · (intro wx hSw; have l0 := hSw.v9.cell 0 rfl; have l1 := hSw.v9.cell 1 rfl; have m0 := hSw.v7.cell 0 rfl; go_simp; (try with_reducible rfl); (try omega))
      (try simp only [Act.put, List.setIfInBounds_toArray, List.set_cons_zero, List.set_cons_succ, List.getElem_toArray, List.getElem_cons_zero, List.getElem_cons_succ])
      refine wpAnyH_take (i := 24) (v := ?_) rfl (by kernel_rfl) (by kernel_rfl) (by kernel_rfl) (fun _ _ _ h => h) (Or.inl ⟨by rfl, ?_⟩) (by assumption) ?_
      rotate_left
      · (intro wx hSw; have l0 := hSw.v9.cell 0 rfl; have l1 := hSw.v9.cell 1 rfl; have m0 := hSw.v7.cell 0 rfl; go_simp; (try with_reducible rfl); (try omega))
      (try simp only [Act.put, List.setIfInBounds_toArray, List.set_cons_zero, List.set_cons_succ, List.getElem_toArray, List.getElem_cons_zero, List.getElem_cons_succ])
      refine wpAnyH_take (i := 25) (v := ?_) rfl (by kernel_rfl) (by kernel_rfl) (by kernel_rfl) (fun _ _ _ h => h) (Or.inl ⟨by rfl, ?_⟩) (by assumption) ?_
      rotate_left
      · (intro wx hSw; have l0 := hSw.v9.cell 0 rfl; have l1 := hSw.v9.cell 1 rfl; have m0 := hSw.v7.cell 0 rfl; go_simp; (try with_reducible rfl); (try omega))
      (try simp only [Act.put, List.setIfInBounds_toArray, List.set_cons_zero, List.set_cons_succ, List.getElem_toArray, List.getElem_cons_zero, List.getElem_cons_succ])
      refine wpAnyH_take (i := 26) (v := ?_) rfl (by kernel_rfl) (by kernel_rfl) (by kernel_rfl) (fun _ _ _ h => h) (Or.inl ⟨by rfl, ?_⟩) (by assumption) ?_
      rotate_left
      · (intro wx hSw; have l0 := hSw.v9.cell 0 rfl; have l1 := hSw.v9.cell 1 rfl; have m0 := hSw.v7.cell 0 rfl; go_simp; (try with_reducible rfl); (try omega))
      (try simp only [Act.put, List.setIfInBounds_toArray, List.set_cons_zero, List.set_cons_succ, List.getElem_toArray, List.getElem_cons_zero, List.getElem_cons_succ])
      refine wpAnyH_take (i := 27) (v := ?_) rfl (by kernel_rfl) (by kernel_rfl) (by kernel_rfl) (fun _ _ _ h => h) (Or.inl ⟨by rfl, ?_⟩) (by assumption) ?_
      rotate_left
      · (intro wx hSw; have l0 := hSw.v9.cell 0 rfl; have l1 := hSw.v9.cell 1 rfl; have m0 := hSw.v7.cell 0 rfl; go_simp; (try with_reducible rfl); (try omega))
      (try simp only [Act.put, List.setIfInBounds_toArray, List.set_cons_zero, List.set_cons_succ, List.getElem_toArray, List.getElem_cons_zero, List.getElem_cons_succ])
      refine wpAnyH_take (i := 28) (v := ?_) rfl (by kernel_rfl) (by kernel_rfl) (by kernel_rfl) (fun _ _ _ h => h) (Or.inl ⟨by rfl, ?_⟩) (by assumption) ?_
      rotate_left
      · (intro wx hSw; have l0 := hSw.v9.cell 0 rfl; have l1 := hSw.v9.cell 1 rfl; have m0 := hSw.v7.cell 0 rfl; go_simp; (try with_reducible rfl); (try omega))
      (try simp only [Act.put, List.setIfInBounds_toArray, List.set_cons_zero, List.set_cons_succ, List.getElem_toArray, List.getElem_cons_zero, List.getElem_cons_succ])
      refine wpAnyH_take (i := 29) (v := ?_) rfl (by kernel_rfl) (by kernel_rfl) (by kernel_rfl) (fun _ _ _ h => h) (Or.inl ⟨by rfl, ?_⟩) (by assumption) ?_
      rotate_left
      · (intro wx hSw; have l0 := hSw.v9.cell 0 rfl; have l1 := hSw.v9.cell 1 rfl; have m0 := hSw.v7.cell 0 rfl; go_simp; (try with_reducible rfl); (try omega))
      (try simp only [Act.put, List.setIfInBounds_toArray, List.set_cons_zero, List.set_cons_succ, List.getElem_toArray, List.getElem_cons_zero, List.getElem_cons_succ])
      refine wpAnyH_take (i := 30) (v := ?_) rfl (by kernel_rfl) (by kernel_rfl) (by kernel_rfl) (fun _ _ _ h => h) (Or.inl ⟨by rfl, ?_⟩) (by assumption) ?_
      rotate_left
      · (intro wx hSw; have l0 := hSw.v9.cell 0 rfl; have l1 := hSw.v9.cell 1 rfl; have m0 := hSw.v7.cell 0 rfl; go_simp; (try with_reducible rfl); (try omega))
      (try simp only [Act.put, List.setIfInBounds_toArray, List.set_cons_zero, List.set_cons_succ, List.getElem_toArray, List.getElem_cons_zero, List.getElem_cons_succ])
      refine wpAnyH_take (i := 31) (v := ?_) rfl (by kernel_rfl) (by kernel_rfl) (by kernel_rfl) (fun _ _ _ h => h) (Or.inl ⟨by rfl, ?_⟩) (by assumption) ?_
      rotate_left
      · (intro wx hSw; have l0 := hSw.v9.cell 0 rfl; have l1 := hSw.v9.cell 1 rfl; have m0 := hSw.v7.cell 0 rfl; go_simp; (try with_reducible rfl); (try omega))
      (try simp only [Act.put, List.setIfInBounds_toArray, List.set_cons_zero, List.set_cons_succ, List.getElem_toArray, List.getElem_cons_zero, List.getElem_cons_succ])
      refine wpAnyH_take (i := 32) (v := ?_) rfl (by kernel_rfl) (by kernel_rfl) (by kernel_rfl) (fun _ _ _ h => h) (Or.inl ⟨by rfl, ?_⟩) (by assumption) ?_
      rotate_left
      · (intro wx hSw; have l0 := hSw.v9.cell 0 rfl; have l1 := hSw.v9.cell 1 rfl; have m0 := hSw.v7.cell 0 rfl; go_simp; (try with_reducible rfl); (try omega))
      (try simp only [Act.put, List.setIfInBounds_toArray, List.set_cons_zero, List.set_cons_succ, List.getElem_toArray, List.getElem_cons_zero, List.getElem_cons_succ])
      refine wpAnyH_done (by kernel_rfl) ?_ _
      have HSS := hid0 hS
      clear hS hHeld
      go_wp2_with fail
      go_ret
      exact ⟨rfl, below_through HSS.out.b HBW.out.size HBW.out⟩
    · have hiL : i < L.length := by rw [HN.out]; exact hlt
      obtain ⟨g2, o2, rfl, hcL⟩ := HL.out.1 (by intro e; rw [e] at hiL; exact absurd hiL (by simp))
      obtain ⟨x0, x1, x2⟩ := hcL i hiL
      replace x0 := cell_later hB x0
      replace x1 := cell_later hB x1
      replace x2 := cell_later hB x2
      have rx := HL.out.2 _ (List.getElem_mem hiL)
      have HKN := hid0 (keep_next low (L.map dat) i (by simpa using hiL))
      have HFA := hid0 (fun hx : low < L[i].s => filt_at (fun x : Dat => decide (low < x.1)) (L.map dat) i (by simpa using hiL) (by simpa [dat] using hx))
      have hds : ((L.map dat)[i]'(by simpa using hiL)).1 = L[i].s := by rw [List.getElem_map]; rfl
      have hdd : (L.map dat)[i]'(by simpa using hiL) = dat L[i] := List.getElem_map ..
      rw [hds] at HKN
      rw [hdd] at HFA
      clear hcL hds hdd
      generalize L[i] = x at x0 x1 x2 rx HKN HFA
      obtain ⟨s, mm, y2, k2, r⟩ := x
      dsimp only at x0 x1 x2 rx HKN HFA
      by_cases hgt : low < s
      · have hd : decide (low < s) = true := by simpa using hgt
        obtain ⟨m, hm⟩ : ∃ m, (keepD low ((L.map dat).take i)).length = m := ⟨_, rfl⟩
        have h1 : (F9.map dat)[m]? = some (s, mm, r) := by rw [HF9.out, ← hm]; exact HFA.out hgt
        have hm9 : m < F9.length := by
          have := (List.getElem?_eq_some_iff.1 h1).1
          simpa using this
        have hFm : dat F9[m] = (s, mm, r) := by
          rw [List.getElem?_map, List.getElem?_eq_getElem hm9] at h1
          exact Option.some.inj h1
        obtain ⟨g1, o1, rfl, hcF⟩ := HE9.out.1 (by intro e; rw [e] at hm9; exact absurd hm9 (by simp))
        obtain ⟨z0, z1, z2⟩ := hcF m hm9
        replace z0 := cell_later hB z0
        replace z1 := cell_later hB z1
        replace z2 := cell_later hB z2
        have rz := HE9.out.2 _ (List.getElem_mem hm9)
        generalize F9[m] = z at z0 z1 z2 rz hFm
        obtain ⟨s', mm', y1, k1, r'⟩ := z
        obtain ⟨rfl, rfl, rfl⟩ : s = s' ∧ mm = mm' ∧ r = r' := by
          have h2 : s' = s ∧ mm' = mm ∧ r' = r := by simpa [dat] using hFm
          exact ⟨h2.1.symm, h2.2.1.symm, h2.2.2.symm⟩
        dsimp only at z0 z1 z2 rz
        have hmn : m < n9 := by rw [← HN9.out]; exact hm9
        have CC := hid0 (fun W (hW : Below w6.heap.size w6 W) => (show Calls Try.prog 13 #[.slice y1 r.length k1, .slice y2 r.length k2] W (fun e w' => e = .returned (.int .i64 0) ∧ Below W.heap.size W w') from by
          have h := refRows_any y1 y2 k1 k2 r r W (rz.1.later hW) (rx.1.later hW) (by have := rz.2; unfold rowOK at this; unfold maxLen; omega)
          rwa [rowsV_self] at h))
        have HKN2 := hid0 (show (keepD low ((L.map dat).take (i + 1))).length = m + 1 by rw [HKN.out, if_pos hgt, hm])
        have hS : SSm b9 b7 [.int .i64 0, .slice (some ⟨g1, o1, none⟩) n9 c9] [.int .i64 0, .slice (some ⟨g2, o2, none⟩) n lc, .slice ba nb cb, .int .i64 pl] g1 (o1 + m * 3) g2 (o2 + i * 3) s mm y1 k1 y2 k2 r w6 wr := ⟨HV9.out.below hB, HV7.out.below hB, z0, z1, z2, x0, x1, x2, hB⟩
        have hge : decide ((n9 : Int) ≤ (m : Int)) = false := by simp; omega
        rw [hm]
        clear h1 hm9 hFm hcF z0 z1 z2 rz rx HFA HKN hm x1 x2
        go_wp2_with fail
        have hS := hS.below (Below.drew (Below.refl _ _))
        clear x0 hc1 hB
        refine wp_region_held_drew (S := SSm b9 b7 [.int .i64 0, .slice (some ⟨g1, o1, none⟩) n9 c9] [.int .i64 0, .slice (some ⟨g2, o2, none⟩) n lc, .slice ba nb cb, .int .i64 pl] g1 (o1 + m * 3) g2 (o2 + i * 3) s mm y1 k1 y2 k2 r w6) (by kernel_rfl) hS (fun hHeld => ?_)
        generalize wr.drew = W0 at hS hHeld ⊢
        refine wpAnyH_take (i := 0) (v := ?_) rfl (by kernel_rfl) (by kernel_rfl) (by kernel_rfl) (fun _ _ _ h => h) (Or.inl ⟨by rfl, ?_⟩) (by assumption) ?_
        rotate_left
        · (intro wx hSw; have l1 := hSw.v1.cell 1 rfl; have l2 := hSw.v2.cell 1 rfl; have q0 := hSw.p0; have q1 := hSw.p1; have q2 := hSw.p2; have r0 := hSw.q0; have r1 := hSw.q1; have r2 := hSw.q2; go_simp; (try with_reducible rfl); (try omega))
        (try simp only [Act.put, List.setIfInBounds_toArray, List.set_cons_zero, List.set_cons_succ, List.getElem_toArray, List.getElem_cons_zero])
        refine wpAnyH_take (i := 1) (v := ?_) rfl (by kernel_rfl) (by kernel_rfl) (by kernel_rfl) (fun _ _ _ h => h) (Or.inl ⟨by rfl, ?_⟩) (by assumption) ?_
        rotate_left
        · (intro wx hSw; have l1 := hSw.v1.cell 1 rfl; have l2 := hSw.v2.cell 1 rfl; have q0 := hSw.p0; have q1 := hSw.p1; have q2 := hSw.p2; have r0 := hSw.q0; have r1 := hSw.q1; have r2 := hSw.q2; go_simp; (try with_reducible rfl); (try omega))
        (try simp only [Act.put, List.setIfInBounds_toArray, List.set_cons_zero, List.set_cons_succ, List.getElem_toArray, List.getElem_cons_zero, List.getElem_cons_succ])
        refine wpAnyH_take (i := 2) (v := ?_) rfl (by kernel_rfl) (by kernel_rfl) (by kernel_rfl) (fun _ _ _ h => h) (Or.inl ⟨by rfl, ?_⟩) (by assumption) ?_
        rotate_left
        · (intro wx hSw; have l1 := hSw.v1.cell 1 rfl; have l2 := hSw.v2.cell 1 rfl; have q0 := hSw.p0; have q1 := hSw.p1; have q2 := hSw.p2; have r0 := hSw.q0; have r1 := hSw.q1; have r2 := hSw.q2; go_simp; (try with_reducible rfl); (try omega))
        (try simp only [Act.put, List.setIfInBounds_toArray, List.set_cons_zero, List.set_cons_succ, List.getElem_toArray, List.getElem_cons_zero, List.getElem_cons_succ])
        refine wpAnyH_take (i := 3) (v := ?_) rfl (by kernel_rfl) (by kernel_rfl) (by kernel_rfl) (fun _ _ _ h => h) (Or.inl ⟨by rfl, ?_⟩) (by assumption) ?_
        rotate_left
        · (intro wx hSw; have l1 := hSw.v1.cell 1 rfl; have l2 := hSw.v2.cell 1 rfl; have q0 := hSw.p0; have q1 := hSw.p1; have q2 := hSw.p2; have r0 := hSw.q0; have r1 := hSw.q1; have r2 := hSw.q2; go_simp; (try with_reducible rfl); (try omega))
        (try simp only [Act.put, List.setIfInBounds_toArray, List.set_cons_zero, List.set_cons_succ, List.getElem_toArray, List.getElem_cons_zero, List.getElem_cons_succ])
        refine wpAnyH_take (i := 4) (v := .bool false) rfl (by kernel_rfl) (by kernel_rfl) (by kernel_rfl) (fun _ _ _ h => h) (Or.inl ⟨by rfl, ?_⟩) (by assumption) ?_
        · (intro wx hSw; go_simp; (try with_reducible rfl); (try simp))
        (try simp only [Act.put, List.setIfInBounds_toArray, List.set_cons_zero, List.set_cons_succ, List.getElem_toArray, List.getElem_cons_zero, List.getElem_cons_succ])
        refine wpAnyH_take (i := 5) (v := ?_) rfl (by kernel_rfl) (by kernel_rfl) (by kernel_rfl) (fun _ _ _ h => h) (Or.inl ⟨by rfl, ?_⟩) (by assumption) ?_
        rotate_left
        · (intro wx hSw; have l1 := hSw.v1.cell 1 rfl; have l2 := hSw.v2.cell 1 rfl; have q0 := hSw.p0; have q1 := hSw.p1; have q2 := hSw.p2; have r0 := hSw.q0; have r1 := hSw.q1; have r2 := hSw.q2; go_simp; (try with_reducible rfl); (try omega))
        (try simp only [Act.put, List.setIfInBounds_toArray, List.set_cons_zero, List.set_cons_succ, List.getElem_toArray, List.getElem_cons_zero, List.getElem_cons_succ])
        refine wpAnyH_take (i := 6) (v := ?_) rfl (by kernel_rfl) (by kernel_rfl) (by kernel_rfl) (fun _ _ _ h => h) (Or.inl ⟨by rfl, ?_⟩) (by assumption) ?_
        rotate_left
        · (intro wx hSw; have l1 := hSw.v1.cell 1 rfl; have l2 := hSw.v2.cell 1 rfl; have q0 := hSw.p0; have q1 := hSw.p1; have q2 := hSw.p2; have r0 := hSw.q0; have r1 := hSw.q1; have r2 := hSw.q2; go_simp; (try with_reducible rfl); (try omega))
        (try simp only [Act.put, List.setIfInBounds_toArray, List.set_cons_zero, List.set_cons_succ, List.getElem_toArray, List.getElem_cons_zero, List.getElem_cons_succ])
        refine wpAnyH_take (i := 7) (v := ?_) rfl (by kernel_rfl) (by kernel_rfl) (by kernel_rfl) (fun _ _ _ h => h) (Or.inl ⟨by rfl, ?_⟩) (by assumption) ?_
        rotate_left
        · (intro wx hSw; have l1 := hSw.v1.cell 1 rfl; have l2 := hSw.v2.cell 1 rfl; have q0 := hSw.p0; have q1 := hSw.p1; have q2 := hSw.p2; have r0 := hSw.q0; have r1 := hSw.q1; have r2 := hSw.q2; go_simp; (try with_reducible rfl); (try omega))
        (try simp only [Act.put, List.setIfInBounds_toArray, List.set_cons_zero, List.set_cons_succ, List.getElem_toArray, List.getElem_cons_zero, List.getElem_cons_succ])
        refine wpAnyH_take (i := 8) (v := ?_) rfl (by kernel_rfl) (by kernel_rfl) (by kernel_rfl) (fun _ _ _ h => h) (Or.inl ⟨by rfl, ?_⟩) (by assumption) ?_
        rotate_left
        · (intro wx hSw; have l1 := hSw.v1.cell 1 rfl; have l2 := hSw.v2.cell 1 rfl; have q0 := hSw.p0; have q1 := hSw.p1; have q2 := hSw.p2; have r0 := hSw.q0; have r1 := hSw.q1; have r2 := hSw.q2; go_simp; (try with_reducible rfl); (try omega))
        (try simp only [Act.put, List.setIfInBounds_toArray, List.set_cons_zero, List.set_cons_succ, List.getElem_toArray, List.getElem_cons_zero, List.getElem_cons_succ])
        refine wpAnyH_take (i := 9) (v := ?_) rfl (by kernel_rfl) (by kernel_rfl) (by kernel_rfl) (fun _ _ _ h => h) (Or.inl ⟨by rfl, ?_⟩) (by assumption) ?_
        rotate_left
        · (intro wx hSw; have l1 := hSw.v1.cell 1 rfl; have l2 := hSw.v2.cell 1 rfl; have q0 := hSw.p0; have q1 := hSw.p1; have q2 := hSw.p2; have r0 := hSw.q0; have r1 := hSw.q1; have r2 := hSw.q2; go_simp; (try with_reducible rfl); (try omega))
        (try simp only [Act.put, List.setIfInBounds_toArray, List.set_cons_zero, List.set_cons_succ, List.getElem_toArray, List.getElem_cons_zero, List.getElem_cons_succ])
        refine wpAnyH_take (i := 10) (v := ?_) rfl (by kernel_rfl) (by kernel_rfl) (by kernel_rfl) (fun _ _ _ h => h) (Or.inl ⟨by rfl, ?_⟩) (by assumption) ?_
        rotate_left
        · (intro wx hSw; have l1 := hSw.v1.cell 1 rfl; have l2 := hSw.v2.cell 1 rfl; have q0 := hSw.p0; have q1 := hSw.p1; have q2 := hSw.p2; have r0 := hSw.q0; have r1 := hSw.q1; have r2 := hSw.q2; go_simp; (try with_reducible rfl); (try omega))
        (try simp only [Act.put, List.setIfInBounds_toArray, List.set_cons_zero, List.set_cons_succ, List.getElem_toArray, List.getElem_cons_zero, List.getElem_cons_succ])
        refine wpAnyH_take (i := 11) (v := ?_) rfl (by kernel_rfl) (by kernel_rfl) (by kernel_rfl) (fun _ _ _ h => h) (Or.inl ⟨by rfl, ?_⟩) (by assumption) ?_
        rotate_left
        · (intro wx hSw; have l1 := hSw.v1.cell 1 rfl; have l2 := hSw.v2.cell 1 rfl; have q0 := hSw.p0; have q1 := hSw.p1; have q2 := hSw.p2; have r0 := hSw.q0; have r1 := hSw.q1; have r2 := hSw.q2; go_simp; (try with_reducible rfl); (try omega))
        (try simp only [Act.put, List.setIfInBounds_toArray, List.set_cons_zero, List.set_cons_succ, List.getElem_toArray, List.getElem_cons_zero, List.getElem_cons_succ])
        refine wpAnyH_take (i := 12) (v := ?_) rfl (by kernel_rfl) (by kernel_rfl) (by kernel_rfl) (fun _ _ _ h => h) (Or.inl ⟨by rfl, ?_⟩) (by assumption) ?_
        rotate_left
        · (intro wx hSw; have l1 := hSw.v1.cell 1 rfl; have l2 := hSw.v2.cell 1 rfl; have q0 := hSw.p0; have q1 := hSw.p1; have q2 := hSw.p2; have r0 := hSw.q0; have r1 := hSw.q1; have r2 := hSw.q2; go_simp; (try with_reducible rfl); (try omega))
        (try simp only [Act.put, List.setIfInBounds_toArray, List.set_cons_zero, List.set_cons_succ, List.getElem_toArray, List.getElem_cons_zero, List.getElem_cons_succ])
        refine wpAnyH_take (i := 13) (v := ?_) rfl (by kernel_rfl) (by kernel_rfl) (by kernel_rfl) (fun _ _ _ h => h) (Or.inl ⟨by rfl, ?_⟩) (by assumption) ?_
        rotate_left
        · (intro wx hSw; have l1 := hSw.v1.cell 1 rfl; have l2 := hSw.v2.cell 1 rfl; have q0 := hSw.p0; have q1 := hSw.p1; have q2 := hSw.p2; have r0 := hSw.q0; have r1 := hSw.q1; have r2 := hSw.q2; go_simp; (try with_reducible rfl); (try omega))
        (try simp only [Act.put, List.setIfInBounds_toArray, List.set_cons_zero, List.set_cons_succ, List.getElem_toArray, List.getElem_cons_zero, List.getElem_cons_succ])
        refine wpAnyH_take (i := 14) (v := ?_) rfl (by kernel_rfl) (by kernel_rfl) (by kernel_rfl) (fun _ _ _ h => h) (Or.inl ⟨by rfl, ?_⟩) (by assumption) ?_
        rotate_left
        · (intro wx hSw; have l1 := hSw.v1.cell 1 rfl; have l2 := hSw.v2.cell 1 rfl; have q0 := hSw.p0; have q1 := hSw.p1; have q2 := hSw.p2; have r0 := hSw.q0; have r1 := hSw.q1; have r2 := hSw.q2; go_simp; (try with_reducible rfl); (try omega))
        (try simp only [Act.put, List.setIfInBounds_toArray, List.set_cons_zero, List.set_cons_succ, List.getElem_toArray, List.getElem_cons_zero, List.getElem_cons_succ])
        refine wpAnyH_take (i := 15) (v := ?_) rfl (by kernel_rfl) (by kernel_rfl) (by kernel_rfl) (fun _ _ _ h => h) (Or.inl ⟨by rfl, ?_⟩) (by assumption) ?_
        rotate_left
        · (intro wx hSw; have l1 := hSw.v1.cell 1 rfl; have l2 := hSw.v2.cell 1 rfl; have q0 := hSw.p0; have q1 := hSw.p1; have q2 := hSw.p2; have r0 := hSw.q0; have r1 := hSw.q1; have r2 := hSw.q2; go_simp; (try with_reducible rfl); (try omega))
        (try simp only [Act.put, List.setIfInBounds_toArray, List.set_cons_zero, List.set_cons_succ, List.getElem_toArray, List.getElem_cons_zero, List.getElem_cons_succ])
        refine wpAnyH_take (i := 16) (v := ?_) rfl (by kernel_rfl) (by kernel_rfl) (by kernel_rfl) (fun _ _ _ h => h) (Or.inl ⟨by rfl, ?_⟩) (by assumption) ?_
        rotate_left
        · (intro wx hSw; have l1 := hSw.v1.cell 1 rfl; have l2 := hSw.v2.cell 1 rfl; have q0 := hSw.p0; have q1 := hSw.p1; have q2 := hSw.p2; have r0 := hSw.q0; have r1 := hSw.q1; have r2 := hSw.q2; go_simp; (try with_reducible rfl); (try omega))
        (try simp only [Act.put, List.setIfInBounds_toArray, List.set_cons_zero, List.set_cons_succ, List.getElem_toArray, List.getElem_cons_zero, List.getElem_cons_succ])
        refine wpAnyH_take (i := 17) (v := ?_) rfl (by kernel_rfl) (by kernel_rfl) (by kernel_rfl) (fun _ _ _ h => h) (Or.inl ⟨by rfl, ?_⟩) (by assumption) ?_
        rotate_left
        · (intro wx hSw; have l1 := hSw.v1.cell 1 rfl; have l2 := hSw.v2.cell 1 rfl; have q0 := hSw.p0; have q1 := hSw.p1; have q2 := hSw.p2; have r0 := hSw.q0; have r1 := hSw.q1; have r2 := hSw.q2; go_simp; (try with_reducible rfl); (try omega))
        (try simp only [Act.put, List.setIfInBounds_toArray, List.set_cons_zero, List.set_cons_succ, List.getElem_toArray, List.getElem_cons_zero, List.getElem_cons_succ])
        refine wpAnyH_take (i := 18) (v := ?_) rfl (by kernel_rfl) (by kernel_rfl) (by kernel_rfl) (fun _ _ _ h => h) (Or.inl ⟨by rfl, ?_⟩) (by assumption) ?_
        rotate_left
        · (intro wx hSw; have l1 := hSw.v1.cell 1 rfl; have l2 := hSw.v2.cell 1 rfl; have q0 := hSw.p0; have q1 := hSw.p1; have q2 := hSw.p2; have r0 := hSw.q0; have r1 := hSw.q1; have r2 := hSw.q2; go_simp; (try with_reducible rfl); (try omega))
        (try simp only [Act.put, List.setIfInBounds_toArray, List.set_cons_zero, List.set_cons_succ, List.getElem_toArray, List.getElem_cons_zero, List.getElem_cons_succ])
        refine wpAnyH_take (i := 19) (v := .bool false) rfl (by kernel_rfl) (by kernel_rfl) (by kernel_rfl) (fun _ _ _ h => h) (Or.inl ⟨by rfl, ?_⟩) (by assumption) ?_
        · (intro wx hSw; go_simp; (try with_reducible rfl); (try simp))
        (try simp only [Act.put, List.setIfInBounds_toArray, List.set_cons_zero, List.set_cons_succ, List.getElem_toArray, List.getElem_cons_zero, List.getElem_cons_succ])
        refine wpAnyH_take (i := 20) (v := ?_) rfl (by kernel_rfl) (by kernel_rfl) (by kernel_rfl) (fun _ _ _ h => h) (Or.inl ⟨by rfl, ?_⟩) (by assumption) ?_
        rotate_left
        · (intro wx hSw; have l1 := hSw.v1.cell 1 rfl; have l2 := hSw.v2.cell 1 rfl; have q0 := hSw.p0; have q1 := hSw.p1; have q2 := hSw.p2; have r0 := hSw.q0; have r1 := hSw.q1; have r2 := hSw.q2; go_simp; (try with_reducible rfl); (try omega))
        (try simp only [Act.put, List.setIfInBounds_toArray, List.set_cons_zero, List.set_cons_succ, List.getElem_toArray, List.getElem_cons_zero, List.getElem_cons_succ])
        refine wpAnyH_take (i := 21) (v := ?_) rfl (by kernel_rfl) (by kernel_rfl) (by kernel_rfl) (fun _ _ _ h => h) (Or.inl ⟨by rfl, ?_⟩) (by assumption) ?_
        rotate_left
        · (intro wx hSw; have l1 := hSw.v1.cell 1 rfl; have l2 := hSw.v2.cell 1 rfl; have q0 := hSw.p0; have q1 := hSw.p1; have q2 := hSw.p2; have r0 := hSw.q0; have r1 := hSw.q1; have r2 := hSw.q2; go_simp; (try with_reducible rfl); (try omega))
        (try simp only [Act.put, List.setIfInBounds_toArray, List.set_cons_zero, List.set_cons_succ, List.getElem_toArray, List.getElem_cons_zero, List.getElem_cons_succ])
        refine wpAnyH_take (i := 22) (v := ?_) rfl (by kernel_rfl) (by kernel_rfl) (by kernel_rfl) (fun _ _ _ h => h) (Or.inl ⟨by rfl, ?_⟩) (by assumption) ?_
        rotate_left
        · (intro wx hSw; have l1 := hSw.v1.cell 1 rfl; have l2 := hSw.v2.cell 1 rfl; have q0 := hSw.p0; have q1 := hSw.p1; have q2 := hSw.p2; have r0 := hSw.q0; have r1 := hSw.q1; have r2 := hSw.q2; go_simp; (try with_reducible rfl); (try omega))
        (try simp only [Act.put, List.setIfInBounds_toArray, List.set_cons_zero, List.set_cons_succ, List.getElem_toArray, List.getElem_cons_zero, List.getElem_cons_succ])
        refine wpAnyH_take (i := 23) (v := ?_) rfl (by kernel_rfl) (by kernel_rfl) (by kernel_rfl) (fun _ _ _ h => h) (Or.inl ⟨by rfl, ?_⟩) (by assumption) ?_
        rotate_left
        · (intro wx hSw; have l1 := hSw.v1.cell 1 rfl; have l2 := hSw.v2.cell 1 rfl; have q0 := hSw.p0; have q1 := hSw.p1; have q2 := hSw.p2; have r0 := hSw.q0; have r1 := hSw.q1; have r2 := hSw.q2; go_simp; (try with_reducible rfl); (try omega))
        (try simp only [Act.put, List.setIfInBounds_toArray, List.set_cons_zero, List.set_cons_succ, List.getElem_toArray, List.getElem_cons_zero, List.getElem_cons_succ])
        refine wpAnyH_take (i := 24) (v := ?_) rfl (by kernel_rfl) (by kernel_rfl) (by kernel_rfl) (fun _ _ _ h => h) (Or.inl ⟨by rfl, ?_⟩) (by assumption) ?_
        rotate_left
        · (intro wx hSw; have l1 := hSw.v1.cell 1 rfl; have l2 := hSw.v2.cell 1 rfl; have q0 := hSw.p0; have q1 := hSw.p1; have q2 := hSw.p2; have r0 := hSw.q0; have r1 := hSw.q1; have r2 := hSw.q2; go_simp; (try with_reducible rfl); (try omega))
        (try simp only [Act.put, List.setIfInBounds_toArray, List.set_cons_zero, List.set_cons_succ, List.getElem_toArray, List.getElem_cons_zero, List.getElem_cons_succ])
        refine wpAnyH_take (i := 25) (v := ?_) rfl (by kernel_rfl) (by kernel_rfl) (by kernel_rfl) (fun _ _ _ h => h) (Or.inl ⟨by rfl, ?_⟩) (by assumption) ?_
        rotate_left
        · (intro wx hSw; have l1 := hSw.v1.cell 1 rfl; have l2 := hSw.v2.cell 1 rfl; have q0 := hSw.p0; have q1 := hSw.p1; have q2 := hSw.p2; have r0 := hSw.q0; have r1 := hSw.q1; have r2 := hSw.q2; go_simp; (try with_reducible rfl); (try omega))
        (try simp only [Act.put, List.setIfInBounds_toArray, List.set_cons_zero, List.set_cons_succ, List.getElem_toArray, List.getElem_cons_zero, List.getElem_cons_succ])
        refine wpAnyH_take (i := 26) (v := ?_) rfl (by kernel_rfl) (by kernel_rfl) (by kernel_rfl) (fun _ _ _ h => h) (Or.inl ⟨by rfl, ?_⟩) (by assumption) ?_
        rotate_left
        · (intro wx hSw; have l1 := hSw.v1.cell 1 rfl; have l2 := hSw.v2.cell 1 rfl; have q0 := hSw.p0; have q1 := hSw.p1; have q2 := hSw.p2; have r0 := hSw.q0; have r1 := hSw.q1; have r2 := hSw.q2; go_simp; (try with_reducible rfl); (try omega))
        (try simp only [Act.put, List.setIfInBounds_toArray, List.set_cons_zero, List.set_cons_succ, List.getElem_toArray, List.getElem_cons_zero, List.getElem_cons_succ])
        refine wpAnyH_take (i := 27) (v := ?_) rfl (by kernel_rfl) (by kernel_rfl) (by kernel_rfl) (fun _ _ _ h => h) (Or.inl ⟨by rfl, ?_⟩) (by assumption) ?_
        rotate_left
        · (intro wx hSw; have l1 := hSw.v1.cell 1 rfl; have l2 := hSw.v2.cell 1 rfl; have q0 := hSw.p0; have q1 := hSw.p1; have q2 := hSw.p2; have r0 := hSw.q0; have r1 := hSw.q1; have r2 := hSw.q2; go_simp; (try with_reducible rfl); (try omega))
        (try simp only [Act.put, List.setIfInBounds_toArray, List.set_cons_zero, List.set_cons_succ, List.getElem_toArray, List.getElem_cons_zero, List.getElem_cons_succ])
        refine wpAnyH_take (i := 28) (v := ?_) rfl (by kernel_rfl) (by kernel_rfl) (by kernel_rfl) (fun _ _ _ h => h) (Or.inl ⟨by rfl, ?_⟩) (by assumption) ?_
        rotate_left
        · (intro wx hSw; have l1 := hSw.v1.cell 1 rfl; have l2 := hSw.v2.cell 1 rfl; have q0 := hSw.p0; have q1 := hSw.p1; have q2 := hSw.p2; have r0 := hSw.q0; have r1 := hSw.q1; have r2 := hSw.q2; go_simp; (try with_reducible rfl); (try omega))
        (try simp only [Act.put, List.setIfInBounds_toArray, List.set_cons_zero, List.set_cons_succ, List.getElem_toArray, List.getElem_cons_zero, List.getElem_cons_succ])
        refine wpAnyH_take (i := 29) (v := ?_) rfl (by kernel_rfl) (by kernel_rfl) (by kernel_rfl) (fun _ _ _ h => h) (Or.inl ⟨by rfl, ?_⟩) (by assumption) ?_
        rotate_left
        · (intro wx hSw; have l1 := hSw.v1.cell 1 rfl; have l2 := hSw.v2.cell 1 rfl; have q0 := hSw.p0; have q1 := hSw.p1; have q2 := hSw.p2; have r0 := hSw.q0; have r1 := hSw.q1; have r2 := hSw.q2; go_simp; (try with_reducible rfl); (try omega))
        (try simp only [Act.put, List.setIfInBounds_toArray, List.set_cons_zero, List.set_cons_succ, List.getElem_toArray, List.getElem_cons_zero, List.getElem_cons_succ])
        refine wpAnyH_take (i := 30) (v := ?_) rfl (by kernel_rfl) (by kernel_rfl) (by kernel_rfl) (fun _ _ _ h => h) (Or.inl ⟨by rfl, ?_⟩) (by assumption) ?_
        rotate_left
        · (intro wx hSw; have l1 := hSw.v1.cell 1 rfl; have l2 := hSw.v2.cell 1 rfl; have q0 := hSw.p0; have q1 := hSw.p1; have q2 := hSw.p2; have r0 := hSw.q0; have r1 := hSw.q1; have r2 := hSw.q2; go_simp; (try with_reducible rfl); (try omega))
        (try simp only [Act.put, List.setIfInBounds_toArray, List.set_cons_zero, List.set_cons_succ, List.getElem_toArray, List.getElem_cons_zero, List.getElem_cons_succ])
        refine wpAnyH_take (i := 31) (v := ?_) rfl (by kernel_rfl) (by kernel_rfl) (by kernel_rfl) (fun _ _ _ h => h) (Or.inl ⟨by rfl, ?_⟩) (by assumption) ?_
        rotate_left
        · (intro wx hSw; have l1 := hSw.v1.cell 1 rfl; have l2 := hSw.v2.cell 1 rfl; have q0 := hSw.p0; have q1 := hSw.p1; have q2 := hSw.p2; have r0 := hSw.q0; have r1 := hSw.q1; have r2 := hSw.q2; go_simp; (try with_reducible rfl); (try omega))
        (try simp only [Act.put, List.setIfInBounds_toArray, List.set_cons_zero, List.set_cons_succ, List.getElem_toArray, List.getElem_cons_zero, List.getElem_cons_succ])
        refine wpAnyH_take (i := 32) (v := ?_) rfl (by kernel_rfl) (by kernel_rfl) (by kernel_rfl) (fun _ _ _ h => h) (Or.inl ⟨by rfl, ?_⟩) (by assumption) ?_
        rotate_left
        · (intro wx hSw; have l1 := hSw.v1.cell 1 rfl; have l2 := hSw.v2.cell 1 rfl; have q0 := hSw.p0; have q1 := hSw.p1; have q2 := hSw.p2; have r0 := hSw.q0; have r1 := hSw.q1; have r2 := hSw.q2; go_simp; (try with_reducible rfl); (try omega))
        (try simp only [Act.put, List.setIfInBounds_toArray, List.set_cons_zero, List.set_cons_succ, List.getElem_toArray, List.getElem_cons_zero, List.getElem_cons_succ])
        refine wpAnyH_take (i := 33) (v := ?_) rfl (by kernel_rfl) (by kernel_rfl) (by kernel_rfl) (fun _ _ _ h => h) (Or.inl ⟨by rfl, ?_⟩) (by assumption) ?_
        rotate_left
        · (intro wx hSw; have l1 := hSw.v1.cell 1 rfl; have l2 := hSw.v2.cell 1 rfl; have q0 := hSw.p0; have q1 := hSw.p1; have q2 := hSw.p2; have r0 := hSw.q0; have r1 := hSw.q1; have r2 := hSw.q2; go_simp; (try with_reducible rfl); (try omega))
        (try simp only [Act.put, List.setIfInBounds_toArray, List.set_cons_zero, List.set_cons_succ, List.getElem_toArray, List.getElem_cons_zero, List.getElem_cons_succ])
        refine wpAnyH_take (i := 34) (v := ?_) rfl (by kernel_rfl) (by kernel_rfl) (by kernel_rfl) (fun _ _ _ h => h) (Or.inl ⟨by rfl, ?_⟩) (by assumption) ?_
        rotate_left
        · (intro wx hSw; have l1 := hSw.v1.cell 1 rfl; have l2 := hSw.v2.cell 1 rfl; have q0 := hSw.p0; have q1 := hSw.p1; have q2 := hSw.p2; have r0 := hSw.q0; have r1 := hSw.q1; have r2 := hSw.q2; go_simp; (try with_reducible rfl); (try omega))
        (try simp only [Act.put, List.setIfInBounds_toArray, List.set_cons_zero, List.set_cons_succ, List.getElem_toArray, List.getElem_cons_zero, List.getElem_cons_succ])
        refine wpAnyH_take (i := 35) (v := .bool false) rfl (by kernel_rfl) (by kernel_rfl) (by kernel_rfl) (fun _ _ _ h => h) (Or.inl ⟨by rfl, ?_⟩) (by assumption) ?_
        · (intro wx hSw; go_simp; (try with_reducible rfl); (try simp))
        (try simp only [Act.put, List.setIfInBounds_toArray, List.set_cons_zero, List.set_cons_succ, List.getElem_toArray, List.getElem_cons_zero, List.getElem_cons_succ])
        refine wpAnyH_take (i := 36) (v := ?_) rfl (by kernel_rfl) (by kernel_rfl) (by kernel_rfl) (fun _ _ _ h => h) (Or.inl ⟨by rfl, ?_⟩) (by assumption) ?_
        rotate_left
        · (intro wx hSw; have l1 := hSw.v1.cell 1 rfl; have l2 := hSw.v2.cell 1 rfl; have q0 := hSw.p0; have q1 := hSw.p1; have q2 := hSw.p2; have r0 := hSw.q0; have r1 := hSw.q1; have r2 := hSw.q2; go_simp; (try with_reducible rfl); (try omega))
        (try simp only [Act.put, List.setIfInBounds_toArray, List.set_cons_zero, List.set_cons_succ, List.getElem_toArray, List.getElem_cons_zero, List.getElem_cons_succ])
        refine wpAnyH_take (i := 37) (v := ?_) rfl (by kernel_rfl) (by kernel_rfl) (by kernel_rfl) (fun _ _ _ h => h) (Or.inl ⟨by rfl, ?_⟩) (by assumption) ?_
        rotate_left
        · (intro wx hSw; have l1 := hSw.v1.cell 1 rfl; have l2 := hSw.v2.cell 1 rfl; have q0 := hSw.p0; have q1 := hSw.p1; have q2 := hSw.p2; have r0 := hSw.q0; have r1 := hSw.q1; have r2 := hSw.q2; go_simp; (try with_reducible rfl); (try omega))
        (try simp only [Act.put, List.setIfInBounds_toArray, List.set_cons_zero, List.set_cons_succ, List.getElem_toArray, List.getElem_cons_zero, List.getElem_cons_succ])
        refine wpAnyH_take (i := 38) (v := ?_) rfl (by kernel_rfl) (by kernel_rfl) (by kernel_rfl) (fun _ _ _ h => h) (Or.inl ⟨by rfl, ?_⟩) (by assumption) ?_
        rotate_left
        · (intro wx hSw; have l1 := hSw.v1.cell 1 rfl; have l2 := hSw.v2.cell 1 rfl; have q0 := hSw.p0; have q1 := hSw.p1; have q2 := hSw.p2; have r0 := hSw.q0; have r1 := hSw.q1; have r2 := hSw.q2; go_simp; (try with_reducible rfl); (try omega))
        (try simp only [Act.put, List.setIfInBounds_toArray, List.set_cons_zero, List.set_cons_succ, List.getElem_toArray, List.getElem_cons_zero, List.getElem_cons_succ])
        refine wpAnyH_take (i := 39) (v := ?_) rfl (by kernel_rfl) (by kernel_rfl) (by kernel_rfl) (fun _ _ _ h => h) (Or.inl ⟨by rfl, ?_⟩) (by assumption) ?_
        rotate_left
        · (intro wx hSw; have l1 := hSw.v1.cell 1 rfl; have l2 := hSw.v2.cell 1 rfl; have q0 := hSw.p0; have q1 := hSw.p1; have q2 := hSw.p2; have r0 := hSw.q0; have r1 := hSw.q1; have r2 := hSw.q2; go_simp; (try with_reducible rfl); (try omega))
        (try simp only [Act.put, List.setIfInBounds_toArray, List.set_cons_zero, List.set_cons_succ, List.getElem_toArray, List.getElem_cons_zero, List.getElem_cons_succ])
        refine wpAnyH_take (i := 40) (v := ?_) rfl (by kernel_rfl) (by kernel_rfl) (by kernel_rfl) (fun _ _ _ h => h) (Or.inl ⟨by rfl, ?_⟩) (by assumption) ?_
        rotate_left
        · (intro wx hSw; have l1 := hSw.v1.cell 1 rfl; have l2 := hSw.v2.cell 1 rfl; have q0 := hSw.p0; have q1 := hSw.p1; have q2 := hSw.p2; have r0 := hSw.q0; have r1 := hSw.q1; have r2 := hSw.q2; go_simp; (try with_reducible rfl); (try omega))
        (try simp only [Act.put, List.setIfInBounds_toArray, List.set_cons_zero, List.set_cons_succ, List.getElem_toArray, List.getElem_cons_zero, List.getElem_cons_succ])
        refine wpAnyH_take (i := 41) (v := ?_) rfl (by kernel_rfl) (by kernel_rfl) (by kernel_rfl) (fun _ _ _ h => h) (Or.inl ⟨by rfl, ?_⟩) (by assumption) ?_
        rotate_left
        · (intro wx hSw; have l1 := hSw.v1.cell 1 rfl; have l2 := hSw.v2.cell 1 rfl; have q0 := hSw.p0; have q1 := hSw.p1; have q2 := hSw.p2; have r0 := hSw.q0; have r1 := hSw.q1; have r2 := hSw.q2; go_simp; (try with_reducible rfl); (try omega))
        (try simp only [Act.put, List.setIfInBounds_toArray, List.set_cons_zero, List.set_cons_succ, List.getElem_toArray, List.getElem_cons_zero, List.getElem_cons_succ])
        refine wpAnyH_take (i := 42) (v := ?_) rfl (by kernel_rfl) (by kernel_rfl) (by kernel_rfl) (fun _ _ _ h => h) (Or.inl ⟨by rfl, ?_⟩) (by assumption) ?_
        rotate_left
        · (intro wx hSw; have l1 := hSw.v1.cell 1 rfl; have l2 := hSw.v2.cell 1 rfl; have q0 := hSw.p0; have q1 := hSw.p1; have q2 := hSw.p2; have r0 := hSw.q0; have r1 := hSw.q1; have r2 := hSw.q2; go_simp; (try with_reducible rfl); (try omega))
        (try simp only [Act.put, List.setIfInBounds_toArray, List.set_cons_zero, List.set_cons_succ, List.getElem_toArray, List.getElem_cons_zero, List.getElem_cons_succ])
        refine wpAnyH_take (i := 43) (v := ?_) rfl (by kernel_rfl) (by kernel_rfl) (by kernel_rfl) (fun _ _ _ h => h) (Or.inl ⟨by rfl, ?_⟩) (by assumption) ?_
        rotate_left
        · (intro wx hSw; have l1 := hSw.v1.cell 1 rfl; have l2 := hSw.v2.cell 1 rfl; have q0 := hSw.p0; have q1 := hSw.p1; have q2 := hSw.p2; have r0 := hSw.q0; have r1 := hSw.q1; have r2 := hSw.q2; go_simp; (try with_reducible rfl); (try omega))
        (try simp only [Act.put, List.setIfInBounds_toArray, List.set_cons_zero, List.set_cons_succ, List.getElem_toArray, List.getElem_cons_zero, List.getElem_cons_succ])
        refine wpAnyH_take (i := 44) (v := ?_) rfl (by kernel_rfl) (by kernel_rfl) (by kernel_rfl) (fun _ _ _ h => h) (Or.inl ⟨by rfl, ?_⟩) (by assumption) ?_
        rotate_left
        · (intro wx hSw; have l1 := hSw.v1.cell 1 rfl; have l2 := hSw.v2.cell 1 rfl; have q0 := hSw.p0; have q1 := hSw.p1; have q2 := hSw.p2; have r0 := hSw.q0; have r1 := hSw.q1; have r2 := hSw.q2; go_simp; (try with_reducible rfl); (try omega))
        (try simp only [Act.put, List.setIfInBounds_toArray, List.set_cons_zero, List.set_cons_succ, List.getElem_toArray, List.getElem_cons_zero, List.getElem_cons_succ])
        refine wpAnyH_take (i := 45) (v := ?_) rfl (by kernel_rfl) (by kernel_rfl) (by kernel_rfl) (fun _ _ _ h => h) (Or.inl ⟨by rfl, ?_⟩) (by assumption) ?_
        rotate_left
        · (intro wx hSw; have l1 := hSw.v1.cell 1 rfl; have l2 := hSw.v2.cell 1 rfl; have q0 := hSw.p0; have q1 := hSw.p1; have q2 := hSw.p2; have r0 := hSw.q0; have r1 := hSw.q1; have r2 := hSw.q2; go_simp; (try with_reducible rfl); (try omega))
        (try simp only [Act.put, List.setIfInBounds_toArray, List.set_cons_zero, List.set_cons_succ, List.getElem_toArray, List.getElem_cons_zero, List.getElem_cons_succ])
        refine wpAnyH_take (i := 46) (v := ?_) rfl (by kernel_rfl) (by kernel_rfl) (by kernel_rfl) (fun _ _ _ h => h) (Or.inl ⟨by rfl, ?_⟩) (by assumption) ?_
        rotate_left
        · (intro wx hSw; have l1 := hSw.v1.cell 1 rfl; have l2 := hSw.v2.cell 1 rfl; have q0 := hSw.p0; have q1 := hSw.p1; have q2 := hSw.p2; have r0 := hSw.q0; have r1 := hSw.q1; have r2 := hSw.q2; go_simp; (try with_reducible rfl); (try omega))
        (try simp only [Act.put, List.setIfInBounds_toArray, List.set_cons_zero, List.set_cons_succ, List.getElem_toArray, List.getElem_cons_zero, List.getElem_cons_succ])
        refine wpAnyH_take (i := 47) (v := ?_) rfl (by kernel_rfl) (by kernel_rfl) (by kernel_rfl) (fun _ _ _ h => h) (Or.inl ⟨by rfl, ?_⟩) (by assumption) ?_
        rotate_left
        · (intro wx hSw; have l1 := hSw.v1.cell 1 rfl; have l2 := hSw.v2.cell 1 rfl; have q0 := hSw.p0; have q1 := hSw.p1; have q2 := hSw.p2; have r0 := hSw.q0; have r1 := hSw.q1; have r2 := hSw.q2; go_simp; (try with_reducible rfl); (try omega))
        (try simp only [Act.put, List.setIfInBounds_toArray, List.set_cons_zero, List.set_cons_succ, List.getElem_toArray, List.getElem_cons_zero, List.getElem_cons_succ])
        refine wpAnyH_take (i := 48) (v := ?_) rfl (by kernel_rfl) (by kernel_rfl) (by kernel_rfl) (fun _ _ _ h => h) (Or.inl ⟨by rfl, ?_⟩) (by assumption) ?_
        rotate_left
        · (intro wx hSw; have l1 := hSw.v1.cell 1 rfl; have l2 := hSw.v2.cell 1 rfl; have q0 := hSw.p0; have q1 := hSw.p1; have q2 := hSw.p2; have r0 := hSw.q0; have r1 := hSw.q1; have r2 := hSw.q2; go_simp; (try with_reducible rfl); (try omega))
        (try simp only [Act.put, List.setIfInBounds_toArray, List.set_cons_zero, List.set_cons_succ, List.getElem_toArray, List.getElem_cons_zero, List.getElem_cons_succ])
        refine wpAnyH_take (i := 49) (v := ?_) rfl (by kernel_rfl) (by kernel_rfl) (by kernel_rfl) (fun _ _ _ h => h) (Or.inl ⟨by rfl, ?_⟩) (by assumption) ?_
        rotate_left
        · (intro wx hSw; have l1 := hSw.v1.cell 1 rfl; have l2 := hSw.v2.cell 1 rfl; have q0 := hSw.p0; have q1 := hSw.p1; have q2 := hSw.p2; have r0 := hSw.q0; have r1 := hSw.q1; have r2 := hSw.q2; go_simp; (try with_reducible rfl); (try omega))
        (try simp only [Act.put, List.setIfInBounds_toArray, List.set_cons_zero, List.set_cons_succ, List.getElem_toArray, List.getElem_cons_zero, List.getElem_cons_succ])
        refine wpAnyH_take (i := 50) (v := ?_) rfl (by kernel_rfl) (by kernel_rfl) (by kernel_rfl) (fun _ _ _ h => h) (Or.inl ⟨by rfl, ?_⟩) (by assumption) ?_
        rotate_left
        · (intro wx hSw; have l1 := hSw.v1.cell 1 rfl; have l2 := hSw.v2.cell 1 rfl; have q0 := hSw.p0; have q1 := hSw.p1; have q2 := hSw.p2; have r0 := hSw.q0; have r1 := hSw.q1; have r2 := hSw.q2; go_simp; (try with_reducible rfl); (try omega))
        (try simp only [Act.put, List.setIfInBounds_toArray, List.set_cons_zero, List.set_cons_succ, List.getElem_toArray, List.getElem_cons_zero, List.getElem_cons_succ])
        refine wpAnyH_ready (rs := [51]) (by kernel_rfl) (by simp) ?_
        refine AllReadyH.cons rfl (fun K hK => ?_) AllReadyH.nil
        go_simp
        refine (CC.out _ hS.b).mono ?_
        rintro e W9 ⟨rfl, hb9⟩
        have hS := hS.below hb9
        clear hb9
        refine hK.out _ _ hS (fun hHeld => ?_)
        clear hK K
        (try simp only [Act.put, List.setIfInBounds_toArray, List.set_cons_zero, List.set_cons_succ, List.getElem_toArray, List.getElem_cons_zero, List.getElem_cons_succ])
        refine wpAnyH_take (i := 52) (v := .bool false) rfl (by kernel_rfl) (by kernel_rfl) (by kernel_rfl) (fun _ _ _ h => h) (Or.inl ⟨by rfl, ?_⟩) (by assumption) ?_
        · (intro wx hSw; go_simp; (try with_reducible rfl); (try simp))
        (try simp only [Act.put, List.setIfInBounds_toArray, List.set_cons_zero, List.set_cons_succ, List.getElem_toArray, List.getElem_cons_zero, List.getElem_cons_succ])
        refine wpAnyH_take (i := 53) (v := ?_) rfl (by kernel_rfl) (by kernel_rfl) (by kernel_rfl) (fun _ _ _ h => h) (Or.inl ⟨by rfl, ?_⟩) (by assumption) ?_
        rotate_left
        · (intro wx hSw; have l1 := hSw.v1.cell 1 rfl; have l2 := hSw.v2.cell 1 rfl; have q0 := hSw.p0; have q1 := hSw.p1; have q2 := hSw.p2; have r0 := hSw.q0; have r1 := hSw.q1; have r2 := hSw.q2; go_simp; (try with_reducible rfl); (try omega))
        (try simp only [Act.put, List.setIfInBounds_toArray, List.set_cons_zero, List.set_cons_succ, List.getElem_toArray, List.getElem_cons_zero, List.getElem_cons_succ])
        refine wpAnyH_done (by kernel_rfl) ?_ _
        have HB := hid0 hS.b
        clear hS hHeld CC
        go_wp2_with fail
        exact ⟨⟨i + 1, by omega, by rw [HKN2.out]; push_cast; rfl, by go_num, HB.out⟩, by simp [intOf]; omega⟩
      · have hd : decide (low < s) = false := by simpa using hgt
        have HKN2 := hid0 (show (keepD low ((L.map dat).take (i + 1))).length = (keepD low ((L.map dat).take i)).length by rw [HKN.out, if_neg hgt]; rfl)
        clear HFA HKN rx x1 x2
        have HB := hid0 hB
        clear hB
        go_wp2_with fail
        exact ⟨⟨i + 1, by omega, by rw [HKN2.out], by go_num, HB.out⟩, by simp [intOf]; omega⟩
end Go.Proofs.Ytadidikegfiedab
