/- Several of my texts laid together, each as it was: Yu. Conditions: each names its own. -/
import Derived.Test.YtfdkajefcplfjaaF3
import Derived.Test.YtfdkajefcplfjaaB8
/- The reference's Union: a contract of the call, in whatever memory. Conditions: the lists' cells are known; they are not too long. -/
namespace Go.Proofs.Ytfdkajefcplfjaa
open Go.RowKit

set_option maxHeartbeats 16000000 in
set_option maxRecDepth 1000000 in
theorem union_any {aa ab : Option Addr} {ca cb : Nat} {A C : List Int} {w : World} (hA : IntsAt w aa A) (hC : IntsAt w ab C) (hs : A.length + C.length ≤ 8000000) :
    Calls Try.prog 58 #[.slice aa A.length ca, .slice ab C.length cb] w (ListAns w (rise (A ++ C))) := by
  have HA := hid0 hA
  have HC := hid0 hC
  clear hA hC
  have M0 := made11 w w.heap.size (Nat.le_refl _)
  have B0 : Below w.heap.size w (w.alloc (.cells #[] 3)) := (Below.refl _ _).alloc (Nat.le_refl _) _
  have hA0 := HA.out.later B0
  have M0 := hid0 M0
  have B0 := hid0 B0
  have hA0 := hid0 hA0
  go_enter Try.func58, Try.ntmps58
  go_wp2_with (at_builtin; refine app_list rfl _ _ rfl rfl w.heap.size 0 (ints []) M0.out aa A.length ca rfl A rfl hA0.out (by omega) (by simp) ?_)
  intro v1 w1 hO1 hg1 hat1
  (try rw [Nat.zero_add] at hO1)
  have hB1 : Below w.heap.size w w1 := B0.out.grown hg1 B0.out.size (fun k hk => (M0.out.lt k hk).1)
  have hC1 := HC.out.later hB1
  have hO1 := hid0 hO1
  have hB1 := hid0 hB1
  have hC1 := hid0 hC1
  clear hg1 hat1 M0 B0 hA0
  go_wp2_with (at_builtin; refine app_list rfl _ _ rfl rfl w.heap.size A.length (ints [] ++ ints A) hO1.out ab C.length cb rfl C rfl hC1.out (by omega) hB1.out.size ?_)
  intro v2 w2 hO2 hg2 hat2
  have hB2 : Below w.heap.size w w2 := hB1.out.grown hg2 hB1.out.size (fun k hk => (hO1.out.lt k hk).1)
  replace hO2 : w2.ownsRow w.heap.size 3 1 v2 (A.length + C.length) (ints (A ++ C)) := by have h := hO2; simpa [ints] using h
  obtain ⟨al, cl, rfl, hcl, hIL⟩ := (IL.own hO2 (by simp)).out
  have hlen : (A ++ C).length ≤ 8000000 := by rw [List.length_append]; omega
  obtain ⟨F, hFe⟩ : ∃ F, A ++ C = F := ⟨_, rfl⟩
  rw [hFe] at hIL hlen hcl ⊢
  have hFe := hid0 hFe
  obtain ⟨M, hM⟩ : ∃ M, F.length = M := ⟨_, rfl⟩
  rw [hM] at hlen hcl ⊢
  have HM := hid0 hM
  have HF := hid0 hIL
  have hB2 := hid0 hB2
  clear hg2 hat2 hO1 hB1 hC1 hIL hM hO2 HA HC
  go_wp2_with fail
  go_loopw [5, 7] (fun v iv wr => ∃ (i : Nat) (O : List Int), i ≤ M ∧ iv = .int .i64 i ∧ IL wr v (rise (F.take i)) ∧ Below w2.heap.size w2 wr) (fun _ iv _ => M - (intOf iv).toNat)
  case atStart => exact ⟨0, [], Nat.zero_le _, rfl, by rw [List.take_zero, rise_nil]; exact IL.nil _, Below.refl _ _⟩
  case round =>
    obtain ⟨i, O0, hi, rfl, hIO, hnx⟩ := hrel
    have hsz := hnx.size
    by_cases hlt : i < M
    · have hiF : i < F.length := by rw [HM.out]; exact hlt
      have hFt := hid0 (List.take_succ_eq_append_getElem hiF)
      obtain ⟨bl, ol, rfl, hcF⟩ := HF.out (fun e => by rw [e] at hiF; exact absurd hiF (by simp))
      have hxw := hcF i hiF
      have hRl : (rise (F.take i)).length ≤ i := by have := rise_len (F.take i); rw [List.length_take] at this; omega
      have R1 := fun (h : F[i] ∈ rise (F.take i)) => rise_has h
      have R2 := fun k => rise_ins (F := F.take i) (x := F[i]) k
      have HR1 := hid0 R1
      have HR2 := hid0 R2
      generalize F[i] = x at hxw hFt HR1 HR2
      obtain ⟨ao, cO, rfl, hcO, hIO⟩ := hIO.out
      generalize hO : rise (F.take i) = O at hIO hcO hRl HR1 HR2
      have hO := hid0 hO
      obtain ⟨N, hN⟩ : ∃ N, O.length = N := ⟨_, rfl⟩
      rw [hN] at hcO hRl ⊢
      have HN := hid0 hN
      have HIO := hid0 hIO
      have hxr := cell_later hnx hxw
      have hnxH := hid0 hnx
      clear hcF hxw hIO hN R1 R2
      go_wp2_with fail
      go_loopw [8] (fun kv wr2 => ∃ k : Nat, k ≤ N ∧ kv = .int .i64 k ∧ Below wr.heap.size wr wr2 ∧ Hid (∀ j (h : j < O.length), j < k → O[j] < x)) (fun kv _ => N - (intOf kv).toNat)
      case atStart => exact ⟨0, Nat.zero_le _, rfl, Below.refl _ _, hid0 (fun j _ h => absurd h (by omega))⟩
      case round =>
        obtain ⟨k, hk, rfl, hB3, hlo⟩ := hrel
        have hs3 := hB3.size
        have hx3 := cell_later hB3 hxr
        by_cases hkN : k < N
        · have hkO : k < O.length := by rw [HN.out]; exact hkN
          obtain ⟨bo, oo, rfl, hcO2⟩ := (HIO.out.later hB3) (fun e => by rw [e] at hkO; exact absurd hkO (by simp))
          have hyk := hcO2 k hkO
          have hhi := hid0 (fun (h : k < O.length) (hlt : x < O[k]) => hlt)
          clear hcO2
          obtain ⟨y, hy⟩ : ∃ y, O[k] = y := ⟨_, rfl⟩
          rw [hy] at hyk
          have HY := hid0 hy
          clear hy hhi
          have g0 : decide ((k : Int) < (N : Int)) = true := by simpa using hkN
          by_cases hyx : y < x
          · have g1 : decide (y < x) = true := by simpa using hyx
            go_wp2_with fail
            go_quiet (fail)
            go_wp2_with fail
            exact ⟨⟨k + 1, by omega, by go_num, below_drewN hB3, hid0 (fun j h hjk => by
              rcases Nat.lt_or_ge j k with h1 | h1
              · exact hlo.out j h h1
              · obtain rfl : j = k := by omega
                rw [HY.out]; exact hyx)⟩, by simp [intOf]; omega⟩
          · have g1 : decide (y < x) = false := by simpa using hyx
            have hIO3 := hid0 (HIO.out.later hB3)
            have hnx3 := hid0 (below_through hB3 hnxH.out.size hnxH.out)
            go_wp2_with fail
            go_quiet (fail)
            generalize hWd : World.drewN wr nq = Wd
            have hyk' : Wd.cell? ⟨bo, oo + k, none⟩ = some (.int .i64 y) := by rw [← hWd]; exact hyk
            have hx3' : Wd.cell? ⟨bl, ol + i, none⟩ = some (.int .i64 x) := by rw [← hWd]; exact hx3
            have hIO4 : Hid (IntsAt Wd (some ⟨bo, oo, none⟩) O) := by rw [← hWd]; exact hIO3
            have hnx4 : Hid (Below w2.heap.size w2 Wd) := by rw [← hWd]; exact hid0 (below_drewN hnx3.out)
            clear hWd hyk hx3 g1 hIO3 hnx3 hB3
            by_cases hex : y = x
            · have g2 : (y == x) = true := by simpa using hex
              have HX := hid0 hex
              clear hex hyx
              go_wp2_with fail
              go_quiet (fail)
              go_wp2_with fail
              exact ⟨⟨i + 1, [], by omega, by go_num, by
                rw [hFt.out, HR1.out (by rw [← HX.out, ← HY.out]; exact List.getElem_mem hkO)]
                exact ⟨⟨_, _, by rw [HN.out], by rw [HN.out]; exact hcO, hIO4.out⟩⟩, below_drewN hnx4.out⟩, by simp [intOf]; omega⟩
            · have g2 : (y == x) = false := by simpa using hex
              have HX := hid0 (show ∀ h : k < O.length, x < O[k] from fun h => by rw [HY.out]; omega)
              clear hex hyx
              go_wp2_with fail
              go_quiet (fail)
              generalize hWe : World.drewN Wd nq = We
              have hIO5 : Hid (IntsAt We (some ⟨bo, oo, none⟩) O) := by rw [← hWe]; exact hIO4
              have hnx5 : Hid (Below w2.heap.size w2 We) := by rw [← hWe]; exact hid0 (below_drewN hnx4.out)
              have hx5 : We.cell? ⟨bl, ol + i, none⟩ = some (.int .i64 x) := by rw [← hWe]; exact hx3'
              clear hWe hyk' hx3' hIO4 hnx4 g0 g2
              obtain ⟨a1, c1, HS1, HS2⟩ := slice_hi (some ⟨bo, oo, none⟩) O N cO k HN.out (by omega) hcO (by omega)
              have HS0 := slice_lo (some ⟨bo, oo, none⟩) N cO k (by omega) hcO (by omega)
              have HR := hid0 (show rise (F.take (i + 1)) = O.take k ++ ([x] ++ O.drop k) by rw [hFt.out, HR2.out k (by rw [HN.out]; omega) hlo.out HX.out])
              have HN' := HN.out
              have hOl : O.length = N := HN'
              have hB : Below We.drew.heap.size We.drew We.drew := Below.refl _ _
              have hx0 : We.drew.cell? ⟨bl, ol + i, none⟩ = some (.int .i64 x) := hx5
              have HIO : Hid (IntsAt We.drew (some ⟨bo, oo, none⟩) O) := hIO5
              have hnx2 : Hid (Below w2.heap.size w2 We.drew) := hid0 (Below.drew hnx5.out)
              clear hIO5 hnx5 hx5 HN'
              go_wp2_with fail
              refine wp_region_held_drew (S := (fun W => Below We.drew.heap.size We.drew W)) (by kernel_rfl) hB (fun hHeld => ?_)
              generalize We.drew = W0 at hB hx0 HIO hnx2 hHeld ⊢
              refine wpAnyH_take (i := 1) (v := ?_) rfl (by kernel_rfl) (by kernel_rfl) (by kernel_rfl) (fun _ _ _ h => h) (Or.inl ⟨by rfl, ?_⟩) (by assumption) ?_
              rotate_left
              · (intro wx hSw; go_simp; (try with_reducible rfl); (try omega))
              (try simp only [Act.put, List.setIfInBounds_toArray, List.getElem_toArray])
              refine wpAnyH_take (i := 2) (v := ?_) rfl (by kernel_rfl) (by kernel_rfl) (by kernel_rfl) (fun _ _ _ h => h) (Or.inl ⟨by rfl, ?_⟩) (by assumption) ?_
              rotate_left
              · (intro wx hSw; go_simp; (try with_reducible rfl); (try omega))
              (try simp only [Act.put, List.setIfInBounds_toArray, List.set_cons_zero, List.set_cons_succ, List.getElem_toArray, List.getElem_cons_zero, List.getElem_cons_succ])
              refine wpAnyH_take (i := 3) (v := ?_) rfl (by kernel_rfl) (by kernel_rfl) (by kernel_rfl) (fun _ _ _ h => h) (Or.inl ⟨by rfl, ?_⟩) (by assumption) ?_
              rotate_left
              · (intro wx hSw; go_simp; (try with_reducible rfl); (try omega))
              (try simp only [Act.put, List.setIfInBounds_toArray, List.set_cons_zero, List.set_cons_succ, List.getElem_toArray, List.getElem_cons_zero, List.getElem_cons_succ])
              refine wpAnyH_take (i := 5) (v := ?_) rfl (by kernel_rfl) (by kernel_rfl) (by kernel_rfl) (fun _ _ _ h => h) (Or.inl ⟨by rfl, ?_⟩) (by assumption) ?_
              rotate_left
              · (intro wx hSw; go_simp; (try with_reducible rfl); (try omega))
              (try simp only [Act.put, List.setIfInBounds_toArray, List.set_cons_zero, List.set_cons_succ, List.getElem_toArray, List.getElem_cons_zero, List.getElem_cons_succ])
              refine wpAnyH_take (i := 6) (v := ?_) rfl (by kernel_rfl) (by kernel_rfl) (by kernel_rfl) (fun _ _ _ h => h) (Or.inl ⟨by rfl, ?_⟩) (by assumption) ?_
              rotate_left
              · (intro wx hSw; go_simp; (try with_reducible rfl); (try omega))
              (try simp only [Act.put, List.setIfInBounds_toArray, List.set_cons_zero, List.set_cons_succ, List.getElem_toArray, List.getElem_cons_zero, List.getElem_cons_succ])
              refine wpAnyH_take (i := 7) (v := ?_) rfl (by kernel_rfl) (by kernel_rfl) (by kernel_rfl) (fun _ _ _ h => h) (Or.inl ⟨by rfl, ?_⟩) (by assumption) ?_
              rotate_left
              · (intro wx hSw; go_simp; (try with_reducible rfl); (try omega))
              (try simp only [Act.put, List.setIfInBounds_toArray, List.set_cons_zero, List.set_cons_succ, List.getElem_toArray, List.getElem_cons_zero, List.getElem_cons_succ])
              refine wpAnyH_take (i := 8) (v := ?_) rfl (by kernel_rfl) (by kernel_rfl) (by kernel_rfl) (fun _ _ _ h => h) (Or.inl ⟨by rfl, ?_⟩) (by assumption) ?_
              rotate_left
              · (intro wx hSw; have q0 := cell_later hSw hx0; go_simp; (try with_reducible rfl); (try omega))
              (try simp only [Act.put, List.setIfInBounds_toArray, List.set_cons_zero, List.set_cons_succ, List.getElem_toArray, List.getElem_cons_zero, List.getElem_cons_succ])
              refine wpAnyH_take (i := 11) (v := ?_) rfl (by kernel_rfl) (by kernel_rfl) (by kernel_rfl) (fun _ _ _ h => h) (Or.inl ⟨by rfl, ?_⟩) (by assumption) ?_
              rotate_left
              · (intro wx hSw; go_simp; (try with_reducible rfl); (try omega))
              (try simp only [Act.put, List.setIfInBounds_toArray, List.set_cons_zero, List.set_cons_succ, List.getElem_toArray, List.getElem_cons_zero, List.getElem_cons_succ])
              refine wpAnyH_take (i := 12) (v := ?_) rfl (by kernel_rfl) (by kernel_rfl) (by kernel_rfl) (fun _ _ _ h => h) (Or.inl ⟨by rfl, ?_⟩) (by assumption) ?_
              rotate_left
              · (intro wx hSw; go_simp; (try with_reducible rfl); (try omega))
              (try simp only [Act.put, List.setIfInBounds_toArray, List.set_cons_zero, List.set_cons_succ, List.getElem_toArray, List.getElem_cons_zero, List.getElem_cons_succ])
              refine wpAnyH_take (i := 13) (v := ?_) rfl (by kernel_rfl) (by kernel_rfl) (by kernel_rfl) (fun _ _ _ h => h) (Or.inl ⟨by rfl, ?_⟩) (by assumption) ?_
              rotate_left
              · (intro wx hSw; go_simp; (try with_reducible rfl); (try omega))
              (try simp only [Act.put, List.setIfInBounds_toArray, List.set_cons_zero, List.set_cons_succ, List.getElem_toArray, List.getElem_cons_zero, List.getElem_cons_succ])
              refine wpAnyH_ready (rs := [0, 9]) (by kernel_rfl) (by simp) ?_
              refine AllReadyH.cons rfl (fun K hK => ?_) ?_
              · (try simp only [Act.put, List.setIfInBounds_toArray, List.set_cons_zero, List.set_cons_succ, List.getElem_toArray, List.getElem_cons_zero])
                go_simp
                obtain ⟨W1, hW1⟩ : ∃ W', W0.alloc (.cells #[] 3) = W' := ⟨_, rfl⟩
                have hO := made11 W0 W0.heap.size hB.size; rw [hW1] at hO
                have hB := hB.alloc hB.size (.cells #[] 3); rw [hW1] at hB
                rw [hW1]
                refine hK.out _ _ hB (fun hHeld => ?_)
                clear hW1
                clear hK K
                (try simp only [Act.put, List.setIfInBounds_toArray, List.set_cons_zero, List.set_cons_succ, List.getElem_toArray, List.getElem_cons_zero, List.getElem_cons_succ])
                refine wpAnyH_ready (rs := [4, 9]) (by kernel_rfl) (by simp) ?_
                refine AllReadyH.cons rfl (fun K hK => ?_) ?_
                · refine app_if (by rfl) _ _ (by rfl) (by rfl) W0.heap.size (0) (ints []) hO (some ⟨bo, oo, none⟩) (k) cO (by rfl) (O.take k) (by rw [List.length_take]; omega) (head_at k (HIO.out.later hB)) (by omega) hB.size ?_
                  intro v4 W2 hO2 hg2 hat2
                  have hB := hB.grown hg2 hB.size (fun k hk => (hO.lt k hk).1)
                  clear hO
                  have hO := hO2
                  clear hO2 hg2 hat2
                  rw [Nat.zero_add] at hO
                  refine hK.out _ _ hB (fun hHeld => ?_)
                  clear hK K
                  (try simp only [Act.put, List.setIfInBounds_toArray, List.set_cons_zero, List.set_cons_succ, List.getElem_toArray, List.getElem_cons_zero, List.getElem_cons_succ])
                  refine wpAnyH_ready (rs := [9]) (by kernel_rfl) (by simp) ?_
                  refine AllReadyH.cons rfl (fun K hK => ?_) ?_
                  · (try simp only [Act.put, List.setIfInBounds_toArray, List.set_cons_zero, List.set_cons_succ, List.getElem_toArray, List.getElem_cons_zero, List.getElem_cons_succ])
                    go_simp
                    obtain ⟨W3, hW3⟩ : ∃ W', W2.alloc (.cells #[.int .i64 x] 3) = W' := ⟨_, rfl⟩
                    have X9 : VarB W3 W2.heap.size [.int .i64 x] := by rw [← hW3]; exact VarB.new _ _ _
                    have hne9 : v4.ownBlock ≠ some W2.heap.size := fun e => by have := (hO.lt _ e).2; omega
                    have hO := hO.alloc (.cells #[.int .i64 x] 3); rw [hW3] at hO
                    have hB := hB.alloc hB.size (.cells #[.int .i64 x] 3); rw [hW3] at hB
                    rw [hW3]
                    refine hK.out _ _ hB (fun hHeld => ?_)
                    clear hW3
                    clear hK K
                    (try simp only [Act.put, List.setIfInBounds_toArray, List.set_cons_zero, List.set_cons_succ, List.getElem_toArray, List.getElem_cons_zero, List.getElem_cons_succ])
                    refine wpAnyH_ready (rs := [10]) (by kernel_rfl) (by simp) ?_
                    refine AllReadyH.cons rfl (fun K hK => ?_) ?_
                    · refine app_if (by rfl) _ _ (by rfl) (by rfl) W0.heap.size (k) (ints [] ++ ints (O.take k)) hO (some ⟨W2.heap.size, 0, none⟩) (1) 1 (by rfl) [x] rfl (fun _ => ⟨_, 0, rfl, fun i hi => by match i, hi with | 0, _ => exact X9.cell 0 rfl | i + 1, hi => exact absurd hi (by simp)⟩) (by omega) hB.size ?_
                      intro v10 W4 hO2 hg2 hat2
                      have hne2 : v10.ownBlock ≠ some W2.heap.size := by rcases hat2 with e | e; (rw [e]; exact hne9); (rw [e]; intro e2; have e3 := Option.some.inj e2; have := X9.lt; omega)
                      have X9 := X9.keep (hg2.block _ X9.lt (fun e => hne9 e.symm)) hg2.size
                      have hne9 := hne2; clear hne2
                      have hB := hB.grown hg2 hB.size (fun k hk => (hO.lt k hk).1)
                      clear hO
                      have hO := hO2
                      clear hO2 hg2 hat2
                      refine hK.out _ _ hB (fun hHeld => ?_)
                      clear hK K
                      (try simp only [Act.put, List.setIfInBounds_toArray, List.set_cons_zero, List.set_cons_succ, List.getElem_toArray, List.getElem_cons_zero, List.getElem_cons_succ])
                      refine wpAnyH_ready (rs := [14]) (by kernel_rfl) (by simp) ?_
                      refine AllReadyH.cons rfl (fun K hK => ?_) ?_
                      · refine app_if (by rfl) _ _ (by rfl) (by rfl) W0.heap.size (k + 1) (ints [] ++ ints (O.take k) ++ ints [x]) hO a1 (N - k) c1 (by rfl) (O.drop k) (by rw [List.length_drop]; omega) (HS2 _ (HIO.out.later hB)) (by omega) hB.size ?_
                        intro v14 W5 hO2 hg2 hat2
                        have hne2 : v14.ownBlock ≠ some W2.heap.size := by rcases hat2 with e | e; (rw [e]; exact hne9); (rw [e]; intro e2; have e3 := Option.some.inj e2; have := X9.lt; omega)
                        have X9 := X9.keep (hg2.block _ X9.lt (fun e => hne9 e.symm)) hg2.size
                        have hne9 := hne2; clear hne2
                        have hB := hB.grown hg2 hB.size (fun k hk => (hO.lt k hk).1)
                        clear hO
                        have hO := hO2
                        clear hO2 hg2 hat2
                        refine hK.out _ _ hB (fun hHeld => ?_)
                        clear hK K
                        (try simp only [Act.put, List.setIfInBounds_toArray, List.set_cons_zero, List.set_cons_succ, List.getElem_toArray, List.getElem_cons_zero, List.getElem_cons_succ])
                        refine wpAnyH_take (i := 15) (v := ?_) rfl (by kernel_rfl) (by kernel_rfl) (by kernel_rfl) (fun _ _ _ h => h) (Or.inl ⟨by rfl, ?_⟩) (by assumption) ?_
                        rotate_left
                        · (intro wx hSw; go_simp; (try with_reducible rfl); (try omega))
                        (try simp only [Act.put, List.setIfInBounds_toArray, List.set_cons_zero, List.set_cons_succ, List.getElem_toArray, List.getElem_cons_zero, List.getElem_cons_succ])
                        refine wpAnyH_done (by kernel_rfl) ?_ _
                        have hO : W5.ownsRow W0.heap.size 3 1 v14 (k + 1 + (N - k)) (ints (O.take k ++ ([x] ++ O.drop k))) := by have h := hO; simpa [ints] using h
                        have hO := IL.own hO (by simp only [List.length_append, List.length_take, List.length_drop, List.length_singleton]; omega)
                        have hO := hid0 hO
                        go_wp2_with fail
                        exact ⟨⟨i + 1, [], by omega, by go_num, by rw [HR.out]; exact hO.out, below_through hB hnx2.out.size hnx2.out⟩, by simp [intOf]; omega⟩
                      exact AllReadyH.nil
                    exact AllReadyH.nil
                  exact AllReadyH.nil
                refine AllReadyH.cons rfl (fun K hK => ?_) ?_
                · (try simp only [Act.put, List.setIfInBounds_toArray, List.set_cons_zero, List.set_cons_succ, List.getElem_toArray, List.getElem_cons_zero, List.getElem_cons_succ])
                  go_simp
                  obtain ⟨W2, hW2⟩ : ∃ W', W1.alloc (.cells #[.int .i64 x] 3) = W' := ⟨_, rfl⟩
                  have X9 : VarB W2 W1.heap.size [.int .i64 x] := by rw [← hW2]; exact VarB.new _ _ _
                  have hne9 : (Value.slice (some ⟨W0.heap.size, 0, none⟩) 0 0).ownBlock ≠ some W1.heap.size := fun e => by have := (hO.lt _ e).2; omega
                  have hO := hO.alloc (.cells #[.int .i64 x] 3); rw [hW2] at hO
                  have hB := hB.alloc hB.size (.cells #[.int .i64 x] 3); rw [hW2] at hB
                  rw [hW2]
                  refine hK.out _ _ hB (fun hHeld => ?_)
                  clear hW2
                  clear hK K
                  (try simp only [Act.put, List.setIfInBounds_toArray, List.set_cons_zero, List.set_cons_succ, List.getElem_toArray, List.getElem_cons_zero, List.getElem_cons_succ])
                  refine wpAnyH_ready (rs := [4]) (by kernel_rfl) (by simp) ?_
                  refine AllReadyH.cons rfl (fun K hK => ?_) ?_
                  · refine app_if (by rfl) _ _ (by rfl) (by rfl) W0.heap.size (0) (ints []) hO (some ⟨bo, oo, none⟩) (k) cO (by rfl) (O.take k) (by rw [List.length_take]; omega) (head_at k (HIO.out.later hB)) (by omega) hB.size ?_
                    intro v4 W3 hO2 hg2 hat2
                    have hne2 : v4.ownBlock ≠ some W1.heap.size := by rcases hat2 with e | e; (rw [e]; exact hne9); (rw [e]; intro e2; have e3 := Option.some.inj e2; have := X9.lt; omega)
                    have X9 := X9.keep (hg2.block _ X9.lt (fun e => hne9 e.symm)) hg2.size
                    have hne9 := hne2; clear hne2
                    have hB := hB.grown hg2 hB.size (fun k hk => (hO.lt k hk).1)
                    clear hO
                    have hO := hO2
                    clear hO2 hg2 hat2
                    rw [Nat.zero_add] at hO
                    refine hK.out _ _ hB (fun hHeld => ?_)
                    clear hK K
                    (try simp only [Act.put, List.setIfInBounds_toArray, List.set_cons_zero, List.set_cons_succ, List.getElem_toArray, List.getElem_cons_zero, List.getElem_cons_succ])
                    refine wpAnyH_ready (rs := [10]) (by kernel_rfl) (by simp) ?_
                    refine AllReadyH.cons rfl (fun K hK => ?_) ?_
                    · refine app_if (by rfl) _ _ (by rfl) (by rfl) W0.heap.size (k) (ints [] ++ ints (O.take k)) hO (some ⟨W1.heap.size, 0, none⟩) (1) 1 (by rfl) [x] rfl (fun _ => ⟨_, 0, rfl, fun i hi => by match i, hi with | 0, _ => exact X9.cell 0 rfl | i + 1, hi => exact absurd hi (by simp)⟩) (by omega) hB.size ?_
                      intro v10 W4 hO2 hg2 hat2
                      have hne2 : v10.ownBlock ≠ some W1.heap.size := by rcases hat2 with e | e; (rw [e]; exact hne9); (rw [e]; intro e2; have e3 := Option.some.inj e2; have := X9.lt; omega)
                      have X9 := X9.keep (hg2.block _ X9.lt (fun e => hne9 e.symm)) hg2.size
                      have hne9 := hne2; clear hne2
                      have hB := hB.grown hg2 hB.size (fun k hk => (hO.lt k hk).1)
                      clear hO
                      have hO := hO2
                      clear hO2 hg2 hat2
                      refine hK.out _ _ hB (fun hHeld => ?_)
                      clear hK K
                      (try simp only [Act.put, List.setIfInBounds_toArray, List.set_cons_zero, List.set_cons_succ, List.getElem_toArray, List.getElem_cons_zero, List.getElem_cons_succ])
                      refine wpAnyH_ready (rs := [14]) (by kernel_rfl) (by simp) ?_
                      refine AllReadyH.cons rfl (fun K hK => ?_) ?_
                      · refine app_if (by rfl) _ _ (by rfl) (by rfl) W0.heap.size (k + 1) (ints [] ++ ints (O.take k) ++ ints [x]) hO a1 (N - k) c1 (by rfl) (O.drop k) (by rw [List.length_drop]; omega) (HS2 _ (HIO.out.later hB)) (by omega) hB.size ?_
                        intro v14 W5 hO2 hg2 hat2
                        have hne2 : v14.ownBlock ≠ some W1.heap.size := by rcases hat2 with e | e; (rw [e]; exact hne9); (rw [e]; intro e2; have e3 := Option.some.inj e2; have := X9.lt; omega)
                        have X9 := X9.keep (hg2.block _ X9.lt (fun e => hne9 e.symm)) hg2.size
                        have hne9 := hne2; clear hne2
                        have hB := hB.grown hg2 hB.size (fun k hk => (hO.lt k hk).1)
                        clear hO
                        have hO := hO2
                        clear hO2 hg2 hat2
                        refine hK.out _ _ hB (fun hHeld => ?_)
                        clear hK K
                        (try simp only [Act.put, List.setIfInBounds_toArray, List.set_cons_zero, List.set_cons_succ, List.getElem_toArray, List.getElem_cons_zero, List.getElem_cons_succ])
                        refine wpAnyH_take (i := 15) (v := ?_) rfl (by kernel_rfl) (by kernel_rfl) (by kernel_rfl) (fun _ _ _ h => h) (Or.inl ⟨by rfl, ?_⟩) (by assumption) ?_
                        rotate_left
                        · (intro wx hSw; go_simp; (try with_reducible rfl); (try omega))
                        (try simp only [Act.put, List.setIfInBounds_toArray, List.set_cons_zero, List.set_cons_succ, List.getElem_toArray, List.getElem_cons_zero, List.getElem_cons_succ])
                        refine wpAnyH_done (by kernel_rfl) ?_ _
                        have hO : W5.ownsRow W0.heap.size 3 1 v14 (k + 1 + (N - k)) (ints (O.take k ++ ([x] ++ O.drop k))) := by have h := hO; simpa [ints] using h
                        have hO := IL.own hO (by simp only [List.length_append, List.length_take, List.length_drop, List.length_singleton]; omega)
                        have hO := hid0 hO
                        go_wp2_with fail
                        exact ⟨⟨i + 1, [], by omega, by go_num, by rw [HR.out]; exact hO.out, below_through hB hnx2.out.size hnx2.out⟩, by simp [intOf]; omega⟩
                      exact AllReadyH.nil
                    exact AllReadyH.nil
                  exact AllReadyH.nil
                exact AllReadyH.nil
              refine AllReadyH.cons rfl (fun K hK => ?_) ?_
              · (try simp only [Act.put, List.setIfInBounds_toArray, List.set_cons_zero, List.set_cons_succ, List.getElem_toArray, List.getElem_cons_zero, List.getElem_cons_succ])
                go_simp
                obtain ⟨W1, hW1⟩ : ∃ W', W0.alloc (.cells #[.int .i64 x] 3) = W' := ⟨_, rfl⟩
                have X9 : VarB W1 W0.heap.size [.int .i64 x] := by rw [← hW1]; exact VarB.new _ _ _
                have hB := hB.alloc hB.size (.cells #[.int .i64 x] 3); rw [hW1] at hB
                rw [hW1]
                refine hK.out _ _ hB (fun hHeld => ?_)
                clear hW1
                clear hK K
                (try simp only [Act.put, List.setIfInBounds_toArray, List.set_cons_zero, List.set_cons_succ, List.getElem_toArray, List.getElem_cons_zero, List.getElem_cons_succ])
                refine wpAnyH_ready (rs := [0]) (by kernel_rfl) (by simp) ?_
                refine AllReadyH.cons rfl (fun K hK => ?_) ?_
                · (try simp only [Act.put, List.setIfInBounds_toArray, List.set_cons_zero, List.set_cons_succ, List.getElem_toArray, List.getElem_cons_zero])
                  go_simp
                  obtain ⟨W2, hW2⟩ : ∃ W', W1.alloc (.cells #[] 3) = W' := ⟨_, rfl⟩
                  have hO := made11 W1 W0.heap.size hB.size; rw [hW2] at hO
                  have hB := hB.alloc hB.size (.cells #[] 3); rw [hW2] at hB
                  have hne9 : (Value.slice (some ⟨W1.heap.size, 0, none⟩) 0 0).ownBlock ≠ some W0.heap.size := by have := X9.lt; simp [Value.ownBlock]; omega
                  have X9 := X9.alloc (.cells #[] 3); rw [hW2] at X9
                  rw [hW2]
                  refine hK.out _ _ hB (fun hHeld => ?_)
                  clear hW2
                  clear hK K
                  (try simp only [Act.put, List.setIfInBounds_toArray, List.set_cons_zero, List.set_cons_succ, List.getElem_toArray, List.getElem_cons_zero, List.getElem_cons_succ])
                  refine wpAnyH_ready (rs := [4]) (by kernel_rfl) (by simp) ?_
                  refine AllReadyH.cons rfl (fun K hK => ?_) ?_
                  · refine app_if (by rfl) _ _ (by rfl) (by rfl) W0.heap.size (0) (ints []) hO (some ⟨bo, oo, none⟩) (k) cO (by rfl) (O.take k) (by rw [List.length_take]; omega) (head_at k (HIO.out.later hB)) (by omega) hB.size ?_
                    intro v4 W3 hO2 hg2 hat2
                    have hne2 : v4.ownBlock ≠ some W0.heap.size := by rcases hat2 with e | e; (rw [e]; exact hne9); (rw [e]; intro e2; have e3 := Option.some.inj e2; have := X9.lt; omega)
                    have X9 := X9.keep (hg2.block _ X9.lt (fun e => hne9 e.symm)) hg2.size
                    have hne9 := hne2; clear hne2
                    have hB := hB.grown hg2 hB.size (fun k hk => (hO.lt k hk).1)
                    clear hO
                    have hO := hO2
                    clear hO2 hg2 hat2
                    rw [Nat.zero_add] at hO
                    refine hK.out _ _ hB (fun hHeld => ?_)
                    clear hK K
                    (try simp only [Act.put, List.setIfInBounds_toArray, List.set_cons_zero, List.set_cons_succ, List.getElem_toArray, List.getElem_cons_zero, List.getElem_cons_succ])
                    refine wpAnyH_ready (rs := [10]) (by kernel_rfl) (by simp) ?_
                    refine AllReadyH.cons rfl (fun K hK => ?_) ?_
                    · refine app_if (by rfl) _ _ (by rfl) (by rfl) W0.heap.size (k) (ints [] ++ ints (O.take k)) hO (some ⟨W0.heap.size, 0, none⟩) (1) 1 (by rfl) [x] rfl (fun _ => ⟨_, 0, rfl, fun i hi => by match i, hi with | 0, _ => exact X9.cell 0 rfl | i + 1, hi => exact absurd hi (by simp)⟩) (by omega) hB.size ?_
                      intro v10 W4 hO2 hg2 hat2
                      have hne2 : v10.ownBlock ≠ some W0.heap.size := by rcases hat2 with e | e; (rw [e]; exact hne9); (rw [e]; intro e2; have e3 := Option.some.inj e2; have := X9.lt; omega)
                      have X9 := X9.keep (hg2.block _ X9.lt (fun e => hne9 e.symm)) hg2.size
                      have hne9 := hne2; clear hne2
                      have hB := hB.grown hg2 hB.size (fun k hk => (hO.lt k hk).1)
                      clear hO
                      have hO := hO2
                      clear hO2 hg2 hat2
                      refine hK.out _ _ hB (fun hHeld => ?_)
                      clear hK K
                      (try simp only [Act.put, List.setIfInBounds_toArray, List.set_cons_zero, List.set_cons_succ, List.getElem_toArray, List.getElem_cons_zero, List.getElem_cons_succ])
                      refine wpAnyH_ready (rs := [14]) (by kernel_rfl) (by simp) ?_
                      refine AllReadyH.cons rfl (fun K hK => ?_) ?_
                      · refine app_if (by rfl) _ _ (by rfl) (by rfl) W0.heap.size (k + 1) (ints [] ++ ints (O.take k) ++ ints [x]) hO a1 (N - k) c1 (by rfl) (O.drop k) (by rw [List.length_drop]; omega) (HS2 _ (HIO.out.later hB)) (by omega) hB.size ?_
                        intro v14 W5 hO2 hg2 hat2
                        have hne2 : v14.ownBlock ≠ some W0.heap.size := by rcases hat2 with e | e; (rw [e]; exact hne9); (rw [e]; intro e2; have e3 := Option.some.inj e2; have := X9.lt; omega)
                        have X9 := X9.keep (hg2.block _ X9.lt (fun e => hne9 e.symm)) hg2.size
                        have hne9 := hne2; clear hne2
                        have hB := hB.grown hg2 hB.size (fun k hk => (hO.lt k hk).1)
                        clear hO
                        have hO := hO2
                        clear hO2 hg2 hat2
                        refine hK.out _ _ hB (fun hHeld => ?_)
                        clear hK K
                        (try simp only [Act.put, List.setIfInBounds_toArray, List.set_cons_zero, List.set_cons_succ, List.getElem_toArray, List.getElem_cons_zero, List.getElem_cons_succ])
                        refine wpAnyH_take (i := 15) (v := ?_) rfl (by kernel_rfl) (by kernel_rfl) (by kernel_rfl) (fun _ _ _ h => h) (Or.inl ⟨by rfl, ?_⟩) (by assumption) ?_
                        rotate_left
                        · (intro wx hSw; go_simp; (try with_reducible rfl); (try omega))
                        (try simp only [Act.put, List.setIfInBounds_toArray, List.set_cons_zero, List.set_cons_succ, List.getElem_toArray, List.getElem_cons_zero, List.getElem_cons_succ])
                        refine wpAnyH_done (by kernel_rfl) ?_ _
                        have hO : W5.ownsRow W0.heap.size 3 1 v14 (k + 1 + (N - k)) (ints (O.take k ++ ([x] ++ O.drop k))) := by have h := hO; simpa [ints] using h
                        have hO := IL.own hO (by simp only [List.length_append, List.length_take, List.length_drop, List.length_singleton]; omega)
                        have hO := hid0 hO
                        go_wp2_with fail
                        exact ⟨⟨i + 1, [], by omega, by go_num, by rw [HR.out]; exact hO.out, below_through hB hnx2.out.size hnx2.out⟩, by simp [intOf]; omega⟩
                      exact AllReadyH.nil
                    exact AllReadyH.nil
                  exact AllReadyH.nil
                exact AllReadyH.nil
              exact AllReadyH.nil
        · have g0 : decide ((k : Int) < (N : Int)) = false := by simp; omega
          have hIO3 := hid0 (HIO.out.later hB3)
          have hnx3 := hid0 (below_through hB3 hnxH.out.size hnxH.out)
          have HX := hid0 (show ∀ h : k < O.length, x < O[k] from fun h => absurd h (by rw [HN.out]; omega))
          go_wp2_with fail
          go_quiet (fail)
          generalize hWd : World.drewN wr nq = Wd
          have hIO4 : Hid (IntsAt Wd ao O) := by rw [← hWd]; exact hIO3
          have hnx4 : Hid (Below w2.heap.size w2 Wd) := by rw [← hWd]; exact hid0 (below_drewN hnx3.out)
          have hx4 : Wd.cell? ⟨bl, ol + i, none⟩ = some (.int .i64 x) := by rw [← hWd]; exact hx3
          clear hWd hx3 hIO3 hnx3 hB3
          go_wp2_with fail
          go_quiet (fail)
          generalize hWe : World.drewN Wd nq = We
          have hIO5 : Hid (IntsAt We ao O) := by rw [← hWe]; exact hIO4
          have hnx5 : Hid (Below w2.heap.size w2 We) := by rw [← hWe]; exact hid0 (below_drewN hnx4.out)
          have hx5 : We.cell? ⟨bl, ol + i, none⟩ = some (.int .i64 x) := by rw [← hWe]; exact hx4
          clear hWe hx4 hIO4 hnx4 g0
          obtain ⟨a1, c1, HS1, HS2⟩ := slice_hi ao O N cO k HN.out (by omega) hcO (by omega)
          have HS0 := slice_lo ao N cO k (by omega) hcO (by omega)
          have HR := hid0 (show rise (F.take (i + 1)) = O.take k ++ ([x] ++ O.drop k) by rw [hFt.out, HR2.out k (by rw [HN.out]; omega) hlo.out HX.out])
          have HN' := HN.out
          have hOl : O.length = N := HN'
          have hB : Below We.drew.heap.size We.drew We.drew := Below.refl _ _
          have hx0 : We.drew.cell? ⟨bl, ol + i, none⟩ = some (.int .i64 x) := hx5
          have HIO : Hid (IntsAt We.drew ao O) := hIO5
          have hnx2 : Hid (Below w2.heap.size w2 We.drew) := hid0 (Below.drew hnx5.out)
          clear hIO5 hnx5 hx5 HN'
          go_wp2_with fail
          refine wp_region_held_drew (S := (fun W => Below We.drew.heap.size We.drew W)) (by kernel_rfl) hB (fun hHeld => ?_)
          generalize We.drew = W0 at hB hx0 HIO hnx2 hHeld ⊢
          refine wpAnyH_take (i := 1) (v := ?_) rfl (by kernel_rfl) (by kernel_rfl) (by kernel_rfl) (fun _ _ _ h => h) (Or.inl ⟨by rfl, ?_⟩) (by assumption) ?_
          rotate_left
          · (intro wx hSw; go_simp; (try with_reducible rfl); (try omega))
          (try simp only [Act.put, List.setIfInBounds_toArray, List.getElem_toArray])
          refine wpAnyH_take (i := 2) (v := ?_) rfl (by kernel_rfl) (by kernel_rfl) (by kernel_rfl) (fun _ _ _ h => h) (Or.inl ⟨by rfl, ?_⟩) (by assumption) ?_
          rotate_left
          · (intro wx hSw; go_simp; (try with_reducible rfl); (try omega))
          (try simp only [Act.put, List.setIfInBounds_toArray, List.set_cons_zero, List.set_cons_succ, List.getElem_toArray, List.getElem_cons_zero, List.getElem_cons_succ])
          refine wpAnyH_take (i := 3) (v := ?_) rfl (by kernel_rfl) (by kernel_rfl) (by kernel_rfl) (fun _ _ _ h => h) (Or.inl ⟨by rfl, ?_⟩) (by assumption) ?_
          rotate_left
          · (intro wx hSw; go_simp; (try with_reducible rfl); (try omega))
          (try simp only [Act.put, List.setIfInBounds_toArray, List.set_cons_zero, List.set_cons_succ, List.getElem_toArray, List.getElem_cons_zero, List.getElem_cons_succ])
          refine wpAnyH_take (i := 5) (v := ?_) rfl (by kernel_rfl) (by kernel_rfl) (by kernel_rfl) (fun _ _ _ h => h) (Or.inl ⟨by rfl, ?_⟩) (by assumption) ?_
          rotate_left
          · (intro wx hSw; go_simp; (try with_reducible rfl); (try omega))
          (try simp only [Act.put, List.setIfInBounds_toArray, List.set_cons_zero, List.set_cons_succ, List.getElem_toArray, List.getElem_cons_zero, List.getElem_cons_succ])
          refine wpAnyH_take (i := 6) (v := ?_) rfl (by kernel_rfl) (by kernel_rfl) (by kernel_rfl) (fun _ _ _ h => h) (Or.inl ⟨by rfl, ?_⟩) (by assumption) ?_
          rotate_left
          · (intro wx hSw; go_simp; (try with_reducible rfl); (try omega))
          (try simp only [Act.put, List.setIfInBounds_toArray, List.set_cons_zero, List.set_cons_succ, List.getElem_toArray, List.getElem_cons_zero, List.getElem_cons_succ])
          refine wpAnyH_take (i := 7) (v := ?_) rfl (by kernel_rfl) (by kernel_rfl) (by kernel_rfl) (fun _ _ _ h => h) (Or.inl ⟨by rfl, ?_⟩) (by assumption) ?_
          rotate_left
          · (intro wx hSw; go_simp; (try with_reducible rfl); (try omega))
          (try simp only [Act.put, List.setIfInBounds_toArray, List.set_cons_zero, List.set_cons_succ, List.getElem_toArray, List.getElem_cons_zero, List.getElem_cons_succ])
          refine wpAnyH_take (i := 8) (v := ?_) rfl (by kernel_rfl) (by kernel_rfl) (by kernel_rfl) (fun _ _ _ h => h) (Or.inl ⟨by rfl, ?_⟩) (by assumption) ?_
          rotate_left
          · (intro wx hSw; have q0 := cell_later hSw hx0; go_simp; (try with_reducible rfl); (try omega))
          (try simp only [Act.put, List.setIfInBounds_toArray, List.set_cons_zero, List.set_cons_succ, List.getElem_toArray, List.getElem_cons_zero, List.getElem_cons_succ])
          refine wpAnyH_take (i := 11) (v := ?_) rfl (by kernel_rfl) (by kernel_rfl) (by kernel_rfl) (fun _ _ _ h => h) (Or.inl ⟨by rfl, ?_⟩) (by assumption) ?_
          rotate_left
          · (intro wx hSw; go_simp; (try with_reducible rfl); (try omega))
          (try simp only [Act.put, List.setIfInBounds_toArray, List.set_cons_zero, List.set_cons_succ, List.getElem_toArray, List.getElem_cons_zero, List.getElem_cons_succ])
          refine wpAnyH_take (i := 12) (v := ?_) rfl (by kernel_rfl) (by kernel_rfl) (by kernel_rfl) (fun _ _ _ h => h) (Or.inl ⟨by rfl, ?_⟩) (by assumption) ?_
          rotate_left
          · (intro wx hSw; go_simp; (try with_reducible rfl); (try omega))
          (try simp only [Act.put, List.setIfInBounds_toArray, List.set_cons_zero, List.set_cons_succ, List.getElem_toArray, List.getElem_cons_zero, List.getElem_cons_succ])
          refine wpAnyH_take (i := 13) (v := ?_) rfl (by kernel_rfl) (by kernel_rfl) (by kernel_rfl) (fun _ _ _ h => h) (Or.inl ⟨by rfl, ?_⟩) (by assumption) ?_
          rotate_left
          · (intro wx hSw; go_simp; (try with_reducible rfl); (try omega))
          (try simp only [Act.put, List.setIfInBounds_toArray, List.set_cons_zero, List.set_cons_succ, List.getElem_toArray, List.getElem_cons_zero, List.getElem_cons_succ])
          refine wpAnyH_ready (rs := [0, 9]) (by kernel_rfl) (by simp) ?_
          refine AllReadyH.cons rfl (fun K hK => ?_) ?_
          · (try simp only [Act.put, List.setIfInBounds_toArray, List.set_cons_zero, List.set_cons_succ, List.getElem_toArray, List.getElem_cons_zero])
            go_simp
            obtain ⟨W1, hW1⟩ : ∃ W', W0.alloc (.cells #[] 3) = W' := ⟨_, rfl⟩
            have hO := made11 W0 W0.heap.size hB.size; rw [hW1] at hO
            have hB := hB.alloc hB.size (.cells #[] 3); rw [hW1] at hB
            rw [hW1]
            refine hK.out _ _ hB (fun hHeld => ?_)
            clear hW1
            clear hK K
            (try simp only [Act.put, List.setIfInBounds_toArray, List.set_cons_zero, List.set_cons_succ, List.getElem_toArray, List.getElem_cons_zero, List.getElem_cons_succ])
            refine wpAnyH_ready (rs := [4, 9]) (by kernel_rfl) (by simp) ?_
            refine AllReadyH.cons rfl (fun K hK => ?_) ?_
            · refine app_if (by rfl) _ _ (by rfl) (by rfl) W0.heap.size (0) (ints []) hO ao (k) cO (by rfl) (O.take k) (by rw [List.length_take]; omega) (head_at k (HIO.out.later hB)) (by omega) hB.size ?_
              intro v4 W2 hO2 hg2 hat2
              have hB := hB.grown hg2 hB.size (fun k hk => (hO.lt k hk).1)
              clear hO
              have hO := hO2
              clear hO2 hg2 hat2
              rw [Nat.zero_add] at hO
              refine hK.out _ _ hB (fun hHeld => ?_)
              clear hK K
              (try simp only [Act.put, List.setIfInBounds_toArray, List.set_cons_zero, List.set_cons_succ, List.getElem_toArray, List.getElem_cons_zero, List.getElem_cons_succ])
              refine wpAnyH_ready (rs := [9]) (by kernel_rfl) (by simp) ?_
              refine AllReadyH.cons rfl (fun K hK => ?_) ?_
              · (try simp only [Act.put, List.setIfInBounds_toArray, List.set_cons_zero, List.set_cons_succ, List.getElem_toArray, List.getElem_cons_zero, List.getElem_cons_succ])
                go_simp
                obtain ⟨W3, hW3⟩ : ∃ W', W2.alloc (.cells #[.int .i64 x] 3) = W' := ⟨_, rfl⟩
                have X9 : VarB W3 W2.heap.size [.int .i64 x] := by rw [← hW3]; exact VarB.new _ _ _
                have hne9 : v4.ownBlock ≠ some W2.heap.size := fun e => by have := (hO.lt _ e).2; omega
                have hO := hO.alloc (.cells #[.int .i64 x] 3); rw [hW3] at hO
                have hB := hB.alloc hB.size (.cells #[.int .i64 x] 3); rw [hW3] at hB
                rw [hW3]
                refine hK.out _ _ hB (fun hHeld => ?_)
                clear hW3
                clear hK K
                (try simp only [Act.put, List.setIfInBounds_toArray, List.set_cons_zero, List.set_cons_succ, List.getElem_toArray, List.getElem_cons_zero, List.getElem_cons_succ])
                refine wpAnyH_ready (rs := [10]) (by kernel_rfl) (by simp) ?_
                refine AllReadyH.cons rfl (fun K hK => ?_) ?_
                · refine app_if (by rfl) _ _ (by rfl) (by rfl) W0.heap.size (k) (ints [] ++ ints (O.take k)) hO (some ⟨W2.heap.size, 0, none⟩) (1) 1 (by rfl) [x] rfl (fun _ => ⟨_, 0, rfl, fun i hi => by match i, hi with | 0, _ => exact X9.cell 0 rfl | i + 1, hi => exact absurd hi (by simp)⟩) (by omega) hB.size ?_
                  intro v10 W4 hO2 hg2 hat2
                  have hne2 : v10.ownBlock ≠ some W2.heap.size := by rcases hat2 with e | e; (rw [e]; exact hne9); (rw [e]; intro e2; have e3 := Option.some.inj e2; have := X9.lt; omega)
                  have X9 := X9.keep (hg2.block _ X9.lt (fun e => hne9 e.symm)) hg2.size
                  have hne9 := hne2; clear hne2
                  have hB := hB.grown hg2 hB.size (fun k hk => (hO.lt k hk).1)
                  clear hO
                  have hO := hO2
                  clear hO2 hg2 hat2
                  refine hK.out _ _ hB (fun hHeld => ?_)
                  clear hK K
                  (try simp only [Act.put, List.setIfInBounds_toArray, List.set_cons_zero, List.set_cons_succ, List.getElem_toArray, List.getElem_cons_zero, List.getElem_cons_succ])
                  refine wpAnyH_ready (rs := [14]) (by kernel_rfl) (by simp) ?_
                  refine AllReadyH.cons rfl (fun K hK => ?_) ?_
                  · refine app_if (by rfl) _ _ (by rfl) (by rfl) W0.heap.size (k + 1) (ints [] ++ ints (O.take k) ++ ints [x]) hO a1 (N - k) c1 (by rfl) (O.drop k) (by rw [List.length_drop]; omega) (HS2 _ (HIO.out.later hB)) (by omega) hB.size ?_
                    intro v14 W5 hO2 hg2 hat2
                    have hne2 : v14.ownBlock ≠ some W2.heap.size := by rcases hat2 with e | e; (rw [e]; exact hne9); (rw [e]; intro e2; have e3 := Option.some.inj e2; have := X9.lt; omega)
                    have X9 := X9.keep (hg2.block _ X9.lt (fun e => hne9 e.symm)) hg2.size
                    have hne9 := hne2; clear hne2
                    have hB := hB.grown hg2 hB.size (fun k hk => (hO.lt k hk).1)
                    clear hO
                    have hO := hO2
                    clear hO2 hg2 hat2
                    refine hK.out _ _ hB (fun hHeld => ?_)
                    clear hK K
                    (try simp only [Act.put, List.setIfInBounds_toArray, List.set_cons_zero, List.set_cons_succ, List.getElem_toArray, List.getElem_cons_zero, List.getElem_cons_succ])
                    refine wpAnyH_take (i := 15) (v := ?_) rfl (by kernel_rfl) (by kernel_rfl) (by kernel_rfl) (fun _ _ _ h => h) (Or.inl ⟨by rfl, ?_⟩) (by assumption) ?_
                    rotate_left
                    · (intro wx hSw; go_simp; (try with_reducible rfl); (try omega))
                    (try simp only [Act.put, List.setIfInBounds_toArray, List.set_cons_zero, List.set_cons_succ, List.getElem_toArray, List.getElem_cons_zero, List.getElem_cons_succ])
                    refine wpAnyH_done (by kernel_rfl) ?_ _
                    have hO : W5.ownsRow W0.heap.size 3 1 v14 (k + 1 + (N - k)) (ints (O.take k ++ ([x] ++ O.drop k))) := by have h := hO; simpa [ints] using h
                    have hO := IL.own hO (by simp only [List.length_append, List.length_take, List.length_drop, List.length_singleton]; omega)
                    have hO := hid0 hO
                    go_wp2_with fail
                    exact ⟨⟨i + 1, [], by omega, by go_num, by rw [HR.out]; exact hO.out, below_through hB hnx2.out.size hnx2.out⟩, by simp [intOf]; omega⟩
                  exact AllReadyH.nil
                exact AllReadyH.nil
              exact AllReadyH.nil
            refine AllReadyH.cons rfl (fun K hK => ?_) ?_
            · (try simp only [Act.put, List.setIfInBounds_toArray, List.set_cons_zero, List.set_cons_succ, List.getElem_toArray, List.getElem_cons_zero, List.getElem_cons_succ])
              go_simp
              obtain ⟨W2, hW2⟩ : ∃ W', W1.alloc (.cells #[.int .i64 x] 3) = W' := ⟨_, rfl⟩
              have X9 : VarB W2 W1.heap.size [.int .i64 x] := by rw [← hW2]; exact VarB.new _ _ _
              have hne9 : (Value.slice (some ⟨W0.heap.size, 0, none⟩) 0 0).ownBlock ≠ some W1.heap.size := fun e => by have := (hO.lt _ e).2; omega
              have hO := hO.alloc (.cells #[.int .i64 x] 3); rw [hW2] at hO
              have hB := hB.alloc hB.size (.cells #[.int .i64 x] 3); rw [hW2] at hB
              rw [hW2]
              refine hK.out _ _ hB (fun hHeld => ?_)
              clear hW2
              clear hK K
              (try simp only [Act.put, List.setIfInBounds_toArray, List.set_cons_zero, List.set_cons_succ, List.getElem_toArray, List.getElem_cons_zero, List.getElem_cons_succ])
              refine wpAnyH_ready (rs := [4]) (by kernel_rfl) (by simp) ?_
              refine AllReadyH.cons rfl (fun K hK => ?_) ?_
              · refine app_if (by rfl) _ _ (by rfl) (by rfl) W0.heap.size (0) (ints []) hO ao (k) cO (by rfl) (O.take k) (by rw [List.length_take]; omega) (head_at k (HIO.out.later hB)) (by omega) hB.size ?_
                intro v4 W3 hO2 hg2 hat2
                have hne2 : v4.ownBlock ≠ some W1.heap.size := by rcases hat2 with e | e; (rw [e]; exact hne9); (rw [e]; intro e2; have e3 := Option.some.inj e2; have := X9.lt; omega)
                have X9 := X9.keep (hg2.block _ X9.lt (fun e => hne9 e.symm)) hg2.size
                have hne9 := hne2; clear hne2
                have hB := hB.grown hg2 hB.size (fun k hk => (hO.lt k hk).1)
                clear hO
                have hO := hO2
                clear hO2 hg2 hat2
                rw [Nat.zero_add] at hO
                refine hK.out _ _ hB (fun hHeld => ?_)
                clear hK K
                (try simp only [Act.put, List.setIfInBounds_toArray, List.set_cons_zero, List.set_cons_succ, List.getElem_toArray, List.getElem_cons_zero, List.getElem_cons_succ])
                refine wpAnyH_ready (rs := [10]) (by kernel_rfl) (by simp) ?_
                refine AllReadyH.cons rfl (fun K hK => ?_) ?_
                · refine app_if (by rfl) _ _ (by rfl) (by rfl) W0.heap.size (k) (ints [] ++ ints (O.take k)) hO (some ⟨W1.heap.size, 0, none⟩) (1) 1 (by rfl) [x] rfl (fun _ => ⟨_, 0, rfl, fun i hi => by match i, hi with | 0, _ => exact X9.cell 0 rfl | i + 1, hi => exact absurd hi (by simp)⟩) (by omega) hB.size ?_
                  intro v10 W4 hO2 hg2 hat2
                  have hne2 : v10.ownBlock ≠ some W1.heap.size := by rcases hat2 with e | e; (rw [e]; exact hne9); (rw [e]; intro e2; have e3 := Option.some.inj e2; have := X9.lt; omega)
                  have X9 := X9.keep (hg2.block _ X9.lt (fun e => hne9 e.symm)) hg2.size
                  have hne9 := hne2; clear hne2
                  have hB := hB.grown hg2 hB.size (fun k hk => (hO.lt k hk).1)
                  clear hO
                  have hO := hO2
                  clear hO2 hg2 hat2
                  refine hK.out _ _ hB (fun hHeld => ?_)
                  clear hK K
                  (try simp only [Act.put, List.setIfInBounds_toArray, List.set_cons_zero, List.set_cons_succ, List.getElem_toArray, List.getElem_cons_zero, List.getElem_cons_succ])
                  refine wpAnyH_ready (rs := [14]) (by kernel_rfl) (by simp) ?_
                  refine AllReadyH.cons rfl (fun K hK => ?_) ?_
                  · refine app_if (by rfl) _ _ (by rfl) (by rfl) W0.heap.size (k + 1) (ints [] ++ ints (O.take k) ++ ints [x]) hO a1 (N - k) c1 (by rfl) (O.drop k) (by rw [List.length_drop]; omega) (HS2 _ (HIO.out.later hB)) (by omega) hB.size ?_
                    intro v14 W5 hO2 hg2 hat2
                    have hne2 : v14.ownBlock ≠ some W1.heap.size := by rcases hat2 with e | e; (rw [e]; exact hne9); (rw [e]; intro e2; have e3 := Option.some.inj e2; have := X9.lt; omega)
                    have X9 := X9.keep (hg2.block _ X9.lt (fun e => hne9 e.symm)) hg2.size
                    have hne9 := hne2; clear hne2
                    have hB := hB.grown hg2 hB.size (fun k hk => (hO.lt k hk).1)
                    clear hO
                    have hO := hO2
                    clear hO2 hg2 hat2
                    refine hK.out _ _ hB (fun hHeld => ?_)
                    clear hK K
                    (try simp only [Act.put, List.setIfInBounds_toArray, List.set_cons_zero, List.set_cons_succ, List.getElem_toArray, List.getElem_cons_zero, List.getElem_cons_succ])
                    refine wpAnyH_take (i := 15) (v := ?_) rfl (by kernel_rfl) (by kernel_rfl) (by kernel_rfl) (fun _ _ _ h => h) (Or.inl ⟨by rfl, ?_⟩) (by assumption) ?_
                    rotate_left
                    · (intro wx hSw; go_simp; (try with_reducible rfl); (try omega))
                    (try simp only [Act.put, List.setIfInBounds_toArray, List.set_cons_zero, List.set_cons_succ, List.getElem_toArray, List.getElem_cons_zero, List.getElem_cons_succ])
                    refine wpAnyH_done (by kernel_rfl) ?_ _
                    have hO : W5.ownsRow W0.heap.size 3 1 v14 (k + 1 + (N - k)) (ints (O.take k ++ ([x] ++ O.drop k))) := by have h := hO; simpa [ints] using h
                    have hO := IL.own hO (by simp only [List.length_append, List.length_take, List.length_drop, List.length_singleton]; omega)
                    have hO := hid0 hO
                    go_wp2_with fail
                    exact ⟨⟨i + 1, [], by omega, by go_num, by rw [HR.out]; exact hO.out, below_through hB hnx2.out.size hnx2.out⟩, by simp [intOf]; omega⟩
                  exact AllReadyH.nil
                exact AllReadyH.nil
              exact AllReadyH.nil
            exact AllReadyH.nil
          refine AllReadyH.cons rfl (fun K hK => ?_) ?_
          · (try simp only [Act.put, List.setIfInBounds_toArray, List.set_cons_zero, List.set_cons_succ, List.getElem_toArray, List.getElem_cons_zero, List.getElem_cons_succ])
            go_simp
            obtain ⟨W1, hW1⟩ : ∃ W', W0.alloc (.cells #[.int .i64 x] 3) = W' := ⟨_, rfl⟩
            have X9 : VarB W1 W0.heap.size [.int .i64 x] := by rw [← hW1]; exact VarB.new _ _ _
            have hB := hB.alloc hB.size (.cells #[.int .i64 x] 3); rw [hW1] at hB
            rw [hW1]
            refine hK.out _ _ hB (fun hHeld => ?_)
            clear hW1
            clear hK K
            (try simp only [Act.put, List.setIfInBounds_toArray, List.set_cons_zero, List.set_cons_succ, List.getElem_toArray, List.getElem_cons_zero, List.getElem_cons_succ])
            refine wpAnyH_ready (rs := [0]) (by kernel_rfl) (by simp) ?_
            refine AllReadyH.cons rfl (fun K hK => ?_) ?_
            · (try simp only [Act.put, List.setIfInBounds_toArray, List.set_cons_zero, List.set_cons_succ, List.getElem_toArray, List.getElem_cons_zero])
              go_simp
              obtain ⟨W2, hW2⟩ : ∃ W', W1.alloc (.cells #[] 3) = W' := ⟨_, rfl⟩
              have hO := made11 W1 W0.heap.size hB.size; rw [hW2] at hO
              have hB := hB.alloc hB.size (.cells #[] 3); rw [hW2] at hB
              have hne9 : (Value.slice (some ⟨W1.heap.size, 0, none⟩) 0 0).ownBlock ≠ some W0.heap.size := by have := X9.lt; simp [Value.ownBlock]; omega
              have X9 := X9.alloc (.cells #[] 3); rw [hW2] at X9
              rw [hW2]
              refine hK.out _ _ hB (fun hHeld => ?_)
              clear hW2
              clear hK K
              (try simp only [Act.put, List.setIfInBounds_toArray, List.set_cons_zero, List.set_cons_succ, List.getElem_toArray, List.getElem_cons_zero, List.getElem_cons_succ])
              refine wpAnyH_ready (rs := [4]) (by kernel_rfl) (by simp) ?_
              refine AllReadyH.cons rfl (fun K hK => ?_) ?_
              · refine app_if (by rfl) _ _ (by rfl) (by rfl) W0.heap.size (0) (ints []) hO ao (k) cO (by rfl) (O.take k) (by rw [List.length_take]; omega) (head_at k (HIO.out.later hB)) (by omega) hB.size ?_
                intro v4 W3 hO2 hg2 hat2
                have hne2 : v4.ownBlock ≠ some W0.heap.size := by rcases hat2 with e | e; (rw [e]; exact hne9); (rw [e]; intro e2; have e3 := Option.some.inj e2; have := X9.lt; omega)
                have X9 := X9.keep (hg2.block _ X9.lt (fun e => hne9 e.symm)) hg2.size
                have hne9 := hne2; clear hne2
                have hB := hB.grown hg2 hB.size (fun k hk => (hO.lt k hk).1)
                clear hO
                have hO := hO2
                clear hO2 hg2 hat2
                rw [Nat.zero_add] at hO
                refine hK.out _ _ hB (fun hHeld => ?_)
                clear hK K
                (try simp only [Act.put, List.setIfInBounds_toArray, List.set_cons_zero, List.set_cons_succ, List.getElem_toArray, List.getElem_cons_zero, List.getElem_cons_succ])
                refine wpAnyH_ready (rs := [10]) (by kernel_rfl) (by simp) ?_
                refine AllReadyH.cons rfl (fun K hK => ?_) ?_
                · refine app_if (by rfl) _ _ (by rfl) (by rfl) W0.heap.size (k) (ints [] ++ ints (O.take k)) hO (some ⟨W0.heap.size, 0, none⟩) (1) 1 (by rfl) [x] rfl (fun _ => ⟨_, 0, rfl, fun i hi => by match i, hi with | 0, _ => exact X9.cell 0 rfl | i + 1, hi => exact absurd hi (by simp)⟩) (by omega) hB.size ?_
                  intro v10 W4 hO2 hg2 hat2
                  have hne2 : v10.ownBlock ≠ some W0.heap.size := by rcases hat2 with e | e; (rw [e]; exact hne9); (rw [e]; intro e2; have e3 := Option.some.inj e2; have := X9.lt; omega)
                  have X9 := X9.keep (hg2.block _ X9.lt (fun e => hne9 e.symm)) hg2.size
                  have hne9 := hne2; clear hne2
                  have hB := hB.grown hg2 hB.size (fun k hk => (hO.lt k hk).1)
                  clear hO
                  have hO := hO2
                  clear hO2 hg2 hat2
                  refine hK.out _ _ hB (fun hHeld => ?_)
                  clear hK K
                  (try simp only [Act.put, List.setIfInBounds_toArray, List.set_cons_zero, List.set_cons_succ, List.getElem_toArray, List.getElem_cons_zero, List.getElem_cons_succ])
                  refine wpAnyH_ready (rs := [14]) (by kernel_rfl) (by simp) ?_
                  refine AllReadyH.cons rfl (fun K hK => ?_) ?_
                  · refine app_if (by rfl) _ _ (by rfl) (by rfl) W0.heap.size (k + 1) (ints [] ++ ints (O.take k) ++ ints [x]) hO a1 (N - k) c1 (by rfl) (O.drop k) (by rw [List.length_drop]; omega) (HS2 _ (HIO.out.later hB)) (by omega) hB.size ?_
                    intro v14 W5 hO2 hg2 hat2
                    have hne2 : v14.ownBlock ≠ some W0.heap.size := by rcases hat2 with e | e; (rw [e]; exact hne9); (rw [e]; intro e2; have e3 := Option.some.inj e2; have := X9.lt; omega)
                    have X9 := X9.keep (hg2.block _ X9.lt (fun e => hne9 e.symm)) hg2.size
                    have hne9 := hne2; clear hne2
                    have hB := hB.grown hg2 hB.size (fun k hk => (hO.lt k hk).1)
                    clear hO
                    have hO := hO2
                    clear hO2 hg2 hat2
                    refine hK.out _ _ hB (fun hHeld => ?_)
                    clear hK K
                    (try simp only [Act.put, List.setIfInBounds_toArray, List.set_cons_zero, List.set_cons_succ, List.getElem_toArray, List.getElem_cons_zero, List.getElem_cons_succ])
                    refine wpAnyH_take (i := 15) (v := ?_) rfl (by kernel_rfl) (by kernel_rfl) (by kernel_rfl) (fun _ _ _ h => h) (Or.inl ⟨by rfl, ?_⟩) (by assumption) ?_
                    rotate_left
                    · (intro wx hSw; go_simp; (try with_reducible rfl); (try omega))
                    (try simp only [Act.put, List.setIfInBounds_toArray, List.set_cons_zero, List.set_cons_succ, List.getElem_toArray, List.getElem_cons_zero, List.getElem_cons_succ])
                    refine wpAnyH_done (by kernel_rfl) ?_ _
                    have hO : W5.ownsRow W0.heap.size 3 1 v14 (k + 1 + (N - k)) (ints (O.take k ++ ([x] ++ O.drop k))) := by have h := hO; simpa [ints] using h
                    have hO := IL.own hO (by simp only [List.length_append, List.length_take, List.length_drop, List.length_singleton]; omega)
                    have hO := hid0 hO
                    go_wp2_with fail
                    exact ⟨⟨i + 1, [], by omega, by go_num, by rw [HR.out]; exact hO.out, below_through hB hnx2.out.size hnx2.out⟩, by simp [intOf]; omega⟩
                  exact AllReadyH.nil
                exact AllReadyH.nil
              exact AllReadyH.nil
            exact AllReadyH.nil
          exact AllReadyH.nil
    · obtain rfl : i = M := by omega
      rw [List.take_of_length_le (by rw [HM.out]; exact Nat.le_refl _)] at hIO
      obtain ⟨ao, cO, rfl, hcO, hIO⟩ := hIO.out
      have HIO := hid0 hIO
      clear hIO
      go_wp2_with fail
      go_ret
      rw [hFe.out]
      exact ⟨⟨ao, cO, rfl, HIO.out⟩, below_through hnx hB2.out.size hB2.out⟩
end Go.Proofs.Ytfdkajefcplfjaa
