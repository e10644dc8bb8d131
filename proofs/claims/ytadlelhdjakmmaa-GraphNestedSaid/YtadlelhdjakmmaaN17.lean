/- The reference's Above: the contract of the call. Conditions: the names' cells are known. -/
import Derived.Test.YtadlelhdjakmmaaN16
namespace Go.Proofs.Ytadlelhdjakmmaa
open Go.RowKit

theorem drewK {n nq : Nat} {w W : World} (h : Below n w W) : Below n w (W.drewN nq) := ⟨h.os, h.tape, h.output, h.size, h.block⟩
theorem above_dat (l : List Nn) (name : ByteArray) (i : Nat) (h : i < l.length) : (dat (l.take (i + 1))).foldl (addG name) [] = if name ∈ l[i].rs ∧ l[i].s ∉ (dat (l.take i)).foldl (addG name) [] then insG l[i].s ((dat (l.take i)).foldl (addG name) []) else (dat (l.take i)).foldl (addG name) [] := by
  unfold dat
  rw [List.take_succ_eq_append_getElem h, List.map_append, List.foldl_append]
  rfl
theorem above_small (l : List Nn) (name : ByteArray) (i : Nat) (hs : ∀ x ∈ l, x.s.size ≤ maxLen) : ∀ s ∈ (dat (l.take i)).foldl (addG name) [], s.size ≤ maxLen := fun s h => by
  have h2 := ((fold_above name (dat (l.take i)) [] List.Pairwise.nil).2 s).1 h
  rcases h2 with h2 | ⟨x, hx, e, _⟩
  · exact absurd h2 (by simp)
  · unfold dat at hx
    obtain ⟨y, hy, rfl⟩ := List.mem_map.1 hx
    rw [← e]
    exact hs y (List.mem_of_mem_take hy)
set_option maxHeartbeats 16000000 in
set_option maxRecDepth 1000000 in
theorem refAbove_any (a : Option Addr) (c : Nat) (l : List Nn) (name : ByteArray) (w : World) (h : NodesAt w a c l) :
    Calls Try.prog 17 #[.slice a l.length c, .string name] w fun e w' => (∃ v, e = .returned v ∧ SL w' v (aboveG (dat l) name)) ∧ Below w.heap.size w w' := by
  have hfew := h.few
  have A := hid0 h
  have HST := hid0 (above_dat l name)
  have HSMA := hid0 (fun i => above_small l name i (fun x hx => (h.ok x hx).small))
  have HE := hid0 (show (dat (l.take l.length)).foldl (addG name) [] = aboveG (dat l) name by rw [List.take_length]; rfl)
  obtain ⟨n, hn⟩ : ∃ n, l.length = n := ⟨_, rfl⟩
  have HNN := hid0 hn
  rw [hn] at hfew HE ⊢
  clear h hn
  go_enter Try.func17, Try.ntmps17
  go_wp2_with fail
  go_loopw [5, 6, 7] (fun ov iv _ wr => ∃ (i : Nat) (O : List ByteArray), i ≤ n ∧ iv = .int .i64 i ∧ SL wr ov O ∧ (dat (l.take i)).foldl (addG name) [] = O ∧ O.length ≤ i ∧ Below w.heap.size w wr) (fun _ iv _ _ => n - (intOf iv).toNat)
  case atStart => exact ⟨0, [], Nat.zero_le _, rfl, SL.nil _, rfl, Nat.le_refl _, Below.refl _ _⟩
  case round =>
    obtain ⟨i, O, hi, rfl, hO, hT, hlen, hbw⟩ := hrel
    by_cases hlt : i < n
    · have g0 : (i : Int) < (n : Int) := by omega
      have g1 : i < l.length := by rw [HNN.out]; exact hlt
      obtain ⟨b1, o1, rfl, _, hR⟩ := (A.out.later hbw).node i g1
      have hok := (A.out.ok _ (List.getElem_mem g1)).later hbw
      have hst := HST.out i g1
      have hsmO := HSMA.out i
      rw [hT] at hst hsmO
      have q0 := rng hR 0 (Nn.cells0 _)
      have q1 := rng hR 1 (Nn.cells1 _)
      rw [Nat.add_zero] at q0
      have hrs := hok.rs
      have hfw := hok.few
      have hxs := hid0 hok.small
      clear hR hok
      generalize l[i].rs = rs at q1 hrs hfw hst
      generalize l[i].a = pa at q1 hrs
      generalize l[i].c = pc at q1
      generalize l[i].s = x at q0 hst hxs
      have CI1 := refIn_any pa pc rs name wr hrs (by omega)
      obtain ⟨ao, cO, rfl, hcO, hIO⟩ := hO.out
      have CI2 := refIn_any ao cO O x wr hIO (by omega)
      have HIO := hid0 hIO
      obtain ⟨rn, hrn⟩ : ∃ m, rs.length = m := ⟨_, rfl⟩
      rw [hrn] at CI1 q1 hfw
      obtain ⟨N, hNN⟩ : ∃ m, O.length = m := ⟨_, rfl⟩
      have HN := hid0 hNN
      rw [hNN] at CI2 hcO hlen ⊢
      have HB2 := hid0 hbw
      have hst := hid0 hst
      have HT := hid0 hT
      have HO := hid0 hO
      clear hrs hrn hNN hIO hbw hT hO hsmO
      by_cases h1 : name ∈ rs
      · rw [decide_eq_true h1] at CI1
        by_cases h2 : x ∈ O
        · rw [decide_eq_true h2] at CI2
          have HX := hid0 (hst.out.trans (if_neg (fun h => h.2 h2)))
          clear h1 h2 hst
          go_wp2_with (first | (go_at_call 29; go_must (first | ((with_reducible refine CI1.mono ?_); rintro e w6 ⟨rfl, hw6⟩; rw [hw6]; clear hw6 CI1) | ((with_reducible refine CI2.mono ?_); rintro e w6 ⟨rfl, hw6⟩; rw [hw6]; clear hw6 CI2))) | fail)
          exact ⟨⟨i + 1, O, by omega, by go_num, by rw [← HN.out]; exact ⟨⟨ao, cO, rfl, by rw [HN.out]; exact hcO, HIO.out⟩⟩, HX.out, by rw [HN.out]; omega, HB2.out⟩, by simp [intOf]; omega⟩
        · rw [decide_eq_false h2] at CI2
          have hst := hid0 (hst.out.trans (if_pos ⟨h1, h2⟩))
          have HXO := hid0 h2
          clear h1 h2
          go_wp2_with (first | (go_at_call 29; go_must (first | ((with_reducible refine CI1.mono ?_); rintro e w6 ⟨rfl, hw6⟩; rw [hw6]; clear hw6 CI1) | ((with_reducible refine CI2.mono ?_); rintro e w6 ⟨rfl, hw6⟩; rw [hw6]; clear hw6 CI2))) | fail)
          obtain ⟨w3, hw3⟩ : ∃ W, wr = W := ⟨_, rfl⟩
          rw [hw3] at HIO HB2 q0 HO ⊢
          clear hw3 q1
          go_loopw [7] (fun kv wr => ∃ k : Nat, k ≤ N ∧ kv = .int .i64 k ∧ Below w3.heap.size w3 wr ∧ Hid (∀ t (ht : t < O.length), t < k → gb O[t] < gb x)) (fun kv _ => N - (intOf kv).toNat)
          case atStart => exact ⟨0, Nat.zero_le _, rfl, Below.refl _ _, hid0 (fun j _ h => absurd h (by omega))⟩
          case round =>
            obtain ⟨k, hk, rfl, hb2, hlo⟩ := hrel
            have p0 := cell_later hb2 q0
            by_cases hkN : k < N
            · have hkO : k < O.length := by rw [HN.out]; exact hkN
              obtain ⟨bo, oo, eao, hcO2⟩ := HIO.out.out (fun e => by rw [e] at hkO; exact absurd hkO (by simp))
              have hyk := cell_later hb2 (hcO2 k hkO)
              obtain ⟨y, hy⟩ : ∃ y, O[k] = y := ⟨_, rfl⟩
              rw [hy] at hyk
              have HY := hid0 hy
              clear hy hcO2
              have g2 : decide ((k : Int) < (N : Int)) = true := by simpa using hkN
              by_cases hyx : gb y < gb x
              · have g3 : Op.bytesLess y.toList x.toList = true := by rw [less_gb]; simpa using hyx
                have HYX := hid0 hyx
                subst eao
                clear hyx
                go_wp2_with fail
                go_quiet (fail)
                go_wp2_with fail
                exact ⟨⟨k + 1, by omega, by go_num, (drewK hb2), hid0 (fun t h htk => by
                  rcases Nat.lt_or_ge t k with h1 | h1
                  · exact hlo.out t h h1
                  · obtain rfl : t = k := by omega
                    rw [HY.out]; exact HYX.out)⟩, by simp [intOf]; omega⟩
              · have g3 : Op.bytesLess y.toList x.toList = false := by rw [less_gb]; simpa using hyx
                have HKN := hid0 (show ∀ h : k < O.length, ¬ gb O[k] < gb x from fun h => by rw [HY.out]; exact hyx)
                subst eao
                clear hyx
                go_wp2_with fail
                go_quiet (fail)
                go_wp2_with fail
                have hb2 := drewK (nq := nq) hb2
                clear p0
                generalize wr.drewN nq = wq at hb2 ⊢
                have HR := hid0 (show lowG x O = k from lowG_of (by rw [HN.out]; omega) (fun t ht htk => hlo.out t ht htk) HKN.out)
                obtain ⟨a1, c1, HS1, HS2⟩ := strs_hi (some ⟨bo, oo, none⟩) O N cO k HN.out (by omega) hcO (by omega)
                have HS0 := strs_lo (some ⟨bo, oo, none⟩) N cO k (by omega) hcO (by omega)
                have hOl : O.length = N := HN.out
                have hB : Below wq.drew.heap.size wq.drew wq.drew := Below.refl _ _
                have hBW : Below w.heap.size w wq.drew := Below.drew (below_through hb2 HB2.out.size HB2.out)
                have HIO : Hid (StrsA wq.drew (some ⟨bo, oo, none⟩) O) := hid0 (HIO.out.later (Below.drew hb2))
                have q0 := cell_later (Below.drew hb2) q0
                have HSM := hid0 (show ∀ s ∈ O.take k ++ ([x] ++ O.drop k), s.size ≤ maxLen from fun s hs => by
                  rcases List.mem_append.1 hs with h | h
                  · exact HIO.out.small s (List.mem_of_mem_take h)
                  · rcases List.mem_append.1 h with h | h
                    · obtain rfl := List.mem_singleton.1 h; exact hxs.out
                    · exact HIO.out.small s (List.mem_of_mem_drop h))
                have HEND := hid0 (show (dat (l.take (i + 1))).foldl (addG name) [] = O.take k ++ ([x] ++ O.drop k) by rw [hst.out]; unfold insG; rw [HR.out]; rfl)
                have HLX := hid0 (show (O.take k ++ ([x] ++ O.drop k)).length = N + 1 by simp only [List.length_append, List.length_take, List.length_drop, List.length_singleton]; omega)
                clear hlo HKN hb2 HR
                refine wp_region_held_drew (S := (fun W => Below wq.drew.heap.size wq.drew W)) (by kernel_rfl) hB (fun hHeld => ?_)
                generalize wq.drew = W0 at hB HIO q0 hBW hHeld ⊢
                refine wpAnyH_take (i := 1) (v := ?_) rfl (by kernel_rfl) (by kernel_rfl) (by kernel_rfl) (fun _ _ _ h => h) (Or.inl ⟨by rfl, ?_⟩) (by assumption) ?_
                rotate_left
                · (intro wx hSw; go_simp; (try with_reducible rfl); (try omega))
                (try simp only [Act.put, List.setIfInBounds_toArray, List.getElem_toArray])
                refine wpAnyH_take (i := 2) (v := ?_) rfl (by kernel_rfl) (by kernel_rfl) (by kernel_rfl) (fun _ _ _ h => h) (Or.inl ⟨by rfl, ?_⟩) (by assumption) ?_
                rotate_left
                · (intro wx hSw; go_simp; (try with_reducible rfl); (try omega))
                (try simp only [Act.put, List.setIfInBounds_toArray, List.set_cons_zero, List.set_cons_succ, List.getElem_toArray, List.getElem_cons_zero, List.getElem_cons_succ])
                refine wpAnyH_take (i := 3) (v := ?_) rfl (by kernel_rfl) (by kernel_rfl) (by kernel_rfl) (fun _ _ _ h => h) (Or.inl ⟨by rfl, ?_⟩) (by assumption) ?_
                rotate_left
                · (intro wx hSw; go_simp; (try with_reducible rfl); (try omega))
                (try simp only [Act.put, List.setIfInBounds_toArray, List.set_cons_zero, List.set_cons_succ, List.getElem_toArray, List.getElem_cons_zero, List.getElem_cons_succ])
                refine wpAnyH_take (i := 5) (v := ?_) rfl (by kernel_rfl) (by kernel_rfl) (by kernel_rfl) (fun _ _ _ h => h) (Or.inl ⟨by rfl, ?_⟩) (by assumption) ?_
                rotate_left
                · (intro wx hSw; go_simp; (try with_reducible rfl); (try omega))
                (try simp only [Act.put, List.setIfInBounds_toArray, List.set_cons_zero, List.set_cons_succ, List.getElem_toArray, List.getElem_cons_zero, List.getElem_cons_succ])
                refine wpAnyH_take (i := 6) (v := ?_) rfl (by kernel_rfl) (by kernel_rfl) (by kernel_rfl) (fun _ _ _ h => h) (Or.inl ⟨by rfl, ?_⟩) (by assumption) ?_
                rotate_left
                · (intro wx hSw; go_simp; (try with_reducible rfl); (try omega))
                (try simp only [Act.put, List.setIfInBounds_toArray, List.set_cons_zero, List.set_cons_succ, List.getElem_toArray, List.getElem_cons_zero, List.getElem_cons_succ])
                refine wpAnyH_take (i := 7) (v := ?_) rfl (by kernel_rfl) (by kernel_rfl) (by kernel_rfl) (fun _ _ _ h => h) (Or.inl ⟨by rfl, ?_⟩) (by assumption) ?_
                rotate_left
                · (intro wx hSw; go_simp; (try with_reducible rfl); (try omega))
                (try simp only [Act.put, List.setIfInBounds_toArray, List.set_cons_zero, List.set_cons_succ, List.getElem_toArray, List.getElem_cons_zero, List.getElem_cons_succ])
                refine wpAnyH_take (i := 8) (v := ?_) rfl (by kernel_rfl) (by kernel_rfl) (by kernel_rfl) (fun _ _ _ h => h) (Or.inl ⟨by rfl, ?_⟩) (by assumption) ?_
                rotate_left
                · (intro wx hSw; go_simp; (try with_reducible rfl); (try omega))
                (try simp only [Act.put, List.setIfInBounds_toArray, List.set_cons_zero, List.set_cons_succ, List.getElem_toArray, List.getElem_cons_zero, List.getElem_cons_succ])
                refine wpAnyH_take (i := 9) (v := ?_) rfl (by kernel_rfl) (by kernel_rfl) (by kernel_rfl) (fun _ _ _ h => h) (Or.inl ⟨by rfl, ?_⟩) (by assumption) ?_
                rotate_left
                · (intro wx hSw; have hk := cell_later hSw q0; go_simp; (try with_reducible rfl); (try omega))
                (try simp only [Act.put, List.setIfInBounds_toArray, List.set_cons_zero, List.set_cons_succ, List.getElem_toArray, List.getElem_cons_zero, List.getElem_cons_succ])
                refine wpAnyH_take (i := 12) (v := ?_) rfl (by kernel_rfl) (by kernel_rfl) (by kernel_rfl) (fun _ _ _ h => h) (Or.inl ⟨by rfl, ?_⟩) (by assumption) ?_
                rotate_left
                · (intro wx hSw; go_simp; (try with_reducible rfl); (try omega))
                (try simp only [Act.put, List.setIfInBounds_toArray, List.set_cons_zero, List.set_cons_succ, List.getElem_toArray, List.getElem_cons_zero, List.getElem_cons_succ])
                refine wpAnyH_take (i := 13) (v := ?_) rfl (by kernel_rfl) (by kernel_rfl) (by kernel_rfl) (fun _ _ _ h => h) (Or.inl ⟨by rfl, ?_⟩) (by assumption) ?_
                rotate_left
                · (intro wx hSw; go_simp; (try with_reducible rfl); (try omega))
                (try simp only [Act.put, List.setIfInBounds_toArray, List.set_cons_zero, List.set_cons_succ, List.getElem_toArray, List.getElem_cons_zero, List.getElem_cons_succ])
                refine wpAnyH_take (i := 14) (v := ?_) rfl (by kernel_rfl) (by kernel_rfl) (by kernel_rfl) (fun _ _ _ h => h) (Or.inl ⟨by rfl, ?_⟩) (by assumption) ?_
                rotate_left
                · (intro wx hSw; go_simp; (try with_reducible rfl); (try omega))
                (try simp only [Act.put, List.setIfInBounds_toArray, List.set_cons_zero, List.set_cons_succ, List.getElem_toArray, List.getElem_cons_zero, List.getElem_cons_succ])
                refine wpAnyH_ready (rs := [0, 10]) (by kernel_rfl) (by simp) ?_
                refine AllReadyH.cons rfl (fun K hK => ?_) ?_
                · (try simp only [Act.put, List.setIfInBounds_toArray, List.set_cons_zero, List.set_cons_succ, List.getElem_toArray, List.getElem_cons_zero])
                  go_simp
                  obtain ⟨W1, hW1⟩ : ∃ W', W0.alloc (.cells #[] 9) = W' := ⟨_, rfl⟩
                  have hO := madeS W0 W0.heap.size hB.size; rw [hW1] at hO
                  have hB := hB.alloc hB.size (.cells #[] 9); rw [hW1] at hB
                  rw [hW1]
                  refine hK.out _ _ hB (fun hHeld => ?_)
                  clear hW1
                  clear hK K
                  (try simp only [Act.put, List.setIfInBounds_toArray, List.set_cons_zero, List.set_cons_succ, List.getElem_toArray, List.getElem_cons_zero, List.getElem_cons_succ])
                  refine wpAnyH_ready (rs := [4, 10]) (by kernel_rfl) (by simp) ?_
                  refine AllReadyH.cons rfl (fun K hK => ?_) ?_
                  · refine appS_if (by rfl) _ _ (by rfl) (by rfl) W0.heap.size (0) (strs []) hO (some ⟨bo, oo, none⟩) (k) cO (by rfl) (O.take k) (by rw [List.length_take]; omega) ((HIO.out.later hB).head k) (by omega) hB.size ?_
                    intro v4 W2 hO2 hg2 hat2
                    have hB := hB.grown hg2 hB.size (fun k hk => (hO.lt k hk).1)
                    clear hO
                    have hO := hO2
                    clear hO2 hg2 hat2
                    rw [Nat.zero_add] at hO
                    refine hK.out _ _ hB (fun hHeld => ?_)
                    clear hK K
                    (try simp only [Act.put, List.setIfInBounds_toArray, List.set_cons_zero, List.set_cons_succ, List.getElem_toArray, List.getElem_cons_zero, List.getElem_cons_succ])
                    refine wpAnyH_ready (rs := [10]) (by kernel_rfl) (by simp) ?_
                    refine AllReadyH.cons rfl (fun K hK => ?_) ?_
                    · (try simp only [Act.put, List.setIfInBounds_toArray, List.set_cons_zero, List.set_cons_succ, List.getElem_toArray, List.getElem_cons_zero, List.getElem_cons_succ])
                      go_simp
                      obtain ⟨W3, hW3⟩ : ∃ W', W2.alloc (.cells #[.string x] 9) = W' := ⟨_, rfl⟩
                      have X9 : VarB W3 W2.heap.size [.string x] := by rw [← hW3]; exact VarB.new _ _ _
                      have hne9 : v4.ownBlock ≠ some W2.heap.size := fun e => by have := (hO.lt _ e).2; omega
                      have hO := hO.alloc (.cells #[.string x] 9); rw [hW3] at hO
                      have hB := hB.alloc hB.size (.cells #[.string x] 9); rw [hW3] at hB
                      rw [hW3]
                      refine hK.out _ _ hB (fun hHeld => ?_)
                      clear hW3
                      clear hK K
                      (try simp only [Act.put, List.setIfInBounds_toArray, List.set_cons_zero, List.set_cons_succ, List.getElem_toArray, List.getElem_cons_zero, List.getElem_cons_succ])
                      refine wpAnyH_ready (rs := [11]) (by kernel_rfl) (by simp) ?_
                      refine AllReadyH.cons rfl (fun K hK => ?_) ?_
                      · refine appS_if (by rfl) _ _ (by rfl) (by rfl) W0.heap.size (k) (strs [] ++ strs (O.take k)) hO (some ⟨W2.heap.size, 0, none⟩) (1) 1 (by rfl) [x] rfl (strs_one (X9.cell 0 rfl) hxs.out) (by omega) hB.size ?_
                        intro v10 W4 hO2 hg2 hat2
                        have hne2 : v10.ownBlock ≠ some W2.heap.size := by rcases hat2 with e | e; (rw [e]; exact hne9); (rw [e]; intro e2; have e3 := Option.some.inj e2; have := X9.lt; omega)
                        have X9 := X9.keep (hg2.block _ X9.lt (fun e => hne9 e.symm)) hg2.size
                        have hne9 := hne2; clear hne2
                        have hB := hB.grown hg2 hB.size (fun k hk => (hO.lt k hk).1)
                        clear hO
                        have hO := hO2
                        clear hO2 hg2 hat2
                        refine hK.out _ _ hB (fun hHeld => ?_)
                        clear hK K
                        (try simp only [Act.put, List.setIfInBounds_toArray, List.set_cons_zero, List.set_cons_succ, List.getElem_toArray, List.getElem_cons_zero, List.getElem_cons_succ])
                        refine wpAnyH_ready (rs := [15]) (by kernel_rfl) (by simp) ?_
                        refine AllReadyH.cons rfl (fun K hK => ?_) ?_
                        · refine appS_if (by rfl) _ _ (by rfl) (by rfl) W0.heap.size (k + 1) (strs [] ++ strs (O.take k) ++ strs [x]) hO a1 (N - k) c1 (by rfl) (O.drop k) (by rw [List.length_drop]; omega) (HS2 _ (HIO.out.later hB)) (by omega) hB.size ?_
                          intro v14 W5 hO2 hg2 hat2
                          have hne2 : v14.ownBlock ≠ some W2.heap.size := by rcases hat2 with e | e; (rw [e]; exact hne9); (rw [e]; intro e2; have e3 := Option.some.inj e2; have := X9.lt; omega)
                          have X9 := X9.keep (hg2.block _ X9.lt (fun e => hne9 e.symm)) hg2.size
                          have hne9 := hne2; clear hne2
                          have hB := hB.grown hg2 hB.size (fun k hk => (hO.lt k hk).1)
                          clear hO
                          have hO := hO2
                          clear hO2 hg2 hat2
                          refine hK.out _ _ hB (fun hHeld => ?_)
                          clear hK K
                          (try simp only [Act.put, List.setIfInBounds_toArray, List.set_cons_zero, List.set_cons_succ, List.getElem_toArray, List.getElem_cons_zero, List.getElem_cons_succ])
                          refine wpAnyH_take (i := 16) (v := ?_) rfl (by kernel_rfl) (by kernel_rfl) (by kernel_rfl) (fun _ _ _ h => h) (Or.inl ⟨by rfl, ?_⟩) (by assumption) ?_
                          rotate_left
                          · (intro wx hSw; go_simp; (try with_reducible rfl); (try omega))
                          (try simp only [Act.put, List.setIfInBounds_toArray, List.set_cons_zero, List.set_cons_succ, List.getElem_toArray, List.getElem_cons_zero, List.getElem_cons_succ])
                          refine wpAnyH_done (by kernel_rfl) ?_ _
                          have hO : W5.ownsRow W0.heap.size 9 1 v14 (k + 1 + (N - k)) (strs (O.take k ++ ([x] ++ O.drop k))) := by have h := hO; simpa [strs] using h
                          have hO := SL.own hO (by simp only [List.length_append, List.length_take, List.length_drop, List.length_singleton]; omega) HSM.out
                          have hO := hid0 hO
                          go_wp2_with fail
                          exact ⟨⟨i + 1, _, by omega, by go_num, hO.out, HEND.out, by rw [HLX.out]; omega, below_through hB hBW.size hBW⟩, by simp [intOf]; omega⟩
                        exact AllReadyH.nil
                      exact AllReadyH.nil
                    exact AllReadyH.nil
                  refine AllReadyH.cons rfl (fun K hK => ?_) ?_
                  · (try simp only [Act.put, List.setIfInBounds_toArray, List.set_cons_zero, List.set_cons_succ, List.getElem_toArray, List.getElem_cons_zero, List.getElem_cons_succ])
                    go_simp
                    obtain ⟨W2, hW2⟩ : ∃ W', W1.alloc (.cells #[.string x] 9) = W' := ⟨_, rfl⟩
                    have X9 : VarB W2 W1.heap.size [.string x] := by rw [← hW2]; exact VarB.new _ _ _
                    have hne9 : (Value.slice (some ⟨W0.heap.size, 0, none⟩) 0 0).ownBlock ≠ some W1.heap.size := fun e => by have := (hO.lt _ e).2; omega
                    have hO := hO.alloc (.cells #[.string x] 9); rw [hW2] at hO
                    have hB := hB.alloc hB.size (.cells #[.string x] 9); rw [hW2] at hB
                    rw [hW2]
                    refine hK.out _ _ hB (fun hHeld => ?_)
                    clear hW2
                    clear hK K
                    (try simp only [Act.put, List.setIfInBounds_toArray, List.set_cons_zero, List.set_cons_succ, List.getElem_toArray, List.getElem_cons_zero, List.getElem_cons_succ])
                    refine wpAnyH_ready (rs := [4]) (by kernel_rfl) (by simp) ?_
                    refine AllReadyH.cons rfl (fun K hK => ?_) ?_
                    · refine appS_if (by rfl) _ _ (by rfl) (by rfl) W0.heap.size (0) (strs []) hO (some ⟨bo, oo, none⟩) (k) cO (by rfl) (O.take k) (by rw [List.length_take]; omega) ((HIO.out.later hB).head k) (by omega) hB.size ?_
                      intro v4 W3 hO2 hg2 hat2
                      have hne2 : v4.ownBlock ≠ some W1.heap.size := by rcases hat2 with e | e; (rw [e]; exact hne9); (rw [e]; intro e2; have e3 := Option.some.inj e2; have := X9.lt; omega)
                      have X9 := X9.keep (hg2.block _ X9.lt (fun e => hne9 e.symm)) hg2.size
                      have hne9 := hne2; clear hne2
                      have hB := hB.grown hg2 hB.size (fun k hk => (hO.lt k hk).1)
                      clear hO
                      have hO := hO2
                      clear hO2 hg2 hat2
                      rw [Nat.zero_add] at hO
                      refine hK.out _ _ hB (fun hHeld => ?_)
                      clear hK K
                      (try simp only [Act.put, List.setIfInBounds_toArray, List.set_cons_zero, List.set_cons_succ, List.getElem_toArray, List.getElem_cons_zero, List.getElem_cons_succ])
                      refine wpAnyH_ready (rs := [11]) (by kernel_rfl) (by simp) ?_
                      refine AllReadyH.cons rfl (fun K hK => ?_) ?_
                      · refine appS_if (by rfl) _ _ (by rfl) (by rfl) W0.heap.size (k) (strs [] ++ strs (O.take k)) hO (some ⟨W1.heap.size, 0, none⟩) (1) 1 (by rfl) [x] rfl (strs_one (X9.cell 0 rfl) hxs.out) (by omega) hB.size ?_
                        intro v10 W4 hO2 hg2 hat2
                        have hne2 : v10.ownBlock ≠ some W1.heap.size := by rcases hat2 with e | e; (rw [e]; exact hne9); (rw [e]; intro e2; have e3 := Option.some.inj e2; have := X9.lt; omega)
                        have X9 := X9.keep (hg2.block _ X9.lt (fun e => hne9 e.symm)) hg2.size
                        have hne9 := hne2; clear hne2
                        have hB := hB.grown hg2 hB.size (fun k hk => (hO.lt k hk).1)
                        clear hO
                        have hO := hO2
                        clear hO2 hg2 hat2
                        refine hK.out _ _ hB (fun hHeld => ?_)
                        clear hK K
                        (try simp only [Act.put, List.setIfInBounds_toArray, List.set_cons_zero, List.set_cons_succ, List.getElem_toArray, List.getElem_cons_zero, List.getElem_cons_succ])
                        refine wpAnyH_ready (rs := [15]) (by kernel_rfl) (by simp) ?_
                        refine AllReadyH.cons rfl (fun K hK => ?_) ?_
                        · refine appS_if (by rfl) _ _ (by rfl) (by rfl) W0.heap.size (k + 1) (strs [] ++ strs (O.take k) ++ strs [x]) hO a1 (N - k) c1 (by rfl) (O.drop k) (by rw [List.length_drop]; omega) (HS2 _ (HIO.out.later hB)) (by omega) hB.size ?_
                          intro v14 W5 hO2 hg2 hat2
                          have hne2 : v14.ownBlock ≠ some W1.heap.size := by rcases hat2 with e | e; (rw [e]; exact hne9); (rw [e]; intro e2; have e3 := Option.some.inj e2; have := X9.lt; omega)
                          have X9 := X9.keep (hg2.block _ X9.lt (fun e => hne9 e.symm)) hg2.size
                          have hne9 := hne2; clear hne2
                          have hB := hB.grown hg2 hB.size (fun k hk => (hO.lt k hk).1)
                          clear hO
                          have hO := hO2
                          clear hO2 hg2 hat2
                          refine hK.out _ _ hB (fun hHeld => ?_)
                          clear hK K
                          (try simp only [Act.put, List.setIfInBounds_toArray, List.set_cons_zero, List.set_cons_succ, List.getElem_toArray, List.getElem_cons_zero, List.getElem_cons_succ])
                          refine wpAnyH_take (i := 16) (v := ?_) rfl (by kernel_rfl) (by kernel_rfl) (by kernel_rfl) (fun _ _ _ h => h) (Or.inl ⟨by rfl, ?_⟩) (by assumption) ?_
                          rotate_left
                          · (intro wx hSw; go_simp; (try with_reducible rfl); (try omega))
                          (try simp only [Act.put, List.setIfInBounds_toArray, List.set_cons_zero, List.set_cons_succ, List.getElem_toArray, List.getElem_cons_zero, List.getElem_cons_succ])
                          refine wpAnyH_done (by kernel_rfl) ?_ _
                          have hO : W5.ownsRow W0.heap.size 9 1 v14 (k + 1 + (N - k)) (strs (O.take k ++ ([x] ++ O.drop k))) := by have h := hO; simpa [strs] using h
                          have hO := SL.own hO (by simp only [List.length_append, List.length_take, List.length_drop, List.length_singleton]; omega) HSM.out
                          have hO := hid0 hO
                          go_wp2_with fail
                          exact ⟨⟨i + 1, _, by omega, by go_num, hO.out, HEND.out, by rw [HLX.out]; omega, below_through hB hBW.size hBW⟩, by simp [intOf]; omega⟩
                        exact AllReadyH.nil
                      exact AllReadyH.nil
                    exact AllReadyH.nil
                  exact AllReadyH.nil
                refine AllReadyH.cons rfl (fun K hK => ?_) ?_
                · (try simp only [Act.put, List.setIfInBounds_toArray, List.set_cons_zero, List.set_cons_succ, List.getElem_toArray, List.getElem_cons_zero, List.getElem_cons_succ])
                  go_simp
                  obtain ⟨W1, hW1⟩ : ∃ W', W0.alloc (.cells #[.string x] 9) = W' := ⟨_, rfl⟩
                  have X9 : VarB W1 W0.heap.size [.string x] := by rw [← hW1]; exact VarB.new _ _ _
                  have hB := hB.alloc hB.size (.cells #[.string x] 9); rw [hW1] at hB
                  rw [hW1]
                  refine hK.out _ _ hB (fun hHeld => ?_)
                  clear hW1
                  clear hK K
                  (try simp only [Act.put, List.setIfInBounds_toArray, List.set_cons_zero, List.set_cons_succ, List.getElem_toArray, List.getElem_cons_zero, List.getElem_cons_succ])
                  refine wpAnyH_ready (rs := [0]) (by kernel_rfl) (by simp) ?_
                  refine AllReadyH.cons rfl (fun K hK => ?_) ?_
                  · (try simp only [Act.put, List.setIfInBounds_toArray, List.set_cons_zero, List.set_cons_succ, List.getElem_toArray, List.getElem_cons_zero])
                    go_simp
                    obtain ⟨W2, hW2⟩ : ∃ W', W1.alloc (.cells #[] 9) = W' := ⟨_, rfl⟩
                    have hO := madeS W1 W0.heap.size hB.size; rw [hW2] at hO
                    have hB := hB.alloc hB.size (.cells #[] 9); rw [hW2] at hB
                    have hne9 : (Value.slice (some ⟨W1.heap.size, 0, none⟩) 0 0).ownBlock ≠ some W0.heap.size := by have := X9.lt; simp [Value.ownBlock]; omega
                    have X9 := X9.alloc (.cells #[] 9); rw [hW2] at X9
                    rw [hW2]
                    refine hK.out _ _ hB (fun hHeld => ?_)
                    clear hW2
                    clear hK K
                    (try simp only [Act.put, List.setIfInBounds_toArray, List.set_cons_zero, List.set_cons_succ, List.getElem_toArray, List.getElem_cons_zero, List.getElem_cons_succ])
                    refine wpAnyH_ready (rs := [4]) (by kernel_rfl) (by simp) ?_
                    refine AllReadyH.cons rfl (fun K hK => ?_) ?_
                    · refine appS_if (by rfl) _ _ (by rfl) (by rfl) W0.heap.size (0) (strs []) hO (some ⟨bo, oo, none⟩) (k) cO (by rfl) (O.take k) (by rw [List.length_take]; omega) ((HIO.out.later hB).head k) (by omega) hB.size ?_
                      intro v4 W3 hO2 hg2 hat2
                      have hne2 : v4.ownBlock ≠ some W0.heap.size := by rcases hat2 with e | e; (rw [e]; exact hne9); (rw [e]; intro e2; have e3 := Option.some.inj e2; have := X9.lt; omega)
                      have X9 := X9.keep (hg2.block _ X9.lt (fun e => hne9 e.symm)) hg2.size
                      have hne9 := hne2; clear hne2
                      have hB := hB.grown hg2 hB.size (fun k hk => (hO.lt k hk).1)
                      clear hO
                      have hO := hO2
                      clear hO2 hg2 hat2
                      rw [Nat.zero_add] at hO
                      refine hK.out _ _ hB (fun hHeld => ?_)
                      clear hK K
                      (try simp only [Act.put, List.setIfInBounds_toArray, List.set_cons_zero, List.set_cons_succ, List.getElem_toArray, List.getElem_cons_zero, List.getElem_cons_succ])
                      refine wpAnyH_ready (rs := [11]) (by kernel_rfl) (by simp) ?_
                      refine AllReadyH.cons rfl (fun K hK => ?_) ?_
                      · refine appS_if (by rfl) _ _ (by rfl) (by rfl) W0.heap.size (k) (strs [] ++ strs (O.take k)) hO (some ⟨W0.heap.size, 0, none⟩) (1) 1 (by rfl) [x] rfl (strs_one (X9.cell 0 rfl) hxs.out) (by omega) hB.size ?_
                        intro v10 W4 hO2 hg2 hat2
                        have hne2 : v10.ownBlock ≠ some W0.heap.size := by rcases hat2 with e | e; (rw [e]; exact hne9); (rw [e]; intro e2; have e3 := Option.some.inj e2; have := X9.lt; omega)
                        have X9 := X9.keep (hg2.block _ X9.lt (fun e => hne9 e.symm)) hg2.size
                        have hne9 := hne2; clear hne2
                        have hB := hB.grown hg2 hB.size (fun k hk => (hO.lt k hk).1)
                        clear hO
                        have hO := hO2
                        clear hO2 hg2 hat2
                        refine hK.out _ _ hB (fun hHeld => ?_)
                        clear hK K
                        (try simp only [Act.put, List.setIfInBounds_toArray, List.set_cons_zero, List.set_cons_succ, List.getElem_toArray, List.getElem_cons_zero, List.getElem_cons_succ])
                        refine wpAnyH_ready (rs := [15]) (by kernel_rfl) (by simp) ?_
                        refine AllReadyH.cons rfl (fun K hK => ?_) ?_
                        · refine appS_if (by rfl) _ _ (by rfl) (by rfl) W0.heap.size (k + 1) (strs [] ++ strs (O.take k) ++ strs [x]) hO a1 (N - k) c1 (by rfl) (O.drop k) (by rw [List.length_drop]; omega) (HS2 _ (HIO.out.later hB)) (by omega) hB.size ?_
                          intro v14 W5 hO2 hg2 hat2
                          have hne2 : v14.ownBlock ≠ some W0.heap.size := by rcases hat2 with e | e; (rw [e]; exact hne9); (rw [e]; intro e2; have e3 := Option.some.inj e2; have := X9.lt; omega)
                          have X9 := X9.keep (hg2.block _ X9.lt (fun e => hne9 e.symm)) hg2.size
                          have hne9 := hne2; clear hne2
                          have hB := hB.grown hg2 hB.size (fun k hk => (hO.lt k hk).1)
                          clear hO
                          have hO := hO2
                          clear hO2 hg2 hat2
                          refine hK.out _ _ hB (fun hHeld => ?_)
                          clear hK K
                          (try simp only [Act.put, List.setIfInBounds_toArray, List.set_cons_zero, List.set_cons_succ, List.getElem_toArray, List.getElem_cons_zero, List.getElem_cons_succ])
                          refine wpAnyH_take (i := 16) (v := ?_) rfl (by kernel_rfl) (by kernel_rfl) (by kernel_rfl) (fun _ _ _ h => h) (Or.inl ⟨by rfl, ?_⟩) (by assumption) ?_
                          rotate_left
                          · (intro wx hSw; go_simp; (try with_reducible rfl); (try omega))
                          (try simp only [Act.put, List.setIfInBounds_toArray, List.set_cons_zero, List.set_cons_succ, List.getElem_toArray, List.getElem_cons_zero, List.getElem_cons_succ])
                          refine wpAnyH_done (by kernel_rfl) ?_ _
                          have hO : W5.ownsRow W0.heap.size 9 1 v14 (k + 1 + (N - k)) (strs (O.take k ++ ([x] ++ O.drop k))) := by have h := hO; simpa [strs] using h
                          have hO := SL.own hO (by simp only [List.length_append, List.length_take, List.length_drop, List.length_singleton]; omega) HSM.out
                          have hO := hid0 hO
                          go_wp2_with fail
                          exact ⟨⟨i + 1, _, by omega, by go_num, hO.out, HEND.out, by rw [HLX.out]; omega, below_through hB hBW.size hBW⟩, by simp [intOf]; omega⟩
                        exact AllReadyH.nil
                      exact AllReadyH.nil
                    exact AllReadyH.nil
                  exact AllReadyH.nil
                exact AllReadyH.nil
            · have g2 : decide ((k : Int) < (N : Int)) = false := by simpa using hkN
              have HKN := hid0 (show ∀ h : k < O.length, ¬ gb O[k] < gb x from fun h => absurd h (by rw [HN.out]; exact hkN))
              go_wp2_with fail
              go_quiet (fail)
              go_wp2_with fail
              have hb2 := drewK (nq := nq) hb2
              clear p0
              generalize wr.drewN nq = wq at hb2 ⊢
              have HR := hid0 (show lowG x O = k from lowG_of (by rw [HN.out]; omega) (fun t ht htk => hlo.out t ht htk) HKN.out)
              obtain ⟨a1, c1, HS1, HS2⟩ := strs_hi ao O N cO k HN.out (by omega) hcO (by omega)
              have HS0 := strs_lo ao N cO k (by omega) hcO (by omega)
              have hOl : O.length = N := HN.out
              have hB : Below wq.drew.heap.size wq.drew wq.drew := Below.refl _ _
              have hBW : Below w.heap.size w wq.drew := Below.drew (below_through hb2 HB2.out.size HB2.out)
              have HIO : Hid (StrsA wq.drew ao O) := hid0 (HIO.out.later (Below.drew hb2))
              have q0 := cell_later (Below.drew hb2) q0
              have HSM := hid0 (show ∀ s ∈ O.take k ++ ([x] ++ O.drop k), s.size ≤ maxLen from fun s hs => by
                rcases List.mem_append.1 hs with h | h
                · exact HIO.out.small s (List.mem_of_mem_take h)
                · rcases List.mem_append.1 h with h | h
                  · obtain rfl := List.mem_singleton.1 h; exact hxs.out
                  · exact HIO.out.small s (List.mem_of_mem_drop h))
              have HEND := hid0 (show (dat (l.take (i + 1))).foldl (addG name) [] = O.take k ++ ([x] ++ O.drop k) by rw [hst.out]; unfold insG; rw [HR.out]; rfl)
              have HLX := hid0 (show (O.take k ++ ([x] ++ O.drop k)).length = N + 1 by simp only [List.length_append, List.length_take, List.length_drop, List.length_singleton]; omega)
              clear hlo HKN hb2 HR
              refine wp_region_held_drew (S := (fun W => Below wq.drew.heap.size wq.drew W)) (by kernel_rfl) hB (fun hHeld => ?_)
              generalize wq.drew = W0 at hB HIO q0 hBW hHeld ⊢
              refine wpAnyH_take (i := 1) (v := ?_) rfl (by kernel_rfl) (by kernel_rfl) (by kernel_rfl) (fun _ _ _ h => h) (Or.inl ⟨by rfl, ?_⟩) (by assumption) ?_
              rotate_left
              · (intro wx hSw; go_simp; (try with_reducible rfl); (try omega))
              (try simp only [Act.put, List.setIfInBounds_toArray, List.getElem_toArray])
              refine wpAnyH_take (i := 2) (v := ?_) rfl (by kernel_rfl) (by kernel_rfl) (by kernel_rfl) (fun _ _ _ h => h) (Or.inl ⟨by rfl, ?_⟩) (by assumption) ?_
              rotate_left
              · (intro wx hSw; go_simp; (try with_reducible rfl); (try omega))
              (try simp only [Act.put, List.setIfInBounds_toArray, List.set_cons_zero, List.set_cons_succ, List.getElem_toArray, List.getElem_cons_zero, List.getElem_cons_succ])
              refine wpAnyH_take (i := 3) (v := ?_) rfl (by kernel_rfl) (by kernel_rfl) (by kernel_rfl) (fun _ _ _ h => h) (Or.inl ⟨by rfl, ?_⟩) (by assumption) ?_
              rotate_left
              · (intro wx hSw; go_simp; (try with_reducible rfl); (try omega))
              (try simp only [Act.put, List.setIfInBounds_toArray, List.set_cons_zero, List.set_cons_succ, List.getElem_toArray, List.getElem_cons_zero, List.getElem_cons_succ])
              refine wpAnyH_take (i := 5) (v := ?_) rfl (by kernel_rfl) (by kernel_rfl) (by kernel_rfl) (fun _ _ _ h => h) (Or.inl ⟨by rfl, ?_⟩) (by assumption) ?_
              rotate_left
              · (intro wx hSw; go_simp; (try with_reducible rfl); (try omega))
              (try simp only [Act.put, List.setIfInBounds_toArray, List.set_cons_zero, List.set_cons_succ, List.getElem_toArray, List.getElem_cons_zero, List.getElem_cons_succ])
              refine wpAnyH_take (i := 6) (v := ?_) rfl (by kernel_rfl) (by kernel_rfl) (by kernel_rfl) (fun _ _ _ h => h) (Or.inl ⟨by rfl, ?_⟩) (by assumption) ?_
              rotate_left
              · (intro wx hSw; go_simp; (try with_reducible rfl); (try omega))
              (try simp only [Act.put, List.setIfInBounds_toArray, List.set_cons_zero, List.set_cons_succ, List.getElem_toArray, List.getElem_cons_zero, List.getElem_cons_succ])
              refine wpAnyH_take (i := 7) (v := ?_) rfl (by kernel_rfl) (by kernel_rfl) (by kernel_rfl) (fun _ _ _ h => h) (Or.inl ⟨by rfl, ?_⟩) (by assumption) ?_
              rotate_left
              · (intro wx hSw; go_simp; (try with_reducible rfl); (try omega))
              (try simp only [Act.put, List.setIfInBounds_toArray, List.set_cons_zero, List.set_cons_succ, List.getElem_toArray, List.getElem_cons_zero, List.getElem_cons_succ])
              refine wpAnyH_take (i := 8) (v := ?_) rfl (by kernel_rfl) (by kernel_rfl) (by kernel_rfl) (fun _ _ _ h => h) (Or.inl ⟨by rfl, ?_⟩) (by assumption) ?_
              rotate_left
              · (intro wx hSw; go_simp; (try with_reducible rfl); (try omega))
              (try simp only [Act.put, List.setIfInBounds_toArray, List.set_cons_zero, List.set_cons_succ, List.getElem_toArray, List.getElem_cons_zero, List.getElem_cons_succ])
              refine wpAnyH_take (i := 9) (v := ?_) rfl (by kernel_rfl) (by kernel_rfl) (by kernel_rfl) (fun _ _ _ h => h) (Or.inl ⟨by rfl, ?_⟩) (by assumption) ?_
              rotate_left
              · (intro wx hSw; have hk := cell_later hSw q0; go_simp; (try with_reducible rfl); (try omega))
              (try simp only [Act.put, List.setIfInBounds_toArray, List.set_cons_zero, List.set_cons_succ, List.getElem_toArray, List.getElem_cons_zero, List.getElem_cons_succ])
              refine wpAnyH_take (i := 12) (v := ?_) rfl (by kernel_rfl) (by kernel_rfl) (by kernel_rfl) (fun _ _ _ h => h) (Or.inl ⟨by rfl, ?_⟩) (by assumption) ?_
              rotate_left
              · (intro wx hSw; go_simp; (try with_reducible rfl); (try omega))
              (try simp only [Act.put, List.setIfInBounds_toArray, List.set_cons_zero, List.set_cons_succ, List.getElem_toArray, List.getElem_cons_zero, List.getElem_cons_succ])
              refine wpAnyH_take (i := 13) (v := ?_) rfl (by kernel_rfl) (by kernel_rfl) (by kernel_rfl) (fun _ _ _ h => h) (Or.inl ⟨by rfl, ?_⟩) (by assumption) ?_
              rotate_left
              · (intro wx hSw; go_simp; (try with_reducible rfl); (try omega))
              (try simp only [Act.put, List.setIfInBounds_toArray, List.set_cons_zero, List.set_cons_succ, List.getElem_toArray, List.getElem_cons_zero, List.getElem_cons_succ])
              refine wpAnyH_take (i := 14) (v := ?_) rfl (by kernel_rfl) (by kernel_rfl) (by kernel_rfl) (fun _ _ _ h => h) (Or.inl ⟨by rfl, ?_⟩) (by assumption) ?_
              rotate_left
              · (intro wx hSw; go_simp; (try with_reducible rfl); (try omega))
              (try simp only [Act.put, List.setIfInBounds_toArray, List.set_cons_zero, List.set_cons_succ, List.getElem_toArray, List.getElem_cons_zero, List.getElem_cons_succ])
              refine wpAnyH_ready (rs := [0, 10]) (by kernel_rfl) (by simp) ?_
              refine AllReadyH.cons rfl (fun K hK => ?_) ?_
              · (try simp only [Act.put, List.setIfInBounds_toArray, List.set_cons_zero, List.set_cons_succ, List.getElem_toArray, List.getElem_cons_zero])
                go_simp
                obtain ⟨W1, hW1⟩ : ∃ W', W0.alloc (.cells #[] 9) = W' := ⟨_, rfl⟩
                have hO := madeS W0 W0.heap.size hB.size; rw [hW1] at hO
                have hB := hB.alloc hB.size (.cells #[] 9); rw [hW1] at hB
                rw [hW1]
                refine hK.out _ _ hB (fun hHeld => ?_)
                clear hW1
                clear hK K
                (try simp only [Act.put, List.setIfInBounds_toArray, List.set_cons_zero, List.set_cons_succ, List.getElem_toArray, List.getElem_cons_zero, List.getElem_cons_succ])
                refine wpAnyH_ready (rs := [4, 10]) (by kernel_rfl) (by simp) ?_
                refine AllReadyH.cons rfl (fun K hK => ?_) ?_
                · refine appS_if (by rfl) _ _ (by rfl) (by rfl) W0.heap.size (0) (strs []) hO ao (k) cO (by rfl) (O.take k) (by rw [List.length_take]; omega) ((HIO.out.later hB).head k) (by omega) hB.size ?_
                  intro v4 W2 hO2 hg2 hat2
                  have hB := hB.grown hg2 hB.size (fun k hk => (hO.lt k hk).1)
                  clear hO
                  have hO := hO2
                  clear hO2 hg2 hat2
                  rw [Nat.zero_add] at hO
                  refine hK.out _ _ hB (fun hHeld => ?_)
                  clear hK K
                  (try simp only [Act.put, List.setIfInBounds_toArray, List.set_cons_zero, List.set_cons_succ, List.getElem_toArray, List.getElem_cons_zero, List.getElem_cons_succ])
                  refine wpAnyH_ready (rs := [10]) (by kernel_rfl) (by simp) ?_
                  refine AllReadyH.cons rfl (fun K hK => ?_) ?_
                  · (try simp only [Act.put, List.setIfInBounds_toArray, List.set_cons_zero, List.set_cons_succ, List.getElem_toArray, List.getElem_cons_zero, List.getElem_cons_succ])
                    go_simp
                    obtain ⟨W3, hW3⟩ : ∃ W', W2.alloc (.cells #[.string x] 9) = W' := ⟨_, rfl⟩
                    have X9 : VarB W3 W2.heap.size [.string x] := by rw [← hW3]; exact VarB.new _ _ _
                    have hne9 : v4.ownBlock ≠ some W2.heap.size := fun e => by have := (hO.lt _ e).2; omega
                    have hO := hO.alloc (.cells #[.string x] 9); rw [hW3] at hO
                    have hB := hB.alloc hB.size (.cells #[.string x] 9); rw [hW3] at hB
                    rw [hW3]
                    refine hK.out _ _ hB (fun hHeld => ?_)
                    clear hW3
                    clear hK K
                    (try simp only [Act.put, List.setIfInBounds_toArray, List.set_cons_zero, List.set_cons_succ, List.getElem_toArray, List.getElem_cons_zero, List.getElem_cons_succ])
                    refine wpAnyH_ready (rs := [11]) (by kernel_rfl) (by simp) ?_
                    refine AllReadyH.cons rfl (fun K hK => ?_) ?_
                    · refine appS_if (by rfl) _ _ (by rfl) (by rfl) W0.heap.size (k) (strs [] ++ strs (O.take k)) hO (some ⟨W2.heap.size, 0, none⟩) (1) 1 (by rfl) [x] rfl (strs_one (X9.cell 0 rfl) hxs.out) (by omega) hB.size ?_
                      intro v10 W4 hO2 hg2 hat2
                      have hne2 : v10.ownBlock ≠ some W2.heap.size := by rcases hat2 with e | e; (rw [e]; exact hne9); (rw [e]; intro e2; have e3 := Option.some.inj e2; have := X9.lt; omega)
                      have X9 := X9.keep (hg2.block _ X9.lt (fun e => hne9 e.symm)) hg2.size
                      have hne9 := hne2; clear hne2
                      have hB := hB.grown hg2 hB.size (fun k hk => (hO.lt k hk).1)
                      clear hO
                      have hO := hO2
                      clear hO2 hg2 hat2
                      refine hK.out _ _ hB (fun hHeld => ?_)
                      clear hK K
                      (try simp only [Act.put, List.setIfInBounds_toArray, List.set_cons_zero, List.set_cons_succ, List.getElem_toArray, List.getElem_cons_zero, List.getElem_cons_succ])
                      refine wpAnyH_ready (rs := [15]) (by kernel_rfl) (by simp) ?_
                      refine AllReadyH.cons rfl (fun K hK => ?_) ?_
                      · refine appS_if (by rfl) _ _ (by rfl) (by rfl) W0.heap.size (k + 1) (strs [] ++ strs (O.take k) ++ strs [x]) hO a1 (N - k) c1 (by rfl) (O.drop k) (by rw [List.length_drop]; omega) (HS2 _ (HIO.out.later hB)) (by omega) hB.size ?_
                        intro v14 W5 hO2 hg2 hat2
                        have hne2 : v14.ownBlock ≠ some W2.heap.size := by rcases hat2 with e | e; (rw [e]; exact hne9); (rw [e]; intro e2; have e3 := Option.some.inj e2; have := X9.lt; omega)
                        have X9 := X9.keep (hg2.block _ X9.lt (fun e => hne9 e.symm)) hg2.size
                        have hne9 := hne2; clear hne2
                        have hB := hB.grown hg2 hB.size (fun k hk => (hO.lt k hk).1)
                        clear hO
                        have hO := hO2
                        clear hO2 hg2 hat2
                        refine hK.out _ _ hB (fun hHeld => ?_)
                        clear hK K
                        (try simp only [Act.put, List.setIfInBounds_toArray, List.set_cons_zero, List.set_cons_succ, List.getElem_toArray, List.getElem_cons_zero, List.getElem_cons_succ])
                        refine wpAnyH_take (i := 16) (v := ?_) rfl (by kernel_rfl) (by kernel_rfl) (by kernel_rfl) (fun _ _ _ h => h) (Or.inl ⟨by rfl, ?_⟩) (by assumption) ?_
                        rotate_left
                        · (intro wx hSw; go_simp; (try with_reducible rfl); (try omega))
                        (try simp only [Act.put, List.setIfInBounds_toArray, List.set_cons_zero, List.set_cons_succ, List.getElem_toArray, List.getElem_cons_zero, List.getElem_cons_succ])
                        refine wpAnyH_done (by kernel_rfl) ?_ _
                        have hO : W5.ownsRow W0.heap.size 9 1 v14 (k + 1 + (N - k)) (strs (O.take k ++ ([x] ++ O.drop k))) := by have h := hO; simpa [strs] using h
                        have hO := SL.own hO (by simp only [List.length_append, List.length_take, List.length_drop, List.length_singleton]; omega) HSM.out
                        have hO := hid0 hO
                        go_wp2_with fail
                        exact ⟨⟨i + 1, _, by omega, by go_num, hO.out, HEND.out, by rw [HLX.out]; omega, below_through hB hBW.size hBW⟩, by simp [intOf]; omega⟩
                      exact AllReadyH.nil
                    exact AllReadyH.nil
                  exact AllReadyH.nil
                refine AllReadyH.cons rfl (fun K hK => ?_) ?_
                · (try simp only [Act.put, List.setIfInBounds_toArray, List.set_cons_zero, List.set_cons_succ, List.getElem_toArray, List.getElem_cons_zero, List.getElem_cons_succ])
                  go_simp
                  obtain ⟨W2, hW2⟩ : ∃ W', W1.alloc (.cells #[.string x] 9) = W' := ⟨_, rfl⟩
                  have X9 : VarB W2 W1.heap.size [.string x] := by rw [← hW2]; exact VarB.new _ _ _
                  have hne9 : (Value.slice (some ⟨W0.heap.size, 0, none⟩) 0 0).ownBlock ≠ some W1.heap.size := fun e => by have := (hO.lt _ e).2; omega
                  have hO := hO.alloc (.cells #[.string x] 9); rw [hW2] at hO
                  have hB := hB.alloc hB.size (.cells #[.string x] 9); rw [hW2] at hB
                  rw [hW2]
                  refine hK.out _ _ hB (fun hHeld => ?_)
                  clear hW2
                  clear hK K
                  (try simp only [Act.put, List.setIfInBounds_toArray, List.set_cons_zero, List.set_cons_succ, List.getElem_toArray, List.getElem_cons_zero, List.getElem_cons_succ])
                  refine wpAnyH_ready (rs := [4]) (by kernel_rfl) (by simp) ?_
                  refine AllReadyH.cons rfl (fun K hK => ?_) ?_
                  · refine appS_if (by rfl) _ _ (by rfl) (by rfl) W0.heap.size (0) (strs []) hO ao (k) cO (by rfl) (O.take k) (by rw [List.length_take]; omega) ((HIO.out.later hB).head k) (by omega) hB.size ?_
                    intro v4 W3 hO2 hg2 hat2
                    have hne2 : v4.ownBlock ≠ some W1.heap.size := by rcases hat2 with e | e; (rw [e]; exact hne9); (rw [e]; intro e2; have e3 := Option.some.inj e2; have := X9.lt; omega)
                    have X9 := X9.keep (hg2.block _ X9.lt (fun e => hne9 e.symm)) hg2.size
                    have hne9 := hne2; clear hne2
                    have hB := hB.grown hg2 hB.size (fun k hk => (hO.lt k hk).1)
                    clear hO
                    have hO := hO2
                    clear hO2 hg2 hat2
                    rw [Nat.zero_add] at hO
                    refine hK.out _ _ hB (fun hHeld => ?_)
                    clear hK K
                    (try simp only [Act.put, List.setIfInBounds_toArray, List.set_cons_zero, List.set_cons_succ, List.getElem_toArray, List.getElem_cons_zero, List.getElem_cons_succ])
                    refine wpAnyH_ready (rs := [11]) (by kernel_rfl) (by simp) ?_
                    refine AllReadyH.cons rfl (fun K hK => ?_) ?_
                    · refine appS_if (by rfl) _ _ (by rfl) (by rfl) W0.heap.size (k) (strs [] ++ strs (O.take k)) hO (some ⟨W1.heap.size, 0, none⟩) (1) 1 (by rfl) [x] rfl (strs_one (X9.cell 0 rfl) hxs.out) (by omega) hB.size ?_
                      intro v10 W4 hO2 hg2 hat2
                      have hne2 : v10.ownBlock ≠ some W1.heap.size := by rcases hat2 with e | e; (rw [e]; exact hne9); (rw [e]; intro e2; have e3 := Option.some.inj e2; have := X9.lt; omega)
                      have X9 := X9.keep (hg2.block _ X9.lt (fun e => hne9 e.symm)) hg2.size
                      have hne9 := hne2; clear hne2
                      have hB := hB.grown hg2 hB.size (fun k hk => (hO.lt k hk).1)
                      clear hO
                      have hO := hO2
                      clear hO2 hg2 hat2
                      refine hK.out _ _ hB (fun hHeld => ?_)
                      clear hK K
                      (try simp only [Act.put, List.setIfInBounds_toArray, List.set_cons_zero, List.set_cons_succ, List.getElem_toArray, List.getElem_cons_zero, List.getElem_cons_succ])
                      refine wpAnyH_ready (rs := [15]) (by kernel_rfl) (by simp) ?_
                      refine AllReadyH.cons rfl (fun K hK => ?_) ?_
                      · refine appS_if (by rfl) _ _ (by rfl) (by rfl) W0.heap.size (k + 1) (strs [] ++ strs (O.take k) ++ strs [x]) hO a1 (N - k) c1 (by rfl) (O.drop k) (by rw [List.length_drop]; omega) (HS2 _ (HIO.out.later hB)) (by omega) hB.size ?_
                        intro v14 W5 hO2 hg2 hat2
                        have hne2 : v14.ownBlock ≠ some W1.heap.size := by rcases hat2 with e | e; (rw [e]; exact hne9); (rw [e]; intro e2; have e3 := Option.some.inj e2; have := X9.lt; omega)
                        have X9 := X9.keep (hg2.block _ X9.lt (fun e => hne9 e.symm)) hg2.size
                        have hne9 := hne2; clear hne2
                        have hB := hB.grown hg2 hB.size (fun k hk => (hO.lt k hk).1)
                        clear hO
                        have hO := hO2
                        clear hO2 hg2 hat2
                        refine hK.out _ _ hB (fun hHeld => ?_)
                        clear hK K
                        (try simp only [Act.put, List.setIfInBounds_toArray, List.set_cons_zero, List.set_cons_succ, List.getElem_toArray, List.getElem_cons_zero, List.getElem_cons_succ])
                        refine wpAnyH_take (i := 16) (v := ?_) rfl (by kernel_rfl) (by kernel_rfl) (by kernel_rfl) (fun _ _ _ h => h) (Or.inl ⟨by rfl, ?_⟩) (by assumption) ?_
                        rotate_left
                        · (intro wx hSw; go_simp; (try with_reducible rfl); (try omega))
                        (try simp only [Act.put, List.setIfInBounds_toArray, List.set_cons_zero, List.set_cons_succ, List.getElem_toArray, List.getElem_cons_zero, List.getElem_cons_succ])
                        refine wpAnyH_done (by kernel_rfl) ?_ _
                        have hO : W5.ownsRow W0.heap.size 9 1 v14 (k + 1 + (N - k)) (strs (O.take k ++ ([x] ++ O.drop k))) := by have h := hO; simpa [strs] using h
                        have hO := SL.own hO (by simp only [List.length_append, List.length_take, List.length_drop, List.length_singleton]; omega) HSM.out
                        have hO := hid0 hO
                        go_wp2_with fail
                        exact ⟨⟨i + 1, _, by omega, by go_num, hO.out, HEND.out, by rw [HLX.out]; omega, below_through hB hBW.size hBW⟩, by simp [intOf]; omega⟩
                      exact AllReadyH.nil
                    exact AllReadyH.nil
                  exact AllReadyH.nil
                exact AllReadyH.nil
              refine AllReadyH.cons rfl (fun K hK => ?_) ?_
              · (try simp only [Act.put, List.setIfInBounds_toArray, List.set_cons_zero, List.set_cons_succ, List.getElem_toArray, List.getElem_cons_zero, List.getElem_cons_succ])
                go_simp
                obtain ⟨W1, hW1⟩ : ∃ W', W0.alloc (.cells #[.string x] 9) = W' := ⟨_, rfl⟩
                have X9 : VarB W1 W0.heap.size [.string x] := by rw [← hW1]; exact VarB.new _ _ _
                have hB := hB.alloc hB.size (.cells #[.string x] 9); rw [hW1] at hB
                rw [hW1]
                refine hK.out _ _ hB (fun hHeld => ?_)
                clear hW1
                clear hK K
                (try simp only [Act.put, List.setIfInBounds_toArray, List.set_cons_zero, List.set_cons_succ, List.getElem_toArray, List.getElem_cons_zero, List.getElem_cons_succ])
                refine wpAnyH_ready (rs := [0]) (by kernel_rfl) (by simp) ?_
                refine AllReadyH.cons rfl (fun K hK => ?_) ?_
                · (try simp only [Act.put, List.setIfInBounds_toArray, List.set_cons_zero, List.set_cons_succ, List.getElem_toArray, List.getElem_cons_zero])
                  go_simp
                  obtain ⟨W2, hW2⟩ : ∃ W', W1.alloc (.cells #[] 9) = W' := ⟨_, rfl⟩
                  have hO := madeS W1 W0.heap.size hB.size; rw [hW2] at hO
                  have hB := hB.alloc hB.size (.cells #[] 9); rw [hW2] at hB
                  have hne9 : (Value.slice (some ⟨W1.heap.size, 0, none⟩) 0 0).ownBlock ≠ some W0.heap.size := by have := X9.lt; simp [Value.ownBlock]; omega
                  have X9 := X9.alloc (.cells #[] 9); rw [hW2] at X9
                  rw [hW2]
                  refine hK.out _ _ hB (fun hHeld => ?_)
                  clear hW2
                  clear hK K
                  (try simp only [Act.put, List.setIfInBounds_toArray, List.set_cons_zero, List.set_cons_succ, List.getElem_toArray, List.getElem_cons_zero, List.getElem_cons_succ])
                  refine wpAnyH_ready (rs := [4]) (by kernel_rfl) (by simp) ?_
                  refine AllReadyH.cons rfl (fun K hK => ?_) ?_
                  · refine appS_if (by rfl) _ _ (by rfl) (by rfl) W0.heap.size (0) (strs []) hO ao (k) cO (by rfl) (O.take k) (by rw [List.length_take]; omega) ((HIO.out.later hB).head k) (by omega) hB.size ?_
                    intro v4 W3 hO2 hg2 hat2
                    have hne2 : v4.ownBlock ≠ some W0.heap.size := by rcases hat2 with e | e; (rw [e]; exact hne9); (rw [e]; intro e2; have e3 := Option.some.inj e2; have := X9.lt; omega)
                    have X9 := X9.keep (hg2.block _ X9.lt (fun e => hne9 e.symm)) hg2.size
                    have hne9 := hne2; clear hne2
                    have hB := hB.grown hg2 hB.size (fun k hk => (hO.lt k hk).1)
                    clear hO
                    have hO := hO2
                    clear hO2 hg2 hat2
                    rw [Nat.zero_add] at hO
                    refine hK.out _ _ hB (fun hHeld => ?_)
                    clear hK K
                    (try simp only [Act.put, List.setIfInBounds_toArray, List.set_cons_zero, List.set_cons_succ, List.getElem_toArray, List.getElem_cons_zero, List.getElem_cons_succ])
                    refine wpAnyH_ready (rs := [11]) (by kernel_rfl) (by simp) ?_
                    refine AllReadyH.cons rfl (fun K hK => ?_) ?_
                    · refine appS_if (by rfl) _ _ (by rfl) (by rfl) W0.heap.size (k) (strs [] ++ strs (O.take k)) hO (some ⟨W0.heap.size, 0, none⟩) (1) 1 (by rfl) [x] rfl (strs_one (X9.cell 0 rfl) hxs.out) (by omega) hB.size ?_
                      intro v10 W4 hO2 hg2 hat2
                      have hne2 : v10.ownBlock ≠ some W0.heap.size := by rcases hat2 with e | e; (rw [e]; exact hne9); (rw [e]; intro e2; have e3 := Option.some.inj e2; have := X9.lt; omega)
                      have X9 := X9.keep (hg2.block _ X9.lt (fun e => hne9 e.symm)) hg2.size
                      have hne9 := hne2; clear hne2
                      have hB := hB.grown hg2 hB.size (fun k hk => (hO.lt k hk).1)
                      clear hO
                      have hO := hO2
                      clear hO2 hg2 hat2
                      refine hK.out _ _ hB (fun hHeld => ?_)
                      clear hK K
                      (try simp only [Act.put, List.setIfInBounds_toArray, List.set_cons_zero, List.set_cons_succ, List.getElem_toArray, List.getElem_cons_zero, List.getElem_cons_succ])
                      refine wpAnyH_ready (rs := [15]) (by kernel_rfl) (by simp) ?_
                      refine AllReadyH.cons rfl (fun K hK => ?_) ?_
                      · refine appS_if (by rfl) _ _ (by rfl) (by rfl) W0.heap.size (k + 1) (strs [] ++ strs (O.take k) ++ strs [x]) hO a1 (N - k) c1 (by rfl) (O.drop k) (by rw [List.length_drop]; omega) (HS2 _ (HIO.out.later hB)) (by omega) hB.size ?_
                        intro v14 W5 hO2 hg2 hat2
                        have hne2 : v14.ownBlock ≠ some W0.heap.size := by rcases hat2 with e | e; (rw [e]; exact hne9); (rw [e]; intro e2; have e3 := Option.some.inj e2; have := X9.lt; omega)
                        have X9 := X9.keep (hg2.block _ X9.lt (fun e => hne9 e.symm)) hg2.size
                        have hne9 := hne2; clear hne2
                        have hB := hB.grown hg2 hB.size (fun k hk => (hO.lt k hk).1)
                        clear hO
                        have hO := hO2
                        clear hO2 hg2 hat2
                        refine hK.out _ _ hB (fun hHeld => ?_)
                        clear hK K
                        (try simp only [Act.put, List.setIfInBounds_toArray, List.set_cons_zero, List.set_cons_succ, List.getElem_toArray, List.getElem_cons_zero, List.getElem_cons_succ])
                        refine wpAnyH_take (i := 16) (v := ?_) rfl (by kernel_rfl) (by kernel_rfl) (by kernel_rfl) (fun _ _ _ h => h) (Or.inl ⟨by rfl, ?_⟩) (by assumption) ?_
                        rotate_left
                        · (intro wx hSw; go_simp; (try with_reducible rfl); (try omega))
                        (try simp only [Act.put, List.setIfInBounds_toArray, List.set_cons_zero, List.set_cons_succ, List.getElem_toArray, List.getElem_cons_zero, List.getElem_cons_succ])
                        refine wpAnyH_done (by kernel_rfl) ?_ _
                        have hO : W5.ownsRow W0.heap.size 9 1 v14 (k + 1 + (N - k)) (strs (O.take k ++ ([x] ++ O.drop k))) := by have h := hO; simpa [strs] using h
                        have hO := SL.own hO (by simp only [List.length_append, List.length_take, List.length_drop, List.length_singleton]; omega) HSM.out
                        have hO := hid0 hO
                        go_wp2_with fail
                        exact ⟨⟨i + 1, _, by omega, by go_num, hO.out, HEND.out, by rw [HLX.out]; omega, below_through hB hBW.size hBW⟩, by simp [intOf]; omega⟩
                      exact AllReadyH.nil
                    exact AllReadyH.nil
                  exact AllReadyH.nil
                exact AllReadyH.nil
              exact AllReadyH.nil
      · rw [decide_eq_false h1] at CI1
        have HX := hid0 (hst.out.trans (if_neg (fun h => h1 h.1)))
        clear h1 hst CI2
        go_wp2_with (first | (go_at_call 29; go_must ((with_reducible refine CI1.mono ?_); rintro e w6 ⟨rfl, hw6⟩; rw [hw6]; clear hw6 CI1)) | fail)
        exact ⟨⟨i + 1, O, by omega, by go_num, by rw [← HN.out]; exact ⟨⟨ao, cO, rfl, by rw [HN.out]; exact hcO, HIO.out⟩⟩, HX.out, by rw [HN.out]; omega, HB2.out⟩, by simp [intOf]; omega⟩
    · have hie : ¬ (i : Int) < (n : Int) := by omega
      obtain rfl : i = n := by omega
      have HX := hid0 (hT.symm.trans HE.out)
      have HO := hid0 hO
      clear hO hT
      go_wp2_with fail
      go_ret
      exact ⟨⟨_, rfl, by rw [← HX.out]; exact HO.out⟩, hbw⟩
end Go.Proofs.Ytadlelhdjakmmaa
