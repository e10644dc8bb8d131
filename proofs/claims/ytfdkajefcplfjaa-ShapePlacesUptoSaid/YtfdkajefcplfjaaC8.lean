/- Several of my texts laid together, each as it was: S6. Conditions: each names its own. -/
import Derived.Test.YtfdkajefcplfjaaC7
import Derived.Test.YtfdkajefcplfjaaB5
/- The reference's Refs: the contract of the call, in whatever memory. Conditions: the plan's cells are known, it reads not too many names. -/
namespace Go.Proofs.Ytfdkajefcplfjaa
open Go.RowKit

/-- The plan's box. -/
structure SRf (w : World) (us : List Value) (W : World) : Prop where
  v : VarB W w.heap.size us
  b : Below w.heap.size w W
theorem SRf.below {w : World} {us : List Value} {W W' : World} (h : SRf w us W) (hb : Below W.heap.size W W') : SRf w us W' := ⟨h.v.below hb, below_through hb h.b.size h.b⟩
theorem names_step {ps : List Px} {i j : Nat} (hi : i < ps.length) (hj : j < ps[i].fs.length) : (namesF (ps.take i) ++ ps[i].fs.take j).length + 1 ≤ (namesF ps).length := by
  have h1 := namesF_le (ps := ps) (i := i + 1)
  rw [namesF_take hi, List.length_append] at h1
  rw [List.length_append, List.length_take]
  omega
set_option maxHeartbeats 16000000 in
set_option maxRecDepth 1000000 in
theorem refRefs_any {n : Nat} (a : Option Addr) (c : Nat) (ps : List Px) (w : World) (hp : PsOk w n a c ps) (hN : (namesF ps).length ≤ 4000000) :
    Calls Try.prog 7 #[planV a ps.length c] w fun e w' => (∃ v, e = .returned v ∧ SL w' v (riseB (namesF ps))) ∧ Below w.heap.size w w' := by
  have hfew := hp.few
  have HP := hid0 hp
  have HNM := hid0 (fun (i j : Nat) (hi : i < ps.length) (hj : j < ps[i].fs.length) => names_step hi hj)
  have hS0 : SRf w [.slice a ps.length c] (w.alloc (.cells #[.slice a ps.length c] 24)) := ⟨VarB.new w [.slice a ps.length c] 24, (Below.refl _ _).alloc (Nat.le_refl _) _⟩
  have hS0 := hid0 hS0
  clear hp
  unfold planV
  go_enter Try.func7, Try.ntmps7
  go_wp2_with fail
  go_loopw [3, 4] (fun ov iv wr => ∃ i : Nat, i ≤ ps.length ∧ iv = .int .i64 i ∧ SL wr ov (riseB (namesF (ps.take i))) ∧ SRf w [.slice a ps.length c] wr) (fun _ iv _ => ps.length - (intOf iv).toNat)
  case atStart => exact ⟨0, Nat.zero_le _, rfl, by rw [List.take_zero, show namesF [] = [] from rfl, riseB_nil]; exact SL.nil _, hS0.out⟩
  case round =>
    clear hS0
    obtain ⟨i, hi, rfl, hO0, hS⟩ := hrel
    have v0 := hS.v.cell 0 rfl
    by_cases hlt : i < ps.length
    · have hlt' : (i : Int) < (ps.length : Int) := by omega
      have hst := namesF_take hlt
      have HNI := hid0 (fun (j : Nat) (hj : j < ps[i].fs.length) => HNM.out i j hlt hj)
      obtain ⟨bp, op, rfl, hbp, hR⟩ := HP.out.part i hlt
      have hok := HP.out.ok _ (List.getElem_mem hlt)
      have hfew2 := hok.fewF
      have HFS := hid0 hok.fs
      have hR1 : w.cell? ⟨bp, op + i * 20 + 1, none⟩ = some (.slice ps[i].fp ps[i].fs.length ps[i].fc) := rng hR 1 ps[i].c1
      generalize ps[i] = p at hst HNI hfew2 HFS hR1
      generalize namesF (ps.take i) = G0 at hst HNI hO0
      obtain ⟨fs, hfs⟩ : ∃ fs, p.fs = fs := ⟨_, rfl⟩
      rw [hfs] at hst HNI hfew2 HFS hR1
      generalize p.fp = fp at *
      generalize p.fc = fc at *
      obtain ⟨M, hM⟩ : ∃ M, fs.length = M := ⟨_, rfl⟩
      rw [hM] at hfew2 hR1
      have HM := hid0 hM
      have HST := hid0 hst
      have HR1 := hid0 hR1
      have HS := hid0 hS
      rw [show riseB G0 = riseB (G0 ++ fs.take 0) by rw [List.take_zero, List.append_nil]] at hO0
      have HO0 := hid0 hO0
      clear hst hok hR hM hfs hO0 hS hR1
      go_wp2_with fail
      go_loopw [3, 5] (fun ov jv wr => ∃ j : Nat, j ≤ M ∧ jv = .int .i64 j ∧ SL wr ov (riseB (G0 ++ fs.take j)) ∧ SRf w [.slice (some ⟨bp, op, none⟩) ps.length c] wr) (fun _ jv _ => M - (intOf jv).toNat)
      case atStart => exact ⟨0, Nat.zero_le _, rfl, HO0.out, HS.out⟩
      case round =>
        clear HO0 HS v0
        obtain ⟨j, hj, rfl, hO, hS⟩ := hrel
        have v0 := hS.v.cell 0 rfl
        have r1 := cell_later hS.b HR1.out
        by_cases hltj : j < M
        · have hltj' : (j : Int) < (M : Int) := by omega
          have hjF : j < fs.length := by rw [HM.out]; exact hltj
          have hG := HNI.out j hjF
          have HJ0 := List.take_succ_eq_append_getElem hjF
          obtain ⟨bl2, ol2, rfl, hcF⟩ := HFS.out.out (fun e => by rw [e] at hjF; exact absurd hjF (by simp))
          have q0 := cell_later hS.b (hcF j hjF)
          have hxs := hid0 (HFS.out.small _ (List.getElem_mem hjF))
          generalize fs[j] = x at q0 hxs HJ0
          have HJ := hid0 (show G0 ++ fs.take (j + 1) = (G0 ++ fs.take j) ++ [x] by rw [HJ0, List.append_assoc])
          generalize G0 ++ fs.take j = G at HJ hO hG
          have hRl : (riseB G).length ≤ G.length := riseB_len G
          have HR1' := hid0 (fun (h : x ∈ riseB G) => riseB_has h)
          have HR2 := hid0 (fun k => riseB_ins (F := G) (x := x) k)
          obtain ⟨ao, cO, rfl, hcO, hIO⟩ := hO.out
          generalize hOe : riseB G = O at hIO hcO hRl HR1' HR2
          obtain ⟨N, hNN⟩ : ∃ N, O.length = N := ⟨_, rfl⟩
          rw [hNN] at hcO hRl ⊢
          have HN := hid0 hNN
          have HIO := hid0 hIO
          have hS := hid0 hS
          have hNl : N + 1 ≤ 4000000 := by omega
          clear hcF hIO hNN hOe hO HJ0 hG hRl
          go_wp2_with fail
          clear v0 r1 q0
          go_loopw [7] (fun kv wr2 => ∃ k : Nat, k ≤ N ∧ kv = .int .i64 k ∧ wr2 = wr ∧ Hid (∀ j (h : j < O.length), j < k → bl O[j] < bl x)) (fun kv _ => N - (intOf kv).toNat)
          case atStart => exact ⟨0, Nat.zero_le _, rfl, rfl, hid0 (fun j _ h => absurd h (by omega))⟩
          case round =>
            obtain ⟨k, hk, rfl, rfl, hlo⟩ := hrel
            by_cases hkN : k < N
            · have hkO : k < O.length := by rw [HN.out]; exact hkN
              obtain ⟨bo, oo, rfl, hcO2⟩ := HIO.out.out (fun e => by rw [e] at hkO; exact absurd hkO (by simp))
              have hyk := hcO2 k hkO
              obtain ⟨y, hy⟩ : ∃ y, O[k] = y := ⟨_, rfl⟩
              rw [hy] at hyk
              have HY := hid0 hy
              clear hy hcO2
              have g0 : decide ((k : Int) < (N : Int)) = true := by simpa using hkN
              by_cases hyx : bl y < bl x
              · have g1 : Op.bytesLess y.toList x.toList = true := by rw [less_bl]; simpa using hyx
                have HYX := hid0 hyx
                clear hyx
                go_wp2_with fail
                exact ⟨⟨k + 1, by omega, by go_num, trivial, hid0 (fun j h hjk => by
                  rcases Nat.lt_or_ge j k with h1 | h1
                  · exact hlo.out j h h1
                  · obtain rfl : j = k := by omega
                    rw [HY.out]; exact HYX.out)⟩, by simp [intOf]; omega⟩
              · have g1 : Op.bytesLess y.toList x.toList = false := by rw [less_bl]; simpa using hyx
                by_cases hex : y = x
                · have g2 : (y.toList == x.toList) = true := by rw [eq_bl]; simpa using hex
                  have HX := hid0 hex
                  clear hex hyx
                  go_wp2_with fail
                  exact ⟨⟨j + 1, by omega, by go_num, by
                    rw [HJ.out, HR1'.out (by rw [← HX.out, ← HY.out]; exact List.getElem_mem hkO)]
                    exact ⟨⟨_, _, by rw [HN.out], by rw [HN.out]; exact hcO, HIO.out⟩⟩, hS.out⟩, by simp [intOf]; omega⟩
                · have g2 : (y.toList == x.toList) = false := by rw [eq_bl]; simpa using hex
                  have HX := hid0 (show ∀ h : k < O.length, bl x < bl O[k] from fun h => by
                    rw [HY.out]
                    exact ltL_of (List.le_refl _) (List.not_lt.1 hyx) (fun e => hex (bl_inj e.symm)))
                  clear hex hyx
                  go_wp2_with fail
                  clear hyk g0 g1 g2
                  obtain ⟨a1, c1, HS1, HS2⟩ := strs_hi (some ⟨bo, oo, none⟩) O N cO k HN.out (by omega) hcO (by omega)
                  have HS0 := strs_lo (some ⟨bo, oo, none⟩) N cO k (by omega) hcO (by omega)
                  have HR := hid0 (show riseB (G ++ [x]) = O.take k ++ ([x] ++ O.drop k) by rw [HR2.out k (by rw [HN.out]; omega) hlo.out HX.out])
                  have HN' := HN.out
                  have hOl : O.length = N := HN'
                  have hB : Below wr.drew.heap.size wr.drew wr.drew := Below.refl _ _
                  have HIO : Hid (StrsA wr.drew (some ⟨bo, oo, none⟩) O) := hid0 (HIO.out.later (Below.drew (Below.refl _ _)))
                  have hS2 : Hid (SRf w [.slice (some ⟨bp, op, none⟩) ps.length c] wr.drew) := hid0 (hS.out.below (Below.drew (Below.refl _ _)))
                  have HSM := hid0 (show ∀ s ∈ O.take k ++ ([x] ++ O.drop k), s.size ≤ maxLen from fun s hs => by
                    rcases List.mem_append.1 hs with h | h
                    · exact HIO.out.small s (List.mem_of_mem_take h)
                    · rcases List.mem_append.1 h with h | h
                      · obtain rfl := List.mem_singleton.1 h; exact hxs.out
                      · exact HIO.out.small s (List.mem_of_mem_drop h))
                  clear HN' hS
                  go_wp2_with fail
                  refine wp_region_held_drew (S := (fun W => Below wr.drew.heap.size wr.drew W)) (by kernel_rfl) hB (fun hHeld => ?_)
                  generalize wr.drew = W0 at hB HIO hS2 hHeld ⊢
                  refine wpAnyH_take (i := 1) (v := ?_) rfl (by kernel_rfl) (by kernel_rfl) (by kernel_rfl) (fun _ _ _ h => h) (Or.inl ⟨by rfl, ?_⟩) (by assumption) ?_
                  rotate_left
                  · (intro wx hSw; go_simp; (try with_reducible rfl); (try omega))
                  (try simp only [Act.put, List.setIfInBounds_toArray, List.getElem_toArray])
                  refine wpAnyH_take (i := 2) (v := ?_) rfl (by kernel_rfl) (by kernel_rfl) (by kernel_rfl) (fun _ _ _ h => h) (Or.inl ⟨by rfl, ?_⟩) (by assumption) ?_
                  rotate_left
                  · (intro wx hSw; go_simp; (try with_reducible rfl); (try omega))
                  (try simp only [Act.put, List.setIfInBounds_toArray, List.set_cons_zero, List.set_cons_succ, List.getElem_toArray, List.getElem_cons_zero, List.getElem_cons_succ])
                  refine wpAnyH_take (i := 3) (v := ?_) rfl (by kernel_rfl) (by kernel_rfl) (by kernel_rfl) (fun _ _ _ h => h) (Or.inl ⟨by rfl, ?_⟩) (by assumption) ?_
                  rotate_left
                  · (intro wx hSw; go_simp; (try with_reducible rfl); (try omega))
                  (try simp only [Act.put, List.setIfInBounds_toArray, List.set_cons_zero, List.set_cons_succ, List.getElem_toArray, List.getElem_cons_zero, List.getElem_cons_succ])
                  refine wpAnyH_take (i := 5) (v := ?_) rfl (by kernel_rfl) (by kernel_rfl) (by kernel_rfl) (fun _ _ _ h => h) (Or.inl ⟨by rfl, ?_⟩) (by assumption) ?_
                  rotate_left
                  · (intro wx hSw; go_simp; (try with_reducible rfl); (try omega))
                  (try simp only [Act.put, List.setIfInBounds_toArray, List.set_cons_zero, List.set_cons_succ, List.getElem_toArray, List.getElem_cons_zero, List.getElem_cons_succ])
                  refine wpAnyH_take (i := 8) (v := ?_) rfl (by kernel_rfl) (by kernel_rfl) (by kernel_rfl) (fun _ _ _ h => h) (Or.inl ⟨by rfl, ?_⟩) (by assumption) ?_
                  rotate_left
                  · (intro wx hSw; go_simp; (try with_reducible rfl); (try omega))
                  (try simp only [Act.put, List.setIfInBounds_toArray, List.set_cons_zero, List.set_cons_succ, List.getElem_toArray, List.getElem_cons_zero, List.getElem_cons_succ])
                  refine wpAnyH_take (i := 9) (v := ?_) rfl (by kernel_rfl) (by kernel_rfl) (by kernel_rfl) (fun _ _ _ h => h) (Or.inl ⟨by rfl, ?_⟩) (by assumption) ?_
                  rotate_left
                  · (intro wx hSw; go_simp; (try with_reducible rfl); (try omega))
                  (try simp only [Act.put, List.setIfInBounds_toArray, List.set_cons_zero, List.set_cons_succ, List.getElem_toArray, List.getElem_cons_zero, List.getElem_cons_succ])
                  refine wpAnyH_take (i := 10) (v := ?_) rfl (by kernel_rfl) (by kernel_rfl) (by kernel_rfl) (fun _ _ _ h => h) (Or.inl ⟨by rfl, ?_⟩) (by assumption) ?_
                  rotate_left
                  · (intro wx hSw; go_simp; (try with_reducible rfl); (try omega))
                  (try simp only [Act.put, List.setIfInBounds_toArray, List.set_cons_zero, List.set_cons_succ, List.getElem_toArray, List.getElem_cons_zero, List.getElem_cons_succ])
                  refine wpAnyH_ready (rs := [0, 6]) (by kernel_rfl) (by simp) ?_
                  refine AllReadyH.cons rfl (fun K hK => ?_) ?_
                  · (try simp only [Act.put, List.setIfInBounds_toArray, List.set_cons_zero, List.set_cons_succ, List.getElem_toArray, List.getElem_cons_zero])
                    go_simp
                    obtain ⟨W1, hW1⟩ : ∃ W', W0.alloc (.cells #[] 9) = W' := ⟨_, rfl⟩
                    have hO := madeS W0 W0.heap.size hB.size; rw [hW1] at hO
                    have hB := hB.alloc hB.size (.cells #[] 9); rw [hW1] at hB
                    rw [hW1]
                    refine hK.out _ _ hB (fun hHeld => ?_)
                    clear hW1
                    clear hK K
                    (try simp only [Act.put, List.setIfInBounds_toArray, List.set_cons_zero, List.set_cons_succ, List.getElem_toArray, List.getElem_cons_zero, List.getElem_cons_succ])
                    refine wpAnyH_ready (rs := [4, 6]) (by kernel_rfl) (by simp) ?_
                    refine AllReadyH.cons rfl (fun K hK => ?_) ?_
                    · refine appS_if (by rfl) _ _ (by rfl) (by rfl) W0.heap.size (0) (strs []) hO (some ⟨bo, oo, none⟩) (k) cO (by rfl) (O.take k) (by rw [List.length_take]; omega) ((HIO.out.later hB).head k) (by omega) hB.size ?_
                      intro v4 W2 hO2 hg2 hat2
                      have hB := hB.grown hg2 hB.size (fun k hk => (hO.lt k hk).1)
                      clear hO
                      have hO := hO2
                      clear hO2 hg2 hat2
                      rw [Nat.zero_add] at hO
                      refine hK.out _ _ hB (fun hHeld => ?_)
                      clear hK K
                      (try simp only [Act.put, List.setIfInBounds_toArray, List.set_cons_zero, List.set_cons_succ, List.getElem_toArray, List.getElem_cons_zero, List.getElem_cons_succ])
                      refine wpAnyH_ready (rs := [6]) (by kernel_rfl) (by simp) ?_
                      refine AllReadyH.cons rfl (fun K hK => ?_) ?_
                      · (try simp only [Act.put, List.setIfInBounds_toArray, List.set_cons_zero, List.set_cons_succ, List.getElem_toArray, List.getElem_cons_zero, List.getElem_cons_succ])
                        go_simp
                        obtain ⟨W3, hW3⟩ : ∃ W', W2.alloc (.cells #[.string x] 9) = W' := ⟨_, rfl⟩
                        have X9 : VarB W3 W2.heap.size [.string x] := by rw [← hW3]; exact VarB.new _ _ _
                        have hne9 : v4.ownBlock ≠ some W2.heap.size := fun e => by have := (hO.lt _ e).2; omega
                        have hO := hO.alloc (.cells #[.string x] 9); rw [hW3] at hO
                        have hB := hB.alloc hB.size (.cells #[.string x] 9); rw [hW3] at hB
                        rw [hW3]
                        refine hK.out _ _ hB (fun hHeld => ?_)
                        clear hW3
                        clear hK K
                        (try simp only [Act.put, List.setIfInBounds_toArray, List.set_cons_zero, List.set_cons_succ, List.getElem_toArray, List.getElem_cons_zero, List.getElem_cons_succ])
                        refine wpAnyH_ready (rs := [7]) (by kernel_rfl) (by simp) ?_
                        refine AllReadyH.cons rfl (fun K hK => ?_) ?_
                        · refine appS_if (by rfl) _ _ (by rfl) (by rfl) W0.heap.size (k) (strs [] ++ strs (O.take k)) hO (some ⟨W2.heap.size, 0, none⟩) (1) 1 (by rfl) [x] rfl (strs_one (X9.cell 0 rfl) hxs.out) (by omega) hB.size ?_
                          intro v10 W4 hO2 hg2 hat2
                          have hne2 : v10.ownBlock ≠ some W2.heap.size := by rcases hat2 with e | e; (rw [e]; exact hne9); (rw [e]; intro e2; have e3 := Option.some.inj e2; have := X9.lt; omega)
                          have X9 := X9.keep (hg2.block _ X9.lt (fun e => hne9 e.symm)) hg2.size
                          have hne9 := hne2; clear hne2
                          have hB := hB.grown hg2 hB.size (fun k hk => (hO.lt k hk).1)
                          clear hO
                          have hO := hO2
                          clear hO2 hg2 hat2
                          refine hK.out _ _ hB (fun hHeld => ?_)
                          clear hK K
                          (try simp only [Act.put, List.setIfInBounds_toArray, List.set_cons_zero, List.set_cons_succ, List.getElem_toArray, List.getElem_cons_zero, List.getElem_cons_succ])
                          refine wpAnyH_ready (rs := [11]) (by kernel_rfl) (by simp) ?_
                          refine AllReadyH.cons rfl (fun K hK => ?_) ?_
                          · refine appS_if (by rfl) _ _ (by rfl) (by rfl) W0.heap.size (k + 1) (strs [] ++ strs (O.take k) ++ strs [x]) hO a1 (N - k) c1 (by rfl) (O.drop k) (by rw [List.length_drop]; omega) (HS2 _ (HIO.out.later hB)) (by omega) hB.size ?_
                            intro v14 W5 hO2 hg2 hat2
                            have hne2 : v14.ownBlock ≠ some W2.heap.size := by rcases hat2 with e | e; (rw [e]; exact hne9); (rw [e]; intro e2; have e3 := Option.some.inj e2; have := X9.lt; omega)
                            have X9 := X9.keep (hg2.block _ X9.lt (fun e => hne9 e.symm)) hg2.size
                            have hne9 := hne2; clear hne2
                            have hB := hB.grown hg2 hB.size (fun k hk => (hO.lt k hk).1)
                            clear hO
                            have hO := hO2
                            clear hO2 hg2 hat2
                            refine hK.out _ _ hB (fun hHeld => ?_)
                            clear hK K
                            (try simp only [Act.put, List.setIfInBounds_toArray, List.set_cons_zero, List.set_cons_succ, List.getElem_toArray, List.getElem_cons_zero, List.getElem_cons_succ])
                            refine wpAnyH_take (i := 12) (v := ?_) rfl (by kernel_rfl) (by kernel_rfl) (by kernel_rfl) (fun _ _ _ h => h) (Or.inl ⟨by rfl, ?_⟩) (by assumption) ?_
                            rotate_left
                            · (intro wx hSw; go_simp; (try with_reducible rfl); (try omega))
                            (try simp only [Act.put, List.setIfInBounds_toArray, List.set_cons_zero, List.set_cons_succ, List.getElem_toArray, List.getElem_cons_zero, List.getElem_cons_succ])
                            refine wpAnyH_done (by kernel_rfl) ?_ _
                            have hO : W5.ownsRow W0.heap.size 9 1 v14 (k + 1 + (N - k)) (strs (O.take k ++ ([x] ++ O.drop k))) := by have h := hO; simpa [strs] using h
                            have hO := SL.own hO (by simp only [List.length_append, List.length_take, List.length_drop, List.length_singleton]; omega) HSM.out
                            have hO := hid0 hO
                            go_wp2_with fail
                            exact ⟨⟨j + 1, by omega, by go_num, by rw [HJ.out, HR.out]; exact hO.out, hS2.out.below hB⟩, by simp [intOf]; omega⟩
                          exact AllReadyH.nil
                        exact AllReadyH.nil
                      exact AllReadyH.nil
                    refine AllReadyH.cons rfl (fun K hK => ?_) ?_
                    · (try simp only [Act.put, List.setIfInBounds_toArray, List.set_cons_zero, List.set_cons_succ, List.getElem_toArray, List.getElem_cons_zero, List.getElem_cons_succ])
                      go_simp
                      obtain ⟨W2, hW2⟩ : ∃ W', W1.alloc (.cells #[.string x] 9) = W' := ⟨_, rfl⟩
                      have X9 : VarB W2 W1.heap.size [.string x] := by rw [← hW2]; exact VarB.new _ _ _
                      have hne9 : (Value.slice (some ⟨W0.heap.size, 0, none⟩) 0 0).ownBlock ≠ some W1.heap.size := fun e => by have := (hO.lt _ e).2; omega
                      have hO := hO.alloc (.cells #[.string x] 9); rw [hW2] at hO
                      have hB := hB.alloc hB.size (.cells #[.string x] 9); rw [hW2] at hB
                      rw [hW2]
                      refine hK.out _ _ hB (fun hHeld => ?_)
                      clear hW2
                      clear hK K
                      (try simp only [Act.put, List.setIfInBounds_toArray, List.set_cons_zero, List.set_cons_succ, List.getElem_toArray, List.getElem_cons_zero, List.getElem_cons_succ])
                      refine wpAnyH_ready (rs := [4]) (by kernel_rfl) (by simp) ?_
                      refine AllReadyH.cons rfl (fun K hK => ?_) ?_
                      · refine appS_if (by rfl) _ _ (by rfl) (by rfl) W0.heap.size (0) (strs []) hO (some ⟨bo, oo, none⟩) (k) cO (by rfl) (O.take k) (by rw [List.length_take]; omega) ((HIO.out.later hB).head k) (by omega) hB.size ?_
                        intro v4 W3 hO2 hg2 hat2
                        have hne2 : v4.ownBlock ≠ some W1.heap.size := by rcases hat2 with e | e; (rw [e]; exact hne9); (rw [e]; intro e2; have e3 := Option.some.inj e2; have := X9.lt; omega)
                        have X9 := X9.keep (hg2.block _ X9.lt (fun e => hne9 e.symm)) hg2.size
                        have hne9 := hne2; clear hne2
                        have hB := hB.grown hg2 hB.size (fun k hk => (hO.lt k hk).1)
                        clear hO
                        have hO := hO2
                        clear hO2 hg2 hat2
                        rw [Nat.zero_add] at hO
                        refine hK.out _ _ hB (fun hHeld => ?_)
                        clear hK K
                        (try simp only [Act.put, List.setIfInBounds_toArray, List.set_cons_zero, List.set_cons_succ, List.getElem_toArray, List.getElem_cons_zero, List.getElem_cons_succ])
                        refine wpAnyH_ready (rs := [7]) (by kernel_rfl) (by simp) ?_
                        refine AllReadyH.cons rfl (fun K hK => ?_) ?_
                        · refine appS_if (by rfl) _ _ (by rfl) (by rfl) W0.heap.size (k) (strs [] ++ strs (O.take k)) hO (some ⟨W1.heap.size, 0, none⟩) (1) 1 (by rfl) [x] rfl (strs_one (X9.cell 0 rfl) hxs.out) (by omega) hB.size ?_
                          intro v10 W4 hO2 hg2 hat2
                          have hne2 : v10.ownBlock ≠ some W1.heap.size := by rcases hat2 with e | e; (rw [e]; exact hne9); (rw [e]; intro e2; have e3 := Option.some.inj e2; have := X9.lt; omega)
                          have X9 := X9.keep (hg2.block _ X9.lt (fun e => hne9 e.symm)) hg2.size
                          have hne9 := hne2; clear hne2
                          have hB := hB.grown hg2 hB.size (fun k hk => (hO.lt k hk).1)
                          clear hO
                          have hO := hO2
                          clear hO2 hg2 hat2
                          refine hK.out _ _ hB (fun hHeld => ?_)
                          clear hK K
                          (try simp only [Act.put, List.setIfInBounds_toArray, List.set_cons_zero, List.set_cons_succ, List.getElem_toArray, List.getElem_cons_zero, List.getElem_cons_succ])
                          refine wpAnyH_ready (rs := [11]) (by kernel_rfl) (by simp) ?_
                          refine AllReadyH.cons rfl (fun K hK => ?_) ?_
                          · refine appS_if (by rfl) _ _ (by rfl) (by rfl) W0.heap.size (k + 1) (strs [] ++ strs (O.take k) ++ strs [x]) hO a1 (N - k) c1 (by rfl) (O.drop k) (by rw [List.length_drop]; omega) (HS2 _ (HIO.out.later hB)) (by omega) hB.size ?_
                            intro v14 W5 hO2 hg2 hat2
                            have hne2 : v14.ownBlock ≠ some W1.heap.size := by rcases hat2 with e | e; (rw [e]; exact hne9); (rw [e]; intro e2; have e3 := Option.some.inj e2; have := X9.lt; omega)
                            have X9 := X9.keep (hg2.block _ X9.lt (fun e => hne9 e.symm)) hg2.size
                            have hne9 := hne2; clear hne2
                            have hB := hB.grown hg2 hB.size (fun k hk => (hO.lt k hk).1)
                            clear hO
                            have hO := hO2
                            clear hO2 hg2 hat2
                            refine hK.out _ _ hB (fun hHeld => ?_)
                            clear hK K
                            (try simp only [Act.put, List.setIfInBounds_toArray, List.set_cons_zero, List.set_cons_succ, List.getElem_toArray, List.getElem_cons_zero, List.getElem_cons_succ])
                            refine wpAnyH_take (i := 12) (v := ?_) rfl (by kernel_rfl) (by kernel_rfl) (by kernel_rfl) (fun _ _ _ h => h) (Or.inl ⟨by rfl, ?_⟩) (by assumption) ?_
                            rotate_left
                            · (intro wx hSw; go_simp; (try with_reducible rfl); (try omega))
                            (try simp only [Act.put, List.setIfInBounds_toArray, List.set_cons_zero, List.set_cons_succ, List.getElem_toArray, List.getElem_cons_zero, List.getElem_cons_succ])
                            refine wpAnyH_done (by kernel_rfl) ?_ _
                            have hO : W5.ownsRow W0.heap.size 9 1 v14 (k + 1 + (N - k)) (strs (O.take k ++ ([x] ++ O.drop k))) := by have h := hO; simpa [strs] using h
                            have hO := SL.own hO (by simp only [List.length_append, List.length_take, List.length_drop, List.length_singleton]; omega) HSM.out
                            have hO := hid0 hO
                            go_wp2_with fail
                            exact ⟨⟨j + 1, by omega, by go_num, by rw [HJ.out, HR.out]; exact hO.out, hS2.out.below hB⟩, by simp [intOf]; omega⟩
                          exact AllReadyH.nil
                        exact AllReadyH.nil
                      exact AllReadyH.nil
                    exact AllReadyH.nil
                  refine AllReadyH.cons rfl (fun K hK => ?_) ?_
                  · (try simp only [Act.put, List.setIfInBounds_toArray, List.set_cons_zero, List.set_cons_succ, List.getElem_toArray, List.getElem_cons_zero, List.getElem_cons_succ])
                    go_simp
                    obtain ⟨W1, hW1⟩ : ∃ W', W0.alloc (.cells #[.string x] 9) = W' := ⟨_, rfl⟩
                    have X9 : VarB W1 W0.heap.size [.string x] := by rw [← hW1]; exact VarB.new _ _ _
                    have hB := hB.alloc hB.size (.cells #[.string x] 9); rw [hW1] at hB
                    rw [hW1]
                    refine hK.out _ _ hB (fun hHeld => ?_)
                    clear hW1
                    clear hK K
                    (try simp only [Act.put, List.setIfInBounds_toArray, List.set_cons_zero, List.set_cons_succ, List.getElem_toArray, List.getElem_cons_zero, List.getElem_cons_succ])
                    refine wpAnyH_ready (rs := [0]) (by kernel_rfl) (by simp) ?_
                    refine AllReadyH.cons rfl (fun K hK => ?_) ?_
                    · (try simp only [Act.put, List.setIfInBounds_toArray, List.set_cons_zero, List.set_cons_succ, List.getElem_toArray, List.getElem_cons_zero])
                      go_simp
                      obtain ⟨W2, hW2⟩ : ∃ W', W1.alloc (.cells #[] 9) = W' := ⟨_, rfl⟩
                      have hO := madeS W1 W0.heap.size hB.size; rw [hW2] at hO
                      have hB := hB.alloc hB.size (.cells #[] 9); rw [hW2] at hB
                      have hne9 : (Value.slice (some ⟨W1.heap.size, 0, none⟩) 0 0).ownBlock ≠ some W0.heap.size := by have := X9.lt; simp [Value.ownBlock]; omega
                      have X9 := X9.alloc (.cells #[] 9); rw [hW2] at X9
                      rw [hW2]
                      refine hK.out _ _ hB (fun hHeld => ?_)
                      clear hW2
                      clear hK K
                      (try simp only [Act.put, List.setIfInBounds_toArray, List.set_cons_zero, List.set_cons_succ, List.getElem_toArray, List.getElem_cons_zero, List.getElem_cons_succ])
                      refine wpAnyH_ready (rs := [4]) (by kernel_rfl) (by simp) ?_
                      refine AllReadyH.cons rfl (fun K hK => ?_) ?_
                      · refine appS_if (by rfl) _ _ (by rfl) (by rfl) W0.heap.size (0) (strs []) hO (some ⟨bo, oo, none⟩) (k) cO (by rfl) (O.take k) (by rw [List.length_take]; omega) ((HIO.out.later hB).head k) (by omega) hB.size ?_
                        intro v4 W3 hO2 hg2 hat2
                        have hne2 : v4.ownBlock ≠ some W0.heap.size := by rcases hat2 with e | e; (rw [e]; exact hne9); (rw [e]; intro e2; have e3 := Option.some.inj e2; have := X9.lt; omega)
                        have X9 := X9.keep (hg2.block _ X9.lt (fun e => hne9 e.symm)) hg2.size
                        have hne9 := hne2; clear hne2
                        have hB := hB.grown hg2 hB.size (fun k hk => (hO.lt k hk).1)
                        clear hO
                        have hO := hO2
                        clear hO2 hg2 hat2
                        rw [Nat.zero_add] at hO
                        refine hK.out _ _ hB (fun hHeld => ?_)
                        clear hK K
                        (try simp only [Act.put, List.setIfInBounds_toArray, List.set_cons_zero, List.set_cons_succ, List.getElem_toArray, List.getElem_cons_zero, List.getElem_cons_succ])
                        refine wpAnyH_ready (rs := [7]) (by kernel_rfl) (by simp) ?_
                        refine AllReadyH.cons rfl (fun K hK => ?_) ?_
                        · refine appS_if (by rfl) _ _ (by rfl) (by rfl) W0.heap.size (k) (strs [] ++ strs (O.take k)) hO (some ⟨W0.heap.size, 0, none⟩) (1) 1 (by rfl) [x] rfl (strs_one (X9.cell 0 rfl) hxs.out) (by omega) hB.size ?_
                          intro v10 W4 hO2 hg2 hat2
                          have hne2 : v10.ownBlock ≠ some W0.heap.size := by rcases hat2 with e | e; (rw [e]; exact hne9); (rw [e]; intro e2; have e3 := Option.some.inj e2; have := X9.lt; omega)
                          have X9 := X9.keep (hg2.block _ X9.lt (fun e => hne9 e.symm)) hg2.size
                          have hne9 := hne2; clear hne2
                          have hB := hB.grown hg2 hB.size (fun k hk => (hO.lt k hk).1)
                          clear hO
                          have hO := hO2
                          clear hO2 hg2 hat2
                          refine hK.out _ _ hB (fun hHeld => ?_)
                          clear hK K
                          (try simp only [Act.put, List.setIfInBounds_toArray, List.set_cons_zero, List.set_cons_succ, List.getElem_toArray, List.getElem_cons_zero, List.getElem_cons_succ])
                          refine wpAnyH_ready (rs := [11]) (by kernel_rfl) (by simp) ?_
                          refine AllReadyH.cons rfl (fun K hK => ?_) ?_
                          · refine appS_if (by rfl) _ _ (by rfl) (by rfl) W0.heap.size (k + 1) (strs [] ++ strs (O.take k) ++ strs [x]) hO a1 (N - k) c1 (by rfl) (O.drop k) (by rw [List.length_drop]; omega) (HS2 _ (HIO.out.later hB)) (by omega) hB.size ?_
                            intro v14 W5 hO2 hg2 hat2
                            have hne2 : v14.ownBlock ≠ some W0.heap.size := by rcases hat2 with e | e; (rw [e]; exact hne9); (rw [e]; intro e2; have e3 := Option.some.inj e2; have := X9.lt; omega)
                            have X9 := X9.keep (hg2.block _ X9.lt (fun e => hne9 e.symm)) hg2.size
                            have hne9 := hne2; clear hne2
                            have hB := hB.grown hg2 hB.size (fun k hk => (hO.lt k hk).1)
                            clear hO
                            have hO := hO2
                            clear hO2 hg2 hat2
                            refine hK.out _ _ hB (fun hHeld => ?_)
                            clear hK K
                            (try simp only [Act.put, List.setIfInBounds_toArray, List.set_cons_zero, List.set_cons_succ, List.getElem_toArray, List.getElem_cons_zero, List.getElem_cons_succ])
                            refine wpAnyH_take (i := 12) (v := ?_) rfl (by kernel_rfl) (by kernel_rfl) (by kernel_rfl) (fun _ _ _ h => h) (Or.inl ⟨by rfl, ?_⟩) (by assumption) ?_
                            rotate_left
                            · (intro wx hSw; go_simp; (try with_reducible rfl); (try omega))
                            (try simp only [Act.put, List.setIfInBounds_toArray, List.set_cons_zero, List.set_cons_succ, List.getElem_toArray, List.getElem_cons_zero, List.getElem_cons_succ])
                            refine wpAnyH_done (by kernel_rfl) ?_ _
                            have hO : W5.ownsRow W0.heap.size 9 1 v14 (k + 1 + (N - k)) (strs (O.take k ++ ([x] ++ O.drop k))) := by have h := hO; simpa [strs] using h
                            have hO := SL.own hO (by simp only [List.length_append, List.length_take, List.length_drop, List.length_singleton]; omega) HSM.out
                            have hO := hid0 hO
                            go_wp2_with fail
                            exact ⟨⟨j + 1, by omega, by go_num, by rw [HJ.out, HR.out]; exact hO.out, hS2.out.below hB⟩, by simp [intOf]; omega⟩
                          exact AllReadyH.nil
                        exact AllReadyH.nil
                      exact AllReadyH.nil
                    exact AllReadyH.nil
                  exact AllReadyH.nil
            · have g0 : decide ((k : Int) < (N : Int)) = false := by simp; omega
              have HX := hid0 (show ∀ h : k < O.length, bl x < bl O[k] from fun h => absurd h (by rw [HN.out]; omega))
              go_wp2_with fail
              clear g0
              obtain ⟨a1, c1, HS1, HS2⟩ := strs_hi ao O N cO k HN.out (by omega) hcO (by omega)
              have HS0 := strs_lo ao N cO k (by omega) hcO (by omega)
              have HR := hid0 (show riseB (G ++ [x]) = O.take k ++ ([x] ++ O.drop k) by rw [HR2.out k (by rw [HN.out]; omega) hlo.out HX.out])
              have HN' := HN.out
              have hOl : O.length = N := HN'
              have hB : Below wr.drew.heap.size wr.drew wr.drew := Below.refl _ _
              have HIO : Hid (StrsA wr.drew ao O) := hid0 (HIO.out.later (Below.drew (Below.refl _ _)))
              have hS2 : Hid (SRf w [.slice (some ⟨bp, op, none⟩) ps.length c] wr.drew) := hid0 (hS.out.below (Below.drew (Below.refl _ _)))
              have HSM := hid0 (show ∀ s ∈ O.take k ++ ([x] ++ O.drop k), s.size ≤ maxLen from fun s hs => by
                rcases List.mem_append.1 hs with h | h
                · exact HIO.out.small s (List.mem_of_mem_take h)
                · rcases List.mem_append.1 h with h | h
                  · obtain rfl := List.mem_singleton.1 h; exact hxs.out
                  · exact HIO.out.small s (List.mem_of_mem_drop h))
              clear HN' hS
              go_wp2_with fail
              refine wp_region_held_drew (S := (fun W => Below wr.drew.heap.size wr.drew W)) (by kernel_rfl) hB (fun hHeld => ?_)
              generalize wr.drew = W0 at hB HIO hS2 hHeld ⊢
              refine wpAnyH_take (i := 1) (v := ?_) rfl (by kernel_rfl) (by kernel_rfl) (by kernel_rfl) (fun _ _ _ h => h) (Or.inl ⟨by rfl, ?_⟩) (by assumption) ?_
              rotate_left
              · (intro wx hSw; go_simp; (try with_reducible rfl); (try omega))
              (try simp only [Act.put, List.setIfInBounds_toArray, List.getElem_toArray])
              refine wpAnyH_take (i := 2) (v := ?_) rfl (by kernel_rfl) (by kernel_rfl) (by kernel_rfl) (fun _ _ _ h => h) (Or.inl ⟨by rfl, ?_⟩) (by assumption) ?_
              rotate_left
              · (intro wx hSw; go_simp; (try with_reducible rfl); (try omega))
              (try simp only [Act.put, List.setIfInBounds_toArray, List.set_cons_zero, List.set_cons_succ, List.getElem_toArray, List.getElem_cons_zero, List.getElem_cons_succ])
              refine wpAnyH_take (i := 3) (v := ?_) rfl (by kernel_rfl) (by kernel_rfl) (by kernel_rfl) (fun _ _ _ h => h) (Or.inl ⟨by rfl, ?_⟩) (by assumption) ?_
              rotate_left
              · (intro wx hSw; go_simp; (try with_reducible rfl); (try omega))
              (try simp only [Act.put, List.setIfInBounds_toArray, List.set_cons_zero, List.set_cons_succ, List.getElem_toArray, List.getElem_cons_zero, List.getElem_cons_succ])
              refine wpAnyH_take (i := 5) (v := ?_) rfl (by kernel_rfl) (by kernel_rfl) (by kernel_rfl) (fun _ _ _ h => h) (Or.inl ⟨by rfl, ?_⟩) (by assumption) ?_
              rotate_left
              · (intro wx hSw; go_simp; (try with_reducible rfl); (try omega))
              (try simp only [Act.put, List.setIfInBounds_toArray, List.set_cons_zero, List.set_cons_succ, List.getElem_toArray, List.getElem_cons_zero, List.getElem_cons_succ])
              refine wpAnyH_take (i := 8) (v := ?_) rfl (by kernel_rfl) (by kernel_rfl) (by kernel_rfl) (fun _ _ _ h => h) (Or.inl ⟨by rfl, ?_⟩) (by assumption) ?_
              rotate_left
              · (intro wx hSw; go_simp; (try with_reducible rfl); (try omega))
              (try simp only [Act.put, List.setIfInBounds_toArray, List.set_cons_zero, List.set_cons_succ, List.getElem_toArray, List.getElem_cons_zero, List.getElem_cons_succ])
              refine wpAnyH_take (i := 9) (v := ?_) rfl (by kernel_rfl) (by kernel_rfl) (by kernel_rfl) (fun _ _ _ h => h) (Or.inl ⟨by rfl, ?_⟩) (by assumption) ?_
              rotate_left
              · (intro wx hSw; go_simp; (try with_reducible rfl); (try omega))
              (try simp only [Act.put, List.setIfInBounds_toArray, List.set_cons_zero, List.set_cons_succ, List.getElem_toArray, List.getElem_cons_zero, List.getElem_cons_succ])
              refine wpAnyH_take (i := 10) (v := ?_) rfl (by kernel_rfl) (by kernel_rfl) (by kernel_rfl) (fun _ _ _ h => h) (Or.inl ⟨by rfl, ?_⟩) (by assumption) ?_
              rotate_left
              · (intro wx hSw; go_simp; (try with_reducible rfl); (try omega))
              (try simp only [Act.put, List.setIfInBounds_toArray, List.set_cons_zero, List.set_cons_succ, List.getElem_toArray, List.getElem_cons_zero, List.getElem_cons_succ])
              refine wpAnyH_ready (rs := [0, 6]) (by kernel_rfl) (by simp) ?_
              refine AllReadyH.cons rfl (fun K hK => ?_) ?_
              · (try simp only [Act.put, List.setIfInBounds_toArray, List.set_cons_zero, List.set_cons_succ, List.getElem_toArray, List.getElem_cons_zero])
                go_simp
                obtain ⟨W1, hW1⟩ : ∃ W', W0.alloc (.cells #[] 9) = W' := ⟨_, rfl⟩
                have hO := madeS W0 W0.heap.size hB.size; rw [hW1] at hO
                have hB := hB.alloc hB.size (.cells #[] 9); rw [hW1] at hB
                rw [hW1]
                refine hK.out _ _ hB (fun hHeld => ?_)
                clear hW1
                clear hK K
                (try simp only [Act.put, List.setIfInBounds_toArray, List.set_cons_zero, List.set_cons_succ, List.getElem_toArray, List.getElem_cons_zero, List.getElem_cons_succ])
                refine wpAnyH_ready (rs := [4, 6]) (by kernel_rfl) (by simp) ?_
                refine AllReadyH.cons rfl (fun K hK => ?_) ?_
                · refine appS_if (by rfl) _ _ (by rfl) (by rfl) W0.heap.size (0) (strs []) hO ao (k) cO (by rfl) (O.take k) (by rw [List.length_take]; omega) ((HIO.out.later hB).head k) (by omega) hB.size ?_
                  intro v4 W2 hO2 hg2 hat2
                  have hB := hB.grown hg2 hB.size (fun k hk => (hO.lt k hk).1)
                  clear hO
                  have hO := hO2
                  clear hO2 hg2 hat2
                  rw [Nat.zero_add] at hO
                  refine hK.out _ _ hB (fun hHeld => ?_)
                  clear hK K
                  (try simp only [Act.put, List.setIfInBounds_toArray, List.set_cons_zero, List.set_cons_succ, List.getElem_toArray, List.getElem_cons_zero, List.getElem_cons_succ])
                  refine wpAnyH_ready (rs := [6]) (by kernel_rfl) (by simp) ?_
                  refine AllReadyH.cons rfl (fun K hK => ?_) ?_
                  · (try simp only [Act.put, List.setIfInBounds_toArray, List.set_cons_zero, List.set_cons_succ, List.getElem_toArray, List.getElem_cons_zero, List.getElem_cons_succ])
                    go_simp
                    obtain ⟨W3, hW3⟩ : ∃ W', W2.alloc (.cells #[.string x] 9) = W' := ⟨_, rfl⟩
                    have X9 : VarB W3 W2.heap.size [.string x] := by rw [← hW3]; exact VarB.new _ _ _
                    have hne9 : v4.ownBlock ≠ some W2.heap.size := fun e => by have := (hO.lt _ e).2; omega
                    have hO := hO.alloc (.cells #[.string x] 9); rw [hW3] at hO
                    have hB := hB.alloc hB.size (.cells #[.string x] 9); rw [hW3] at hB
                    rw [hW3]
                    refine hK.out _ _ hB (fun hHeld => ?_)
                    clear hW3
                    clear hK K
                    (try simp only [Act.put, List.setIfInBounds_toArray, List.set_cons_zero, List.set_cons_succ, List.getElem_toArray, List.getElem_cons_zero, List.getElem_cons_succ])
                    refine wpAnyH_ready (rs := [7]) (by kernel_rfl) (by simp) ?_
                    refine AllReadyH.cons rfl (fun K hK => ?_) ?_
                    · refine appS_if (by rfl) _ _ (by rfl) (by rfl) W0.heap.size (k) (strs [] ++ strs (O.take k)) hO (some ⟨W2.heap.size, 0, none⟩) (1) 1 (by rfl) [x] rfl (strs_one (X9.cell 0 rfl) hxs.out) (by omega) hB.size ?_
                      intro v10 W4 hO2 hg2 hat2
                      have hne2 : v10.ownBlock ≠ some W2.heap.size := by rcases hat2 with e | e; (rw [e]; exact hne9); (rw [e]; intro e2; have e3 := Option.some.inj e2; have := X9.lt; omega)
                      have X9 := X9.keep (hg2.block _ X9.lt (fun e => hne9 e.symm)) hg2.size
                      have hne9 := hne2; clear hne2
                      have hB := hB.grown hg2 hB.size (fun k hk => (hO.lt k hk).1)
                      clear hO
                      have hO := hO2
                      clear hO2 hg2 hat2
                      refine hK.out _ _ hB (fun hHeld => ?_)
                      clear hK K
                      (try simp only [Act.put, List.setIfInBounds_toArray, List.set_cons_zero, List.set_cons_succ, List.getElem_toArray, List.getElem_cons_zero, List.getElem_cons_succ])
                      refine wpAnyH_ready (rs := [11]) (by kernel_rfl) (by simp) ?_
                      refine AllReadyH.cons rfl (fun K hK => ?_) ?_
                      · refine appS_if (by rfl) _ _ (by rfl) (by rfl) W0.heap.size (k + 1) (strs [] ++ strs (O.take k) ++ strs [x]) hO a1 (N - k) c1 (by rfl) (O.drop k) (by rw [List.length_drop]; omega) (HS2 _ (HIO.out.later hB)) (by omega) hB.size ?_
                        intro v14 W5 hO2 hg2 hat2
                        have hne2 : v14.ownBlock ≠ some W2.heap.size := by rcases hat2 with e | e; (rw [e]; exact hne9); (rw [e]; intro e2; have e3 := Option.some.inj e2; have := X9.lt; omega)
                        have X9 := X9.keep (hg2.block _ X9.lt (fun e => hne9 e.symm)) hg2.size
                        have hne9 := hne2; clear hne2
                        have hB := hB.grown hg2 hB.size (fun k hk => (hO.lt k hk).1)
                        clear hO
                        have hO := hO2
                        clear hO2 hg2 hat2
                        refine hK.out _ _ hB (fun hHeld => ?_)
                        clear hK K
                        (try simp only [Act.put, List.setIfInBounds_toArray, List.set_cons_zero, List.set_cons_succ, List.getElem_toArray, List.getElem_cons_zero, List.getElem_cons_succ])
                        refine wpAnyH_take (i := 12) (v := ?_) rfl (by kernel_rfl) (by kernel_rfl) (by kernel_rfl) (fun _ _ _ h => h) (Or.inl ⟨by rfl, ?_⟩) (by assumption) ?_
                        rotate_left
                        · (intro wx hSw; go_simp; (try with_reducible rfl); (try omega))
                        (try simp only [Act.put, List.setIfInBounds_toArray, List.set_cons_zero, List.set_cons_succ, List.getElem_toArray, List.getElem_cons_zero, List.getElem_cons_succ])
                        refine wpAnyH_done (by kernel_rfl) ?_ _
                        have hO : W5.ownsRow W0.heap.size 9 1 v14 (k + 1 + (N - k)) (strs (O.take k ++ ([x] ++ O.drop k))) := by have h := hO; simpa [strs] using h
                        have hO := SL.own hO (by simp only [List.length_append, List.length_take, List.length_drop, List.length_singleton]; omega) HSM.out
                        have hO := hid0 hO
                        go_wp2_with fail
                        exact ⟨⟨j + 1, by omega, by go_num, by rw [HJ.out, HR.out]; exact hO.out, hS2.out.below hB⟩, by simp [intOf]; omega⟩
                      exact AllReadyH.nil
                    exact AllReadyH.nil
                  exact AllReadyH.nil
                refine AllReadyH.cons rfl (fun K hK => ?_) ?_
                · (try simp only [Act.put, List.setIfInBounds_toArray, List.set_cons_zero, List.set_cons_succ, List.getElem_toArray, List.getElem_cons_zero, List.getElem_cons_succ])
                  go_simp
                  obtain ⟨W2, hW2⟩ : ∃ W', W1.alloc (.cells #[.string x] 9) = W' := ⟨_, rfl⟩
                  have X9 : VarB W2 W1.heap.size [.string x] := by rw [← hW2]; exact VarB.new _ _ _
                  have hne9 : (Value.slice (some ⟨W0.heap.size, 0, none⟩) 0 0).ownBlock ≠ some W1.heap.size := fun e => by have := (hO.lt _ e).2; omega
                  have hO := hO.alloc (.cells #[.string x] 9); rw [hW2] at hO
                  have hB := hB.alloc hB.size (.cells #[.string x] 9); rw [hW2] at hB
                  rw [hW2]
                  refine hK.out _ _ hB (fun hHeld => ?_)
                  clear hW2
                  clear hK K
                  (try simp only [Act.put, List.setIfInBounds_toArray, List.set_cons_zero, List.set_cons_succ, List.getElem_toArray, List.getElem_cons_zero, List.getElem_cons_succ])
                  refine wpAnyH_ready (rs := [4]) (by kernel_rfl) (by simp) ?_
                  refine AllReadyH.cons rfl (fun K hK => ?_) ?_
                  · refine appS_if (by rfl) _ _ (by rfl) (by rfl) W0.heap.size (0) (strs []) hO ao (k) cO (by rfl) (O.take k) (by rw [List.length_take]; omega) ((HIO.out.later hB).head k) (by omega) hB.size ?_
                    intro v4 W3 hO2 hg2 hat2
                    have hne2 : v4.ownBlock ≠ some W1.heap.size := by rcases hat2 with e | e; (rw [e]; exact hne9); (rw [e]; intro e2; have e3 := Option.some.inj e2; have := X9.lt; omega)
                    have X9 := X9.keep (hg2.block _ X9.lt (fun e => hne9 e.symm)) hg2.size
                    have hne9 := hne2; clear hne2
                    have hB := hB.grown hg2 hB.size (fun k hk => (hO.lt k hk).1)
                    clear hO
                    have hO := hO2
                    clear hO2 hg2 hat2
                    rw [Nat.zero_add] at hO
                    refine hK.out _ _ hB (fun hHeld => ?_)
                    clear hK K
                    (try simp only [Act.put, List.setIfInBounds_toArray, List.set_cons_zero, List.set_cons_succ, List.getElem_toArray, List.getElem_cons_zero, List.getElem_cons_succ])
                    refine wpAnyH_ready (rs := [7]) (by kernel_rfl) (by simp) ?_
                    refine AllReadyH.cons rfl (fun K hK => ?_) ?_
                    · refine appS_if (by rfl) _ _ (by rfl) (by rfl) W0.heap.size (k) (strs [] ++ strs (O.take k)) hO (some ⟨W1.heap.size, 0, none⟩) (1) 1 (by rfl) [x] rfl (strs_one (X9.cell 0 rfl) hxs.out) (by omega) hB.size ?_
                      intro v10 W4 hO2 hg2 hat2
                      have hne2 : v10.ownBlock ≠ some W1.heap.size := by rcases hat2 with e | e; (rw [e]; exact hne9); (rw [e]; intro e2; have e3 := Option.some.inj e2; have := X9.lt; omega)
                      have X9 := X9.keep (hg2.block _ X9.lt (fun e => hne9 e.symm)) hg2.size
                      have hne9 := hne2; clear hne2
                      have hB := hB.grown hg2 hB.size (fun k hk => (hO.lt k hk).1)
                      clear hO
                      have hO := hO2
                      clear hO2 hg2 hat2
                      refine hK.out _ _ hB (fun hHeld => ?_)
                      clear hK K
                      (try simp only [Act.put, List.setIfInBounds_toArray, List.set_cons_zero, List.set_cons_succ, List.getElem_toArray, List.getElem_cons_zero, List.getElem_cons_succ])
                      refine wpAnyH_ready (rs := [11]) (by kernel_rfl) (by simp) ?_
                      refine AllReadyH.cons rfl (fun K hK => ?_) ?_
                      · refine appS_if (by rfl) _ _ (by rfl) (by rfl) W0.heap.size (k + 1) (strs [] ++ strs (O.take k) ++ strs [x]) hO a1 (N - k) c1 (by rfl) (O.drop k) (by rw [List.length_drop]; omega) (HS2 _ (HIO.out.later hB)) (by omega) hB.size ?_
                        intro v14 W5 hO2 hg2 hat2
                        have hne2 : v14.ownBlock ≠ some W1.heap.size := by rcases hat2 with e | e; (rw [e]; exact hne9); (rw [e]; intro e2; have e3 := Option.some.inj e2; have := X9.lt; omega)
                        have X9 := X9.keep (hg2.block _ X9.lt (fun e => hne9 e.symm)) hg2.size
                        have hne9 := hne2; clear hne2
                        have hB := hB.grown hg2 hB.size (fun k hk => (hO.lt k hk).1)
                        clear hO
                        have hO := hO2
                        clear hO2 hg2 hat2
                        refine hK.out _ _ hB (fun hHeld => ?_)
                        clear hK K
                        (try simp only [Act.put, List.setIfInBounds_toArray, List.set_cons_zero, List.set_cons_succ, List.getElem_toArray, List.getElem_cons_zero, List.getElem_cons_succ])
                        refine wpAnyH_take (i := 12) (v := ?_) rfl (by kernel_rfl) (by kernel_rfl) (by kernel_rfl) (fun _ _ _ h => h) (Or.inl ⟨by rfl, ?_⟩) (by assumption) ?_
                        rotate_left
                        · (intro wx hSw; go_simp; (try with_reducible rfl); (try omega))
                        (try simp only [Act.put, List.setIfInBounds_toArray, List.set_cons_zero, List.set_cons_succ, List.getElem_toArray, List.getElem_cons_zero, List.getElem_cons_succ])
                        refine wpAnyH_done (by kernel_rfl) ?_ _
                        have hO : W5.ownsRow W0.heap.size 9 1 v14 (k + 1 + (N - k)) (strs (O.take k ++ ([x] ++ O.drop k))) := by have h := hO; simpa [strs] using h
                        have hO := SL.own hO (by simp only [List.length_append, List.length_take, List.length_drop, List.length_singleton]; omega) HSM.out
                        have hO := hid0 hO
                        go_wp2_with fail
                        exact ⟨⟨j + 1, by omega, by go_num, by rw [HJ.out, HR.out]; exact hO.out, hS2.out.below hB⟩, by simp [intOf]; omega⟩
                      exact AllReadyH.nil
                    exact AllReadyH.nil
                  exact AllReadyH.nil
                exact AllReadyH.nil
              refine AllReadyH.cons rfl (fun K hK => ?_) ?_
              · (try simp only [Act.put, List.setIfInBounds_toArray, List.set_cons_zero, List.set_cons_succ, List.getElem_toArray, List.getElem_cons_zero, List.getElem_cons_succ])
                go_simp
                obtain ⟨W1, hW1⟩ : ∃ W', W0.alloc (.cells #[.string x] 9) = W' := ⟨_, rfl⟩
                have X9 : VarB W1 W0.heap.size [.string x] := by rw [← hW1]; exact VarB.new _ _ _
                have hB := hB.alloc hB.size (.cells #[.string x] 9); rw [hW1] at hB
                rw [hW1]
                refine hK.out _ _ hB (fun hHeld => ?_)
                clear hW1
                clear hK K
                (try simp only [Act.put, List.setIfInBounds_toArray, List.set_cons_zero, List.set_cons_succ, List.getElem_toArray, List.getElem_cons_zero, List.getElem_cons_succ])
                refine wpAnyH_ready (rs := [0]) (by kernel_rfl) (by simp) ?_
                refine AllReadyH.cons rfl (fun K hK => ?_) ?_
                · (try simp only [Act.put, List.setIfInBounds_toArray, List.set_cons_zero, List.set_cons_succ, List.getElem_toArray, List.getElem_cons_zero])
                  go_simp
                  obtain ⟨W2, hW2⟩ : ∃ W', W1.alloc (.cells #[] 9) = W' := ⟨_, rfl⟩
                  have hO := madeS W1 W0.heap.size hB.size; rw [hW2] at hO
                  have hB := hB.alloc hB.size (.cells #[] 9); rw [hW2] at hB
                  have hne9 : (Value.slice (some ⟨W1.heap.size, 0, none⟩) 0 0).ownBlock ≠ some W0.heap.size := by have := X9.lt; simp [Value.ownBlock]; omega
                  have X9 := X9.alloc (.cells #[] 9); rw [hW2] at X9
                  rw [hW2]
                  refine hK.out _ _ hB (fun hHeld => ?_)
                  clear hW2
                  clear hK K
                  (try simp only [Act.put, List.setIfInBounds_toArray, List.set_cons_zero, List.set_cons_succ, List.getElem_toArray, List.getElem_cons_zero, List.getElem_cons_succ])
                  refine wpAnyH_ready (rs := [4]) (by kernel_rfl) (by simp) ?_
                  refine AllReadyH.cons rfl (fun K hK => ?_) ?_
                  · refine appS_if (by rfl) _ _ (by rfl) (by rfl) W0.heap.size (0) (strs []) hO ao (k) cO (by rfl) (O.take k) (by rw [List.length_take]; omega) ((HIO.out.later hB).head k) (by omega) hB.size ?_
                    intro v4 W3 hO2 hg2 hat2
                    have hne2 : v4.ownBlock ≠ some W0.heap.size := by rcases hat2 with e | e; (rw [e]; exact hne9); (rw [e]; intro e2; have e3 := Option.some.inj e2; have := X9.lt; omega)
                    have X9 := X9.keep (hg2.block _ X9.lt (fun e => hne9 e.symm)) hg2.size
                    have hne9 := hne2; clear hne2
                    have hB := hB.grown hg2 hB.size (fun k hk => (hO.lt k hk).1)
                    clear hO
                    have hO := hO2
                    clear hO2 hg2 hat2
                    rw [Nat.zero_add] at hO
                    refine hK.out _ _ hB (fun hHeld => ?_)
                    clear hK K
                    (try simp only [Act.put, List.setIfInBounds_toArray, List.set_cons_zero, List.set_cons_succ, List.getElem_toArray, List.getElem_cons_zero, List.getElem_cons_succ])
                    refine wpAnyH_ready (rs := [7]) (by kernel_rfl) (by simp) ?_
                    refine AllReadyH.cons rfl (fun K hK => ?_) ?_
                    · refine appS_if (by rfl) _ _ (by rfl) (by rfl) W0.heap.size (k) (strs [] ++ strs (O.take k)) hO (some ⟨W0.heap.size, 0, none⟩) (1) 1 (by rfl) [x] rfl (strs_one (X9.cell 0 rfl) hxs.out) (by omega) hB.size ?_
                      intro v10 W4 hO2 hg2 hat2
                      have hne2 : v10.ownBlock ≠ some W0.heap.size := by rcases hat2 with e | e; (rw [e]; exact hne9); (rw [e]; intro e2; have e3 := Option.some.inj e2; have := X9.lt; omega)
                      have X9 := X9.keep (hg2.block _ X9.lt (fun e => hne9 e.symm)) hg2.size
                      have hne9 := hne2; clear hne2
                      have hB := hB.grown hg2 hB.size (fun k hk => (hO.lt k hk).1)
                      clear hO
                      have hO := hO2
                      clear hO2 hg2 hat2
                      refine hK.out _ _ hB (fun hHeld => ?_)
                      clear hK K
                      (try simp only [Act.put, List.setIfInBounds_toArray, List.set_cons_zero, List.set_cons_succ, List.getElem_toArray, List.getElem_cons_zero, List.getElem_cons_succ])
                      refine wpAnyH_ready (rs := [11]) (by kernel_rfl) (by simp) ?_
                      refine AllReadyH.cons rfl (fun K hK => ?_) ?_
                      · refine appS_if (by rfl) _ _ (by rfl) (by rfl) W0.heap.size (k + 1) (strs [] ++ strs (O.take k) ++ strs [x]) hO a1 (N - k) c1 (by rfl) (O.drop k) (by rw [List.length_drop]; omega) (HS2 _ (HIO.out.later hB)) (by omega) hB.size ?_
                        intro v14 W5 hO2 hg2 hat2
                        have hne2 : v14.ownBlock ≠ some W0.heap.size := by rcases hat2 with e | e; (rw [e]; exact hne9); (rw [e]; intro e2; have e3 := Option.some.inj e2; have := X9.lt; omega)
                        have X9 := X9.keep (hg2.block _ X9.lt (fun e => hne9 e.symm)) hg2.size
                        have hne9 := hne2; clear hne2
                        have hB := hB.grown hg2 hB.size (fun k hk => (hO.lt k hk).1)
                        clear hO
                        have hO := hO2
                        clear hO2 hg2 hat2
                        refine hK.out _ _ hB (fun hHeld => ?_)
                        clear hK K
                        (try simp only [Act.put, List.setIfInBounds_toArray, List.set_cons_zero, List.set_cons_succ, List.getElem_toArray, List.getElem_cons_zero, List.getElem_cons_succ])
                        refine wpAnyH_take (i := 12) (v := ?_) rfl (by kernel_rfl) (by kernel_rfl) (by kernel_rfl) (fun _ _ _ h => h) (Or.inl ⟨by rfl, ?_⟩) (by assumption) ?_
                        rotate_left
                        · (intro wx hSw; go_simp; (try with_reducible rfl); (try omega))
                        (try simp only [Act.put, List.setIfInBounds_toArray, List.set_cons_zero, List.set_cons_succ, List.getElem_toArray, List.getElem_cons_zero, List.getElem_cons_succ])
                        refine wpAnyH_done (by kernel_rfl) ?_ _
                        have hO : W5.ownsRow W0.heap.size 9 1 v14 (k + 1 + (N - k)) (strs (O.take k ++ ([x] ++ O.drop k))) := by have h := hO; simpa [strs] using h
                        have hO := SL.own hO (by simp only [List.length_append, List.length_take, List.length_drop, List.length_singleton]; omega) HSM.out
                        have hO := hid0 hO
                        go_wp2_with fail
                        exact ⟨⟨j + 1, by omega, by go_num, by rw [HJ.out, HR.out]; exact hO.out, hS2.out.below hB⟩, by simp [intOf]; omega⟩
                      exact AllReadyH.nil
                    exact AllReadyH.nil
                  exact AllReadyH.nil
                exact AllReadyH.nil
              exact AllReadyH.nil
        · have hie : ¬ (j : Int) < (M : Int) := by omega
          obtain rfl : j = M := by omega
          rw [List.take_of_length_le (by rw [HM.out]; exact Nat.le_refl _), ← HST.out] at hO
          have HO := hid0 hO
          have HS := hid0 hS
          clear hO hS
          go_wp2_with fail
          exact ⟨⟨i + 1, by omega, by go_num, HO.out, HS.out⟩, by simp [intOf]; omega⟩
    · have hie : ¬ (i : Int) < (ps.length : Int) := by omega
      rw [List.take_of_length_le (by omega)] at hO0
      have HO := hid0 hO0
      have HS := hid0 hS
      clear hO0 hS
      go_wp2_with fail
      go_ret
      exact ⟨⟨_, rfl, HO.out⟩, HS.out.b⟩
end Go.Proofs.Ytfdkajefcplfjaa
