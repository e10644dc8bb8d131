/- Several of my texts laid together, each as it was: R2. Conditions: each names its own. -/
import Derived.Test.YtjmoegcfgadjiaaGreatG3
/- slices.symMergeCmpFunc over a list of one's own, the piece behind one element: a contract of the call, in whatever memory. Conditions: the list's cells are known; the order answers whenever it is asked; the pieces are sorted. -/
namespace Go.Proofs.YtjmoegcfgadjiaaGreat
open Go.RowKit

theorem last_swap {P A2 S : List Elem} {x : Elem} {k k1 i : Nat} (hP : P.length = i) (hik : i < k) (hk : k - 1 = k1) (hB : k1 - i < A2.length) (h1 : k < (P ++ A2.take (k - i) ++ x :: (A2.drop (k - i) ++ S)).length) (h2 : k1 < (P ++ A2.take (k - i) ++ x :: (A2.drop (k - i) ++ S)).length) :
    swp (P ++ A2.take (k - i) ++ x :: (A2.drop (k - i) ++ S)) k k1 h1 h2 = P ++ A2.take (k1 - i) ++ x :: (A2.drop (k1 - i) ++ S) := by
  have e : A2.take (k - i) = A2.take (k1 - i) ++ [A2[k1 - i]] := by rw [show k - i = k1 - i + 1 by omega, List.take_succ_eq_append_getElem hB]
  have e2 : A2.drop (k1 - i) = A2[k1 - i] :: A2.drop (k - i) := by rw [show k - i = k1 - i + 1 by omega]; exact List.drop_eq_getElem_cons hB
  revert h1 h2
  rw [e, e2]
  intro h1 h2
  exact ins_swap (by rw [List.length_take, hP]; omega) (by rw [List.length_take, hP]; omega) h1 h2
/-- i and j of the search of a place: the one behind. -/
structure Bs2 (gs : List Int) (F : List Elem) (a m i j : Nat) : Prop where
  lo : i = a ∨ lq (leE gs) F (i - 1) m = some true
  hi : j = m ∨ lq (leE gs) F j m = some false
set_option maxHeartbeats 8000000 in
set_option maxRecDepth 1000000 in
theorem sym_last (w0 w1 : World) (g n cap vb : Nat) (pv : Value) (gs : List Int) (E0 P A S : List Elem) (x : Elem) (a m b : Nat) (w : World) (hO : OrdS w0 vb pv gs E0) (hT : Two (leE gs) (P ++ A ++ [x] ++ S) P A [x] S a m b) (h1 : A.length ≠ 1) (hS : St w0 w1 g n cap vb pv E0 (P ++ A ++ [x] ++ S) w) (hn : n ≤ 1000000) :
    Calls Tryz.prog 282 #[.slice (some ⟨g, 0, none⟩) n cap, .int .i64 a, .int .i64 m, .int .i64 b, .func (.func 187) #[] #[.pointer (some ⟨vb, 0, none⟩)]] w fun e w' => e = .returned (.tuple #[]) ∧ St w0 w1 g n cap vb pv E0 (P ++ srt (leE gs) (A ++ [x]) ++ S) w' := by
  have hlen := hT.len
  rw [hS.len] at hlen
  have ham := hT.em
  have hmb := hT.eb
  simp only [List.length_singleton] at hmb
  have hamlt := hT.am
  have hbn : b ≤ n := by omega
  obtain ⟨F, hF⟩ : ∃ F, P ++ A ++ [x] ++ S = F := ⟨_, rfl⟩
  have HF := hid0 hF
  rw [hF] at hT hS
  have hFn := hS.len
  have HT := hid0 hT
  have HS := hid0 hS
  have HO := hid0 hO
  have hmF : m < F.length := by omega
  have hxa : F[m] = x := by
    have := hT.inB (k := m) (Nat.le_refl _) hT.mb hmF
    rw [this]; simp
  have hxm : x ∈ E0 := by rw [← hxa]; exact hS.mem _ (List.getElem_mem hmF)
  have HXA := hid0 hxa
  have HAL := hid0 ham
  obtain ⟨q0, hq0⟩ : ∃ q0, m - a = q0 := ⟨_, rfl⟩
  have hw0 : IntKind.i64.wrap ((m : Int) - a) = (q0 : Int) := by rw [IntWalk.i64_in _ (by omega)]; omega
  have hq1 : ((q0 : Int) == 1) = false := by simp; omega
  have hq2 : (q0 == 1) = false := by simp; omega
  have hw2 : IntKind.i64.wrap ((b : Int) - m) = 1 := by rw [IntWalk.i64_in _ (by omega)]; omega
  have hB0 : Hid (Bs2 gs F a m a m) := hid0 ⟨Or.inl rfl, Or.inl rfl⟩
  obtain ⟨RR, hRR⟩ : ∃ RR, P ++ srt (leE gs) (A ++ [x]) ++ S = RR := ⟨_, rfl⟩
  rw [hRR]
  have HRR := hid0 hRR
  clear hT hS hO hxa hF hlen ham h1 hq0 hRR
  go_enter Tryz.func282, Tryz.ntmps282
  go_wp2
  go_loopw [14, 15] (fun iv jv wr => ∃ i j : Nat, a ≤ i ∧ i ≤ j ∧ j ≤ m ∧ iv = .int .i64 i ∧ jv = .int .i64 j ∧ Hid (Bs2 gs F a m i j) ∧ Hid (St w0 w1 g n cap vb pv E0 F wr)) (fun iv jv _ => (intOf jv).toNat - (intOf iv).toNat)
  case atStart => exact ⟨a, m, Nat.le_refl _, by omega, Nat.le_refl _, rfl, rfl, hB0, HS⟩
  case round =>
    clear HS hB0
    obtain ⟨i, j, hmi, hij, hjb, rfl, rfl, hB, hS0⟩ := hrel
    by_cases hlt : i < j
    · obtain ⟨h, hh⟩ : ∃ h, (i + j) / 2 = h := ⟨_, rfl⟩
      have hih : i ≤ h := by omega
      have hhj : h < j := by omega
      have hhF : h < F.length := by omega
      have hii : (i : Int) < (j : Int) := by omega
      have hsum : ((i : Int) + (j : Int)) / 2 = (h : Int) := by omega
      have hS := hS0.out.drew.two hmF hhF
      rw [HXA.out] at hS
      have HLQ := hid0 (lq_of (le := leE gs) hhF hmF)
      rw [HXA.out] at HLQ
      have hym : F[h] ∈ E0 := hS0.out.mem _ (List.getElem_mem hhF)
      generalize F[h] = y at hS HLQ hym
      have HKU := hid0 (lt_leE (gs := gs) (x := x) (y := y))
      obtain ⟨kx, hkx⟩ : ∃ kx, keyA gs x.r y.r = kx := ⟨_, rfl⟩
      have HKX := hid0 hkx
      have hhn : (h : Int) < (n : Int) := by omega
      have hmn : (m : Int) < (n : Int) := by omega
      have hw1 : IntKind.i64.wrap ((h : Int) + 1) = ((h + 1 : Nat) : Int) := by rw [IntWalk.i64_in _ (by omega)]; omega
      have HH := hid0 hh
      clear hkx hS0 hh
      go_wp2_with fail
      refine wp_region_held_drew (S := StC w0 w1 g n cap vb pv E0 F m x h y) (by kernel_rfl) hS (fun hHeld => ?_)
      refine wpAnyH_take (i := 0) (v := ?_) rfl (by kernel_rfl) (by kernel_rfl) (by kernel_rfl) (fun _ _ _ h => h) (Or.inl ⟨by rfl, ?_⟩) (by assumption) ?_
      rotate_left
      · (intro wx hSw; have z0 := hSw.x0; have z1 := hSw.x1; have z2 := hSw.y0; have z3 := hSw.y1; go_simp; (try with_reducible rfl); (try omega))
      (try simp only [Act.put, List.setIfInBounds_toArray, List.set_cons_zero, List.set_cons_succ, List.getElem_toArray, List.getElem_cons_zero])
      refine wpAnyH_take (i := 1) (v := ?_) rfl (by kernel_rfl) (by kernel_rfl) (by kernel_rfl) (fun _ _ _ h => h) (Or.inl ⟨by rfl, ?_⟩) (by assumption) ?_
      rotate_left
      · (intro wx hSw; have z0 := hSw.x0; have z1 := hSw.x1; have z2 := hSw.y0; have z3 := hSw.y1; go_simp; (try with_reducible rfl); (try omega))
      (try simp only [Act.put, List.setIfInBounds_toArray, List.set_cons_zero, List.set_cons_succ, List.getElem_toArray, List.getElem_cons_zero, List.getElem_cons_succ])
      refine wpAnyH_take (i := 2) (v := ?_) rfl (by kernel_rfl) (by kernel_rfl) (by kernel_rfl) (fun _ _ _ h => h) (Or.inl ⟨by rfl, ?_⟩) (by assumption) ?_
      rotate_left
      · (intro wx hSw; have z0 := hSw.x0; have z1 := hSw.x1; have z2 := hSw.y0; have z3 := hSw.y1; go_simp; (try with_reducible rfl); (try omega))
      (try simp only [Act.put, List.setIfInBounds_toArray, List.set_cons_zero, List.set_cons_succ, List.getElem_toArray, List.getElem_cons_zero, List.getElem_cons_succ])
      refine wpAnyH_take (i := 3) (v := ?_) rfl (by kernel_rfl) (by kernel_rfl) (by kernel_rfl) (fun _ _ _ h => h) (Or.inl ⟨by rfl, ?_⟩) (by assumption) ?_
      rotate_left
      · (intro wx hSw; have z0 := hSw.x0; have z1 := hSw.x1; have z2 := hSw.y0; have z3 := hSw.y1; go_simp; (try with_reducible rfl); (try omega))
      (try simp only [Act.put, List.setIfInBounds_toArray, List.set_cons_zero, List.set_cons_succ, List.getElem_toArray, List.getElem_cons_zero, List.getElem_cons_succ])
      refine wpAnyH_take (i := 4) (v := ?_) rfl (by kernel_rfl) (by kernel_rfl) (by kernel_rfl) (fun _ _ _ h => h) (Or.inl ⟨by rfl, ?_⟩) (by assumption) ?_
      rotate_left
      · (intro wx hSw; have z0 := hSw.x0; have z1 := hSw.x1; have z2 := hSw.y0; have z3 := hSw.y1; go_simp; (try with_reducible rfl); (try omega))
      (try simp only [Act.put, List.setIfInBounds_toArray, List.set_cons_zero, List.set_cons_succ, List.getElem_toArray, List.getElem_cons_zero, List.getElem_cons_succ])
      refine wpAnyH_take (i := 5) (v := ?_) rfl (by kernel_rfl) (by kernel_rfl) (by kernel_rfl) (fun _ _ _ h => h) (Or.inl ⟨by rfl, ?_⟩) (by assumption) ?_
      rotate_left
      · (intro wx hSw; have z0 := hSw.x0; have z1 := hSw.x1; have z2 := hSw.y0; have z3 := hSw.y1; go_simp; (try with_reducible rfl); (try omega))
      (try simp only [Act.put, List.setIfInBounds_toArray, List.set_cons_zero, List.set_cons_succ, List.getElem_toArray, List.getElem_cons_zero, List.getElem_cons_succ])
      refine wpAnyH_take (i := 6) (v := ?_) rfl (by kernel_rfl) (by kernel_rfl) (by kernel_rfl) (fun _ _ _ h => h) (Or.inl ⟨by rfl, ?_⟩) (by assumption) ?_
      rotate_left
      · (intro wx hSw; have z0 := hSw.x0; have z1 := hSw.x1; have z2 := hSw.y0; have z3 := hSw.y1; go_simp; (try with_reducible rfl); (try omega))
      (try simp only [Act.put, List.setIfInBounds_toArray, List.set_cons_zero, List.set_cons_succ, List.getElem_toArray, List.getElem_cons_zero, List.getElem_cons_succ])
      refine wpAnyH_take (i := 7) (v := ?_) rfl (by kernel_rfl) (by kernel_rfl) (by kernel_rfl) (fun _ _ _ h => h) (Or.inl ⟨by rfl, ?_⟩) (by assumption) ?_
      rotate_left
      · (intro wx hSw; have z0 := hSw.x0; have z1 := hSw.x1; have z2 := hSw.y0; have z3 := hSw.y1; go_simp; (try with_reducible rfl); (try omega))
      (try simp only [Act.put, List.setIfInBounds_toArray, List.set_cons_zero, List.set_cons_succ, List.getElem_toArray, List.getElem_cons_zero, List.getElem_cons_succ])
      refine wpAnyH_take (i := 8) (v := ?_) rfl (by kernel_rfl) (by kernel_rfl) (by kernel_rfl) (fun _ _ _ h => h) (Or.inl ⟨by rfl, ?_⟩) (by assumption) ?_
      rotate_left
      · (intro wx hSw; have z0 := hSw.x0; have z1 := hSw.x1; have z2 := hSw.y0; have z3 := hSw.y1; go_simp; (try with_reducible rfl); (try omega))
      (try simp only [Act.put, List.setIfInBounds_toArray, List.set_cons_zero, List.set_cons_succ, List.getElem_toArray, List.getElem_cons_zero, List.getElem_cons_succ])
      refine wpAnyH_ready (rs := [9]) (by kernel_rfl) (by simp) ?_
      refine AllReadyH.cons rfl (fun K hK => ?_) AllReadyH.nil
      go_simp
      refine (HO.out.call hxm hym hS).mono ?_
      rintro e w5 ⟨rfl, hb5⟩
      have hS := hS.below hb5
      refine hK.out _ _ hS (fun hHeld => ?_)
      clear hK K
      (try simp only [Act.put, List.setIfInBounds_toArray, List.set_cons_zero, List.set_cons_succ, List.getElem_toArray, List.getElem_cons_zero, List.getElem_cons_succ])
      rw [HKX.out]
      by_cases hk0 : kx < 0
      · have hkd : decide (kx < 0) = true := by simpa using hk0
        refine wpAnyH_take (i := 10) (v := ?_) rfl (by kernel_rfl) (by kernel_rfl) (by kernel_rfl) (fun _ _ _ h => h) (Or.inl ⟨by rfl, ?_⟩) (by assumption) ?_
        rotate_left
        · (intro wx hSw; have z0 := hSw.x0; have z1 := hSw.x1; have z2 := hSw.y0; have z3 := hSw.y1; go_simp; (try with_reducible rfl); (try omega))
        (try simp only [Act.put, List.setIfInBounds_toArray, List.set_cons_zero, List.set_cons_succ, List.getElem_toArray, List.getElem_cons_zero, List.getElem_cons_succ])
        refine wpAnyH_take (i := 11) (v := ?_) rfl (by kernel_rfl) (by kernel_rfl) (by kernel_rfl) (fun _ _ _ h => h) (Or.inl ⟨by rfl, ?_⟩) (by assumption) ?_
        rotate_left
        · (intro wx hSw; have z0 := hSw.x0; have z1 := hSw.x1; have z2 := hSw.y0; have z3 := hSw.y1; go_simp; (try with_reducible rfl); (try omega))
        (try simp only [Act.put, List.setIfInBounds_toArray, List.set_cons_zero, List.set_cons_succ, List.getElem_toArray, List.getElem_cons_zero, List.getElem_cons_succ])
        refine wpAnyH_done (by kernel_rfl) ?_ _
        have hS2 := hid0 hS.st
        have hB2 := hid0 (show Bs2 gs F a m i h from ⟨hB.out.lo, Or.inr (by rw [HLQ.out, HKU.out.1 (by rw [HKX.out]; exact hk0)])⟩)
        clear hHeld hS hB HLQ HKU HKX
        go_wp2_with fail
        exact ⟨⟨i, h, hmi, by omega, by omega, rfl, rfl, hB2, hS2⟩, by simp [intOf]; omega⟩
      · have hkd : decide (kx < 0) = false := by simpa using hk0
        refine wpAnyH_take (i := 10) (v := ?_) rfl (by kernel_rfl) (by kernel_rfl) (by kernel_rfl) (fun _ _ _ h => h) (Or.inl ⟨by rfl, ?_⟩) (by assumption) ?_
        rotate_left
        · (intro wx hSw; have z0 := hSw.x0; have z1 := hSw.x1; have z2 := hSw.y0; have z3 := hSw.y1; go_simp; (try with_reducible rfl); (try omega))
        (try simp only [Act.put, List.setIfInBounds_toArray, List.set_cons_zero, List.set_cons_succ, List.getElem_toArray, List.getElem_cons_zero, List.getElem_cons_succ])
        refine wpAnyH_take (i := 11) (v := ?_) rfl (by kernel_rfl) (by kernel_rfl) (by kernel_rfl) (fun _ _ _ h => h) (Or.inl ⟨by rfl, ?_⟩) (by assumption) ?_
        rotate_left
        · (intro wx hSw; have z0 := hSw.x0; have z1 := hSw.x1; have z2 := hSw.y0; have z3 := hSw.y1; go_simp; (try with_reducible rfl); (try omega))
        (try simp only [Act.put, List.setIfInBounds_toArray, List.set_cons_zero, List.set_cons_succ, List.getElem_toArray, List.getElem_cons_zero, List.getElem_cons_succ])
        refine wpAnyH_done (by kernel_rfl) ?_ _
        have hS2 := hid0 hS.st
        have hB2 := hid0 (show Bs2 gs F a m (h + 1) j from ⟨Or.inr (by
          rw [show h + 1 - 1 = h by omega, HLQ.out]
          cases hq : leE gs y x with
          | true => rfl
          | false => exact absurd (HKU.out.2 hq) (by rw [HKX.out]; exact hk0)), hB.out.hi⟩)
        clear hHeld hS hB HLQ HKU HKX
        go_wp2_with fail
        exact ⟨⟨h + 1, j, by omega, by omega, hjb, by go_num, rfl, hB2, hS2⟩, by simp [intOf]; omega⟩
    · obtain rfl : i = j := by omega
      have hie : ¬ (i : Int) < (i : Int) := by omega
      have hEND := hid0 (last_found (leE_LeT gs) HT.out hmi hjb hB.out.lo hB.out.hi)
      have HP := hid0 HT.out.ea
      obtain ⟨A1, hA1⟩ : ∃ A1, A.take (i - a) = A1 := ⟨_, rfl⟩
      obtain ⟨A2, hA2⟩ : ∃ A2, A.drop (i - a) = A2 := ⟨_, rfl⟩
      have hl1 : a + A1.length = i := by rw [← hA1, List.length_take]; have := HAL.out; omega
      have hl2 : i + A2.length = m := by rw [← hA2, List.length_drop]; have := HAL.out; omega
      have HS2 : Hid (St w0 w1 g n cap vb pv E0 ((P ++ A1) ++ A2.take (m - i) ++ x :: (A2.drop (m - i) ++ S)) wr) := hid0 (by
        have e : (P ++ A1) ++ A2.take (m - i) ++ x :: (A2.drop (m - i) ++ S) = F := by
          rw [List.take_of_length_le (by omega), List.drop_of_length_le (by omega), ← HF.out, ← List.take_append_drop (i - a) A, hA1, hA2]; simp
        rw [e]; exact hS0.out)
      rw [hA1, hA2] at hEND
      have HL1 := hid0 hl1
      have HL2 := hid0 hl2
      clear hB hS0 HXA hA1 hA2 hl1 hl2
      go_wp2
      go_loopw [17] (fun kv wr => ∃ k : Nat, i ≤ k ∧ k ≤ m ∧ kv = .int .i64 k ∧ Hid (St w0 w1 g n cap vb pv E0 ((P ++ A1) ++ A2.take (k - i) ++ x :: (A2.drop (k - i) ++ S)) wr)) (fun kv _ => (intOf kv).toNat - i)
      case atStart => exact ⟨m, hjb, Nat.le_refl _, rfl, HS2⟩
      case round =>
        clear HS2
        obtain ⟨k, hak, hki, rfl, hT2⟩ := hrel
        by_cases hlt2 : i < k
        · obtain ⟨k1, hk1⟩ : ∃ k1, k - 1 = k1 := ⟨_, rfl⟩
          have hTD := hT2.out.drew
          have hl := hTD.len
          have hB1 : k1 - i < A2.length := by have := HL2.out; omega
          have hSP := fun h1 h2 => last_swap (S := S) (x := x) (P := P ++ A1) (by rw [List.length_append, HP.out]; exact HL1.out) hlt2 hk1 hB1 h1 h2
          obtain ⟨F2, hF2⟩ : ∃ F2, (P ++ A1) ++ A2.take (k - i) ++ x :: (A2.drop (k - i) ++ S) = F2 := ⟨_, rfl⟩
          rw [hF2] at hTD hl hSP
          have hxF : k < F2.length := by rw [hl]; rw [← hl, ← hF2]; simp only [List.length_append, List.length_cons, List.length_take, List.length_drop, HP.out]; have := HL1.out; have := HL2.out; omega
          have hyF : k1 < F2.length := by omega
          have HNX := hid0 (hSP hxF hyF)
          obtain ⟨qx0, qx1⟩ := hTD.cells hxF
          obtain ⟨qy0, qy1⟩ := hTD.cells hyF
          have thx := hTD.there (i := k) (by omega)
          have thy := hTD.there (i := k1) (by omega)
          have HSW := hid0 (hTD.swap hxF hyF)
          rw [HNX.out] at HSW
          generalize F2[k] = ex at qx0 qx1 HSW
          generalize F2[k1] = ey at qy0 qy1 HSW
          have hin : (i : Int) < (k : Int) := by omega
          have hwx : IntKind.i64.wrap ((k : Int) - 1) = (k1 : Int) := by rw [IntWalk.i64_in _ (by omega)]; omega
          have hxn : (k : Int) < (n : Int) := by omega
          have hyn : (k1 : Int) < (n : Int) := by omega
          have hk1i : k1 ≤ m := by omega
          have hk1a : i ≤ k1 := by omega
          have hlt3 : k1 < k := by omega
          clear hTD HNX hF2 hl hk1 hT2 hB1 hSP
          go_wp2_with fail
          refine wp_region_held_drew (S := fun _ : World => True) (by kernel_rfl) trivial (fun hHeld => ?_)
          refine wpAnyH_take (i := 0) (v := ?_) rfl (by kernel_rfl) (by kernel_rfl) (by kernel_rfl) (fun _ _ _ h => h) (Or.inl ⟨by rfl, ?_⟩) (by assumption) ?_
          rotate_left
          · (intro wx hSw; go_simp; (try with_reducible rfl); (try omega))
          (try simp only [Act.put, List.setIfInBounds_toArray, List.set_cons_zero, List.set_cons_succ, List.getElem_toArray, List.getElem_cons_zero])
          refine wpAnyH_take (i := 1) (v := ?_) rfl (by kernel_rfl) (by kernel_rfl) (by kernel_rfl) (fun _ _ _ h => h) (Or.inl ⟨by rfl, ?_⟩) (by assumption) ?_
          rotate_left
          · (intro wx hSw; go_simp; (try with_reducible rfl); (try omega))
          (try simp only [Act.put, List.setIfInBounds_toArray, List.set_cons_zero, List.set_cons_succ, List.getElem_toArray, List.getElem_cons_zero, List.getElem_cons_succ])
          refine wpAnyH_take (i := 2) (v := ?_) rfl (by kernel_rfl) (by kernel_rfl) (by kernel_rfl) (fun _ _ _ h => h) (Or.inl ⟨by rfl, ?_⟩) (by assumption) ?_
          rotate_left
          · (intro wx hSw; go_simp; (try with_reducible rfl); (try omega))
          (try simp only [Act.put, List.setIfInBounds_toArray, List.set_cons_zero, List.set_cons_succ, List.getElem_toArray, List.getElem_cons_zero, List.getElem_cons_succ])
          refine wpAnyH_take (i := 3) (v := ?_) rfl (by kernel_rfl) (by kernel_rfl) (by kernel_rfl) (fun _ _ _ h => h) (Or.inl ⟨by rfl, ?_⟩) (by assumption) ?_
          rotate_left
          · (intro wx hSw; go_simp; (try with_reducible rfl); (try omega))
          (try simp only [Act.put, List.setIfInBounds_toArray, List.set_cons_zero, List.set_cons_succ, List.getElem_toArray, List.getElem_cons_zero, List.getElem_cons_succ])
          refine wpAnyH_take (i := 4) (v := ?_) rfl (by kernel_rfl) (by kernel_rfl) (by kernel_rfl) (fun _ _ _ h => h) (Or.inl ⟨by rfl, ?_⟩) (by assumption) ?_
          rotate_left
          · (intro wx hSw; go_simp; (try with_reducible rfl); (try omega))
          (try simp only [Act.put, List.setIfInBounds_toArray, List.set_cons_zero, List.set_cons_succ, List.getElem_toArray, List.getElem_cons_zero, List.getElem_cons_succ])
          refine wpAnyH_take (i := 5) (v := ?_) rfl (by kernel_rfl) (by kernel_rfl) (by kernel_rfl) (fun _ _ _ h => h) (Or.inl ⟨by rfl, ?_⟩) (by assumption) ?_
          rotate_left
          · (intro wx hSw; go_simp; (try with_reducible rfl); (try omega))
          (try simp only [Act.put, List.setIfInBounds_toArray, List.set_cons_zero, List.set_cons_succ, List.getElem_toArray, List.getElem_cons_zero, List.getElem_cons_succ])
          refine wpAnyH_take (i := 6) (v := ?_) rfl (by kernel_rfl) (by kernel_rfl) (by kernel_rfl) (fun _ _ _ h => h) (Or.inl ⟨by rfl, ?_⟩) (by assumption) ?_
          rotate_left
          · (intro wx hSw; go_simp; (try with_reducible rfl); (try omega))
          (try simp only [Act.put, List.setIfInBounds_toArray, List.set_cons_zero, List.set_cons_succ, List.getElem_toArray, List.getElem_cons_zero, List.getElem_cons_succ])
          refine wpAnyH_take (i := 7) (v := ?_) rfl (by kernel_rfl) (by kernel_rfl) (by kernel_rfl) (fun _ _ _ h => h) (Or.inl ⟨by rfl, ?_⟩) (by assumption) ?_
          rotate_left
          · (intro wx hSw; go_simp; (try with_reducible rfl); (try omega))
          (try simp only [Act.put, List.setIfInBounds_toArray, List.set_cons_zero, List.set_cons_succ, List.getElem_toArray, List.getElem_cons_zero, List.getElem_cons_succ])
          refine wpAnyH_take (i := 8) (v := ?_) rfl (by kernel_rfl) (by kernel_rfl) (by kernel_rfl) (fun _ _ _ h => h) (Or.inl ⟨by rfl, ?_⟩) (by assumption) ?_
          rotate_left
          · (intro wx hSw; go_simp; (try with_reducible rfl); (try omega))
          (try simp only [Act.put, List.setIfInBounds_toArray, List.set_cons_zero, List.set_cons_succ, List.getElem_toArray, List.getElem_cons_zero, List.getElem_cons_succ])
          refine wpAnyH_take (i := 10) (v := ?_) rfl (by kernel_rfl) (by kernel_rfl) (by kernel_rfl) (fun _ _ _ h => h) (Or.inl ⟨by rfl, ?_⟩) (by assumption) ?_
          rotate_left
          · (intro wx hSw; go_simp; (try with_reducible rfl); (try omega))
          (try simp only [Act.put, List.setIfInBounds_toArray, List.set_cons_zero, List.set_cons_succ, List.getElem_toArray, List.getElem_cons_zero, List.getElem_cons_succ])
          refine wpAnyH_take (i := 11) (v := ?_) rfl (by kernel_rfl) (by kernel_rfl) (by kernel_rfl) (fun _ _ _ h => h) (Or.inl ⟨by rfl, ?_⟩) (by assumption) ?_
          rotate_left
          · (intro wx hSw; go_simp; (try with_reducible rfl); (try omega))
          (try simp only [Act.put, List.setIfInBounds_toArray, List.set_cons_zero, List.set_cons_succ, List.getElem_toArray, List.getElem_cons_zero, List.getElem_cons_succ])
          refine wpAnyH_take (i := 12) (v := ?_) rfl (by kernel_rfl) (by kernel_rfl) (by kernel_rfl) (fun _ _ _ h => h) (Or.inl ⟨by rfl, ?_⟩) (by assumption) ?_
          rotate_left
          · (intro wx hSw; go_simp; (try with_reducible rfl); (try omega))
          (try simp only [Act.put, List.setIfInBounds_toArray, List.set_cons_zero, List.set_cons_succ, List.getElem_toArray, List.getElem_cons_zero, List.getElem_cons_succ])
          refine wpAnyH_ready (rs := [9, 13]) (by kernel_rfl) (by simp) ?_
          refine AllReadyH.cons rfl (fun K hK => ?_) ?_
          · (try simp only [Act.put, List.setIfInBounds_toArray, List.set_cons_zero, List.set_cons_succ, List.getElem_toArray, List.getElem_cons_zero, List.getElem_cons_succ])
            go_simp
            refine hK.out _ _ trivial (fun hHeld => ?_)
            clear hK K
            (try simp only [Act.put, List.setIfInBounds_toArray, List.set_cons_zero, List.set_cons_succ, List.getElem_toArray, List.getElem_cons_zero, List.getElem_cons_succ])
            refine wpAnyH_ready (rs := [13]) (by kernel_rfl) (by simp) ?_
            refine AllReadyH.cons rfl (fun K hK => ?_) ?_
            · (try simp only [Act.put, List.setIfInBounds_toArray, List.set_cons_zero, List.set_cons_succ, List.getElem_toArray, List.getElem_cons_zero, List.getElem_cons_succ])
              go_simp
              refine hK.out _ _ trivial (fun hHeld => ?_)
              clear hK K
              (try simp only [Act.put, List.setIfInBounds_toArray, List.set_cons_zero, List.set_cons_succ, List.getElem_toArray, List.getElem_cons_zero, List.getElem_cons_succ])
              refine wpAnyH_take (i := 14) (v := ?_) rfl (by kernel_rfl) (by kernel_rfl) (by kernel_rfl) (fun _ _ _ h => h) (Or.inl ⟨by rfl, ?_⟩) (by assumption) ?_
              rotate_left
              · (intro wx hSw; go_simp; (try with_reducible rfl); (try omega))
              (try simp only [Act.put, List.setIfInBounds_toArray, List.set_cons_zero, List.set_cons_succ, List.getElem_toArray, List.getElem_cons_zero, List.getElem_cons_succ])
              refine wpAnyH_ready (rs := [15]) (by kernel_rfl) (by simp) ?_
              refine AllReadyH.cons rfl (fun K hK => ?_) ?_
              · (try simp only [Act.put, List.getElem_toArray, List.getElem_cons_zero, List.getElem_cons_succ])
                refine wp_storeQ _ _ _ rfl g (k * 2) [.slice ey.a ey.r.length ey.c, .int .i64 ey.n] rfl rfl thx sizeMany (by intro v hv; simp at hv; rcases hv with rfl | rfl <;> rfl) ?_
                intro wsa hwsa
                have thy : wsa.there g (k1 * 2) 2 := by rw [hwsa]; exact World.there_setCells thy g (k * 2) [.slice ey.a ey.r.length ey.c, .int .i64 ey.n]
                have Hwsa := hid0 hwsa
                clear hwsa
                refine hK.out _ _ trivial (fun hHeld => ?_)
                clear hK K
                (try simp only [Act.put])
                refine wpAnyH_take (i := 16) (v := ?_) rfl (by kernel_rfl) (by kernel_rfl) (by kernel_rfl) (fun _ _ _ h => h) (Or.inl ⟨by rfl, ?_⟩) (by assumption) ?_
                rotate_left
                · (intro wx hSw; go_simp; (try with_reducible rfl); (try omega))
                (try simp only [Act.put, List.setIfInBounds_toArray, List.set_cons_zero, List.set_cons_succ, List.getElem_toArray, List.getElem_cons_zero, List.getElem_cons_succ])
                refine wpAnyH_ready (rs := [17]) (by kernel_rfl) (by simp) ?_
                refine AllReadyH.cons rfl (fun K hK => ?_) ?_
                · (try simp only [Act.put, List.getElem_toArray, List.getElem_cons_zero, List.getElem_cons_succ])
                  refine wp_storeQ _ _ _ rfl g (k1 * 2) [.slice ex.a ex.r.length ex.c, .int .i64 ex.n] rfl rfl thy sizeMany (by intro v hv; simp at hv; rcases hv with rfl | rfl <;> rfl) ?_
                  intro wsb hwsb
                  have Hwsb := hid0 hwsb
                  clear hwsb
                  refine hK.out _ _ trivial (fun hHeld => ?_)
                  clear hK K
                  (try simp only [Act.put])
                  refine wpAnyH_done (by kernel_rfl) ?_ _
                  clear hHeld
                  clear hxn hyn
                  go_wp2_with fail
                  exact ⟨⟨k1, hk1a, hk1i, by go_num, hid0 (by have := HSW.out; rw [Hwsb.out, Hwsa.out]; exact this)⟩, by simp [intOf]; omega⟩
                exact AllReadyH.nil
              exact AllReadyH.nil
            exact AllReadyH.nil
          refine AllReadyH.cons rfl (fun K hK => ?_) ?_
          · (try simp only [Act.put, List.setIfInBounds_toArray, List.set_cons_zero, List.set_cons_succ, List.getElem_toArray, List.getElem_cons_zero, List.getElem_cons_succ])
            go_simp
            refine hK.out _ _ trivial (fun hHeld => ?_)
            clear hK K
            (try simp only [Act.put, List.setIfInBounds_toArray, List.set_cons_zero, List.set_cons_succ, List.getElem_toArray, List.getElem_cons_zero, List.getElem_cons_succ])
            refine wpAnyH_ready (rs := [9]) (by kernel_rfl) (by simp) ?_
            refine AllReadyH.cons rfl (fun K hK => ?_) ?_
            · (try simp only [Act.put, List.setIfInBounds_toArray, List.set_cons_zero, List.set_cons_succ, List.getElem_toArray, List.getElem_cons_zero, List.getElem_cons_succ])
              go_simp
              refine hK.out _ _ trivial (fun hHeld => ?_)
              clear hK K
              (try simp only [Act.put, List.setIfInBounds_toArray, List.set_cons_zero, List.set_cons_succ, List.getElem_toArray, List.getElem_cons_zero, List.getElem_cons_succ])
              refine wpAnyH_take (i := 14) (v := ?_) rfl (by kernel_rfl) (by kernel_rfl) (by kernel_rfl) (fun _ _ _ h => h) (Or.inl ⟨by rfl, ?_⟩) (by assumption) ?_
              rotate_left
              · (intro wx hSw; go_simp; (try with_reducible rfl); (try omega))
              (try simp only [Act.put, List.setIfInBounds_toArray, List.set_cons_zero, List.set_cons_succ, List.getElem_toArray, List.getElem_cons_zero, List.getElem_cons_succ])
              refine wpAnyH_ready (rs := [15]) (by kernel_rfl) (by simp) ?_
              refine AllReadyH.cons rfl (fun K hK => ?_) ?_
              · (try simp only [Act.put, List.getElem_toArray, List.getElem_cons_zero, List.getElem_cons_succ])
                refine wp_storeQ _ _ _ rfl g (k * 2) [.slice ey.a ey.r.length ey.c, .int .i64 ey.n] rfl rfl thx sizeMany (by intro v hv; simp at hv; rcases hv with rfl | rfl <;> rfl) ?_
                intro wsa hwsa
                have thy : wsa.there g (k1 * 2) 2 := by rw [hwsa]; exact World.there_setCells thy g (k * 2) [.slice ey.a ey.r.length ey.c, .int .i64 ey.n]
                have Hwsa := hid0 hwsa
                clear hwsa
                refine hK.out _ _ trivial (fun hHeld => ?_)
                clear hK K
                (try simp only [Act.put])
                refine wpAnyH_take (i := 16) (v := ?_) rfl (by kernel_rfl) (by kernel_rfl) (by kernel_rfl) (fun _ _ _ h => h) (Or.inl ⟨by rfl, ?_⟩) (by assumption) ?_
                rotate_left
                · (intro wx hSw; go_simp; (try with_reducible rfl); (try omega))
                (try simp only [Act.put, List.setIfInBounds_toArray, List.set_cons_zero, List.set_cons_succ, List.getElem_toArray, List.getElem_cons_zero, List.getElem_cons_succ])
                refine wpAnyH_ready (rs := [17]) (by kernel_rfl) (by simp) ?_
                refine AllReadyH.cons rfl (fun K hK => ?_) ?_
                · (try simp only [Act.put, List.getElem_toArray, List.getElem_cons_zero, List.getElem_cons_succ])
                  refine wp_storeQ _ _ _ rfl g (k1 * 2) [.slice ex.a ex.r.length ex.c, .int .i64 ex.n] rfl rfl thy sizeMany (by intro v hv; simp at hv; rcases hv with rfl | rfl <;> rfl) ?_
                  intro wsb hwsb
                  have Hwsb := hid0 hwsb
                  clear hwsb
                  refine hK.out _ _ trivial (fun hHeld => ?_)
                  clear hK K
                  (try simp only [Act.put])
                  refine wpAnyH_done (by kernel_rfl) ?_ _
                  clear hHeld
                  clear hxn hyn
                  go_wp2_with fail
                  exact ⟨⟨k1, hk1a, hk1i, by go_num, hid0 (by have := HSW.out; rw [Hwsb.out, Hwsa.out]; exact this)⟩, by simp [intOf]; omega⟩
                exact AllReadyH.nil
              exact AllReadyH.nil
            exact AllReadyH.nil
          exact AllReadyH.nil
        · obtain rfl : k = i := by omega
          have hie2 : ¬ (k : Int) < (k : Int) := by omega
          have HE := hid0 (show St w0 w1 g n cap vb pv E0 RR wr by
            have := hT2.out
            rw [← HRR.out, hEND.out]
            simpa using this)
          clear hT2
          go_wp2
          go_returns
          exact ⟨rfl, HE.out⟩
end Go.Proofs.YtjmoegcfgadjiaaGreat
