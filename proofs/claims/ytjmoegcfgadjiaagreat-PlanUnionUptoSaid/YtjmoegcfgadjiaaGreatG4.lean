/- Several of my texts laid together, each as it was: R1. Conditions: each names its own. -/
import Derived.Test.YtjmoegcfgadjiaaGreatG2
/- slices.symMergeCmpFunc over a list of one's own, the piece ahead one element: a contract of the call, in whatever memory. Conditions: the list's cells are known; the order answers whenever it is asked; the pieces are sorted. -/
namespace Go.Proofs.YtjmoegcfgadjiaaGreat
open Go.RowKit

theorem at_piece {P A S : List Elem} {k a : Nat} (ha : P.length = a) (h1 : a ≤ k) (h2 : k < a + A.length) (h : k < (P ++ A ++ S).length) : (P ++ A ++ S)[k] = A[k - a]'(by omega) := by
  subst ha
  rw [List.getElem_append_left (by rw [List.length_append]; omega), List.getElem_append_right h1]
theorem one_swap {P B S : List Elem} {x : Elem} {k k1 a : Nat} (hP : P.length = a) (hak : a ≤ k) (hk : k + 1 = k1) (hB : k - a < B.length) (h1 : k < (P ++ B.take (k - a) ++ x :: (B.drop (k - a) ++ S)).length) (h2 : k1 < (P ++ B.take (k - a) ++ x :: (B.drop (k - a) ++ S)).length) :
    swp (P ++ B.take (k - a) ++ x :: (B.drop (k - a) ++ S)) k k1 h1 h2 = P ++ B.take (k1 - a) ++ x :: (B.drop (k1 - a) ++ S) := by
  have e : P ++ B.take (k - a) ++ x :: (B.drop (k - a) ++ S) = (P ++ B.take (k - a)) ++ x :: ([] ++ B[k - a] :: (B.drop (k - a + 1) ++ S)) := by
    conv => lhs; rw [List.drop_eq_getElem_cons hB]
    rfl
  revert h1 h2
  rw [e]
  intro h1 h2
  rw [swp_app (P ++ B.take (k - a)) [] _ x _ k k1 (by rw [List.length_append, List.length_take, hP]; omega) (by rw [List.length_append, List.length_take, hP]; simp; omega)]
  rw [show k1 - a = k - a + 1 by omega, List.take_succ_eq_append_getElem hB]; simp only [List.append_assoc, List.cons_append, List.nil_append]
/-- i and j of the search of a place: the one ahead. -/
structure Bs1 (gs : List Int) (F : List Elem) (a m b i j : Nat) : Prop where
  lo : i = m ∨ lq (leE gs) F a (i - 1) = some false
  hi : j = b ∨ lq (leE gs) F a j = some true
set_option maxHeartbeats 8000000 in
set_option maxRecDepth 1000000 in
theorem sym_one (w0 w1 : World) (g n cap vb : Nat) (pv : Value) (gs : List Int) (E0 P B S : List Elem) (x : Elem) (a m b : Nat) (w : World) (hO : OrdS w0 vb pv gs E0) (hT : Two (leE gs) (P ++ [x] ++ B ++ S) P [x] B S a m b) (hS : St w0 w1 g n cap vb pv E0 (P ++ [x] ++ B ++ S) w) (hn : n ≤ 1000000) :
    Calls Tryz.prog 282 #[.slice (some ⟨g, 0, none⟩) n cap, .int .i64 a, .int .i64 m, .int .i64 b, .func (.func 187) #[] #[.pointer (some ⟨vb, 0, none⟩)]] w fun e w' => e = .returned (.tuple #[]) ∧ St w0 w1 g n cap vb pv E0 (P ++ srt (leE gs) ([x] ++ B) ++ S) w' := by
  have hlen := hT.len
  rw [hS.len] at hlen
  have ham := hT.em
  simp only [List.length_singleton] at ham
  have hmb := hT.mb
  have hbn : b ≤ n := by omega
  obtain ⟨F, hF⟩ : ∃ F, P ++ [x] ++ B ++ S = F := ⟨_, rfl⟩
  have HF := hid0 hF
  rw [hF] at hT hS
  have hFn := hS.len
  have HT := hid0 hT
  have HS := hid0 hS
  have HO := hid0 hO
  have haF : a < F.length := by omega
  have hxa : F[a] = x := by
    have := hT.inA (k := a) (Nat.le_refl _) hT.am haF
    rw [this]; simp
  have hxm : x ∈ E0 := by rw [← hxa]; exact hS.mem _ (List.getElem_mem haF)
  have HXA := hid0 hxa
  have hw0 : IntKind.i64.wrap ((m : Int) - a) = 1 := by rw [IntWalk.i64_in _ (by omega)]; omega
  have hB0 : Hid (Bs1 gs F a m b m b) := hid0 ⟨Or.inl rfl, Or.inl rfl⟩
  obtain ⟨RR, hRR⟩ : ∃ RR, P ++ srt (leE gs) ([x] ++ B) ++ S = RR := ⟨_, rfl⟩
  rw [hRR]
  have HRR := hid0 hRR
  clear hT hS hO hxa hF hlen hRR
  go_enter Tryz.func282, Tryz.ntmps282
  go_wp2
  go_loopw [10, 11] (fun iv jv wr => ∃ i j : Nat, m ≤ i ∧ i ≤ j ∧ j ≤ b ∧ iv = .int .i64 i ∧ jv = .int .i64 j ∧ Hid (Bs1 gs F a m b i j) ∧ Hid (St w0 w1 g n cap vb pv E0 F wr)) (fun iv jv _ => (intOf jv).toNat - (intOf iv).toNat)
  case atStart => exact ⟨m, b, Nat.le_refl _, by omega, Nat.le_refl _, rfl, rfl, hB0, HS⟩
  case round =>
    clear HS hB0
    obtain ⟨i, j, hmi, hij, hjb, rfl, rfl, hB, hS0⟩ := hrel
    by_cases hlt : i < j
    · obtain ⟨h, hh⟩ : ∃ h, (i + j) / 2 = h := ⟨_, rfl⟩
      have hih : i ≤ h := by omega
      have hhj : h < j := by omega
      have hhF : h < F.length := by omega
      have hii : (i : Int) < (j : Int) := by omega
      have hsum : ((i : Int) + (j : Int)) / 2 = (h : Int) := by omega
      have hS := hS0.out.drew.two hhF haF
      rw [HXA.out] at hS
      have HLQ := hid0 (lq_of (le := leE gs) haF hhF)
      rw [HXA.out] at HLQ
      have hym : F[h] ∈ E0 := hS0.out.mem _ (List.getElem_mem hhF)
      generalize F[h] = y at hS HLQ hym
      have HKU := hid0 (lt_leE (gs := gs) (x := y) (y := x))
      obtain ⟨kx, hkx⟩ : ∃ kx, keyA gs y.r x.r = kx := ⟨_, rfl⟩
      have HKX := hid0 hkx
      have hhn : (h : Int) < (n : Int) := by omega
      have han : (a : Int) < (n : Int) := by omega
      have hw1 : IntKind.i64.wrap ((h : Int) + 1) = ((h + 1 : Nat) : Int) := by rw [IntWalk.i64_in _ (by omega)]; omega
      have HH := hid0 hh
      clear hkx hS0 hh
      go_wp2_with fail
      refine wp_region_held_drew (S := StC w0 w1 g n cap vb pv E0 F h y a x) (by kernel_rfl) hS (fun hHeld => ?_)
      refine wpAnyH_take (i := 0) (v := ?_) rfl (by kernel_rfl) (by kernel_rfl) (by kernel_rfl) (fun _ _ _ h => h) (Or.inl ⟨by rfl, ?_⟩) (by assumption) ?_
      rotate_left
      · (intro wx hSw; have z0 := hSw.x0; have z1 := hSw.x1; have z2 := hSw.y0; have z3 := hSw.y1; go_simp; (try with_reducible rfl); (try omega))
      (try simp only [Act.put, List.setIfInBounds_toArray, List.set_cons_zero, List.set_cons_succ, List.getElem_toArray, List.getElem_cons_zero])
      refine wpAnyH_take (i := 1) (v := ?_) rfl (by kernel_rfl) (by kernel_rfl) (by kernel_rfl) (fun _ _ _ h => h) (Or.inl ⟨by rfl, ?_⟩) (by assumption) ?_
      rotate_left
      · (intro wx hSw; have z0 := hSw.x0; have z1 := hSw.x1; have z2 := hSw.y0; have z3 := hSw.y1; go_simp; (try with_reducible rfl); (try omega))
      (try simp only [Act.put, List.setIfInBounds_toArray, List.set_cons_zero, List.set_cons_succ, List.getElem_toArray, List.getElem_cons_zero, List.getElem_cons_succ])
      refine wpAnyH_take (i := 2) (v := ?_) rfl (by kernel_rfl) (by kernel_rfl) (by kernel_rfl) (fun _ _ _ h => h) (Or.inl ⟨by rfl, ?_⟩) (by assumption) ?_
      rotate_left
      · (intro wx hSw; have z0 := hSw.x0; have z1 := hSw.x1; have z2 := hSw.y0; have z3 := hSw.y1; go_simp; (try with_reducible rfl); (try omega))
      (try simp only [Act.put, List.setIfInBounds_toArray, List.set_cons_zero, List.set_cons_succ, List.getElem_toArray, List.getElem_cons_zero, List.getElem_cons_succ])
      refine wpAnyH_take (i := 3) (v := ?_) rfl (by kernel_rfl) (by kernel_rfl) (by kernel_rfl) (fun _ _ _ h => h) (Or.inl ⟨by rfl, ?_⟩) (by assumption) ?_
      rotate_left
      · (intro wx hSw; have z0 := hSw.x0; have z1 := hSw.x1; have z2 := hSw.y0; have z3 := hSw.y1; go_simp; (try with_reducible rfl); (try omega))
      (try simp only [Act.put, List.setIfInBounds_toArray, List.set_cons_zero, List.set_cons_succ, List.getElem_toArray, List.getElem_cons_zero, List.getElem_cons_succ])
      refine wpAnyH_take (i := 4) (v := ?_) rfl (by kernel_rfl) (by kernel_rfl) (by kernel_rfl) (fun _ _ _ h => h) (Or.inl ⟨by rfl, ?_⟩) (by assumption) ?_
      rotate_left
      · (intro wx hSw; have z0 := hSw.x0; have z1 := hSw.x1; have z2 := hSw.y0; have z3 := hSw.y1; go_simp; (try with_reducible rfl); (try omega))
      (try simp only [Act.put, List.setIfInBounds_toArray, List.set_cons_zero, List.set_cons_succ, List.getElem_toArray, List.getElem_cons_zero, List.getElem_cons_succ])
      refine wpAnyH_take (i := 5) (v := ?_) rfl (by kernel_rfl) (by kernel_rfl) (by kernel_rfl) (fun _ _ _ h => h) (Or.inl ⟨by rfl, ?_⟩) (by assumption) ?_
      rotate_left
      · (intro wx hSw; have z0 := hSw.x0; have z1 := hSw.x1; have z2 := hSw.y0; have z3 := hSw.y1; go_simp; (try with_reducible rfl); (try omega))
      (try simp only [Act.put, List.setIfInBounds_toArray, List.set_cons_zero, List.set_cons_succ, List.getElem_toArray, List.getElem_cons_zero, List.getElem_cons_succ])
      refine wpAnyH_take (i := 6) (v := ?_) rfl (by kernel_rfl) (by kernel_rfl) (by kernel_rfl) (fun _ _ _ h => h) (Or.inl ⟨by rfl, ?_⟩) (by assumption) ?_
      rotate_left
      · (intro wx hSw; have z0 := hSw.x0; have z1 := hSw.x1; have z2 := hSw.y0; have z3 := hSw.y1; go_simp; (try with_reducible rfl); (try omega))
      (try simp only [Act.put, List.setIfInBounds_toArray, List.set_cons_zero, List.set_cons_succ, List.getElem_toArray, List.getElem_cons_zero, List.getElem_cons_succ])
      refine wpAnyH_take (i := 7) (v := ?_) rfl (by kernel_rfl) (by kernel_rfl) (by kernel_rfl) (fun _ _ _ h => h) (Or.inl ⟨by rfl, ?_⟩) (by assumption) ?_
      rotate_left
      · (intro wx hSw; have z0 := hSw.x0; have z1 := hSw.x1; have z2 := hSw.y0; have z3 := hSw.y1; go_simp; (try with_reducible rfl); (try omega))
      (try simp only [Act.put, List.setIfInBounds_toArray, List.set_cons_zero, List.set_cons_succ, List.getElem_toArray, List.getElem_cons_zero, List.getElem_cons_succ])
      refine wpAnyH_take (i := 8) (v := ?_) rfl (by kernel_rfl) (by kernel_rfl) (by kernel_rfl) (fun _ _ _ h => h) (Or.inl ⟨by rfl, ?_⟩) (by assumption) ?_
      rotate_left
      · (intro wx hSw; have z0 := hSw.x0; have z1 := hSw.x1; have z2 := hSw.y0; have z3 := hSw.y1; go_simp; (try with_reducible rfl); (try omega))
      (try simp only [Act.put, List.setIfInBounds_toArray, List.set_cons_zero, List.set_cons_succ, List.getElem_toArray, List.getElem_cons_zero, List.getElem_cons_succ])
      refine wpAnyH_ready (rs := [9]) (by kernel_rfl) (by simp) ?_
      refine AllReadyH.cons rfl (fun K hK => ?_) AllReadyH.nil
      go_simp
      refine (HO.out.call hym hxm hS).mono ?_
      rintro e w5 ⟨rfl, hb5⟩
      have hS := hS.below hb5
      refine hK.out _ _ hS (fun hHeld => ?_)
      clear hK K
      (try simp only [Act.put, List.setIfInBounds_toArray, List.set_cons_zero, List.set_cons_succ, List.getElem_toArray, List.getElem_cons_zero, List.getElem_cons_succ])
      rw [HKX.out]
      by_cases hk0 : kx < 0
      · have hkd : decide (kx < 0) = true := by simpa using hk0
        refine wpAnyH_take (i := 10) (v := ?_) rfl (by kernel_rfl) (by kernel_rfl) (by kernel_rfl) (fun _ _ _ h => h) (Or.inl ⟨by rfl, ?_⟩) (by assumption) ?_
        rotate_left
        · (intro wx hSw; have z0 := hSw.x0; have z1 := hSw.x1; have z2 := hSw.y0; have z3 := hSw.y1; go_simp; (try with_reducible rfl); (try omega))
        (try simp only [Act.put, List.setIfInBounds_toArray, List.set_cons_zero, List.set_cons_succ, List.getElem_toArray, List.getElem_cons_zero, List.getElem_cons_succ])
        refine wpAnyH_done (by kernel_rfl) ?_ _
        have hS2 := hid0 hS.st
        have hB2 := hid0 (show Bs1 gs F a m b (h + 1) j from ⟨Or.inr (by rw [show h + 1 - 1 = h by omega, HLQ.out, HKU.out.1 (by rw [HKX.out]; exact hk0)]), hB.out.hi⟩)
        clear hHeld hS hB HLQ HKU HKX
        go_wp2_with fail
        exact ⟨⟨h + 1, j, by omega, by omega, hjb, by go_num, rfl, hB2, hS2⟩, by simp [intOf]; omega⟩
      · have hkd : decide (kx < 0) = false := by simpa using hk0
        refine wpAnyH_take (i := 10) (v := ?_) rfl (by kernel_rfl) (by kernel_rfl) (by kernel_rfl) (fun _ _ _ h => h) (Or.inl ⟨by rfl, ?_⟩) (by assumption) ?_
        rotate_left
        · (intro wx hSw; have z0 := hSw.x0; have z1 := hSw.x1; have z2 := hSw.y0; have z3 := hSw.y1; go_simp; (try with_reducible rfl); (try omega))
        (try simp only [Act.put, List.setIfInBounds_toArray, List.set_cons_zero, List.set_cons_succ, List.getElem_toArray, List.getElem_cons_zero, List.getElem_cons_succ])
        refine wpAnyH_done (by kernel_rfl) ?_ _
        have hS2 := hid0 hS.st
        have hB2 := hid0 (show Bs1 gs F a m b i h from ⟨hB.out.lo, Or.inr (by
          rw [HLQ.out]
          cases hq : leE gs x y with
          | true => rfl
          | false => exact absurd (HKU.out.2 hq) (by rw [HKX.out]; exact hk0))⟩)
        clear hHeld hS hB HLQ HKU HKX
        go_wp2_with fail
        exact ⟨⟨i, h, hmi, by omega, by omega, rfl, rfl, hB2, hS2⟩, by simp [intOf]; omega⟩
    · obtain rfl : i = j := by omega
      have hie : ¬ (i : Int) < (i : Int) := by omega
      have hEND := hid0 (one_found (leE_LeT gs) HT.out hmi hjb hB.out.lo hB.out.hi)
      obtain ⟨i1, hi1⟩ : ∃ i1, i - 1 = i1 := ⟨_, rfl⟩
      have hwi : IntKind.i64.wrap ((i : Int) - 1) = (i1 : Int) := by rw [IntWalk.i64_in _ (by omega)]; omega
      have HP := hid0 HT.out.ea
      have HBL := hid0 HT.out.eb
      have hai : a ≤ i1 := by omega
      have hib : i1 + 1 ≤ b := by omega
      have HI1 := hid0 (show i - m = i1 - a by omega)
      have HS2 : Hid (St w0 w1 g n cap vb pv E0 (P ++ B.take (a - a) ++ x :: (B.drop (a - a) ++ S)) wr) := hid0 (by
        have e : P ++ B.take (a - a) ++ x :: (B.drop (a - a) ++ S) = F := by rw [← HF.out, Nat.sub_self]; simp
        rw [e]; exact hS0.out)
      have HMA := hid0 ham
      clear hB hS0 hi1 HXA
      go_wp2
      go_loopw [13] (fun kv wr => ∃ k : Nat, a ≤ k ∧ k ≤ i1 ∧ kv = .int .i64 k ∧ Hid (St w0 w1 g n cap vb pv E0 (P ++ B.take (k - a) ++ x :: (B.drop (k - a) ++ S)) wr)) (fun kv _ => i1 - (intOf kv).toNat)
      case atStart => exact ⟨a, Nat.le_refl _, hai, rfl, HS2⟩
      case round =>
        clear HS2
        obtain ⟨k, hak, hki, rfl, hT2⟩ := hrel
        by_cases hlt2 : k < i1
        · obtain ⟨k1, hk1⟩ : ∃ k1, k + 1 = k1 := ⟨_, rfl⟩
          have hTD := hT2.out.drew
          have hl := hTD.len
          have hB1 : k - a < B.length := by have := HBL.out; omega
          have hSP := fun h1 h2 => one_swap (S := S) (x := x) HP.out hak hk1 hB1 h1 h2
          obtain ⟨F2, hF2⟩ : ∃ F2, P ++ B.take (k - a) ++ x :: (B.drop (k - a) ++ S) = F2 := ⟨_, rfl⟩
          rw [hF2] at hTD hl hSP
          have hxF : k < F2.length := by omega
          have hyF : k1 < F2.length := by omega
          have HNX := hid0 (hSP hxF hyF)
          obtain ⟨qx0, qx1⟩ := hTD.cells hxF
          obtain ⟨qy0, qy1⟩ := hTD.cells hyF
          have thx := hTD.there (i := k) (by omega)
          have thy := hTD.there (i := k1) (by omega)
          have HSW := hid0 (hTD.swap hxF hyF)
          rw [HNX.out] at HSW
          generalize F2[k] = ex at qx0 qx1 HSW
          generalize F2[k1] = ey at qy0 qy1 HSW
          have hin : (k : Int) < (i1 : Int) := by omega
          have hwx : IntKind.i64.wrap ((k : Int) + 1) = (k1 : Int) := by rw [IntWalk.i64_in _ (by omega)]; omega
          have hxn : (k : Int) < (n : Int) := by omega
          have hyn : (k1 : Int) < (n : Int) := by omega
          have hk1i : k1 ≤ i1 := by omega
          have hk1a : a ≤ k1 := by omega
          have hlt3 : k < k1 := by omega
          clear hTD HNX hF2 hl hk1 hT2 hB1 hSP
          go_wp2_with fail
          refine wp_region_held_drew (S := fun _ : World => True) (by kernel_rfl) trivial (fun hHeld => ?_)
          refine wpAnyH_take (i := 0) (v := ?_) rfl (by kernel_rfl) (by kernel_rfl) (by kernel_rfl) (fun _ _ _ h => h) (Or.inl ⟨by rfl, ?_⟩) (by assumption) ?_
          rotate_left
          · (intro wx hSw; go_simp; (try with_reducible rfl); (try omega))
          (try simp only [Act.put, List.setIfInBounds_toArray, List.set_cons_zero, List.set_cons_succ, List.getElem_toArray, List.getElem_cons_zero])
          refine wpAnyH_take (i := 1) (v := ?_) rfl (by kernel_rfl) (by kernel_rfl) (by kernel_rfl) (fun _ _ _ h => h) (Or.inl ⟨by rfl, ?_⟩) (by assumption) ?_
          rotate_left
          · (intro wx hSw; go_simp; (try with_reducible rfl); (try omega))
          (try simp only [Act.put, List.setIfInBounds_toArray, List.set_cons_zero, List.set_cons_succ, List.getElem_toArray, List.getElem_cons_zero, List.getElem_cons_succ])
          refine wpAnyH_take (i := 2) (v := ?_) rfl (by kernel_rfl) (by kernel_rfl) (by kernel_rfl) (fun _ _ _ h => h) (Or.inl ⟨by rfl, ?_⟩) (by assumption) ?_
          rotate_left
          · (intro wx hSw; go_simp; (try with_reducible rfl); (try omega))
          (try simp only [Act.put, List.setIfInBounds_toArray, List.set_cons_zero, List.set_cons_succ, List.getElem_toArray, List.getElem_cons_zero, List.getElem_cons_succ])
          refine wpAnyH_take (i := 3) (v := ?_) rfl (by kernel_rfl) (by kernel_rfl) (by kernel_rfl) (fun _ _ _ h => h) (Or.inl ⟨by rfl, ?_⟩) (by assumption) ?_
          rotate_left
          · (intro wx hSw; go_simp; (try with_reducible rfl); (try omega))
          (try simp only [Act.put, List.setIfInBounds_toArray, List.set_cons_zero, List.set_cons_succ, List.getElem_toArray, List.getElem_cons_zero, List.getElem_cons_succ])
          refine wpAnyH_take (i := 4) (v := ?_) rfl (by kernel_rfl) (by kernel_rfl) (by kernel_rfl) (fun _ _ _ h => h) (Or.inl ⟨by rfl, ?_⟩) (by assumption) ?_
          rotate_left
          · (intro wx hSw; go_simp; (try with_reducible rfl); (try omega))
          (try simp only [Act.put, List.setIfInBounds_toArray, List.set_cons_zero, List.set_cons_succ, List.getElem_toArray, List.getElem_cons_zero, List.getElem_cons_succ])
          refine wpAnyH_take (i := 5) (v := ?_) rfl (by kernel_rfl) (by kernel_rfl) (by kernel_rfl) (fun _ _ _ h => h) (Or.inl ⟨by rfl, ?_⟩) (by assumption) ?_
          rotate_left
          · (intro wx hSw; go_simp; (try with_reducible rfl); (try omega))
          (try simp only [Act.put, List.setIfInBounds_toArray, List.set_cons_zero, List.set_cons_succ, List.getElem_toArray, List.getElem_cons_zero, List.getElem_cons_succ])
          refine wpAnyH_take (i := 6) (v := ?_) rfl (by kernel_rfl) (by kernel_rfl) (by kernel_rfl) (fun _ _ _ h => h) (Or.inl ⟨by rfl, ?_⟩) (by assumption) ?_
          rotate_left
          · (intro wx hSw; go_simp; (try with_reducible rfl); (try omega))
          (try simp only [Act.put, List.setIfInBounds_toArray, List.set_cons_zero, List.set_cons_succ, List.getElem_toArray, List.getElem_cons_zero, List.getElem_cons_succ])
          refine wpAnyH_take (i := 7) (v := ?_) rfl (by kernel_rfl) (by kernel_rfl) (by kernel_rfl) (fun _ _ _ h => h) (Or.inl ⟨by rfl, ?_⟩) (by assumption) ?_
          rotate_left
          · (intro wx hSw; go_simp; (try with_reducible rfl); (try omega))
          (try simp only [Act.put, List.setIfInBounds_toArray, List.set_cons_zero, List.set_cons_succ, List.getElem_toArray, List.getElem_cons_zero, List.getElem_cons_succ])
          refine wpAnyH_take (i := 8) (v := ?_) rfl (by kernel_rfl) (by kernel_rfl) (by kernel_rfl) (fun _ _ _ h => h) (Or.inl ⟨by rfl, ?_⟩) (by assumption) ?_
          rotate_left
          · (intro wx hSw; go_simp; (try with_reducible rfl); (try omega))
          (try simp only [Act.put, List.setIfInBounds_toArray, List.set_cons_zero, List.set_cons_succ, List.getElem_toArray, List.getElem_cons_zero, List.getElem_cons_succ])
          refine wpAnyH_take (i := 10) (v := ?_) rfl (by kernel_rfl) (by kernel_rfl) (by kernel_rfl) (fun _ _ _ h => h) (Or.inl ⟨by rfl, ?_⟩) (by assumption) ?_
          rotate_left
          · (intro wx hSw; go_simp; (try with_reducible rfl); (try omega))
          (try simp only [Act.put, List.setIfInBounds_toArray, List.set_cons_zero, List.set_cons_succ, List.getElem_toArray, List.getElem_cons_zero, List.getElem_cons_succ])
          refine wpAnyH_take (i := 11) (v := ?_) rfl (by kernel_rfl) (by kernel_rfl) (by kernel_rfl) (fun _ _ _ h => h) (Or.inl ⟨by rfl, ?_⟩) (by assumption) ?_
          rotate_left
          · (intro wx hSw; go_simp; (try with_reducible rfl); (try omega))
          (try simp only [Act.put, List.setIfInBounds_toArray, List.set_cons_zero, List.set_cons_succ, List.getElem_toArray, List.getElem_cons_zero, List.getElem_cons_succ])
          refine wpAnyH_take (i := 12) (v := ?_) rfl (by kernel_rfl) (by kernel_rfl) (by kernel_rfl) (fun _ _ _ h => h) (Or.inl ⟨by rfl, ?_⟩) (by assumption) ?_
          rotate_left
          · (intro wx hSw; go_simp; (try with_reducible rfl); (try omega))
          (try simp only [Act.put, List.setIfInBounds_toArray, List.set_cons_zero, List.set_cons_succ, List.getElem_toArray, List.getElem_cons_zero, List.getElem_cons_succ])
          refine wpAnyH_ready (rs := [9, 13]) (by kernel_rfl) (by simp) ?_
          refine AllReadyH.cons rfl (fun K hK => ?_) ?_
          · (try simp only [Act.put, List.setIfInBounds_toArray, List.set_cons_zero, List.set_cons_succ, List.getElem_toArray, List.getElem_cons_zero, List.getElem_cons_succ])
            go_simp
            refine hK.out _ _ trivial (fun hHeld => ?_)
            clear hK K
            (try simp only [Act.put, List.setIfInBounds_toArray, List.set_cons_zero, List.set_cons_succ, List.getElem_toArray, List.getElem_cons_zero, List.getElem_cons_succ])
            refine wpAnyH_ready (rs := [13]) (by kernel_rfl) (by simp) ?_
            refine AllReadyH.cons rfl (fun K hK => ?_) ?_
            · (try simp only [Act.put, List.setIfInBounds_toArray, List.set_cons_zero, List.set_cons_succ, List.getElem_toArray, List.getElem_cons_zero, List.getElem_cons_succ])
              go_simp
              refine hK.out _ _ trivial (fun hHeld => ?_)
              clear hK K
              (try simp only [Act.put, List.setIfInBounds_toArray, List.set_cons_zero, List.set_cons_succ, List.getElem_toArray, List.getElem_cons_zero, List.getElem_cons_succ])
              refine wpAnyH_take (i := 14) (v := ?_) rfl (by kernel_rfl) (by kernel_rfl) (by kernel_rfl) (fun _ _ _ h => h) (Or.inl ⟨by rfl, ?_⟩) (by assumption) ?_
              rotate_left
              · (intro wx hSw; go_simp; (try with_reducible rfl); (try omega))
              (try simp only [Act.put, List.setIfInBounds_toArray, List.set_cons_zero, List.set_cons_succ, List.getElem_toArray, List.getElem_cons_zero, List.getElem_cons_succ])
              refine wpAnyH_ready (rs := [15]) (by kernel_rfl) (by simp) ?_
              refine AllReadyH.cons rfl (fun K hK => ?_) ?_
              · (try simp only [Act.put, List.getElem_toArray, List.getElem_cons_zero, List.getElem_cons_succ])
                refine wp_storeQ _ _ _ rfl g (k * 2) [.slice ey.a ey.r.length ey.c, .int .i64 ey.n] rfl rfl thx sizeMany (by intro v hv; simp at hv; rcases hv with rfl | rfl <;> rfl) ?_
                intro wsa hwsa
                have thy : wsa.there g (k1 * 2) 2 := by rw [hwsa]; exact World.there_setCells thy g (k * 2) [.slice ey.a ey.r.length ey.c, .int .i64 ey.n]
                have Hwsa := hid0 hwsa
                clear hwsa
                refine hK.out _ _ trivial (fun hHeld => ?_)
                clear hK K
                (try simp only [Act.put])
                refine wpAnyH_take (i := 16) (v := ?_) rfl (by kernel_rfl) (by kernel_rfl) (by kernel_rfl) (fun _ _ _ h => h) (Or.inl ⟨by rfl, ?_⟩) (by assumption) ?_
                rotate_left
                · (intro wx hSw; go_simp; (try with_reducible rfl); (try omega))
                (try simp only [Act.put, List.setIfInBounds_toArray, List.set_cons_zero, List.set_cons_succ, List.getElem_toArray, List.getElem_cons_zero, List.getElem_cons_succ])
                refine wpAnyH_ready (rs := [17]) (by kernel_rfl) (by simp) ?_
                refine AllReadyH.cons rfl (fun K hK => ?_) ?_
                · (try simp only [Act.put, List.getElem_toArray, List.getElem_cons_zero, List.getElem_cons_succ])
                  refine wp_storeQ _ _ _ rfl g (k1 * 2) [.slice ex.a ex.r.length ex.c, .int .i64 ex.n] rfl rfl thy sizeMany (by intro v hv; simp at hv; rcases hv with rfl | rfl <;> rfl) ?_
                  intro wsb hwsb
                  have Hwsb := hid0 hwsb
                  clear hwsb
                  refine hK.out _ _ trivial (fun hHeld => ?_)
                  clear hK K
                  (try simp only [Act.put])
                  refine wpAnyH_done (by kernel_rfl) ?_ _
                  clear hHeld
                  clear hxn hyn
                  go_wp2_with fail
                  exact ⟨⟨k1, hk1a, hk1i, by go_num, hid0 (by have := HSW.out; rw [Hwsb.out, Hwsa.out]; exact this)⟩, by simp [intOf]; omega⟩
                exact AllReadyH.nil
              exact AllReadyH.nil
            exact AllReadyH.nil
          refine AllReadyH.cons rfl (fun K hK => ?_) ?_
          · (try simp only [Act.put, List.setIfInBounds_toArray, List.set_cons_zero, List.set_cons_succ, List.getElem_toArray, List.getElem_cons_zero, List.getElem_cons_succ])
            go_simp
            refine hK.out _ _ trivial (fun hHeld => ?_)
            clear hK K
            (try simp only [Act.put, List.setIfInBounds_toArray, List.set_cons_zero, List.set_cons_succ, List.getElem_toArray, List.getElem_cons_zero, List.getElem_cons_succ])
            refine wpAnyH_ready (rs := [9]) (by kernel_rfl) (by simp) ?_
            refine AllReadyH.cons rfl (fun K hK => ?_) ?_
            · (try simp only [Act.put, List.setIfInBounds_toArray, List.set_cons_zero, List.set_cons_succ, List.getElem_toArray, List.getElem_cons_zero, List.getElem_cons_succ])
              go_simp
              refine hK.out _ _ trivial (fun hHeld => ?_)
              clear hK K
              (try simp only [Act.put, List.setIfInBounds_toArray, List.set_cons_zero, List.set_cons_succ, List.getElem_toArray, List.getElem_cons_zero, List.getElem_cons_succ])
              refine wpAnyH_take (i := 14) (v := ?_) rfl (by kernel_rfl) (by kernel_rfl) (by kernel_rfl) (fun _ _ _ h => h) (Or.inl ⟨by rfl, ?_⟩) (by assumption) ?_
              rotate_left
              · (intro wx hSw; go_simp; (try with_reducible rfl); (try omega))
              (try simp only [Act.put, List.setIfInBounds_toArray, List.set_cons_zero, List.set_cons_succ, List.getElem_toArray, List.getElem_cons_zero, List.getElem_cons_succ])
              refine wpAnyH_ready (rs := [15]) (by kernel_rfl) (by simp) ?_
              refine AllReadyH.cons rfl (fun K hK => ?_) ?_
              · (try simp only [Act.put, List.getElem_toArray, List.getElem_cons_zero, List.getElem_cons_succ])
                refine wp_storeQ _ _ _ rfl g (k * 2) [.slice ey.a ey.r.length ey.c, .int .i64 ey.n] rfl rfl thx sizeMany (by intro v hv; simp at hv; rcases hv with rfl | rfl <;> rfl) ?_
                intro wsa hwsa
                have thy : wsa.there g (k1 * 2) 2 := by rw [hwsa]; exact World.there_setCells thy g (k * 2) [.slice ey.a ey.r.length ey.c, .int .i64 ey.n]
                have Hwsa := hid0 hwsa
                clear hwsa
                refine hK.out _ _ trivial (fun hHeld => ?_)
                clear hK K
                (try simp only [Act.put])
                refine wpAnyH_take (i := 16) (v := ?_) rfl (by kernel_rfl) (by kernel_rfl) (by kernel_rfl) (fun _ _ _ h => h) (Or.inl ⟨by rfl, ?_⟩) (by assumption) ?_
                rotate_left
                · (intro wx hSw; go_simp; (try with_reducible rfl); (try omega))
                (try simp only [Act.put, List.setIfInBounds_toArray, List.set_cons_zero, List.set_cons_succ, List.getElem_toArray, List.getElem_cons_zero, List.getElem_cons_succ])
                refine wpAnyH_ready (rs := [17]) (by kernel_rfl) (by simp) ?_
                refine AllReadyH.cons rfl (fun K hK => ?_) ?_
                · (try simp only [Act.put, List.getElem_toArray, List.getElem_cons_zero, List.getElem_cons_succ])
                  refine wp_storeQ _ _ _ rfl g (k1 * 2) [.slice ex.a ex.r.length ex.c, .int .i64 ex.n] rfl rfl thy sizeMany (by intro v hv; simp at hv; rcases hv with rfl | rfl <;> rfl) ?_
                  intro wsb hwsb
                  have Hwsb := hid0 hwsb
                  clear hwsb
                  refine hK.out _ _ trivial (fun hHeld => ?_)
                  clear hK K
                  (try simp only [Act.put])
                  refine wpAnyH_done (by kernel_rfl) ?_ _
                  clear hHeld
                  clear hxn hyn
                  go_wp2_with fail
                  exact ⟨⟨k1, hk1a, hk1i, by go_num, hid0 (by have := HSW.out; rw [Hwsb.out, Hwsa.out]; exact this)⟩, by simp [intOf]; omega⟩
                exact AllReadyH.nil
              exact AllReadyH.nil
            exact AllReadyH.nil
          exact AllReadyH.nil
        · obtain rfl : k = i1 := by omega
          have hie2 : ¬ (k : Int) < (k : Int) := by omega
          have HE := hid0 (show St w0 w1 g n cap vb pv E0 RR wr by
            have := hT2.out
            rw [← HRR.out, hEND.out, HI1.out]
            simpa using this)
          clear hT2
          go_wp2
          go_returns
          exact ⟨rfl, HE.out⟩
end Go.Proofs.YtjmoegcfgadjiaaGreat
