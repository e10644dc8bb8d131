/- The walk of the law BagLists: it returns true, and below the heap's end memory is as it was. Conditions: the rows' cells are known (what came in reads so). -/
import Derived.Test.YtipibbjcdkmjmaaBi
namespace Go.Proofs.Ytipibbjcdkmjmaa
open Go.RowKit

theorem ones_small {E : List Elem} {R : List (List Val)} (h : E.map pr = ofB (onesB R)) (hR : R.length ≤ 1000) : E.length ≤ 1000 ∧ (∀ e ∈ E, 0 < e.n ∧ e.n ≤ 1000) := by
  constructor
  · have := len_of h; rw [len_ones] at this; omega
  · intro e he
    have hm : pr e ∈ ofB (onesB R) := by rw [← h]; exact List.mem_map_of_mem (f := pr) he
    have h1 := pos_ones R _ hm
    have h2 := small_ones R _ hm
    have e2 : (pr e).2 = e.n := rfl
    rw [e2] at h1 h2
    omega

set_option maxHeartbeats 2000000 in
theorem lawBagLists (a : Option Addr) (c : Nat) (Ls : List Line) (w : World) (h : LinesAt w a Ls) (hc : Ls.length ≤ c) (hm : Ls.length ≤ 4611686018427387904) :
    Calls Try.prog 3 #[.slice a Ls.length c] w fun e w' => e = .returned (.bool true) ∧ Below w.heap.size w w' := by
  have A := hid0 h
  clear h
  by_cases hl : Ls.length ≤ 1000
  · obtain ⟨R, hR⟩ : ∃ R, Ls.map (·.r) = R := ⟨_, rfl⟩
    have hRl : R.length = Ls.length := by rw [← hR, List.length_map]
    have HR := hid0 hR
    have HRL := hid0 hRl
    clear hR hRl
    go_enter Try.func3, Try.ntmps3
    go_wp2_with fail
    refine (bagList_any a c Ls _ A.out hc hl).mono ?_
    rintro e w1 ⟨⟨a1, c1, E1, rfl, hc1, hE1, hm1⟩, hb1⟩
    rw [HR.out] at hm1
    obtain ⟨s1, s2⟩ := ones_small hm1 (by have := HRL.out; omega)
    have HE1 := hid0 hE1
    have HM1 := hid0 hm1
    have HS := hid0 s2
    clear hE1 hm1 s2
    go_wp2_with fail
    refine (bagRows_any a1 c1 E1 _ HE1.out hc1 (by omega) (by rw [HM1.out, bagRows_len]; have := HRL.out; omega) (fun e he => by have := (HS.out e he).2; omega)).mono ?_
    rintro e w2 ⟨⟨a2, c2, M, rfl, hc2, hM, hm2⟩, hb2⟩
    have hMl : M.length = Ls.length := by
      have := congrArg List.length hm2
      rw [List.length_map, HM1.out, bagRows_len, HRL.out] at this; exact this
    rw [hMl]
    have hB2 := hb1.trans (hb2.mono hb1.size)
    have HE2 := hid0 (HE1.out.later hb2)
    have HMM := hid0 hM
    have HM2 := hid0 (hm2.trans (by rw [HM1.out]))
    have HML := hid0 hMl
    clear hb1 hb2 HE1 hM hm2 hMl
    go_wp2_with fail
    refine (awake_any _).mono ?_
    rintro e w3 ⟨rfl, hb3⟩
    have hB3 := hB2.trans (hb3.mono hB2.size)
    have HE3 := hid0 (HE2.out.later hb3)
    have HMM3 := hid0 (HMM.out.later hb3)
    clear hb3 hB2 HE2 HMM
    go_wp2_with fail
    refine (refList_any a c Ls _ (A.out.later hB3) hl).mono ?_
    rintro e w4 ⟨⟨a4, c4, E4, rfl, hc4, hE4, hm4⟩, hb4⟩
    rw [HR.out] at hm4
    have hB4 := hB3.trans (hb4.mono hB3.size)
    have HE4 := hid0 (HE3.out.later hb4)
    have HMM4 := hid0 (HMM3.out.later hb4)
    have HX := hid0 hE4
    have HMX := hid0 (HM1.out.trans hm4.symm)
    clear hb4 hB3 HE3 HMM3 hE4 hm4 hc4
    go_wp2_with fail
    refine (refSame_any a1 a4 c1 c4 E1 E4 _ HE4.out HX.out (by omega) HMX.out).mono ?_
    rintro e w5 ⟨rfl, hb5⟩
    have hB5 := hB4.trans (hb5.mono hB4.size)
    have HE5 := hid0 (HE4.out.later hb5)
    have HMM5 := hid0 (HMM4.out.later hb5)
    clear hb5 hB4 HE4 HMM4 HX HMX
    go_wp2_with fail
    refine (refBagRows_any a1 c1 E1 _ HE5.out (by omega) (by rw [HM1.out, bagRows_len]; have := HRL.out; omega) (fun e he => by have := (HS.out e he).2; omega)).mono ?_
    rintro e w6 ⟨⟨a6, c6, L6, rfl, hc6, hL6, hm6⟩, hb6⟩
    have hB6 := hB5.trans (hb6.mono hB5.size)
    have HE6 := hid0 (HE5.out.later hb6)
    have HMM6 := hid0 (HMM5.out.later hb6)
    have HX := hid0 hL6
    have HMX := hid0 (show M.map (·.r) = L6.map (·.r) by rw [HM2.out, hm6, HM1.out])
    clear hb6 hB5 HE5 HMM5 hL6 hm6 hc6
    go_wp2_with fail
    have C9 := refSameLines_any a2 a6 c2 c6 M L6 _ HMM6.out HX.out (by have := HML.out; omega) HMX.out
    rw [HML.out] at C9
    refine C9.mono ?_
    clear C9
    rintro e w7 ⟨rfl, hb7⟩
    have hB7 := hB6.trans (hb7.mono hB6.size)
    have HE7 := hid0 (HE6.out.later hb7)
    have HMM7 := hid0 (HMM6.out.later hb7)
    clear hb7 hB6 HE6 HMM6 HX HMX
    go_wp2_with fail
    have hab : absS (E1.map pr) ≤ 1000000 := by
      have h1 := absS_ofB (onesB R)
      rw [HM1.out]
      rw [absS_ones] at h1
      have := HRL.out
      omega
    have C11 := bagCount_any a1 c1 E1 _ HE7.out (by omega) hab
    rw [HM1.out, count_len, HRL.out] at C11
    clear hab
    refine C11.mono ?_
    clear C11
    rintro e w8 ⟨rfl, hb8⟩
    have hB8 := hB7.trans (hb8.mono hB7.size)
    have HE8 := hid0 (HE7.out.later hb8)
    have HMM8 := hid0 (HMM7.out.later hb8)
    clear hb8 hB7 HE7 HMM7
    go_wp2_with fail
    have C5 := bagList_any a2 c2 M _ HMM8.out hc2 (by have := HML.out; omega)
    rw [HML.out, HM2.out] at C5
    refine C5.mono ?_
    clear C5
    rintro e w9 ⟨⟨a9, c9, E9, rfl, hc9, hE9, hm9⟩, hb9⟩
    have hB9 := hB8.trans (hb9.mono hB8.size)
    have HE9 := hid0 (HE8.out.later hb9)
    have HX := hid0 hE9
    have HMX := hid0 (show E9.map pr = E1.map pr by rw [hm9, HM1.out, bag_back])
    have s9 : E9.length ≤ 1000 := by have := congrArg List.length HMX.out; rw [List.length_map, List.length_map] at this; omega
    clear hb9 hB8 HE8 HMM8 hE9 hm9 hc9
    go_wp2_with fail
    refine (refSame_any a9 a1 c9 c1 E9 E1 _ HX.out HE9.out (by omega) HMX.out).mono ?_
    rintro e w10 ⟨rfl, hb10⟩
    have hB10 := hB9.trans (hb10.mono hB9.size)
    have HE10 := hid0 (HE9.out.later hb10)
    clear hb10 hB9 HE9 HX HMX s9
    go_wp2_with fail
    refine (bagPlain_any a1 c1 E1 _ HE10.out (by omega) (by rw [HM1.out]; exact rises_ofB _) (fun e he => by have := HS.out e he; omega)).mono ?_
    rintro e w11 ⟨rfl, hb11⟩
    have hB11 := hB10.trans (hb11.mono hB10.size)
    clear hb11 hB10 HE10
    go_wp2
    go_ret
    exact ⟨rfl, hB11⟩
  · go_enter Try.func3, Try.ntmps3
    go_wp2_with (go_at_call 4; refine (awake_any _).mono ?_; rintro e w1 ⟨rfl, hb⟩)
    go_ret
    exact ⟨rfl, hb⟩
end Go.Proofs.Ytipibbjcdkmjmaa
