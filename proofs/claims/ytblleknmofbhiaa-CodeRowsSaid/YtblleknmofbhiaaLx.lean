/- The walks of the laws CodeRows and CodeKeys: they return true, and below the heap's end memory is as it was. Conditions: the row's cells are known (what came in reads so). -/
import Derived.Test.YtblleknmofbhiaaLw
namespace Go.Proofs.Ytblleknmofbhiaa
open Go.RowKit

set_option maxHeartbeats 2000000 in
theorem lawCodeRows (a : Option Addr) (c : Nat) (l : List Val) (w : World) (h1 : RowAt w a l) (m1 : l.length ≤ maxLen) (hi : ∀ v ∈ l, inI v) :
    Calls Try.prog 3 #[.slice a l.length c] w fun e w' => e = .returned (.bool true) ∧ Below w.heap.size w w' := by
  have R1 := hid0 h1
  have I1 := hid0 hi
  have M1 := hid0 m1
  clear h1 hi m1
  go_enter Try.func3, Try.ntmps3
  go_wp2_with fail
  refine (codeRow_any a c l _ R1.out M1.out I1.out).mono ?_
  rintro e w1 ⟨rfl, hb1⟩
  go_wp2_with fail
  refine (refRow_any a c l _ (R1.out.later hb1) M1.out I1.out).mono ?_
  rintro e w2 ⟨rfl, hb⟩
  have hb2 := hb1.trans (hb.mono hb1.size)
  clear hb
  go_wp2_with fail
  refine (codeRead_any (rowS l) _ (by have := rowS_len I1.out; omega)).mono ?_
  rintro e w3 ⟨⟨a3, c3, rfl, hc3, hr3⟩, hb⟩
  have hb3 := hb2.trans (hb.mono hb2.size)
  have HR3 := hid0 hr3
  clear hb hr3
  go_wp2_with fail
  refine (awake_any _).mono ?_
  rintro e w4 ⟨rfl, hb⟩
  have hb4 := hb3.trans (hb.mono hb3.size)
  have HR4 := hid0 (HR3.out.later hb)
  clear hb
  by_cases hr : rightV l = 0
  · obtain ⟨e1, e2⟩ := row_back I1.out hr
    obtain ⟨h8, hok⟩ := rightV_ok I1.out hr
    rw [e1] at HR4
    rw [e1, e2, hr]
    have hsz := txt_size (rowS l)
    have hlen : (rowS l).length ≤ 66 * l.length := by rw [rowS_ok hr]; exact rows_len hok
    clear e1 e2 hok
    go_wp2_with (go_at_call 14; refine (refRows_any _ _ _ _ l l _ (R1.out.later hb4) HR4.out M1.out).mono ?_; rintro e w5 ⟨rfl, hb5⟩; have hself := rowsV_self l)
    go_ret
    exact ⟨ret_bool (by first | (simp; done) | (simp; omega)), below_through hb5 hb4.size hb4⟩
  · have hr2 : (rightV l != 0) = true := by simpa using hr
    go_wp2
    go_ret
    exact ⟨ret_bool (by simp), hb4⟩

set_option maxHeartbeats 2000000 in
theorem lawCodeKeys (a : Option Addr) (c : Nat) (l : List Val) (w : World) (h1 : RowAt w a l) (m1 : l.length ≤ maxLen) (hi : ∀ v ∈ l, inI v) :
    Calls Try.prog 5 #[.slice a l.length c] w fun e w' => e = .returned (.bool true) ∧ Below w.heap.size w w' := by
  have R1 := hid0 h1
  have I1 := hid0 hi
  have M1 := hid0 m1
  clear h1 hi m1
  go_enter Try.func5, Try.ntmps5
  go_wp2_with fail
  refine (codeKey_any a c l _ R1.out M1.out I1.out).mono ?_
  rintro e w1 ⟨rfl, hb1⟩
  go_wp2_with fail
  refine (refKey_any a c l _ (R1.out.later hb1) M1.out I1.out).mono ?_
  rintro e w2 ⟨rfl, hb⟩
  have hb2 := hb1.trans (hb.mono hb1.size)
  clear hb
  go_wp2_with fail
  refine (codeBack_any (keyS l) _ (by have := keyS_len I1.out; omega)).mono ?_
  rintro e w3 ⟨⟨a3, c3, rfl, hc3, hr3⟩, hb⟩
  have hb3 := hb2.trans (hb.mono hb2.size)
  have HR3 := hid0 hr3
  clear hb hr3
  go_wp2_with fail
  refine (awake_any _).mono ?_
  rintro e w4 ⟨rfl, hb⟩
  have hb4 := hb3.trans (hb.mono hb3.size)
  have HR4 := hid0 (HR3.out.later hb)
  clear hb
  by_cases hr : rightV l = 0
  · obtain ⟨e1, e2⟩ := key_back I1.out hr
    obtain ⟨h8, hok⟩ := rightV_ok I1.out hr
    rw [e1] at HR4
    rw [e1, e2, hr]
    have hsz := txt_size (keyS l)
    clear e1 e2 hok
    go_wp2_with (go_at_call 14; refine (refRows_any _ _ _ _ l l _ (R1.out.later hb4) HR4.out M1.out).mono ?_; rintro e w5 ⟨rfl, hb5⟩; have hself := rowsV_self l)
    go_ret
    exact ⟨ret_bool (by first | (simp; done) | (simp; omega)), below_through hb5 hb4.size hb4⟩
  · have hr2 : (rightV l != 0) = true := by simpa using hr
    go_wp2
    go_ret
    exact ⟨ret_bool (by simp), hb4⟩
end Go.Proofs.Ytblleknmofbhiaa
