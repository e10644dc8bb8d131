/- The walk of the law CodeOrders: it returns true, and below the heap's end memory is as it was. Conditions: the rows' cells are known (what came in reads so). -/
import Derived.Test.YtblleknmofbhiaaLw
namespace Go.Proofs.Ytblleknmofbhiaa
open Go.RowKit

set_option maxHeartbeats 2000000 in
theorem lawCodeOrders (a1 a2 : Option Addr) (c1 c2 : Nat) (l1 l2 : List Val) (w : World) (h1 : RowAt w a1 l1) (h2 : RowAt w a2 l2) (m1 : l1.length ≤ maxLen) (m2 : l2.length ≤ maxLen) (hi1 : ∀ v ∈ l1, inI v) (hi2 : ∀ v ∈ l2, inI v) :
    Calls Try.prog 7 #[.slice a1 l1.length c1, .slice a2 l2.length c2] w fun e w' => e = .returned (.bool true) ∧ Below w.heap.size w w' := by
  have R1 := hid0 h1
  have R2 := hid0 h2
  have M1 := hid0 m1
  have M2 := hid0 m2
  have I1 := hid0 hi1
  have I2 := hid0 hi2
  clear h1 h2 m1 m2 hi1 hi2
  go_enter Try.func7, Try.ntmps7
  go_wp2_with fail
  refine (codeKey_any a1 c1 l1 _ R1.out M1.out I1.out).mono ?_
  rintro e w1 ⟨rfl, hb1⟩
  go_wp2_with fail
  refine (codeKey_any a2 c2 l2 _ (R2.out.later hb1) M2.out I2.out).mono ?_
  rintro e w2 ⟨rfl, hb⟩
  have hb2 := hb1.trans (hb.mono hb1.size)
  clear hb
  by_cases g1 : rightV l1 = 0
  · by_cases g2 : rightV l2 = 0
    · obtain ⟨_, ok1⟩ := rightV_ok I1.out g1
      obtain ⟨_, ok2⟩ := rightV_ok I2.out g2
      rw [g1, g2]
      have L := keys_less ok1 ok2
      have S := keys_same ok1 ok2
      rw [← keyS_ok g1, ← keyS_ok g2] at L S
      have L' : Op.bytesLess (txt (keyS l1)).toList (txt (keyS l2)).toList = decide (rowsV l1 l2 < 0) := by rw [ByteArray.toList_eq, ByteArray.toList_eq]; exact L
      have S' : ((txt (keyS l1)).toList == (txt (keyS l2)).toList) = (rowsV l1 l2 == 0) := by rw [ByteArray.toList_eq, ByteArray.toList_eq, Bool.eq_iff_iff, beq_iff_eq, beq_iff_eq]; exact S
      clear L S ok1 ok2
      go_wp2_with fail
      refine (refRows_any _ _ _ _ l1 l2 _ (R1.out.later hb2) (R2.out.later hb2) M1.out).mono ?_
      rintro e w3 ⟨rfl, hb⟩
      have hb3 := hb2.trans (hb.mono hb2.size)
      clear hb
      go_wp2_with fail
      refine (awake_any _).mono ?_
      rintro e w4 ⟨rfl, hb⟩
      have hb4 := hb3.trans (hb.mono hb3.size)
      clear hb
      go_wp2
      go_ret
      exact ⟨ret_bool (by simp), hb4⟩
    · have g2' : (rightV l2 != 0) = true := by simpa using g2
      rw [g1]
      go_wp2_with (go_at_call 13; refine (awake_any _).mono ?_; rintro e w4 ⟨rfl, hb⟩)
      go_ret
      exact ⟨rfl, hb2.trans (hb.mono hb2.size)⟩
  · have g1' : (rightV l1 != 0) = true := by simpa using g1
    go_wp2_with (go_at_call 13; refine (awake_any _).mono ?_; rintro e w4 ⟨rfl, hb⟩)
    go_ret
    exact ⟨rfl, hb2.trans (hb.mono hb2.size)⟩
end Go.Proofs.Ytblleknmofbhiaa
