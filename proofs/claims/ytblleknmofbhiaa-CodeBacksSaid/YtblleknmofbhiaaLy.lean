/- The walks of the laws CodeReads and CodeBacks: they return true, and below the heap's end memory is as it was. Conditions: the bytes are at most 2^47 - 4096 (what came in is so). -/
import Derived.Test.YtblleknmofbhiaaLw
namespace Go.Proofs.Ytblleknmofbhiaa
open Go.RowKit

set_option maxHeartbeats 2000000 in
theorem lawCodeReads (s : List UInt8) (w : World) (hl : s.length ≤ 140737488351232) :
    Calls Try.prog 4 #[.string (txt s)] w fun e w' => e = .returned (.bool true) ∧ Below w.heap.size w w' := by
  have M1 := read_len rowCoded s
  have I1 := read_ok rowCoded s
  go_enter Try.func4, Try.ntmps4
  go_wp2_with fail
  refine (codeRead_any s _ hl).mono ?_
  rintro e w1 ⟨⟨a1, c1, rfl, hc1, hr1⟩, hb1⟩
  have HR1 := hid0 hr1
  clear hr1
  go_wp2_with fail
  refine (refRead_any s _ (by unfold maxLen; omega)).mono ?_
  rintro e w2 ⟨⟨a2, c2, rfl, hc2, hr2⟩, hb⟩
  have hb2 := hb1.trans (hb.mono hb1.size)
  have HR1 := hid0 (HR1.out.later hb)
  have HR2 := hid0 hr2
  clear hb hr2
  go_wp2_with fail
  refine (codeRow_any a1 c1 (readL rowD s) _ HR1.out M1 I1).mono ?_
  rintro e w3 ⟨rfl, hb⟩
  have hb3 := hb2.trans (hb.mono hb2.size)
  have HR1 := hid0 (HR1.out.later hb)
  have HR2 := hid0 (HR2.out.later hb)
  clear hb
  go_wp2_with fail
  refine (awake_any _).mono ?_
  rintro e w4 ⟨rfl, hb⟩
  have hb4 := hb3.trans (hb.mono hb3.size)
  have HR1 := hid0 (HR1.out.later hb)
  have HR2 := hid0 (HR2.out.later hb)
  clear hb
  have hself := rowsV_self (readL rowD s)
  have HM := hid0 M1
  clear M1 I1 hc1 hc2
  rcases read_cases rowCoded s with ⟨e1, e2, e3, _⟩ | ⟨e1, e2⟩
  · have e4 : rowS (readL rowD s) = s := by rw [rowS_ok e2, e3]
    rw [e1, e2, e4]
    clear e1 e2 e3 e4
    go_wp2_with (go_at_call 14; refine (refRows_any _ _ _ _ (readL rowD s) (readL rowD s) _ HR1.out HR2.out HM.out).mono ?_; rintro e w5 ⟨rfl, hb5⟩)
    go_ret
    exact ⟨ret_bool (by simp), below_through hb5 hb4.size hb4⟩
  · rw [e1]
    clear e1 e2
    go_wp2_with (go_at_call 14; refine (refRows_any _ _ _ _ (readL rowD s) (readL rowD s) _ HR1.out HR2.out HM.out).mono ?_; rintro e w5 ⟨rfl, hb5⟩)
    go_ret
    exact ⟨ret_bool (by simp), below_through hb5 hb4.size hb4⟩

set_option maxHeartbeats 2000000 in
theorem lawCodeBacks (s : List UInt8) (w : World) (hl : s.length ≤ 140737488351232) :
    Calls Try.prog 6 #[.string (txt s)] w fun e w' => e = .returned (.bool true) ∧ Below w.heap.size w w' := by
  have M1 := read_len keyCoded s
  have I1 := read_ok keyCoded s
  go_enter Try.func6, Try.ntmps6
  go_wp2_with fail
  refine (codeBack_any s _ hl).mono ?_
  rintro e w1 ⟨⟨a1, c1, rfl, hc1, hr1⟩, hb1⟩
  have HR1 := hid0 hr1
  clear hr1
  go_wp2_with fail
  refine (refBack_any s _ (hl)).mono ?_
  rintro e w2 ⟨⟨a2, c2, rfl, hc2, hr2⟩, hb⟩
  have hb2 := hb1.trans (hb.mono hb1.size)
  have HR1 := hid0 (HR1.out.later hb)
  have HR2 := hid0 hr2
  clear hb hr2
  go_wp2_with fail
  refine (codeKey_any a1 c1 (readL keyD s) _ HR1.out M1 I1).mono ?_
  rintro e w3 ⟨rfl, hb⟩
  have hb3 := hb2.trans (hb.mono hb2.size)
  have HR1 := hid0 (HR1.out.later hb)
  have HR2 := hid0 (HR2.out.later hb)
  clear hb
  go_wp2_with fail
  refine (awake_any _).mono ?_
  rintro e w4 ⟨rfl, hb⟩
  have hb4 := hb3.trans (hb.mono hb3.size)
  have HR1 := hid0 (HR1.out.later hb)
  have HR2 := hid0 (HR2.out.later hb)
  clear hb
  have hself := rowsV_self (readL keyD s)
  have HM := hid0 M1
  clear M1 I1 hc1 hc2
  rcases read_cases keyCoded s with ⟨e1, e2, e3, _⟩ | ⟨e1, e2⟩
  · have e4 : keyS (readL keyD s) = s := by rw [keyS_ok e2, e3]
    rw [e1, e2, e4]
    clear e1 e2 e3 e4
    go_wp2_with (go_at_call 14; refine (refRows_any _ _ _ _ (readL keyD s) (readL keyD s) _ HR1.out HR2.out HM.out).mono ?_; rintro e w5 ⟨rfl, hb5⟩)
    go_ret
    exact ⟨ret_bool (by simp), below_through hb5 hb4.size hb4⟩
  · rw [e1]
    clear e1 e2
    go_wp2_with (go_at_call 14; refine (refRows_any _ _ _ _ (readL keyD s) (readL keyD s) _ HR1.out HR2.out HM.out).mono ?_; rintro e w5 ⟨rfl, hb5⟩)
    go_ret
    exact ⟨ret_bool (by simp), below_through hb5 hb4.size hb4⟩
end Go.Proofs.Ytblleknmofbhiaa
