/- What the reference's Cmp answers: a contract of the call, in whatever memory. Conditions: none. -/
import Derived.Test.YtolcebbpbihnoaaMo
namespace Go.Proofs.Ytolcebbpbihnoaa
open Go.RowKit

set_option maxHeartbeats 400000 in
theorem refCmp_any (k n k' n' : Int) (s s' : ByteArray) (w : World) :
    Calls Try.prog 58 #[.agg #[.int .i64 k, .int .i64 n, .string s], .agg #[.int .i64 k', .int .i64 n', .string s']] w
      fun e w' => e = .returned (.int .i64 (cmpV k n s k' n' s')) ∧ Below w.heap.size w w' := by
  have B1 := hid0 (bytes_less s.data.toList s'.data.toList)
  have B2 := hid0 (bytes_more s.data.toList s'.data.toList)
  go_enter Try.func58, Try.ntmps58
  go_wp2
  · go_ret; exact ⟨ret_i64 (by unfold cmpV; rw [if_pos ‹_›]), by go_grown⟩
  · go_ret; exact ⟨ret_i64 (by unfold cmpV; rw [if_neg (by omega), if_pos ‹_›]), by go_grown⟩
  · go_ret; exact ⟨ret_i64 (by unfold cmpV; rw [if_neg (by omega), if_neg (by omega), if_pos ‹_›]), by go_grown⟩
  · go_ret; exact ⟨ret_i64 (by unfold cmpV; rw [if_neg (by omega), if_neg (by omega), if_neg (by omega), if_pos ‹_›]), by go_grown⟩
  · go_ret; exact ⟨ret_i64 (by unfold cmpV; rw [if_neg (by omega), if_neg (by omega), if_neg (by omega), if_neg (by omega), B1.out (by simpa only [ByteArray.toList_eq] using ‹Op.bytesLess s.toList s'.toList = true›)]), by go_grown⟩
  · go_ret; exact ⟨ret_i64 (by unfold cmpV; rw [if_neg (by omega), if_neg (by omega), if_neg (by omega), if_neg (by omega), B2.out (by simpa only [ByteArray.toList_eq] using ‹Op.bytesLess s.toList s'.toList = false›) (fun e => by have h := ‹(!s.toList == s'.toList) = true›; rw [ByteArray.toList_eq, ByteArray.toList_eq, e] at h; simp at h)]), by go_grown⟩
  · go_ret; exact ⟨ret_i64 (by
      have h := ‹(!s.toList == s'.toList) = false›
      rw [ByteArray.toList_eq, ByteArray.toList_eq] at h
      have e : s.data.toList = s'.data.toList := by simpa using h
      unfold cmpV; rw [if_neg (by omega), if_neg (by omega), if_neg (by omega), if_neg (by omega), e, bytes_same]), by go_grown⟩
end Go.Proofs.Ytolcebbpbihnoaa
