/- What the project's Cmp answers: a contract of the call, in whatever memory. Conditions: none. -/
import Derived.Test.YtolcebbpbihnoaaRc0
import Derived.Test.YtolcebbpbihnoaaShelf
namespace Go.Proofs.Ytolcebbpbihnoaa
open Go.RowKit

theorem cmp_kind {k n k' n' : Int} {s s' : ByteArray} (h : (Lib.compareInt k k' != 0) = true) : Lib.compareInt k k' = cmpV k n s k' n' s' := by
  unfold Lib.compareInt at h ⊢; unfold cmpV
  repeat' split
  all_goals first | rfl | omega | (simp_all; done) | (simp_all; omega)
theorem cmp_num {k n k' n' : Int} {s s' : ByteArray} (h0 : (Lib.compareInt k k' != 0) = false) (h : (Lib.compareInt n n' != 0) = true) : Lib.compareInt n n' = cmpV k n s k' n' s' := by
  unfold Lib.compareInt at h0 h ⊢; unfold cmpV
  repeat' split
  all_goals first | rfl | omega | (simp_all; done) | (simp_all; omega)
theorem cmp_text {k n k' n' : Int} {s s' : ByteArray} (h0 : (Lib.compareInt k k' != 0) = false) (h : (Lib.compareInt n n' != 0) = false) : Lib.compareBytes s.data.toList s'.data.toList = cmpV k n s k' n' s' := by
  unfold Lib.compareInt at h0 h; unfold cmpV
  repeat' split
  all_goals first | rfl | omega | (simp_all; done) | (simp_all; omega)

set_option maxHeartbeats 400000 in
theorem cmp_any (k n k' n' : Int) (s s' : ByteArray) (w : World) :
    Calls Try.prog 53 #[.agg #[.int .i64 k, .int .i64 n, .string s], .agg #[.int .i64 k', .int .i64 n', .string s']] w
      fun e w' => e = .returned (.int .i64 (cmpV k n s k' n' s')) ∧ Below w.heap.size w w' := by
  go_enter Try.func53, Try.ntmps53
  go_wp2_with (first
    | (go_at_call 67; refine (Try.cmp_Compare_int _ _ _).mono ?_; rintro e w' ⟨rfl, rfl⟩)
    | (go_at_call 68; refine (Try.strings_Compare _ _ _).mono ?_; rintro e w' ⟨rfl, rfl⟩))
  · go_ret
    exact ⟨ret_i64 (cmp_kind ‹_›), by go_grown⟩
  · go_ret
    exact ⟨ret_i64 (cmp_num ‹_› ‹_›), by go_grown⟩
  · go_ret
    exact ⟨ret_i64 (cmp_text ‹_› ‹_›), by go_grown⟩

end Go.Proofs.Ytolcebbpbihnoaa
