/- How any two values stand to each other by a comparison: what Compare and the reference's Compare answer, as one plain function; that the document's example, which every law of the layer asks first, is true. Conditions: none. -/
import Derived.Test.YtolcebbpbihnoaaWo
import Derived.Test.YtolcebbpbihnoaaTb
namespace Go.Proofs.Ytolcebbpbihnoaa
open Go.RowKit

def opV (op c : Int) : Int :=
  if op = 1 then tv (c == 0) else if op = 2 then tv (c != 0) else if op = 3 then tv (decide (c < 0)) else if op = 4 then tv (decide (c ≤ 0)) else if op = 5 then tv (decide (0 < c)) else if op = 6 then tv (decide (0 ≤ c)) else 1
def cmpO (op k n : Int) (s : ByteArray) (k' n' : Int) (s' : ByteArray) : Int := if k = 0 ∨ k' = 0 ∨ k ≠ k' then 1 else opV op (cmpV k n s k' n' s')

set_option maxHeartbeats 800000 in
theorem compare_any (op k n k' n' : Int) (s s' : ByteArray) (w : World) :
    Calls Try.prog 30 #[.int .i64 op, .agg #[.int .i64 k, .int .i64 n, .string s], .agg #[.int .i64 k', .int .i64 n', .string s']] w
      fun e w' => e = .returned (.int .i64 (cmpO op k n s k' n' s')) ∧ Below w.heap.size w w' := by
  go_enter Try.func30, Try.ntmps30
  go_wp2_with (first
    | (go_at_call 53; refine (cmp_any _ _ _ _ _ _ _).mono ?_; rintro e w' ⟨rfl, hb⟩)
    | (go_at_call 54; refine (truth_any _ _).mono ?_; rintro e w' ⟨rfl, rfl⟩))
  all_goals go_ret
  all_goals refine ⟨ret_i64 ?_, by first | (refine below_through ‹_› (by go_size) ?_; go_grown; done) | go_grown⟩
  all_goals first | (simp_all [cmpO, opV, tv]; done) | (simp_all [cmpO, opV, tv]; omega) | trace_state

set_option maxHeartbeats 800000 in
theorem refCompare_any (op k n k' n' : Int) (s s' : ByteArray) (w : World) :
    Calls Try.prog 38 #[.int .i64 op, .agg #[.int .i64 k, .int .i64 n, .string s], .agg #[.int .i64 k', .int .i64 n', .string s']] w
      fun e w' => e = .returned (.int .i64 (cmpO op k n s k' n' s')) ∧ Below w.heap.size w w' := by
  go_enter Try.func38, Try.ntmps38
  go_wp2_with (go_at_call 58; refine (refCmp_any _ _ _ _ _ _ _).mono ?_; rintro e w' ⟨rfl, hb⟩)
  all_goals go_ret
  all_goals refine ⟨ret_i64 ?_, by first | (refine below_through ‹_› (by go_size) ?_; go_grown; done) | go_grown⟩
  all_goals first | (simp_all [cmpO, opV, tv]; done) | (simp_all [cmpO, opV, tv]; omega) | trace_state
end Go.Proofs.Ytolcebbpbihnoaa
