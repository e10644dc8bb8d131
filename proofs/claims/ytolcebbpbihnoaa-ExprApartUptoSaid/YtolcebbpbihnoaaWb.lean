/- Contracts of the project's numbers in two words: widen, plus, less, product, narrow, reckon, and of the reference's size, in whatever memory. Conditions: the numbers lie within 64 bits. -/
import Derived.Test.YtolcebbpbihnoaaWa
import Derived.Test.YtolcebbpbihnoaaWm
import Derived.Laws.Externs
namespace Go.Proofs.Ytolcebbpbihnoaa
open Go.RowKit

theorem ret_agg2 {a b c d : Int} (h : a = c) (g : b = d) : Ending.returned (.agg #[.int .u64 a, .int .u64 b]) = .returned (.agg #[.int .u64 c, .int .u64 d]) := by rw [h, g]
theorem ret_u64 {a b : Int} (h : a = b) : Ending.returned (.int .u64 a) = .returned (.int .u64 b) := by rw [h]
theorem ret_nb {a c : Int} {b d : Bool} (h : a = c) (g : b = d) : Ending.returned (.tuple #[.int .i64 a, .bool b]) = .returned (.tuple #[.int .i64 c, .bool d]) := by rw [h, g]

set_option maxHeartbeats 400000 in
theorem widen_any (n : Int) (w : World) (h1 : -9223372036854775808 ≤ n) (h2 : n ≤ 9223372036854775807) :
    Calls Try.prog 72 #[.int .i64 n] w fun e w' => e = .returned (.agg #[.int .u64 (wH n : Nat), .int .u64 (wL n : Nat)]) ∧ Below w.heap.size w w' := by
  go_enter Try.func72, Try.ntmps72
  go_wp2
  go_returns
  exact ⟨ret_agg2 (wH_widen n h1 h2) (wL_widen n), by go_grown⟩

set_option maxHeartbeats 400000 in
theorem size_any (n : Int) (w : World) (h1 : -9223372036854775808 ≤ n) (h2 : n ≤ 9223372036854775807) :
    Calls Try.prog 93 #[.int .i64 n] w fun e w' => e = .returned (.int .u64 (n.natAbs : Nat)) ∧ w = w' := by
  go_enter Try.func93, Try.ntmps93
  go_wp2
  · go_returns
    exact ⟨ret_u64 (size_neg n h1 ‹_›), rfl⟩
  · go_returns
    exact ⟨ret_u64 (size_pos n ‹_›), rfl⟩

set_option maxHeartbeats 400000 in
theorem refSize_any (n : Int) (w : World) (h1 : -9223372036854775808 ≤ n) (h2 : n ≤ 9223372036854775807) :
    Calls Try.prog 48 #[.int .i64 n] w fun e w' => e = .returned (.int .u64 (n.natAbs : Nat)) ∧ w = w' := by
  go_enter Try.func48, Try.ntmps48
  go_wp2
  · go_returns
    exact ⟨ret_u64 (size_neg n h1 ‹_›), rfl⟩
  · go_returns
    exact ⟨ret_u64 (size_pos n ‹_›), rfl⟩

set_option maxHeartbeats 400000 in
theorem narrow_any (x : Int) (w : World) (h : small x) :
    Calls Try.prog 63 #[.agg #[.int .u64 (wH x : Nat), .int .u64 (wL x : Nat)]] w fun e w' => e = .returned (.tuple #[.int .i64 (if inR x then x else 0), .bool (inR x)]) ∧ Below w.heap.size w w' := by
  have ht := narrow_test x h
  go_enter Try.func63, Try.ntmps63
  cases hi : inR x
  all_goals
    rw [hi] at ht
    go_wp2
    go_returns
    refine ⟨ret_nb ?_ rfl, by go_grown⟩
  · rfl
  · exact narrow_value x hi

def carry (x y : Int) : Nat := (wL x + wL y + 0) / 18446744073709551616
def borrow (x y : Int) : Nat := if wL x < wL y + 0 then 1 else 0

theorem add_low (x y : Int) (w : World) : (callFunc 91 #[.int .u64 (wL x : Nat), .int .u64 (wL y : Nat), .int .u64 0]).run Try.prog w = .ok (.value (.tuple #[.int .u64 (wL (x + y) : Nat), .int .u64 (carry x y : Nat)])) w := by
  have a := wL_lt x; have b := wL_lt y
  rw [run_callFunc_extern Try.func91 (by kernel_rfl) (by kernel_rfl) (by kernel_rfl) (e := add64Entry) (by kernel_rfl), run_add64 (wL x : Nat) (wL y : Nat) 0 (by omega) (by omega) (by omega) (by omega)]
  simp only [Result.andThen]
  rw [← wL_add]; unfold carry
  congr 5 <;> omega
theorem add_high (x y : Int) (w : World) : ∃ c : Int, (callFunc 91 #[.int .u64 (wH x : Nat), .int .u64 (wH y : Nat), .int .u64 (carry x y : Nat)]).run Try.prog w = .ok (.value (.tuple #[.int .u64 (wH (x + y) : Nat), .int .u64 c])) w := by
  have a := wL_lt x; have b := wL_lt y
  rw [run_callFunc_extern Try.func91 (by kernel_rfl) (by kernel_rfl) (by kernel_rfl) (e := add64Entry) (by kernel_rfl), run_add64 (wH x : Nat) (wH y : Nat) (carry x y : Nat) (by omega) (by omega) (by omega) (by unfold carry; omega)]
  refine ⟨((wH x : Int) + (wH y : Int) + (carry x y : Int)) / 18446744073709551616, ?_⟩
  simp only [Result.andThen]
  rw [← wH_add]; unfold carry
  congr 5 <;> omega

theorem sub_run (x y b : Nat) (hb : b ≤ 1) (w : World) :
    (callFunc 92 #[.int .u64 x, .int .u64 y, .int .u64 b]).run Try.prog w =
      .ok (.value (.tuple #[.int .u64 (((x + 18446744073709551616 - y - b) % 18446744073709551616 : Nat) : Int), .int .u64 ((if x < y + b then 1 else 0 : Nat) : Int)])) w := by
  rw [run_callFunc_extern Try.func92 (by kernel_rfl) (by kernel_rfl) (by kernel_rfl) (e := (Extern.MathBitsCarry.rows[1]).2) (by kernel_rfl)]
  have : b = 0 ∨ b = 1 := by omega
  rcases this with rfl | rfl <;> rfl
theorem sub_low (x y : Int) (w : World) : (callFunc 92 #[.int .u64 (wL x : Nat), .int .u64 (wL y : Nat), .int .u64 0]).run Try.prog w = .ok (.value (.tuple #[.int .u64 (wL (x - y) : Nat), .int .u64 (borrow x y : Nat)])) w := by
  have h := sub_run (wL x) (wL y) 0 (by omega) w
  rw [wL_sub] at h
  exact h
theorem sub_high (x y : Int) (w : World) : ∃ c : Int, (callFunc 92 #[.int .u64 (wH x : Nat), .int .u64 (wH y : Nat), .int .u64 (borrow x y : Nat)]).run Try.prog w = .ok (.value (.tuple #[.int .u64 (wH (x - y) : Nat), .int .u64 c])) w := by
  have h := sub_run (wH x) (wH y) (borrow x y) (by unfold borrow; split <;> omega) w
  unfold borrow at h ⊢
  rw [wH_sub] at h
  exact ⟨_, h⟩

set_option maxHeartbeats 400000 in
theorem plus_any (x y : Int) (w : World) :
    Calls Try.prog 73 #[.agg #[.int .u64 (wH x : Nat), .int .u64 (wL x : Nat)], .agg #[.int .u64 (wH y : Nat), .int .u64 (wL y : Nat)]] w fun e w' => e = .returned (.agg #[.int .u64 (wH (x + y) : Nat), .int .u64 (wL (x + y) : Nat)]) ∧ Below w.heap.size w w' := by
  have h1 := add_low x y
  obtain ⟨c2, h2⟩ : ∃ c : World → Int, ∀ w, (callFunc 91 #[.int .u64 (wH x : Nat), .int .u64 (wH y : Nat), .int .u64 (carry x y : Nat)]).run Try.prog w = .ok (.value (.tuple #[.int .u64 (wH (x + y) : Nat), .int .u64 (c w)])) w :=
    ⟨fun w => (add_high x y w).choose, fun w => (add_high x y w).choose_spec⟩
  go_enter Try.func73, Try.ntmps73
  go_wp2
  go_returns
  exact ⟨rfl, by go_grown⟩

set_option maxHeartbeats 400000 in
theorem less_any (x y : Int) (w : World) :
    Calls Try.prog 74 #[.agg #[.int .u64 (wH x : Nat), .int .u64 (wL x : Nat)], .agg #[.int .u64 (wH y : Nat), .int .u64 (wL y : Nat)]] w fun e w' => e = .returned (.agg #[.int .u64 (wH (x - y) : Nat), .int .u64 (wL (x - y) : Nat)]) ∧ Below w.heap.size w w' := by
  have h1 := sub_low x y
  obtain ⟨c2, h2⟩ : ∃ c : World → Int, ∀ w, (callFunc 92 #[.int .u64 (wH x : Nat), .int .u64 (wH y : Nat), .int .u64 (borrow x y : Nat)]).run Try.prog w = .ok (.value (.tuple #[.int .u64 (wH (x - y) : Nat), .int .u64 (c w)])) w :=
    ⟨fun w => (sub_high x y w).choose, fun w => (sub_high x y w).choose_spec⟩
  go_enter Try.func74, Try.ntmps74
  go_wp2
  go_returns
  exact ⟨rfl, by go_grown⟩
end Go.Proofs.Ytolcebbpbihnoaa
