/- Contracts of the project's Calc and Neg, of the reference's Calc and Neg, and of what they call, in whatever memory. Conditions: the numbers lie within 64 bits. -/
import Derived.Test.YtojlgiipnnnfgaaDoorWb
import Derived.Test.YtojlgiipnnnfgaaDoorShelf
import Derived.Deep.RegionWith
import Derived.Deep.RegionHeld3
namespace Go.Proofs.YtojlgiipnnnfgaaDoor
open Go.RowKit

theorem mul_any (x y : Nat) (w : World) (hx : x < 18446744073709551616) (hy : y < 18446744073709551616) :
    Calls Tryd.prog 32 #[.int .u64 x, .int .u64 y] w fun e w' => e = .returned (.tuple #[.int .u64 (wH ((x : Int) * (y : Int)) : Nat), .int .u64 (wL ((x : Int) * (y : Int)) : Nat)]) ∧ w = w' :=
  (Tryd.bits_Mul64 x y hx hy w).mono fun e w' ⟨he, hw⟩ => ⟨by rw [he, ← Int.natCast_mul, ← wH_mul x y hx hy, ← wL_mul x y hx hy], hw.symm⟩

theorem lessZero_any (y : Int) (w : World) :
    Calls Tryd.prog 44 #[.agg #[.int .u64 0, .int .u64 0], .agg #[.int .u64 (wH y : Nat), .int .u64 (wL y : Nat)]] w fun e w' => e = .returned (.agg #[.int .u64 (wH (-y) : Nat), .int .u64 (wL (-y) : Nat)]) ∧ Below w.heap.size w w' :=
  (less_any 0 y w).mono fun e w' ⟨he, hb⟩ => ⟨by rw [he, Int.zero_sub], hb⟩

set_option maxHeartbeats 400000 in
theorem product_any (a b : Int) (w : World) (ha1 : -9223372036854775808 ≤ a) (ha2 : a ≤ 9223372036854775807) (hb1 : -9223372036854775808 ≤ b) (hb2 : b ≤ 9223372036854775807) :
    Calls Tryd.prog 45 #[.int .i64 a, .int .i64 b] w fun e w' => e = .returned (.agg #[.int .u64 (wH (a * b) : Nat), .int .u64 (wL (a * b) : Nat)]) ∧ Below w.heap.size w w' := by
  have p1 := prod_unlike a b
  have p2 := prod_alike a b
  have P1 := Lib.hid p1
  have P2 := Lib.hid p2
  clear p1 p2
  have sa := size_lt a ha1 ha2
  have sb := size_lt b hb1 hb2
  go_enter Tryd.func45, Tryd.ntmps45
  go_wp2_with (first
    | (go_at_call 52; refine (size_any _ _ (by assumption) (by assumption)).mono ?_; rintro e w' ⟨rfl, rfl⟩)
    | (go_at_call 32; refine (mul_any _ _ _ (by assumption) (by assumption)).mono ?_; rintro e w' ⟨rfl, rfl⟩)
    | (go_at_call 44; refine (lessZero_any _ _).mono ?_; rintro e w' ⟨rfl, hb⟩; obtain ⟨hc, hf⟩ := below_cells hb; have hz : w.heap.size + 1 < w'.heap.size := by (have := hb.size; simp at this; omega)))
  · have q0 := hc w.heap.size 0 (by simp; omega)
    have q1 := hc w.heap.size 1 (by simp; omega)
    simp at q0 q1
    refine bodyPost_ret (v := .agg #[.int .u64 (wH (-((a.natAbs : Int) * (b.natAbs : Int))) : Nat), .int .u64 (wL (-((a.natAbs : Int) * (b.natAbs : Int))) : Nat)]) (by simp [results, Tryd.results45, go_sem, q0, q1]) rfl ⟨?_, ?_⟩
    · rw [P1.out ‹_›]
    · exact Below.setCell (Below.setCell (below_through hb (by go_size) (by go_grown)) (by simp) _) (by simp) _
  · go_returns
    refine ⟨?_, ?_⟩
    · rw [P2.out ‹_›]
    · go_grown

set_option maxHeartbeats 400000 in
theorem num_any (n : Int) (w : World) :
    Calls Tryd.prog 21 #[.int .i64 n] w fun e w' => e = .returned (.agg #[.int .i64 1, .int .i64 n, .string ⟨#[]⟩]) ∧ Below w.heap.size w w' := by
  go_enter Tryd.func21, Tryd.ntmps21
  go_wp2
  go_returns
  refine ⟨?_, by go_grown⟩
  rfl
set_option maxHeartbeats 400000 in
theorem reckons_any (k n : Int) (s : ByteArray) (w : World) :
    Calls Tryd.prog 28 #[.agg #[.int .i64 k, .int .i64 n, .string s]] w fun e w' => e = .returned (.bool (rk k)) ∧ Below w.heap.size w w' := by
  go_enter Tryd.func28, Tryd.ntmps28
  go_wp2
  all_goals
    go_returns
    refine ⟨ret_bool ?_, by go_grown⟩
    rw [Bool.eq_iff_iff]
    simp_all [rk]

set_option maxHeartbeats 800000 in
theorem reckon_any (op a b : Int) (w : World) (ha1 : -9223372036854775808 ≤ a) (ha2 : a ≤ 9223372036854775807) (hb1 : -9223372036854775808 ≤ b) (hb2 : b ≤ 9223372036854775807) :
    Calls Tryd.prog 29 #[.int .i64 op, .int .i64 a, .int .i64 b] w fun e w' => e = .returned (.agg #[.int .u64 (wH (exact3 op a b) : Nat), .int .u64 (wL (exact3 op a b) : Nat)]) ∧ Below w.heap.size w w' := by
  go_enter Tryd.func29, Tryd.ntmps29
  go_wp2_with (first
    | (go_at_call 42; refine (widen_any _ _ (by assumption) (by assumption)).mono ?_; rintro e w' ⟨rfl, hb⟩; obtain ⟨hc, hf⟩ := below_cells hb; have hz : w.heap.size < w'.heap.size := by (have := hb.size; (try simp at this); omega))
    | (go_at_call 43; refine (plus_any _ _ _).mono ?_; rintro e w' ⟨rfl, hb⟩; obtain ⟨hc, hf⟩ := below_cells hb; have hz : w.heap.size < w'.heap.size := by (have := hb.size; (try simp at this); omega))
    | (go_at_call 44; refine (less_any _ _ _).mono ?_; rintro e w' ⟨rfl, hb⟩; obtain ⟨hc, hf⟩ := below_cells hb; have hz : w.heap.size < w'.heap.size := by (have := hb.size; (try simp at this); omega))
    | (go_at_call 45; refine (product_any _ _ _ (by assumption) (by assumption) (by assumption) (by assumption)).mono ?_; rintro e w' ⟨rfl, hb⟩; obtain ⟨hc, hf⟩ := below_cells hb; have hz : w.heap.size < w'.heap.size := by (have := hb.size; (try simp at this); omega)))
  · have q0 : w'.cell? ⟨w.heap.size, 0, none⟩ = some (.int .u64 0) := by go_cell
    have q1 : w'.cell? ⟨w.heap.size, 1, none⟩ = some (.int .u64 0) := by go_cell
    refine bodyPost_ret (v := .agg #[.int .u64 (wH (a + b) : Nat), .int .u64 (wL (a + b) : Nat)]) (by simp [results, Tryd.results29, go_sem, q0, q1]) rfl ⟨?_, ?_⟩
    · rw [exact3_add a b ‹_›]
    · (repeat (first | (with_reducible exact Below.refl _ _) | (refine Below.setCell ?_ (by simp) _) | (refine below_through ‹_› (by first | omega | (simp; done) | (simp; omega)) ?_) | (refine Below.alloc ?_ (by first | omega | (simp; done) | (simp; omega)) _)))
  · have q0 : w'.cell? ⟨w.heap.size, 0, none⟩ = some (.int .u64 0) := by go_cell
    have q1 : w'.cell? ⟨w.heap.size, 1, none⟩ = some (.int .u64 0) := by go_cell
    refine bodyPost_ret (v := .agg #[.int .u64 (wH (a - b) : Nat), .int .u64 (wL (a - b) : Nat)]) (by simp [results, Tryd.results29, go_sem, q0, q1]) rfl ⟨?_, ?_⟩
    · rw [exact3_sub a b ‹_›]
    · (repeat (first | (with_reducible exact Below.refl _ _) | (refine Below.setCell ?_ (by simp) _) | (refine below_through ‹_› (by first | omega | (simp; done) | (simp; omega)) ?_) | (refine Below.alloc ?_ (by first | omega | (simp; done) | (simp; omega)) _)))
  · have q0 : w'.cell? ⟨w.heap.size, 0, none⟩ = some (.int .u64 0) := by go_cell
    have q1 : w'.cell? ⟨w.heap.size, 1, none⟩ = some (.int .u64 0) := by go_cell
    refine bodyPost_ret (v := .agg #[.int .u64 (wH (a * b) : Nat), .int .u64 (wL (a * b) : Nat)]) (by simp [results, Tryd.results29, go_sem, q0, q1]) rfl ⟨?_, ?_⟩
    · rw [exact3_mul a b ‹_› ‹_›]
    · (repeat (first | (with_reducible exact Below.refl _ _) | (refine Below.setCell ?_ (by simp) _) | (refine below_through ‹_› (by first | omega | (simp; done) | (simp; omega)) ?_) | (refine Below.alloc ?_ (by first | omega | (simp; done) | (simp; omega)) _)))
end Go.Proofs.YtojlgiipnnnfgaaDoor
