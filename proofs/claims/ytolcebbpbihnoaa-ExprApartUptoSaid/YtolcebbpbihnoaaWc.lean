/- Contracts of the project's Calc and Neg, of the reference's Calc and Neg, and of what they call, in whatever memory. Conditions: the numbers lie within 64 bits. -/
import Derived.Test.YtolcebbpbihnoaaWb
import Derived.Test.YtolcebbpbihnoaaShelf
import Derived.Deep.RegionWith
import Derived.Deep.RegionHeld3
namespace Go.Proofs.Ytolcebbpbihnoaa
open Go.RowKit

theorem mul_any (x y : Nat) (w : World) (hx : x < 18446744073709551616) (hy : y < 18446744073709551616) :
    Calls Try.prog 47 #[.int .u64 x, .int .u64 y] w fun e w' => e = .returned (.tuple #[.int .u64 (wH ((x : Int) * (y : Int)) : Nat), .int .u64 (wL ((x : Int) * (y : Int)) : Nat)]) ∧ w = w' :=
  (Try.bits_Mul64 x y hx hy w).mono fun e w' ⟨he, hw⟩ => ⟨by rw [he, ← Int.natCast_mul, ← wH_mul x y hx hy, ← wL_mul x y hx hy], hw.symm⟩

theorem lessZero_any (y : Int) (w : World) :
    Calls Try.prog 74 #[.agg #[.int .u64 0, .int .u64 0], .agg #[.int .u64 (wH y : Nat), .int .u64 (wL y : Nat)]] w fun e w' => e = .returned (.agg #[.int .u64 (wH (-y) : Nat), .int .u64 (wL (-y) : Nat)]) ∧ Below w.heap.size w w' :=
  (less_any 0 y w).mono fun e w' ⟨he, hb⟩ => ⟨by rw [he, Int.zero_sub], hb⟩

set_option maxHeartbeats 400000 in
theorem product_any (a b : Int) (w : World) (ha1 : -9223372036854775808 ≤ a) (ha2 : a ≤ 9223372036854775807) (hb1 : -9223372036854775808 ≤ b) (hb2 : b ≤ 9223372036854775807) :
    Calls Try.prog 75 #[.int .i64 a, .int .i64 b] w fun e w' => e = .returned (.agg #[.int .u64 (wH (a * b) : Nat), .int .u64 (wL (a * b) : Nat)]) ∧ Below w.heap.size w w' := by
  have p1 := prod_unlike a b
  have p2 := prod_alike a b
  have P1 := hid0 p1
  have P2 := hid0 p2
  clear p1 p2
  have sa := size_lt a ha1 ha2
  have sb := size_lt b hb1 hb2
  go_enter Try.func75, Try.ntmps75
  go_wp2_with (first
    | (go_at_call 93; refine (size_any _ _ (by assumption) (by assumption)).mono ?_; rintro e w' ⟨rfl, rfl⟩)
    | (go_at_call 47; refine (mul_any _ _ _ (by assumption) (by assumption)).mono ?_; rintro e w' ⟨rfl, rfl⟩)
    | (go_at_call 74; refine (lessZero_any _ _).mono ?_; rintro e w' ⟨rfl, hb⟩; obtain ⟨hc, hf⟩ := below_cells hb; have hz : w.heap.size + 1 < w'.heap.size := by (have := hb.size; simp at this; omega)))
  · have q0 := hc w.heap.size 0 (by simp; omega)
    have q1 := hc w.heap.size 1 (by simp; omega)
    simp at q0 q1
    refine bodyPost_ret (v := .agg #[.int .u64 (wH (-((a.natAbs : Int) * (b.natAbs : Int))) : Nat), .int .u64 (wL (-((a.natAbs : Int) * (b.natAbs : Int))) : Nat)]) (by simp [results, Try.results75, go_sem, q0, q1]) rfl ⟨?_, ?_⟩
    · rw [P1.out ‹_›]
    · exact Below.setCell (Below.setCell (below_through hb (by go_size) (by go_grown)) (by simp) _) (by simp) _
  · go_returns
    refine ⟨?_, ?_⟩
    · rw [P2.out ‹_›]
    · go_grown

set_option maxHeartbeats 400000 in
theorem reckons_any (k n : Int) (s : ByteArray) (w : World) :
    Calls Try.prog 61 #[.agg #[.int .i64 k, .int .i64 n, .string s]] w fun e w' => e = .returned (.bool (rk k)) ∧ Below w.heap.size w w' := by
  go_enter Try.func61, Try.ntmps61
  go_wp2
  all_goals
    go_returns
    refine ⟨ret_bool ?_, by go_grown⟩
    rw [Bool.eq_iff_iff]
    simp_all [rk]

set_option maxHeartbeats 800000 in
theorem reckon_any (op a b : Int) (w : World) (ha1 : -9223372036854775808 ≤ a) (ha2 : a ≤ 9223372036854775807) (hb1 : -9223372036854775808 ≤ b) (hb2 : b ≤ 9223372036854775807) :
    Calls Try.prog 62 #[.int .i64 op, .int .i64 a, .int .i64 b] w fun e w' => e = .returned (.agg #[.int .u64 (wH (exact3 op a b) : Nat), .int .u64 (wL (exact3 op a b) : Nat)]) ∧ Below w.heap.size w w' := by
  go_enter Try.func62, Try.ntmps62
  go_wp2_with (first
    | (go_at_call 72; refine (widen_any _ _ (by assumption) (by assumption)).mono ?_; rintro e w' ⟨rfl, hb⟩; obtain ⟨hc, hf⟩ := below_cells hb; have hz : w.heap.size < w'.heap.size := by (have := hb.size; (try simp at this); omega))
    | (go_at_call 73; refine (plus_any _ _ _).mono ?_; rintro e w' ⟨rfl, hb⟩; obtain ⟨hc, hf⟩ := below_cells hb; have hz : w.heap.size < w'.heap.size := by (have := hb.size; (try simp at this); omega))
    | (go_at_call 74; refine (less_any _ _ _).mono ?_; rintro e w' ⟨rfl, hb⟩; obtain ⟨hc, hf⟩ := below_cells hb; have hz : w.heap.size < w'.heap.size := by (have := hb.size; (try simp at this); omega))
    | (go_at_call 75; refine (product_any _ _ _ (by assumption) (by assumption) (by assumption) (by assumption)).mono ?_; rintro e w' ⟨rfl, hb⟩; obtain ⟨hc, hf⟩ := below_cells hb; have hz : w.heap.size < w'.heap.size := by (have := hb.size; (try simp at this); omega)))
  · have q0 : w'.cell? ⟨w.heap.size, 0, none⟩ = some (.int .u64 0) := by go_cell
    have q1 : w'.cell? ⟨w.heap.size, 1, none⟩ = some (.int .u64 0) := by go_cell
    refine bodyPost_ret (v := .agg #[.int .u64 (wH (a + b) : Nat), .int .u64 (wL (a + b) : Nat)]) (by simp [results, Try.results62, go_sem, q0, q1]) rfl ⟨?_, ?_⟩
    · rw [exact3_add a b ‹_›]
    · (repeat (first | (with_reducible exact Below.refl _ _) | (refine Below.setCell ?_ (by simp) _) | (refine below_through ‹_› (by first | omega | (simp; done) | (simp; omega)) ?_) | (refine Below.alloc ?_ (by first | omega | (simp; done) | (simp; omega)) _)))
  · have q0 : w'.cell? ⟨w.heap.size, 0, none⟩ = some (.int .u64 0) := by go_cell
    have q1 : w'.cell? ⟨w.heap.size, 1, none⟩ = some (.int .u64 0) := by go_cell
    refine bodyPost_ret (v := .agg #[.int .u64 (wH (a - b) : Nat), .int .u64 (wL (a - b) : Nat)]) (by simp [results, Try.results62, go_sem, q0, q1]) rfl ⟨?_, ?_⟩
    · rw [exact3_sub a b ‹_›]
    · (repeat (first | (with_reducible exact Below.refl _ _) | (refine Below.setCell ?_ (by simp) _) | (refine below_through ‹_› (by first | omega | (simp; done) | (simp; omega)) ?_) | (refine Below.alloc ?_ (by first | omega | (simp; done) | (simp; omega)) _)))
  · have q0 : w'.cell? ⟨w.heap.size, 0, none⟩ = some (.int .u64 0) := by go_cell
    have q1 : w'.cell? ⟨w.heap.size, 1, none⟩ = some (.int .u64 0) := by go_cell
    refine bodyPost_ret (v := .agg #[.int .u64 (wH (a * b) : Nat), .int .u64 (wL (a * b) : Nat)]) (by simp [results, Try.results62, go_sem, q0, q1]) rfl ⟨?_, ?_⟩
    · rw [exact3_mul a b ‹_› ‹_›]
    · (repeat (first | (with_reducible exact Below.refl _ _) | (refine Below.setCell ?_ (by simp) _) | (refine below_through ‹_› (by first | omega | (simp; done) | (simp; omega)) ?_) | (refine Below.alloc ?_ (by first | omega | (simp; done) | (simp; omega)) _)))
end Go.Proofs.Ytolcebbpbihnoaa
