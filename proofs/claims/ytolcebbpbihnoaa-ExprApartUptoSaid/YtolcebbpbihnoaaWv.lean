/- Contracts of the project's Neg and the reference's, in whatever memory. Conditions: the numbers lie within 64 bits. -/
import Derived.Test.YtolcebbpbihnoaaWu
import Derived.Deep.RegionWith
namespace Go.Proofs.Ytolcebbpbihnoaa
open Go.RowKit

set_option maxHeartbeats 1000000 in
theorem neg_any (k n : Int) (s : ByteArray) (w : World) (h1 : -9223372036854775808 ≤ n) (h2 : n ≤ 9223372036854775807) :
    Calls Try.prog 46 #[.agg #[.int .i64 k, .int .i64 n, .string s]] w
      fun e w' => e = .returned (.tuple #[.agg #[.int .i64 (cK 4 1 0 k n), .int .i64 (cN 4 1 0 k n), .string ⟨#[]⟩], .int .i64 (cE 4 1 0 k n)]) ∧ Below w.heap.size w w' := by
  go_enter Try.func46, Try.ntmps46
  go_wp2_with fail
  go_region_with (first
    | (go_at_call 64; refine (number_any _ _).mono ?_; rintro e w3 ⟨rfl, hb3⟩; obtain ⟨hc3, hf3⟩ := below_cells hb3; have hz3 : w.heap.size + 1 < w3.heap.size := (by have := hb3.size; simp at this; omega); have hy3 : w.heap.size < w3.heap.size := (by omega); have q0 : w3.cell? ⟨w.heap.size, 0, none⟩ = some (.int .i64 k) := (by go_cell); have q1 : w3.cell? ⟨w.heap.size, 1, none⟩ = some (.int .i64 n) := (by go_cell); have q2 : w3.cell? ⟨w.heap.size, 2, none⟩ = some (.string s) := (by go_cell); have r0 : w3.cell? ⟨w.heap.size + 1, 0, none⟩ = some (.int .i64 0) := (by go_cell); have r1 : w3.cell? ⟨w.heap.size + 1, 1, none⟩ = some (.int .i64 0) := (by go_cell); have r2 : w3.cell? ⟨w.heap.size + 1, 2, none⟩ = some (.string ⟨#[]⟩) := (by go_cell); have f0 := hf3 (w.heap.size + 1) 0 (by simp); have f1 := hf3 (w.heap.size + 1) 1 (by simp); have f2 := hf3 (w.heap.size + 1) 2 (by simp); simp at f0 f1 f2; clear hc3 hf3)
    | (go_at_call 45; refine (calc_any 4 1 0 k n _ _ _ (by decide) (by decide) h1 h2).mono ?_; rintro e w4 ⟨rfl, hb4⟩; obtain ⟨hc4, hf4⟩ := below_cells hb4; have t0 := (hc4 _ 0 hz3).trans r0; have t1 := (hc4 _ 1 hz3).trans r1; have t2 := (hc4 _ 2 hz3).trans r2; have g0 := (hf4 _ 0 hz3).trans f0; have g1 := (hf4 _ 1 hz3).trans f1; have g2 := (hf4 _ 2 hz3).trans f2; clear hc4 hf4))
  all_goals
    go_wp2
    refine bodyPost_ret (v := .tuple #[.agg #[.int .i64 (cK 4 1 0 k n), .int .i64 (cN 4 1 0 k n), .string ⟨#[]⟩], .int .i64 (cE 4 1 0 k n)]) (by simp [results, Try.results46, go_sem, t0, t1, t2]) rfl ⟨rfl, ?_⟩
    (repeat (first | (with_reducible exact Below.refl _ _) | (refine Below.setCell ?_ (by first | (simp; done) | (simp; omega)) _) | (refine below_through ‹_› (by first | omega | (simp; done) | (simp; omega)) ?_) | (refine Below.drew ?_) | (refine Below.alloc ?_ (by first | omega | (simp; done) | (simp; omega)) _)))

set_option maxHeartbeats 1000000 in
theorem refNeg_num (k n : Int) (s : ByteArray) (w : World) (h1 : -9223372036854775808 ≤ n) (h2 : n ≤ 9223372036854775807) (hk : (k == 0) = false) :
    Calls Try.prog 26 #[.agg #[.int .i64 k, .int .i64 n, .string s]] w
      fun e w' => e = .returned (.tuple #[.agg #[.int .i64 (cK 4 1 0 k n), .int .i64 (cN 4 1 0 k n), .string ⟨#[]⟩], .int .i64 (cE 4 1 0 k n)]) ∧ Below w.heap.size w w' := by
  go_enter Try.func26, Try.ntmps26
  go_wp2_with fail
  go_region_with (first
    | (go_at_call 50; refine (refInt_any _ _).mono ?_; rintro e w3 ⟨rfl, hb3⟩; obtain ⟨hc3, hf3⟩ := below_cells hb3; have hz3 : w.heap.size + 1 < w3.heap.size := (by have := hb3.size; simp at this; omega); have hy3 : w.heap.size < w3.heap.size := (by omega); have q0 : w3.cell? ⟨w.heap.size, 0, none⟩ = some (.int .i64 k) := (by go_cell); have q1 : w3.cell? ⟨w.heap.size, 1, none⟩ = some (.int .i64 n) := (by go_cell); have q2 : w3.cell? ⟨w.heap.size, 2, none⟩ = some (.string s) := (by go_cell); have r0 : w3.cell? ⟨w.heap.size + 1, 0, none⟩ = some (.int .i64 0) := (by go_cell); have r1 : w3.cell? ⟨w.heap.size + 1, 1, none⟩ = some (.int .i64 0) := (by go_cell); have r2 : w3.cell? ⟨w.heap.size + 1, 2, none⟩ = some (.string ⟨#[]⟩) := (by go_cell); have f0 := hf3 (w.heap.size + 1) 0 (by simp); have f1 := hf3 (w.heap.size + 1) 1 (by simp); have f2 := hf3 (w.heap.size + 1) 2 (by simp); simp at f0 f1 f2; clear hc3 hf3)
    | (go_at_call 25; refine (refCalc_any 4 1 0 k n _ _ _ (by decide) (by decide) h1 h2).mono ?_; rintro e w4 ⟨rfl, hb4⟩; obtain ⟨hc4, hf4⟩ := below_cells hb4; have t0 := (hc4 _ 0 hz3).trans r0; have t1 := (hc4 _ 1 hz3).trans r1; have t2 := (hc4 _ 2 hz3).trans r2; have g0 := (hf4 _ 0 hz3).trans f0; have g1 := (hf4 _ 1 hz3).trans f1; have g2 := (hf4 _ 2 hz3).trans f2; clear hc4 hf4))
  all_goals
    go_wp2
    refine bodyPost_ret (v := .tuple #[.agg #[.int .i64 (cK 4 1 0 k n), .int .i64 (cN 4 1 0 k n), .string ⟨#[]⟩], .int .i64 (cE 4 1 0 k n)]) (by simp [results, Try.results26, go_sem, t0, t1, t2]) rfl ⟨rfl, ?_⟩
    (repeat (first | (with_reducible exact Below.refl _ _) | (refine Below.setCell ?_ (by first | (simp; done) | (simp; omega)) _) | (refine below_through ‹_› (by first | omega | (simp; done) | (simp; omega)) ?_) | (refine Below.drew ?_) | (refine Below.alloc ?_ (by first | omega | (simp; done) | (simp; omega)) _)))

set_option maxHeartbeats 1000000 in
theorem refNeg_none (n : Int) (s : ByteArray) (w : World) :
    Calls Try.prog 26 #[.agg #[.int .i64 0, .int .i64 n, .string s]] w
      fun e w' => e = .returned (.tuple #[.agg #[.int .i64 (cK 4 1 0 0 n), .int .i64 (cN 4 1 0 0 n), .string ⟨#[]⟩], .int .i64 (cE 4 1 0 0 n)]) ∧ Below w.heap.size w w' := by
  go_enter Try.func26, Try.ntmps26
  go_wp2_with fail
  go_returns
  exact ⟨calcRet (calc_none rfl rfl rfl (.inr rfl)), by go_grown⟩
theorem refNeg_any (k n : Int) (s : ByteArray) (w : World) (h1 : -9223372036854775808 ≤ n) (h2 : n ≤ 9223372036854775807) :
    Calls Try.prog 26 #[.agg #[.int .i64 k, .int .i64 n, .string s]] w
      fun e w' => e = .returned (.tuple #[.agg #[.int .i64 (cK 4 1 0 k n), .int .i64 (cN 4 1 0 k n), .string ⟨#[]⟩], .int .i64 (cE 4 1 0 k n)]) ∧ Below w.heap.size w w' := by
  by_cases hk : k = 0
  · subst hk; exact refNeg_none n s w
  · exact refNeg_num k n s w h1 h2 (by simpa using hk)
end Go.Proofs.Ytolcebbpbihnoaa
