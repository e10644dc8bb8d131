/- Contracts of the project's Calc and Neg and of the reference's, in whatever memory. Conditions: the numbers lie within 64 bits. -/
import Derived.Test.YtolcebbpbihnoaaWc
namespace Go.Proofs.Ytolcebbpbihnoaa
open Go.RowKit

set_option maxHeartbeats 400000 in
theorem number_any (n : Int) (w : World) :
    Calls Try.prog 64 #[.int .i64 n] w fun e w' => e = .returned (.agg #[.int .i64 1, .int .i64 n, .string ⟨#[]⟩]) ∧ Below w.heap.size w w' := by
  go_enter Try.func64, Try.ntmps64
  go_wp2
  go_returns
  exact ⟨rfl, by go_grown⟩
set_option maxHeartbeats 400000 in
theorem refInt_any (n : Int) (w : World) :
    Calls Try.prog 50 #[.int .i64 n] w fun e w' => e = .returned (.agg #[.int .i64 1, .int .i64 n, .string ⟨#[]⟩]) ∧ Below w.heap.size w w' := by
  go_enter Try.func50, Try.ntmps50
  go_wp2
  go_returns
  exact ⟨rfl, by go_grown⟩

theorem calcRet {a b c : Int} {op ka na kb nb : Int} (h : calc3 op ka na kb nb = (a, b, c)) : Ending.returned (.tuple #[.agg #[.int .i64 a, .int .i64 b, .string ⟨#[]⟩], .int .i64 c]) = .returned (.tuple #[.agg #[.int .i64 (cK op ka na kb nb), .int .i64 (cN op ka na kb nb), .string ⟨#[]⟩], .int .i64 (cE op ka na kb nb)]) := by
  rw [cK, cN, cE, h]

set_option maxHeartbeats 1000000 in
theorem calc_badop (op ka na kb nb : Int) (sa sb : ByteArray) (w : World) (hop : opB op = false) :
    Calls Try.prog 45 #[.int .i64 op, .agg #[.int .i64 ka, .int .i64 na, .string sa], .agg #[.int .i64 kb, .int .i64 nb, .string sb]] w
      fun e w' => e = .returned (.tuple #[.agg #[.int .i64 (cK op ka na kb nb), .int .i64 (cN op ka na kb nb), .string ⟨#[]⟩], .int .i64 (cE op ka na kb nb)]) ∧ Below w.heap.size w w' := by
  have h3 : (op != 3) = true := by simp [opB] at hop; simp [hop]
  have h4 : (op != 4) = true := by simp [opB] at hop; simp [hop]
  have h5 : (op != 5) = true := by simp [opB] at hop; simp [hop]
  go_enter Try.func45, Try.ntmps45
  go_wp2_with fail
  go_returns
  exact ⟨calcRet (calc_op hop), by go_grown⟩

set_option maxHeartbeats 1000000 in
theorem calc_3 (ka na kb nb : Int) (sa sb : ByteArray) (w : World) (ha1 : -9223372036854775808 ≤ na) (ha2 : na ≤ 9223372036854775807) (hb1 : -9223372036854775808 ≤ nb) (hb2 : nb ≤ 9223372036854775807) :
    Calls Try.prog 45 #[.int .i64 3, .agg #[.int .i64 ka, .int .i64 na, .string sa], .agg #[.int .i64 kb, .int .i64 nb, .string sb]] w
      fun e w' => e = .returned (.tuple #[.agg #[.int .i64 (cK 3 ka na kb nb), .int .i64 (cN 3 ka na kb nb), .string ⟨#[]⟩], .int .i64 (cE 3 ka na kb nb)]) ∧ Below w.heap.size w w' := by
  have hsm := small_exact 3 na nb ha1 ha2 hb1 hb2
  go_enter Try.func45, Try.ntmps45
  go_wp2_with (first
    | (go_at_call 61; refine (reckons_any _ _ _ _).mono ?_; rintro e w' ⟨rfl, hb⟩; obtain ⟨hc, hf⟩ := below_cells hb; have hz2 : w.heap.size + 1 + 1 < w'.heap.size := (by have := hb.size; (try simp at this); omega); have hz1 : w.heap.size + 1 < w'.heap.size := (by omega); have hz : w.heap.size < w'.heap.size := (by omega))
    | (go_at_call 62; refine (reckon_any _ _ _ _ (by assumption) (by assumption) (by assumption) (by assumption)).mono ?_; rintro e w' ⟨rfl, hb⟩; obtain ⟨hc, hf⟩ := below_cells hb; have hz2 : w.heap.size + 1 + 1 < w'.heap.size := (by have := hb.size; (try simp at this); omega); have hz1 : w.heap.size + 1 < w'.heap.size := (by omega); have hz : w.heap.size < w'.heap.size := (by omega))
    | (go_at_call 63; refine (narrow_any _ _ (by assumption)).mono ?_; rintro e w' ⟨rfl, hb⟩; obtain ⟨hc, hf⟩ := below_cells hb; have hz2 : w.heap.size + 1 + 1 < w'.heap.size := (by have := hb.size; (try simp at this); omega); have hz1 : w.heap.size + 1 < w'.heap.size := (by omega); have hz : w.heap.size < w'.heap.size := (by omega))
    | (go_at_call 64; refine (number_any _ _).mono ?_; rintro e w' ⟨rfl, hb⟩; obtain ⟨hc, hf⟩ := below_cells hb; have hz2 : w.heap.size + 1 + 1 < w'.heap.size := (by have := hb.size; (try simp at this); omega); have hz1 : w.heap.size + 1 < w'.heap.size := (by omega); have hz : w.heap.size < w'.heap.size := (by omega)))
  · have q0 : w'.cell? ⟨w.heap.size + 1 + 1, 0, none⟩ = some (.int .i64 0) := by go_cell
    have q1 : w'.cell? ⟨w.heap.size + 1 + 1, 1, none⟩ = some (.int .i64 0) := by go_cell
    have q2 : w'.cell? ⟨w.heap.size + 1 + 1, 2, none⟩ = some (.string ⟨#[]⟩) := by go_cell
    refine bodyPost_ret (v := .tuple #[.agg #[.int .i64 0, .int .i64 0, .string ⟨#[]⟩], .int .i64 8]) (by simp [results, Try.results45, go_sem, q0, q1, q2]) rfl ⟨?_, ?_⟩
    · exact calcRet (calc_A rfl ‹_›)
    · (repeat (first | (with_reducible exact Below.refl _ _) | (refine Below.setCell ?_ (by first | (simp; done) | (simp; omega)) _) | (refine below_through ‹_› (by first | omega | (simp; done) | (simp; omega)) ?_) | (refine Below.alloc ?_ (by first | omega | (simp; done) | (simp; omega)) _)))
  · have q0 : w'.cell? ⟨w.heap.size + 1 + 1, 0, none⟩ = some (.int .i64 0) := by go_cell
    have q1 : w'.cell? ⟨w.heap.size + 1 + 1, 1, none⟩ = some (.int .i64 0) := by go_cell
    have q2 : w'.cell? ⟨w.heap.size + 1 + 1, 2, none⟩ = some (.string ⟨#[]⟩) := by go_cell
    refine bodyPost_ret (v := .tuple #[.agg #[.int .i64 0, .int .i64 0, .string ⟨#[]⟩], .int .i64 0]) (by simp [results, Try.results45, go_sem, q0, q1, q2]) rfl ⟨?_, ?_⟩
    · exact calcRet (calc_B rfl ‹_› ‹_› ‹_›)
    · (repeat (first | (with_reducible exact Below.refl _ _) | (refine Below.setCell ?_ (by first | (simp; done) | (simp; omega)) _) | (refine below_through ‹_› (by first | omega | (simp; done) | (simp; omega)) ?_) | (refine Below.alloc ?_ (by first | omega | (simp; done) | (simp; omega)) _)))
  · have q0 : w'.cell? ⟨w.heap.size + 1 + 1, 0, none⟩ = some (.int .i64 0) := by go_cell
    have q1 : w'.cell? ⟨w.heap.size + 1 + 1, 1, none⟩ = some (.int .i64 0) := by go_cell
    have q2 : w'.cell? ⟨w.heap.size + 1 + 1, 2, none⟩ = some (.string ⟨#[]⟩) := by go_cell
    refine bodyPost_ret (v := .tuple #[.agg #[.int .i64 0, .int .i64 0, .string ⟨#[]⟩], .int .i64 0]) (by simp [results, Try.results45, go_sem, q0, q1, q2]) rfl ⟨?_, ?_⟩
    · exact calcRet (calc_C rfl ‹_› ‹_› ‹_›)
    · (repeat (first | (with_reducible exact Below.refl _ _) | (refine Below.setCell ?_ (by first | (simp; done) | (simp; omega)) _) | (refine below_through ‹_› (by first | omega | (simp; done) | (simp; omega)) ?_) | (refine Below.alloc ?_ (by first | omega | (simp; done) | (simp; omega)) _)))
  · have q0 : w'.cell? ⟨w.heap.size + 1 + 1, 0, none⟩ = some (.int .i64 0) := by go_cell
    have q1 : w'.cell? ⟨w.heap.size + 1 + 1, 1, none⟩ = some (.int .i64 0) := by go_cell
    have q2 : w'.cell? ⟨w.heap.size + 1 + 1, 2, none⟩ = some (.string ⟨#[]⟩) := by go_cell
    refine bodyPost_ret (v := .tuple #[.agg #[.int .i64 0, .int .i64 0, .string ⟨#[]⟩], .int .i64 12]) (by simp [results, Try.results45, go_sem, q0, q1, q2]) rfl ⟨?_, ?_⟩
    · exact calcRet (calc_D2 rfl ‹_› ‹_› ‹_› (by simpa using ‹(!inR (exact3 3 na nb)) = true›))
    · (repeat (first | (with_reducible exact Below.refl _ _) | (refine Below.setCell ?_ (by first | (simp; done) | (simp; omega)) _) | (refine below_through ‹_› (by first | omega | (simp; done) | (simp; omega)) ?_) | (refine Below.alloc ?_ (by first | omega | (simp; done) | (simp; omega)) _)))
  · have q0 : w'.cell? ⟨w.heap.size + 1 + 1, 0, none⟩ = some (.int .i64 0) := by go_cell
    have q1 : w'.cell? ⟨w.heap.size + 1 + 1, 1, none⟩ = some (.int .i64 0) := by go_cell
    have q2 : w'.cell? ⟨w.heap.size + 1 + 1, 2, none⟩ = some (.string ⟨#[]⟩) := by go_cell
    refine bodyPost_ret (v := .tuple #[.agg #[.int .i64 0, .int .i64 0, .string ⟨#[]⟩], .int .i64 12]) (by simp [results, Try.results45, go_sem, q0, q1, q2]) rfl ⟨?_, ?_⟩
    · exact calcRet (calc_D2 rfl ‹_› ‹_› ‹_› (by simpa using ‹(!inR (exact3 3 na nb)) = true›))
    · (repeat (first | (with_reducible exact Below.refl _ _) | (refine Below.setCell ?_ (by first | (simp; done) | (simp; omega)) _) | (refine below_through ‹_› (by first | omega | (simp; done) | (simp; omega)) ?_) | (refine Below.alloc ?_ (by first | omega | (simp; done) | (simp; omega)) _)))
  · have q0 : w'.cell? ⟨w.heap.size + 1 + 1, 0, none⟩ = some (.int .i64 0) := by go_cell
    have q1 : w'.cell? ⟨w.heap.size + 1 + 1, 1, none⟩ = some (.int .i64 0) := by go_cell
    have q2 : w'.cell? ⟨w.heap.size + 1 + 1, 2, none⟩ = some (.string ⟨#[]⟩) := by go_cell
    refine bodyPost_ret (v := .tuple #[.agg #[.int .i64 1, .int .i64 (exact3 3 na nb), .string ⟨#[]⟩], .int .i64 0]) (by simp [results, Try.results45, go_sem, q0, q1, q2]) rfl ⟨?_, ?_⟩
    · exact calcRet (calc_D1 rfl ‹_› ‹_› ‹_› (by simpa using ‹(!inR (exact3 3 na nb)) = false›))
    · (repeat (first | (with_reducible exact Below.refl _ _) | (refine Below.setCell ?_ (by first | (simp; done) | (simp; omega)) _) | (refine below_through ‹_› (by first | omega | (simp; done) | (simp; omega)) ?_) | (refine Below.alloc ?_ (by first | omega | (simp; done) | (simp; omega)) _)))
  · have hx : inR (exact3 3 na nb) = true := by simpa using ‹(!inR (exact3 3 na nb)) = false›
    first | (exact absurd hx h) | (rw [hx] at h; exact absurd h (by decide)) | (exact absurd hx (by simp [h]))
  · have q0 : w'.cell? ⟨w.heap.size + 1 + 1, 0, none⟩ = some (.int .i64 0) := by go_cell
    have q1 : w'.cell? ⟨w.heap.size + 1 + 1, 1, none⟩ = some (.int .i64 0) := by go_cell
    have q2 : w'.cell? ⟨w.heap.size + 1 + 1, 2, none⟩ = some (.string ⟨#[]⟩) := by go_cell
    refine bodyPost_ret (v := .tuple #[.agg #[.int .i64 0, .int .i64 0, .string ⟨#[]⟩], .int .i64 8]) (by simp [results, Try.results45, go_sem, q0, q1, q2]) rfl ⟨?_, ?_⟩
    · exact calcRet (calc_E rfl ‹_›)
    · (repeat (first | (with_reducible exact Below.refl _ _) | (refine Below.setCell ?_ (by first | (simp; done) | (simp; omega)) _) | (refine below_through ‹_› (by first | omega | (simp; done) | (simp; omega)) ?_) | (refine Below.alloc ?_ (by first | omega | (simp; done) | (simp; omega)) _)))

set_option maxHeartbeats 1000000 in
theorem calc_4 (ka na kb nb : Int) (sa sb : ByteArray) (w : World) (ha1 : -9223372036854775808 ≤ na) (ha2 : na ≤ 9223372036854775807) (hb1 : -9223372036854775808 ≤ nb) (hb2 : nb ≤ 9223372036854775807) :
    Calls Try.prog 45 #[.int .i64 4, .agg #[.int .i64 ka, .int .i64 na, .string sa], .agg #[.int .i64 kb, .int .i64 nb, .string sb]] w
      fun e w' => e = .returned (.tuple #[.agg #[.int .i64 (cK 4 ka na kb nb), .int .i64 (cN 4 ka na kb nb), .string ⟨#[]⟩], .int .i64 (cE 4 ka na kb nb)]) ∧ Below w.heap.size w w' := by
  have hsm := small_exact 4 na nb ha1 ha2 hb1 hb2
  go_enter Try.func45, Try.ntmps45
  go_wp2_with (first
    | (go_at_call 61; refine (reckons_any _ _ _ _).mono ?_; rintro e w' ⟨rfl, hb⟩; obtain ⟨hc, hf⟩ := below_cells hb; have hz2 : w.heap.size + 1 + 1 < w'.heap.size := (by have := hb.size; (try simp at this); omega); have hz1 : w.heap.size + 1 < w'.heap.size := (by omega); have hz : w.heap.size < w'.heap.size := (by omega))
    | (go_at_call 62; refine (reckon_any _ _ _ _ (by assumption) (by assumption) (by assumption) (by assumption)).mono ?_; rintro e w' ⟨rfl, hb⟩; obtain ⟨hc, hf⟩ := below_cells hb; have hz2 : w.heap.size + 1 + 1 < w'.heap.size := (by have := hb.size; (try simp at this); omega); have hz1 : w.heap.size + 1 < w'.heap.size := (by omega); have hz : w.heap.size < w'.heap.size := (by omega))
    | (go_at_call 63; refine (narrow_any _ _ (by assumption)).mono ?_; rintro e w' ⟨rfl, hb⟩; obtain ⟨hc, hf⟩ := below_cells hb; have hz2 : w.heap.size + 1 + 1 < w'.heap.size := (by have := hb.size; (try simp at this); omega); have hz1 : w.heap.size + 1 < w'.heap.size := (by omega); have hz : w.heap.size < w'.heap.size := (by omega))
    | (go_at_call 64; refine (number_any _ _).mono ?_; rintro e w' ⟨rfl, hb⟩; obtain ⟨hc, hf⟩ := below_cells hb; have hz2 : w.heap.size + 1 + 1 < w'.heap.size := (by have := hb.size; (try simp at this); omega); have hz1 : w.heap.size + 1 < w'.heap.size := (by omega); have hz : w.heap.size < w'.heap.size := (by omega)))
  · have q0 : w'.cell? ⟨w.heap.size + 1 + 1, 0, none⟩ = some (.int .i64 0) := by go_cell
    have q1 : w'.cell? ⟨w.heap.size + 1 + 1, 1, none⟩ = some (.int .i64 0) := by go_cell
    have q2 : w'.cell? ⟨w.heap.size + 1 + 1, 2, none⟩ = some (.string ⟨#[]⟩) := by go_cell
    refine bodyPost_ret (v := .tuple #[.agg #[.int .i64 0, .int .i64 0, .string ⟨#[]⟩], .int .i64 8]) (by simp [results, Try.results45, go_sem, q0, q1, q2]) rfl ⟨?_, ?_⟩
    · exact calcRet (calc_A rfl ‹_›)
    · (repeat (first | (with_reducible exact Below.refl _ _) | (refine Below.setCell ?_ (by first | (simp; done) | (simp; omega)) _) | (refine below_through ‹_› (by first | omega | (simp; done) | (simp; omega)) ?_) | (refine Below.alloc ?_ (by first | omega | (simp; done) | (simp; omega)) _)))
  · have q0 : w'.cell? ⟨w.heap.size + 1 + 1, 0, none⟩ = some (.int .i64 0) := by go_cell
    have q1 : w'.cell? ⟨w.heap.size + 1 + 1, 1, none⟩ = some (.int .i64 0) := by go_cell
    have q2 : w'.cell? ⟨w.heap.size + 1 + 1, 2, none⟩ = some (.string ⟨#[]⟩) := by go_cell
    refine bodyPost_ret (v := .tuple #[.agg #[.int .i64 0, .int .i64 0, .string ⟨#[]⟩], .int .i64 0]) (by simp [results, Try.results45, go_sem, q0, q1, q2]) rfl ⟨?_, ?_⟩
    · exact calcRet (calc_B rfl ‹_› ‹_› ‹_›)
    · (repeat (first | (with_reducible exact Below.refl _ _) | (refine Below.setCell ?_ (by first | (simp; done) | (simp; omega)) _) | (refine below_through ‹_› (by first | omega | (simp; done) | (simp; omega)) ?_) | (refine Below.alloc ?_ (by first | omega | (simp; done) | (simp; omega)) _)))
  · have q0 : w'.cell? ⟨w.heap.size + 1 + 1, 0, none⟩ = some (.int .i64 0) := by go_cell
    have q1 : w'.cell? ⟨w.heap.size + 1 + 1, 1, none⟩ = some (.int .i64 0) := by go_cell
    have q2 : w'.cell? ⟨w.heap.size + 1 + 1, 2, none⟩ = some (.string ⟨#[]⟩) := by go_cell
    refine bodyPost_ret (v := .tuple #[.agg #[.int .i64 0, .int .i64 0, .string ⟨#[]⟩], .int .i64 0]) (by simp [results, Try.results45, go_sem, q0, q1, q2]) rfl ⟨?_, ?_⟩
    · exact calcRet (calc_C rfl ‹_› ‹_› ‹_›)
    · (repeat (first | (with_reducible exact Below.refl _ _) | (refine Below.setCell ?_ (by first | (simp; done) | (simp; omega)) _) | (refine below_through ‹_› (by first | omega | (simp; done) | (simp; omega)) ?_) | (refine Below.alloc ?_ (by first | omega | (simp; done) | (simp; omega)) _)))
  · have q0 : w'.cell? ⟨w.heap.size + 1 + 1, 0, none⟩ = some (.int .i64 0) := by go_cell
    have q1 : w'.cell? ⟨w.heap.size + 1 + 1, 1, none⟩ = some (.int .i64 0) := by go_cell
    have q2 : w'.cell? ⟨w.heap.size + 1 + 1, 2, none⟩ = some (.string ⟨#[]⟩) := by go_cell
    refine bodyPost_ret (v := .tuple #[.agg #[.int .i64 0, .int .i64 0, .string ⟨#[]⟩], .int .i64 12]) (by simp [results, Try.results45, go_sem, q0, q1, q2]) rfl ⟨?_, ?_⟩
    · exact calcRet (calc_D2 rfl ‹_› ‹_› ‹_› (by simpa using ‹(!inR (exact3 4 na nb)) = true›))
    · (repeat (first | (with_reducible exact Below.refl _ _) | (refine Below.setCell ?_ (by first | (simp; done) | (simp; omega)) _) | (refine below_through ‹_› (by first | omega | (simp; done) | (simp; omega)) ?_) | (refine Below.alloc ?_ (by first | omega | (simp; done) | (simp; omega)) _)))
  · have q0 : w'.cell? ⟨w.heap.size + 1 + 1, 0, none⟩ = some (.int .i64 0) := by go_cell
    have q1 : w'.cell? ⟨w.heap.size + 1 + 1, 1, none⟩ = some (.int .i64 0) := by go_cell
    have q2 : w'.cell? ⟨w.heap.size + 1 + 1, 2, none⟩ = some (.string ⟨#[]⟩) := by go_cell
    refine bodyPost_ret (v := .tuple #[.agg #[.int .i64 0, .int .i64 0, .string ⟨#[]⟩], .int .i64 12]) (by simp [results, Try.results45, go_sem, q0, q1, q2]) rfl ⟨?_, ?_⟩
    · exact calcRet (calc_D2 rfl ‹_› ‹_› ‹_› (by simpa using ‹(!inR (exact3 4 na nb)) = true›))
    · (repeat (first | (with_reducible exact Below.refl _ _) | (refine Below.setCell ?_ (by first | (simp; done) | (simp; omega)) _) | (refine below_through ‹_› (by first | omega | (simp; done) | (simp; omega)) ?_) | (refine Below.alloc ?_ (by first | omega | (simp; done) | (simp; omega)) _)))
  · have q0 : w'.cell? ⟨w.heap.size + 1 + 1, 0, none⟩ = some (.int .i64 0) := by go_cell
    have q1 : w'.cell? ⟨w.heap.size + 1 + 1, 1, none⟩ = some (.int .i64 0) := by go_cell
    have q2 : w'.cell? ⟨w.heap.size + 1 + 1, 2, none⟩ = some (.string ⟨#[]⟩) := by go_cell
    refine bodyPost_ret (v := .tuple #[.agg #[.int .i64 1, .int .i64 (exact3 4 na nb), .string ⟨#[]⟩], .int .i64 0]) (by simp [results, Try.results45, go_sem, q0, q1, q2]) rfl ⟨?_, ?_⟩
    · exact calcRet (calc_D1 rfl ‹_› ‹_› ‹_› (by simpa using ‹(!inR (exact3 4 na nb)) = false›))
    · (repeat (first | (with_reducible exact Below.refl _ _) | (refine Below.setCell ?_ (by first | (simp; done) | (simp; omega)) _) | (refine below_through ‹_› (by first | omega | (simp; done) | (simp; omega)) ?_) | (refine Below.alloc ?_ (by first | omega | (simp; done) | (simp; omega)) _)))
  · have hx : inR (exact3 4 na nb) = true := by simpa using ‹(!inR (exact3 4 na nb)) = false›
    first | (exact absurd hx h) | (rw [hx] at h; exact absurd h (by decide)) | (exact absurd hx (by simp [h]))
  · have q0 : w'.cell? ⟨w.heap.size + 1 + 1, 0, none⟩ = some (.int .i64 0) := by go_cell
    have q1 : w'.cell? ⟨w.heap.size + 1 + 1, 1, none⟩ = some (.int .i64 0) := by go_cell
    have q2 : w'.cell? ⟨w.heap.size + 1 + 1, 2, none⟩ = some (.string ⟨#[]⟩) := by go_cell
    refine bodyPost_ret (v := .tuple #[.agg #[.int .i64 0, .int .i64 0, .string ⟨#[]⟩], .int .i64 8]) (by simp [results, Try.results45, go_sem, q0, q1, q2]) rfl ⟨?_, ?_⟩
    · exact calcRet (calc_E rfl ‹_›)
    · (repeat (first | (with_reducible exact Below.refl _ _) | (refine Below.setCell ?_ (by first | (simp; done) | (simp; omega)) _) | (refine below_through ‹_› (by first | omega | (simp; done) | (simp; omega)) ?_) | (refine Below.alloc ?_ (by first | omega | (simp; done) | (simp; omega)) _)))

set_option maxHeartbeats 1000000 in
theorem calc_5 (ka na kb nb : Int) (sa sb : ByteArray) (w : World) (ha1 : -9223372036854775808 ≤ na) (ha2 : na ≤ 9223372036854775807) (hb1 : -9223372036854775808 ≤ nb) (hb2 : nb ≤ 9223372036854775807) :
    Calls Try.prog 45 #[.int .i64 5, .agg #[.int .i64 ka, .int .i64 na, .string sa], .agg #[.int .i64 kb, .int .i64 nb, .string sb]] w
      fun e w' => e = .returned (.tuple #[.agg #[.int .i64 (cK 5 ka na kb nb), .int .i64 (cN 5 ka na kb nb), .string ⟨#[]⟩], .int .i64 (cE 5 ka na kb nb)]) ∧ Below w.heap.size w w' := by
  have hsm := small_exact 5 na nb ha1 ha2 hb1 hb2
  go_enter Try.func45, Try.ntmps45
  go_wp2_with (first
    | (go_at_call 61; refine (reckons_any _ _ _ _).mono ?_; rintro e w' ⟨rfl, hb⟩; obtain ⟨hc, hf⟩ := below_cells hb; have hz2 : w.heap.size + 1 + 1 < w'.heap.size := (by have := hb.size; (try simp at this); omega); have hz1 : w.heap.size + 1 < w'.heap.size := (by omega); have hz : w.heap.size < w'.heap.size := (by omega))
    | (go_at_call 62; refine (reckon_any _ _ _ _ (by assumption) (by assumption) (by assumption) (by assumption)).mono ?_; rintro e w' ⟨rfl, hb⟩; obtain ⟨hc, hf⟩ := below_cells hb; have hz2 : w.heap.size + 1 + 1 < w'.heap.size := (by have := hb.size; (try simp at this); omega); have hz1 : w.heap.size + 1 < w'.heap.size := (by omega); have hz : w.heap.size < w'.heap.size := (by omega))
    | (go_at_call 63; refine (narrow_any _ _ (by assumption)).mono ?_; rintro e w' ⟨rfl, hb⟩; obtain ⟨hc, hf⟩ := below_cells hb; have hz2 : w.heap.size + 1 + 1 < w'.heap.size := (by have := hb.size; (try simp at this); omega); have hz1 : w.heap.size + 1 < w'.heap.size := (by omega); have hz : w.heap.size < w'.heap.size := (by omega))
    | (go_at_call 64; refine (number_any _ _).mono ?_; rintro e w' ⟨rfl, hb⟩; obtain ⟨hc, hf⟩ := below_cells hb; have hz2 : w.heap.size + 1 + 1 < w'.heap.size := (by have := hb.size; (try simp at this); omega); have hz1 : w.heap.size + 1 < w'.heap.size := (by omega); have hz : w.heap.size < w'.heap.size := (by omega)))
  · have q0 : w'.cell? ⟨w.heap.size + 1 + 1, 0, none⟩ = some (.int .i64 0) := by go_cell
    have q1 : w'.cell? ⟨w.heap.size + 1 + 1, 1, none⟩ = some (.int .i64 0) := by go_cell
    have q2 : w'.cell? ⟨w.heap.size + 1 + 1, 2, none⟩ = some (.string ⟨#[]⟩) := by go_cell
    refine bodyPost_ret (v := .tuple #[.agg #[.int .i64 0, .int .i64 0, .string ⟨#[]⟩], .int .i64 8]) (by simp [results, Try.results45, go_sem, q0, q1, q2]) rfl ⟨?_, ?_⟩
    · exact calcRet (calc_A rfl ‹_›)
    · (repeat (first | (with_reducible exact Below.refl _ _) | (refine Below.setCell ?_ (by first | (simp; done) | (simp; omega)) _) | (refine below_through ‹_› (by first | omega | (simp; done) | (simp; omega)) ?_) | (refine Below.alloc ?_ (by first | omega | (simp; done) | (simp; omega)) _)))
  · have q0 : w'.cell? ⟨w.heap.size + 1 + 1, 0, none⟩ = some (.int .i64 0) := by go_cell
    have q1 : w'.cell? ⟨w.heap.size + 1 + 1, 1, none⟩ = some (.int .i64 0) := by go_cell
    have q2 : w'.cell? ⟨w.heap.size + 1 + 1, 2, none⟩ = some (.string ⟨#[]⟩) := by go_cell
    refine bodyPost_ret (v := .tuple #[.agg #[.int .i64 0, .int .i64 0, .string ⟨#[]⟩], .int .i64 0]) (by simp [results, Try.results45, go_sem, q0, q1, q2]) rfl ⟨?_, ?_⟩
    · exact calcRet (calc_B rfl ‹_› ‹_› ‹_›)
    · (repeat (first | (with_reducible exact Below.refl _ _) | (refine Below.setCell ?_ (by first | (simp; done) | (simp; omega)) _) | (refine below_through ‹_› (by first | omega | (simp; done) | (simp; omega)) ?_) | (refine Below.alloc ?_ (by first | omega | (simp; done) | (simp; omega)) _)))
  · have q0 : w'.cell? ⟨w.heap.size + 1 + 1, 0, none⟩ = some (.int .i64 0) := by go_cell
    have q1 : w'.cell? ⟨w.heap.size + 1 + 1, 1, none⟩ = some (.int .i64 0) := by go_cell
    have q2 : w'.cell? ⟨w.heap.size + 1 + 1, 2, none⟩ = some (.string ⟨#[]⟩) := by go_cell
    refine bodyPost_ret (v := .tuple #[.agg #[.int .i64 0, .int .i64 0, .string ⟨#[]⟩], .int .i64 0]) (by simp [results, Try.results45, go_sem, q0, q1, q2]) rfl ⟨?_, ?_⟩
    · exact calcRet (calc_C rfl ‹_› ‹_› ‹_›)
    · (repeat (first | (with_reducible exact Below.refl _ _) | (refine Below.setCell ?_ (by first | (simp; done) | (simp; omega)) _) | (refine below_through ‹_› (by first | omega | (simp; done) | (simp; omega)) ?_) | (refine Below.alloc ?_ (by first | omega | (simp; done) | (simp; omega)) _)))
  · have q0 : w'.cell? ⟨w.heap.size + 1 + 1, 0, none⟩ = some (.int .i64 0) := by go_cell
    have q1 : w'.cell? ⟨w.heap.size + 1 + 1, 1, none⟩ = some (.int .i64 0) := by go_cell
    have q2 : w'.cell? ⟨w.heap.size + 1 + 1, 2, none⟩ = some (.string ⟨#[]⟩) := by go_cell
    refine bodyPost_ret (v := .tuple #[.agg #[.int .i64 0, .int .i64 0, .string ⟨#[]⟩], .int .i64 12]) (by simp [results, Try.results45, go_sem, q0, q1, q2]) rfl ⟨?_, ?_⟩
    · exact calcRet (calc_D2 rfl ‹_› ‹_› ‹_› (by simpa using ‹(!inR (exact3 5 na nb)) = true›))
    · (repeat (first | (with_reducible exact Below.refl _ _) | (refine Below.setCell ?_ (by first | (simp; done) | (simp; omega)) _) | (refine below_through ‹_› (by first | omega | (simp; done) | (simp; omega)) ?_) | (refine Below.alloc ?_ (by first | omega | (simp; done) | (simp; omega)) _)))
  · have q0 : w'.cell? ⟨w.heap.size + 1 + 1, 0, none⟩ = some (.int .i64 0) := by go_cell
    have q1 : w'.cell? ⟨w.heap.size + 1 + 1, 1, none⟩ = some (.int .i64 0) := by go_cell
    have q2 : w'.cell? ⟨w.heap.size + 1 + 1, 2, none⟩ = some (.string ⟨#[]⟩) := by go_cell
    refine bodyPost_ret (v := .tuple #[.agg #[.int .i64 0, .int .i64 0, .string ⟨#[]⟩], .int .i64 12]) (by simp [results, Try.results45, go_sem, q0, q1, q2]) rfl ⟨?_, ?_⟩
    · exact calcRet (calc_D2 rfl ‹_› ‹_› ‹_› (by simpa using ‹(!inR (exact3 5 na nb)) = true›))
    · (repeat (first | (with_reducible exact Below.refl _ _) | (refine Below.setCell ?_ (by first | (simp; done) | (simp; omega)) _) | (refine below_through ‹_› (by first | omega | (simp; done) | (simp; omega)) ?_) | (refine Below.alloc ?_ (by first | omega | (simp; done) | (simp; omega)) _)))
  · have q0 : w'.cell? ⟨w.heap.size + 1 + 1, 0, none⟩ = some (.int .i64 0) := by go_cell
    have q1 : w'.cell? ⟨w.heap.size + 1 + 1, 1, none⟩ = some (.int .i64 0) := by go_cell
    have q2 : w'.cell? ⟨w.heap.size + 1 + 1, 2, none⟩ = some (.string ⟨#[]⟩) := by go_cell
    refine bodyPost_ret (v := .tuple #[.agg #[.int .i64 1, .int .i64 (exact3 5 na nb), .string ⟨#[]⟩], .int .i64 0]) (by simp [results, Try.results45, go_sem, q0, q1, q2]) rfl ⟨?_, ?_⟩
    · exact calcRet (calc_D1 rfl ‹_› ‹_› ‹_› (by simpa using ‹(!inR (exact3 5 na nb)) = false›))
    · (repeat (first | (with_reducible exact Below.refl _ _) | (refine Below.setCell ?_ (by first | (simp; done) | (simp; omega)) _) | (refine below_through ‹_› (by first | omega | (simp; done) | (simp; omega)) ?_) | (refine Below.alloc ?_ (by first | omega | (simp; done) | (simp; omega)) _)))
  · have hx : inR (exact3 5 na nb) = true := by simpa using ‹(!inR (exact3 5 na nb)) = false›
    first | (exact absurd hx h) | (rw [hx] at h; exact absurd h (by decide)) | (exact absurd hx (by simp [h]))
  · have q0 : w'.cell? ⟨w.heap.size + 1 + 1, 0, none⟩ = some (.int .i64 0) := by go_cell
    have q1 : w'.cell? ⟨w.heap.size + 1 + 1, 1, none⟩ = some (.int .i64 0) := by go_cell
    have q2 : w'.cell? ⟨w.heap.size + 1 + 1, 2, none⟩ = some (.string ⟨#[]⟩) := by go_cell
    refine bodyPost_ret (v := .tuple #[.agg #[.int .i64 0, .int .i64 0, .string ⟨#[]⟩], .int .i64 8]) (by simp [results, Try.results45, go_sem, q0, q1, q2]) rfl ⟨?_, ?_⟩
    · exact calcRet (calc_E rfl ‹_›)
    · (repeat (first | (with_reducible exact Below.refl _ _) | (refine Below.setCell ?_ (by first | (simp; done) | (simp; omega)) _) | (refine below_through ‹_› (by first | omega | (simp; done) | (simp; omega)) ?_) | (refine Below.alloc ?_ (by first | omega | (simp; done) | (simp; omega)) _)))

theorem calc_any (op ka na kb nb : Int) (sa sb : ByteArray) (w : World) (ha1 : -9223372036854775808 ≤ na) (ha2 : na ≤ 9223372036854775807) (hb1 : -9223372036854775808 ≤ nb) (hb2 : nb ≤ 9223372036854775807) :
    Calls Try.prog 45 #[.int .i64 op, .agg #[.int .i64 ka, .int .i64 na, .string sa], .agg #[.int .i64 kb, .int .i64 nb, .string sb]] w
      fun e w' => e = .returned (.tuple #[.agg #[.int .i64 (cK op ka na kb nb), .int .i64 (cN op ka na kb nb), .string ⟨#[]⟩], .int .i64 (cE op ka na kb nb)]) ∧ Below w.heap.size w w' := by
  by_cases hop : op = 3 ∨ op = 4 ∨ op = 5
  · rcases hop with rfl | rfl | rfl
    · exact calc_3 ka na kb nb sa sb w ha1 ha2 hb1 hb2
    · exact calc_4 ka na kb nb sa sb w ha1 ha2 hb1 hb2
    · exact calc_5 ka na kb nb sa sb w ha1 ha2 hb1 hb2
  · exact calc_badop op ka na kb nb sa sb w (by simpa [opB] using hop)

end Go.Proofs.Ytolcebbpbihnoaa
