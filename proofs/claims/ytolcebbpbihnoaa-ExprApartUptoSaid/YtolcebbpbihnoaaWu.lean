/- The contract of the reference's Calc, in whatever memory. Conditions: the numbers lie within 64 bits. -/
import Derived.Test.YtolcebbpbihnoaaWt
import Derived.Deep.RegionHeld3
namespace Go.Proofs.Ytolcebbpbihnoaa
open Go.RowKit

theorem opB_of {op : Int} (h : op = 3 ∨ op = 4 ∨ op = 5) : opB op = true := by simpa [opB] using h

set_option maxHeartbeats 1000000 in
theorem refCalc_badop (op ka na kb nb : Int) (sa sb : ByteArray) (w : World) (hop : opB op = false) :
    Calls Try.prog 25 #[.int .i64 op, .agg #[.int .i64 ka, .int .i64 na, .string sa], .agg #[.int .i64 kb, .int .i64 nb, .string sb]] w
      fun e w' => e = .returned (.tuple #[.agg #[.int .i64 (cK op ka na kb nb), .int .i64 (cN op ka na kb nb), .string ⟨#[]⟩], .int .i64 (cE op ka na kb nb)]) ∧ Below w.heap.size w w' := by
  by_cases hl : op < 3
  · have hd : decide (op < 3) = true := by simpa using hl
    go_enter Try.func25, Try.ntmps25
    go_wp2_with fail
    go_returns
    exact ⟨calcRet (calc_op hop), by go_grown⟩
  · have hg : 5 < op := by simp [opB] at hop; omega
    have hl' : 3 ≤ op := by omega
    clear hl
    go_enter Try.func25, Try.ntmps25
    go_wp2_with fail
    go_returns
    exact ⟨calcRet (calc_op hop), by go_grown⟩

set_option maxHeartbeats 1000000 in
theorem refCalc_kinds (op ka na kb nb : Int) (sa sb : ByteArray) (w : World) (hop : opB op = true) (h3 : 3 ≤ op) (h5 : op ≤ 5) (hk : (ka == 1 && kb == 1) = false) :
    Calls Try.prog 25 #[.int .i64 op, .agg #[.int .i64 ka, .int .i64 na, .string sa], .agg #[.int .i64 kb, .int .i64 nb, .string sb]] w
      fun e w' => e = .returned (.tuple #[.agg #[.int .i64 (cK op ka na kb nb), .int .i64 (cN op ka na kb nb), .string ⟨#[]⟩], .int .i64 (cE op ka na kb nb)]) ∧ Below w.heap.size w w' := by
  have HK := hid0 hk
  have HO := hid0 hop
  clear hk hop
  go_enter Try.func25, Try.ntmps25
  go_wp2_with fail
  · exact absurd HK.out (by simp_all)
  · go_returns
    exact ⟨calcRet (calc_kind HO.out (by simp_all [rk])), by go_grown⟩
  · go_returns
    exact ⟨calcRet (calc_none HO.out (by simp_all [rk]) (by simp_all [rk]) (by simp_all)), by go_grown⟩
  · exact absurd HK.out (by simp_all)
  · go_returns
    exact ⟨calcRet (calc_none HO.out (by simp_all [rk]) (by simp_all [rk]) (by simp_all)), by go_grown⟩
  · go_returns
    exact ⟨calcRet (calc_kind HO.out (by simp_all [rk])), by go_grown⟩
  · go_returns
    exact ⟨calcRet (calc_none HO.out (by simp_all [rk]) (by simp_all [rk]) (by simp_all)), by go_grown⟩
  · go_returns
    exact ⟨calcRet (calc_kind HO.out (by simp_all [rk])), by go_grown⟩

theorem plus_out (x y : Int) (hy1 : -9223372036854775808 ≤ y) (hy2 : y ≤ 9223372036854775807) (h : (!decide (x ≤ wrap64 (x + y)) == decide (0 ≤ y)) = true) : inR (exact3 3 x y) = false := by
  have e : exact3 3 x y = x + y := by simp [exact3]
  rw [e, inR, decide_eq_false]
  intro hr
  have hw : wrap64 (x + y) = x + y := by unfold wrap64; omega
  rw [hw] at h
  by_cases a : x ≤ x + y <;> by_cases b : 0 ≤ y <;> simp [a, b] at h <;> omega
theorem plus_in (x y : Int) (hx1 : -9223372036854775808 ≤ x) (hx2 : x ≤ 9223372036854775807) (hy1 : -9223372036854775808 ≤ y) (hy2 : y ≤ 9223372036854775807) (h : (!decide (x ≤ wrap64 (x + y)) == decide (0 ≤ y)) = false) : inR (exact3 3 x y) = true ∧ wrap64 (x + y) = exact3 3 x y := by
  have e : exact3 3 x y = x + y := by simp [exact3]
  have hr : -9223372036854775808 ≤ x + y ∧ x + y ≤ 9223372036854775807 := by
    unfold wrap64 at h
    by_cases a : x ≤ (x + y + 9223372036854775808) % 18446744073709551616 - 9223372036854775808 <;> by_cases b : 0 ≤ y <;> simp [a, b] at h <;> omega
  rw [e]
  exact ⟨inR_of _ hr.1 hr.2, by unfold wrap64; omega⟩
theorem minus_out (x y : Int) (hy1 : -9223372036854775808 ≤ y) (hy2 : y ≤ 9223372036854775807) (h : (!decide (wrap64 (x - y) ≤ x) == decide (0 ≤ y)) = true) : inR (exact3 4 x y) = false := by
  have e : exact3 4 x y = x - y := by simp [exact3]
  rw [e, inR, decide_eq_false]
  intro hr
  have hw : wrap64 (x - y) = x - y := by unfold wrap64; omega
  rw [hw] at h
  by_cases a : x - y ≤ x <;> by_cases b : 0 ≤ y <;> simp [a, b] at h <;> omega
theorem minus_in (x y : Int) (hx1 : -9223372036854775808 ≤ x) (hx2 : x ≤ 9223372036854775807) (hy1 : -9223372036854775808 ≤ y) (hy2 : y ≤ 9223372036854775807) (h : (!decide (wrap64 (x - y) ≤ x) == decide (0 ≤ y)) = false) : inR (exact3 4 x y) = true ∧ wrap64 (x - y) = exact3 4 x y := by
  have e : exact3 4 x y = x - y := by simp [exact3]
  have hr : -9223372036854775808 ≤ x - y ∧ x - y ≤ 9223372036854775807 := by
    unfold wrap64 at h
    by_cases a : (x - y + 9223372036854775808) % 18446744073709551616 - 9223372036854775808 ≤ x <;> by_cases b : 0 ≤ y <;> simp [a, b] at h <;> omega
  rw [e]
  exact ⟨inR_of _ hr.1 hr.2, by unfold wrap64; omega⟩
theorem prod_bd (na nb : Int) (ha1 : -9223372036854775808 ≤ na) (ha2 : na ≤ 9223372036854775807) (hb1 : -9223372036854775808 ≤ nb) (hb2 : nb ≤ 9223372036854775807) : (na.natAbs : Int) * (nb.natAbs : Int) < 340282366920938463463374607431768211456 := by
  have h := Nat.mul_le_mul (size_le na ha1 ha2) (size_le nb hb1 hb2)
  have h' : ((na.natAbs * nb.natAbs : Nat) : Int) = (na.natAbs : Int) * (nb.natAbs : Int) := Int.natCast_mul _ _
  omega
theorem whole_pos_of (na nb : Int) (ha1 : -9223372036854775808 ≤ na) (ha2 : na ≤ 9223372036854775807) (hb1 : -9223372036854775808 ≤ nb) (hb2 : nb ≤ 9223372036854775807) (w : World) :
    Calls Try.prog 49 #[.int .u64 (wH ((na.natAbs : Int) * (nb.natAbs : Int)) : Nat), .int .u64 (wL ((na.natAbs : Int) * (nb.natAbs : Int)) : Nat), .bool false] w fun e w' => e = .returned (.tuple #[.int .i64 (fitV ((na.natAbs : Int) * (nb.natAbs : Int))), .bool (inR ((na.natAbs : Int) * (nb.natAbs : Int)))]) ∧ w = w' :=
  whole_pos _ w (Int.mul_nonneg (by omega) (by omega)) (prod_bd na nb ha1 ha2 hb1 hb2)
theorem whole_neg_of (na nb : Int) (ha1 : -9223372036854775808 ≤ na) (ha2 : na ≤ 9223372036854775807) (hb1 : -9223372036854775808 ≤ nb) (hb2 : nb ≤ 9223372036854775807) (w : World) :
    Calls Try.prog 49 #[.int .u64 (wH ((na.natAbs : Int) * (nb.natAbs : Int)) : Nat), .int .u64 (wL ((na.natAbs : Int) * (nb.natAbs : Int)) : Nat), .bool true] w fun e w' => e = .returned (.tuple #[.int .i64 (fitV (-((na.natAbs : Int) * (nb.natAbs : Int)))), .bool (inR (-((na.natAbs : Int) * (nb.natAbs : Int))))]) ∧ w = w' :=
  whole_neg _ w (Int.mul_nonneg (by omega) (by omega)) (prod_bd na nb ha1 ha2 hb1 hb2)
theorem calc_yes {op na nb : Int} (h : opB op = true) (hr : inR (exact3 op na nb) = true) {v : Int} (hv : v = exact3 op na nb) : calc3 op 1 na 1 nb = (1, v, 0) := by rw [calc_in h hr, hv]

set_option maxHeartbeats 1000000 in
theorem refCalc_3 (na nb : Int) (sa sb : ByteArray) (w : World) (ha1 : -9223372036854775808 ≤ na) (ha2 : na ≤ 9223372036854775807) (hb1 : -9223372036854775808 ≤ nb) (hb2 : nb ≤ 9223372036854775807) :
    Calls Try.prog 25 #[.int .i64 3, .agg #[.int .i64 1, .int .i64 na, .string sa], .agg #[.int .i64 1, .int .i64 nb, .string sb]] w
      fun e w' => e = .returned (.tuple #[.agg #[.int .i64 (cK 3 1 na 1 nb), .int .i64 (cN 3 1 na 1 nb), .string ⟨#[]⟩], .int .i64 (cE 3 1 na 1 nb)]) ∧ Below w.heap.size w w' := by
  have K1 := hid0 (plus_out na nb hb1 hb2)
  have K2 := hid0 (plus_in na nb ha1 ha2 hb1 hb2)
  go_enter Try.func25, Try.ntmps25
  go_wp2_with fail
  go_region
  go_wp2_with (go_at_call 50; refine (refInt_any _ _).mono ?_; rintro e w' ⟨rfl, hb⟩; obtain ⟨hc, hf⟩ := below_cells hb; have hz2 : w.heap.size + 1 + 1 < w'.heap.size := (by have := hb.size; (try simp at this); omega))
  · go_returns
    exact ⟨calcRet (calc_out rfl (K1.out ‹_›)), by (repeat (first | (with_reducible exact Below.refl _ _) | (refine Below.setCell ?_ (by first | (simp; done) | (simp; omega)) _) | (refine below_through ‹_› (by first | omega | (simp; done) | (simp; omega)) ?_) | (refine Below.drew ?_) | (refine Below.alloc ?_ (by first | omega | (simp; done) | (simp; omega)) _)))⟩
  · have q0 : w'.cell? ⟨w.heap.size + 1 + 1, 0, none⟩ = some (.int .i64 0) := by go_cell
    have q1 : w'.cell? ⟨w.heap.size + 1 + 1, 1, none⟩ = some (.int .i64 0) := by go_cell
    have q2 : w'.cell? ⟨w.heap.size + 1 + 1, 2, none⟩ = some (.string ⟨#[]⟩) := by go_cell
    have hk := K2.out ‹_›
    refine bodyPost_ret (v := .tuple #[.agg #[.int .i64 1, .int .i64 (wrap64 (na + nb)), .string ⟨#[]⟩], .int .i64 0]) (by simp [results, Try.results25, go_sem, q0, q1, q2]) rfl ⟨?_, ?_⟩
    · exact calcRet (calc_yes rfl hk.1 hk.2)
    · (repeat (first | (with_reducible exact Below.refl _ _) | (refine Below.setCell ?_ (by first | (simp; done) | (simp; omega)) _) | (refine below_through ‹_› (by first | omega | (simp; done) | (simp; omega)) ?_) | (refine Below.drew ?_) | (refine Below.alloc ?_ (by first | omega | (simp; done) | (simp; omega)) _)))

set_option maxHeartbeats 1000000 in
theorem refCalc_4 (na nb : Int) (sa sb : ByteArray) (w : World) (ha1 : -9223372036854775808 ≤ na) (ha2 : na ≤ 9223372036854775807) (hb1 : -9223372036854775808 ≤ nb) (hb2 : nb ≤ 9223372036854775807) :
    Calls Try.prog 25 #[.int .i64 4, .agg #[.int .i64 1, .int .i64 na, .string sa], .agg #[.int .i64 1, .int .i64 nb, .string sb]] w
      fun e w' => e = .returned (.tuple #[.agg #[.int .i64 (cK 4 1 na 1 nb), .int .i64 (cN 4 1 na 1 nb), .string ⟨#[]⟩], .int .i64 (cE 4 1 na 1 nb)]) ∧ Below w.heap.size w w' := by
  have K1 := hid0 (minus_out na nb hb1 hb2)
  have K2 := hid0 (minus_in na nb ha1 ha2 hb1 hb2)
  go_enter Try.func25, Try.ntmps25
  go_wp2_with fail
  go_region
  go_wp2_with (go_at_call 50; refine (refInt_any _ _).mono ?_; rintro e w' ⟨rfl, hb⟩; obtain ⟨hc, hf⟩ := below_cells hb; have hz2 : w.heap.size + 1 + 1 < w'.heap.size := (by have := hb.size; (try simp at this); omega))
  · go_returns
    exact ⟨calcRet (calc_out rfl (K1.out ‹_›)), by (repeat (first | (with_reducible exact Below.refl _ _) | (refine Below.setCell ?_ (by first | (simp; done) | (simp; omega)) _) | (refine below_through ‹_› (by first | omega | (simp; done) | (simp; omega)) ?_) | (refine Below.drew ?_) | (refine Below.alloc ?_ (by first | omega | (simp; done) | (simp; omega)) _)))⟩
  · have q0 : w'.cell? ⟨w.heap.size + 1 + 1, 0, none⟩ = some (.int .i64 0) := by go_cell
    have q1 : w'.cell? ⟨w.heap.size + 1 + 1, 1, none⟩ = some (.int .i64 0) := by go_cell
    have q2 : w'.cell? ⟨w.heap.size + 1 + 1, 2, none⟩ = some (.string ⟨#[]⟩) := by go_cell
    have hk := K2.out ‹_›
    refine bodyPost_ret (v := .tuple #[.agg #[.int .i64 1, .int .i64 (wrap64 (na - nb)), .string ⟨#[]⟩], .int .i64 0]) (by simp [results, Try.results25, go_sem, q0, q1, q2]) rfl ⟨?_, ?_⟩
    · exact calcRet (calc_yes rfl hk.1 hk.2)
    · (repeat (first | (with_reducible exact Below.refl _ _) | (refine Below.setCell ?_ (by first | (simp; done) | (simp; omega)) _) | (refine below_through ‹_› (by first | omega | (simp; done) | (simp; omega)) ?_) | (refine Below.drew ?_) | (refine Below.alloc ?_ (by first | omega | (simp; done) | (simp; omega)) _)))

set_option maxHeartbeats 1000000 in
theorem refCalc_5pos (na nb : Int) (sa sb : ByteArray) (w : World) (ha1 : -9223372036854775808 ≤ na) (ha2 : na ≤ 9223372036854775807) (hb1 : -9223372036854775808 ≤ nb) (hb2 : nb ≤ 9223372036854775807) (hn : (!decide (na < 0) == decide (nb < 0)) = false) :
    Calls Try.prog 25 #[.int .i64 5, .agg #[.int .i64 1, .int .i64 na, .string sa], .agg #[.int .i64 1, .int .i64 nb, .string sb]] w
      fun e w' => e = .returned (.tuple #[.agg #[.int .i64 (cK 5 1 na 1 nb), .int .i64 (cN 5 1 na 1 nb), .string ⟨#[]⟩], .int .i64 (cE 5 1 na 1 nb)]) ∧ Below w.heap.size w w' := by
  have hP : ((na.natAbs : Int) * (nb.natAbs : Int)) = exact3 5 na nb := by rw [prod_alike na nb hn]; simp [exact3]
  have HP := hid0 hP
  have W := whole_pos_of na nb ha1 ha2 hb1 hb2
  have sa' := size_lt na ha1 ha2
  have sb' := size_lt nb hb1 hb2
  clear hP
  go_enter Try.func25, Try.ntmps25
  go_wp2_with fail
  go_region
  go_wp2_with (first
    | (go_at_call 48; refine (refSize_any _ _ (by first | exact ha1 | exact hb1) (by first | exact ha2 | exact hb2)).mono ?_; rintro e w' ⟨rfl, rfl⟩)
    | (go_at_call 47; refine (mul_any _ _ _ sa' sb').mono ?_; rintro e w' ⟨rfl, rfl⟩)
    | (go_at_call 49; refine (W _).mono ?_; rintro e w' ⟨rfl, rfl⟩)
    | (go_at_call 50; refine (refInt_any _ _).mono ?_; rintro e w' ⟨rfl, hb⟩; obtain ⟨hc, hf⟩ := below_cells hb; have hz2 : w.heap.size + 1 + 1 < w'.heap.size := (by have := hb.size; (try simp at this); omega)))
  · have hr : inR (exact3 5 na nb) = false := by rw [← HP.out]; simpa using ‹(!inR ((na.natAbs : Int) * (nb.natAbs : Int))) = true›
    go_returns
    exact ⟨calcRet (calc_out rfl hr), by (repeat (first | (with_reducible exact Below.refl _ _) | (refine Below.setCell ?_ (by first | (simp; done) | (simp; omega)) _) | (refine below_through ‹_› (by first | omega | (simp; done) | (simp; omega)) ?_) | (refine Below.drew ?_) | (refine Below.alloc ?_ (by first | omega | (simp; done) | (simp; omega)) _)))⟩
  · have hr : inR ((na.natAbs : Int) * (nb.natAbs : Int)) = true := by simpa using ‹(!inR ((na.natAbs : Int) * (nb.natAbs : Int))) = false›
    have q0 : w'.cell? ⟨w.heap.size + 1 + 1, 0, none⟩ = some (.int .i64 0) := by go_cell
    have q1 : w'.cell? ⟨w.heap.size + 1 + 1, 1, none⟩ = some (.int .i64 0) := by go_cell
    have q2 : w'.cell? ⟨w.heap.size + 1 + 1, 2, none⟩ = some (.string ⟨#[]⟩) := by go_cell
    refine bodyPost_ret (v := .tuple #[.agg #[.int .i64 1, .int .i64 (fitV ((na.natAbs : Int) * (nb.natAbs : Int))), .string ⟨#[]⟩], .int .i64 0]) (by simp [results, Try.results25, go_sem, q0, q1, q2]) rfl ⟨?_, ?_⟩
    · exact calcRet (calc_yes rfl (by rw [← HP.out]; exact hr) (by rw [fitV_in hr, HP.out]))
    · (repeat (first | (with_reducible exact Below.refl _ _) | (refine Below.setCell ?_ (by first | (simp; done) | (simp; omega)) _) | (refine below_through ‹_› (by first | omega | (simp; done) | (simp; omega)) ?_) | (refine Below.drew ?_) | (refine Below.alloc ?_ (by first | omega | (simp; done) | (simp; omega)) _)))

set_option maxHeartbeats 1000000 in
theorem refCalc_5neg (na nb : Int) (sa sb : ByteArray) (w : World) (ha1 : -9223372036854775808 ≤ na) (ha2 : na ≤ 9223372036854775807) (hb1 : -9223372036854775808 ≤ nb) (hb2 : nb ≤ 9223372036854775807) (hn : (!decide (na < 0) == decide (nb < 0)) = true) :
    Calls Try.prog 25 #[.int .i64 5, .agg #[.int .i64 1, .int .i64 na, .string sa], .agg #[.int .i64 1, .int .i64 nb, .string sb]] w
      fun e w' => e = .returned (.tuple #[.agg #[.int .i64 (cK 5 1 na 1 nb), .int .i64 (cN 5 1 na 1 nb), .string ⟨#[]⟩], .int .i64 (cE 5 1 na 1 nb)]) ∧ Below w.heap.size w w' := by
  have hP : (-((na.natAbs : Int) * (nb.natAbs : Int))) = exact3 5 na nb := by rw [prod_unlike na nb hn]; simp [exact3]
  have HP := hid0 hP
  have W := whole_neg_of na nb ha1 ha2 hb1 hb2
  have sa' := size_lt na ha1 ha2
  have sb' := size_lt nb hb1 hb2
  clear hP
  go_enter Try.func25, Try.ntmps25
  go_wp2_with fail
  go_region
  go_wp2_with (first
    | (go_at_call 48; refine (refSize_any _ _ (by first | exact ha1 | exact hb1) (by first | exact ha2 | exact hb2)).mono ?_; rintro e w' ⟨rfl, rfl⟩)
    | (go_at_call 47; refine (mul_any _ _ _ sa' sb').mono ?_; rintro e w' ⟨rfl, rfl⟩)
    | (go_at_call 49; refine (W _).mono ?_; rintro e w' ⟨rfl, rfl⟩)
    | (go_at_call 50; refine (refInt_any _ _).mono ?_; rintro e w' ⟨rfl, hb⟩; obtain ⟨hc, hf⟩ := below_cells hb; have hz2 : w.heap.size + 1 + 1 < w'.heap.size := (by have := hb.size; (try simp at this); omega)))
  · have hr : inR (exact3 5 na nb) = false := by rw [← HP.out]; simpa using ‹(!inR (-((na.natAbs : Int) * (nb.natAbs : Int)))) = true›
    go_returns
    exact ⟨calcRet (calc_out rfl hr), by (repeat (first | (with_reducible exact Below.refl _ _) | (refine Below.setCell ?_ (by first | (simp; done) | (simp; omega)) _) | (refine below_through ‹_› (by first | omega | (simp; done) | (simp; omega)) ?_) | (refine Below.drew ?_) | (refine Below.alloc ?_ (by first | omega | (simp; done) | (simp; omega)) _)))⟩
  · have hr : inR (-((na.natAbs : Int) * (nb.natAbs : Int))) = true := by simpa using ‹(!inR (-((na.natAbs : Int) * (nb.natAbs : Int)))) = false›
    have q0 : w'.cell? ⟨w.heap.size + 1 + 1, 0, none⟩ = some (.int .i64 0) := by go_cell
    have q1 : w'.cell? ⟨w.heap.size + 1 + 1, 1, none⟩ = some (.int .i64 0) := by go_cell
    have q2 : w'.cell? ⟨w.heap.size + 1 + 1, 2, none⟩ = some (.string ⟨#[]⟩) := by go_cell
    refine bodyPost_ret (v := .tuple #[.agg #[.int .i64 1, .int .i64 (fitV (-((na.natAbs : Int) * (nb.natAbs : Int)))), .string ⟨#[]⟩], .int .i64 0]) (by simp [results, Try.results25, go_sem, q0, q1, q2]) rfl ⟨?_, ?_⟩
    · exact calcRet (calc_yes rfl (by rw [← HP.out]; exact hr) (by rw [fitV_in hr, HP.out]))
    · (repeat (first | (with_reducible exact Below.refl _ _) | (refine Below.setCell ?_ (by first | (simp; done) | (simp; omega)) _) | (refine below_through ‹_› (by first | omega | (simp; done) | (simp; omega)) ?_) | (refine Below.drew ?_) | (refine Below.alloc ?_ (by first | omega | (simp; done) | (simp; omega)) _)))

theorem refCalc_any (op ka na kb nb : Int) (sa sb : ByteArray) (w : World) (ha1 : -9223372036854775808 ≤ na) (ha2 : na ≤ 9223372036854775807) (hb1 : -9223372036854775808 ≤ nb) (hb2 : nb ≤ 9223372036854775807) :
    Calls Try.prog 25 #[.int .i64 op, .agg #[.int .i64 ka, .int .i64 na, .string sa], .agg #[.int .i64 kb, .int .i64 nb, .string sb]] w
      fun e w' => e = .returned (.tuple #[.agg #[.int .i64 (cK op ka na kb nb), .int .i64 (cN op ka na kb nb), .string ⟨#[]⟩], .int .i64 (cE op ka na kb nb)]) ∧ Below w.heap.size w w' := by
  cases hop : opB op with
  | false => exact refCalc_badop op ka na kb nb sa sb w hop
  | true =>
    have ho : op = 3 ∨ op = 4 ∨ op = 5 := by simpa [opB] using hop
    cases hk : (ka == 1 && kb == 1) with
    | false => exact refCalc_kinds op ka na kb nb sa sb w hop (by omega) (by omega) hk
    | true =>
      simp only [Bool.and_eq_true, beq_iff_eq] at hk
      obtain ⟨rfl, rfl⟩ := hk
      rcases ho with rfl | rfl | rfl
      · exact refCalc_3 na nb sa sb w ha1 ha2 hb1 hb2
      · exact refCalc_4 na nb sa sb w ha1 ha2 hb1 hb2
      · cases hn : (!decide (na < 0) == decide (nb < 0)) with
        | false => exact refCalc_5pos na nb sa sb w ha1 ha2 hb1 hb2 hn
        | true => exact refCalc_5neg na nb sa sb w ha1 ha2 hb1 hb2 hn
end Go.Proofs.Ytolcebbpbihnoaa
