/- Plain arithmetic of a whole number in two words of 64 bits, and what a sum, a difference or a product comes to. Conditions: each lemma names its own. -/
import Derived.RowKit
import Derived.Laws.Bits64
namespace Go.Proofs.Ytolcebbpbihnoaa
open Go.RowKit

def wH (x : Int) : Nat := (x % 340282366920938463463374607431768211456).toNat / 18446744073709551616
def wL (x : Int) : Nat := (x % 340282366920938463463374607431768211456).toNat % 18446744073709551616

theorem wH_widen (n : Int) (h1 : -9223372036854775808 ≤ n) (h2 : n ≤ 9223372036854775807) : IntKind.u64.wrap (n / 9223372036854775808) = ((wH n : Nat) : Int) := by
  rw [IntKind.wrap_u64]; unfold wH; omega
theorem wL_widen (n : Int) : IntKind.u64.wrap n = ((wL n : Nat) : Int) := by
  rw [IntKind.wrap_u64]; unfold wL; omega
theorem wL_lt (x : Int) : wL x < 18446744073709551616 := by unfold wL; omega
theorem wH_lt (x : Int) : wH x < 18446744073709551616 := by unfold wH; omega
theorem wH_zero : wH 0 = 0 := rfl
theorem wL_zero : wL 0 = 0 := rfl
theorem wL_add (x y : Int) : (wL x + wL y + 0) % 18446744073709551616 = wL (x + y) := by unfold wL; omega
theorem wH_add (x y : Int) : (wH x + wH y + (wL x + wL y + 0) / 18446744073709551616) % 18446744073709551616 = wH (x + y) := by unfold wL wH; omega
theorem wL_sub (x y : Int) : (wL x + 18446744073709551616 - wL y - 0) % 18446744073709551616 = wL (x - y) := by unfold wL; omega
theorem wH_sub (x y : Int) : (wH x + 18446744073709551616 - wH y - (if wL x < wL y + 0 then 1 else 0)) % 18446744073709551616 = wH (x - y) := by
  unfold wL wH
  split <;> omega
theorem wL_mul (a b : Nat) (ha : a < 18446744073709551616) (hb : b < 18446744073709551616) : a * b % 18446744073709551616 = wL ((a * b : Nat) : Int) := by
  have h : a * b ≤ 18446744073709551615 * 18446744073709551615 := Nat.mul_le_mul (by omega) (by omega)
  unfold wL; omega
theorem wH_mul (a b : Nat) (ha : a < 18446744073709551616) (hb : b < 18446744073709551616) : a * b / 18446744073709551616 = wH ((a * b : Nat) : Int) := by
  have h : a * b ≤ 18446744073709551615 * 18446744073709551615 := Nat.mul_le_mul (by omega) (by omega)
  unfold wH; omega

def inR (x : Int) : Bool := decide (-9223372036854775808 ≤ x ∧ x ≤ 9223372036854775807)
def small (x : Int) : Prop := -85070591730234615865843651857942052864 ≤ x ∧ x ≤ 85070591730234615865843651857942052864
theorem inR_of (x : Int) (h1 : -9223372036854775808 ≤ x) (h2 : x ≤ 9223372036854775807) : inR x = true := by simp [inR, h1, h2]
theorem inR_bd {x : Int} (h : inR x = true) : -9223372036854775808 ≤ x ∧ x ≤ 9223372036854775807 := by simpa [inR] using h

theorem sign_word (l : Nat) (h : l < 18446744073709551616) : (wrap64 (l : Int) / 9223372036854775808) % 18446744073709551616 = if l < 9223372036854775808 then 0 else 18446744073709551615 := by
  unfold wrap64
  split <;> omega
theorem narrow_test (x : Int) (h : small x) : (((wH x : Nat) : Int) != IntKind.u64.wrap (wrap64 ((wL x : Nat) : Int) / 9223372036854775808)) = !inR x := by
  obtain ⟨h1, h2⟩ := h
  rw [IntKind.wrap_u64, sign_word _ (wL_lt x)]
  by_cases hr : -9223372036854775808 ≤ x ∧ x ≤ 9223372036854775807
  · have e : ((wH x : Nat) : Int) = if wL x < 9223372036854775808 then 0 else 18446744073709551615 := by unfold wH wL; split <;> omega
    rw [inR, decide_eq_true hr, e]; simp
  · have e : ((wH x : Nat) : Int) ≠ if wL x < 9223372036854775808 then 0 else 18446744073709551615 := by unfold wH wL; split <;> omega
    rw [inR, decide_eq_false hr]; simpa using e
theorem narrow_value (x : Int) (h : inR x = true) : wrap64 ((wL x : Nat) : Int) = x := by
  have := inR_bd h
  unfold wL wrap64; omega

theorem size_neg (n : Int) (h1 : -9223372036854775808 ≤ n) (h : n < 0) : IntKind.u64.wrap (-IntKind.u64.wrap n) = ((n.natAbs : Nat) : Int) := by
  rw [IntKind.wrap_u64, IntKind.wrap_u64]; omega
theorem size_pos (n : Int) (h : 0 ≤ n) : n = ((n.natAbs : Nat) : Int) := by omega
theorem size_lt (n : Int) (h1 : -9223372036854775808 ≤ n) (h2 : n ≤ 9223372036854775807) : n.natAbs < 18446744073709551616 := by omega
theorem size_le (n : Int) (h1 : -9223372036854775808 ≤ n) (h2 : n ≤ 9223372036854775807) : n.natAbs ≤ 9223372036854775808 := by omega

theorem natAbs_mul' (a b : Int) : (a.natAbs : Int) * (b.natAbs : Int) = ((a * b).natAbs : Int) := by rw [Int.natAbs_mul, Int.natCast_mul]
theorem prod_unlike (a b : Int) (h : (!decide (a < 0) == decide (b < 0)) = true) : -((a.natAbs : Int) * (b.natAbs : Int)) = a * b := by
  rw [natAbs_mul']
  by_cases ha : a < 0 <;> by_cases hb : b < 0 <;> simp [ha, hb] at h
  · have := Int.mul_nonpos_of_nonpos_of_nonneg (a := a) (b := b) (by omega) (by omega); omega
  · have := Int.mul_nonpos_of_nonneg_of_nonpos (a := a) (b := b) (by omega) (by omega); omega
theorem prod_alike (a b : Int) (h : (!decide (a < 0) == decide (b < 0)) = false) : (a.natAbs : Int) * (b.natAbs : Int) = a * b := by
  rw [natAbs_mul']
  by_cases ha : a < 0 <;> by_cases hb : b < 0 <;> simp [ha, hb] at h
  · have := Int.mul_nonneg_of_nonpos_of_nonpos (a := a) (b := b) (by omega) (by omega); omega
  · have := Int.mul_nonneg (a := a) (b := b) (by omega) (by omega); omega

def exact3 (op a b : Int) : Int := if op = 3 then a + b else if op = 4 then a - b else a * b
theorem exact3_add {op : Int} (a b : Int) (h : (op == 3) = true) : exact3 op a b = a + b := by simp at h; simp [exact3, h]
theorem exact3_sub {op : Int} (a b : Int) (h : (op == 4) = true) : exact3 op a b = a - b := by simp at h; simp [exact3, h]
theorem exact3_mul {op : Int} (a b : Int) (h : (op == 3) = false) (g : (op == 4) = false) : exact3 op a b = a * b := by simp at h g; simp [exact3, h, g]
theorem small_exact (op a b : Int) (ha1 : -9223372036854775808 ≤ a) (ha2 : a ≤ 9223372036854775807) (hb1 : -9223372036854775808 ≤ b) (hb2 : b ≤ 9223372036854775807) : small (exact3 op a b) := by
  have h : a.natAbs * b.natAbs ≤ 9223372036854775808 * 9223372036854775808 := Nat.mul_le_mul (by omega) (by omega)
  rw [← Int.natAbs_mul] at h
  unfold exact3 small
  split
  · omega
  · split <;> omega

def rk (k : Int) : Bool := decide (k = 1 ∨ k = 0)

/-- What a reckoning of two values comes to: the kind, the number, the error. -/
def calc3 (op ka na kb nb : Int) : Int × Int × Int :=
  if op = 3 ∨ op = 4 ∨ op = 5 then
    (if (ka = 1 ∨ ka = 0) ∧ (kb = 1 ∨ kb = 0) then
      (if ka = 0 ∨ kb = 0 then (0, 0, 0) else if inR (exact3 op na nb) then (1, exact3 op na nb, 0) else (0, 0, 12))
     else (0, 0, 8))
  else (0, 0, 1)
def cK (op ka na kb nb : Int) : Int := (calc3 op ka na kb nb).1
def cN (op ka na kb nb : Int) : Int := (calc3 op ka na kb nb).2.1
def cE (op ka na kb nb : Int) : Int := (calc3 op ka na kb nb).2.2
def opB (op : Int) : Bool := decide (op = 3 ∨ op = 4 ∨ op = 5)
theorem calc_op {op ka na kb nb : Int} (h : opB op = false) : calc3 op ka na kb nb = (0, 0, 1) := by simp [opB] at h; simp [calc3, h]
theorem calc_kind {op ka na kb nb : Int} (h : opB op = true) (g : (rk ka && rk kb) = false) : calc3 op ka na kb nb = (0, 0, 8) := by
  simp [opB] at h
  have g' : ¬((ka = 1 ∨ ka = 0) ∧ (kb = 1 ∨ kb = 0)) := by
    intro hh; simp [rk, hh] at g
  simp only [calc3, if_pos h, if_neg g']
theorem calc_none {op ka na kb nb : Int} (h : opB op = true) (g1 : rk ka = true) (g2 : rk kb = true) (hz : ka = 0 ∨ kb = 0) : calc3 op ka na kb nb = (0, 0, 0) := by
  simp [opB] at h; simp [rk] at g1 g2
  simp only [calc3, if_pos h, if_pos (And.intro g1 g2), if_pos hz]
theorem calc_in {op na nb : Int} (h : opB op = true) (hr : inR (exact3 op na nb) = true) : calc3 op 1 na 1 nb = (1, exact3 op na nb, 0) := by
  simp [opB] at h
  simp [calc3, h, hr]
theorem calc_out {op na nb : Int} (h : opB op = true) (hr : inR (exact3 op na nb) = false) : calc3 op 1 na 1 nb = (0, 0, 12) := by
  simp [opB] at h
  simp [calc3, h, hr]
theorem calc_A {op ka na kb nb : Int} (h : opB op = true) (a : (!rk kb) = true) : calc3 op ka na kb nb = (0, 0, 8) := calc_kind h (by simp at a; simp [a])
theorem calc_E {op ka na kb nb : Int} (h : opB op = true) (a : ¬rk ka = true) : calc3 op ka na kb nb = (0, 0, 8) := calc_kind h (by simp at a; simp [a])
theorem calc_B {op ka na kb nb : Int} (h : opB op = true) (a : rk ka = true) (b : (!rk kb) = false) (c : ka = 0) : calc3 op ka na kb nb = (0, 0, 0) := calc_none h a (by simpa using b) (.inl c)
theorem calc_C {op ka na kb nb : Int} (h : opB op = true) (a : rk ka = true) (b : (!rk kb) = false) (c : (ka == 0) = true ∨ (kb == 0) = true) : calc3 op ka na kb nb = (0, 0, 0) := calc_none h a (by simpa using b) (by simpa using c)
theorem calc_D1 {op ka na kb nb : Int} (h : opB op = true) (a : rk ka = true) (b : (!rk kb) = false) (c : (ka == 0) = false ∧ (kb == 0) = false) (d : inR (exact3 op na nb) = true) : calc3 op ka na kb nb = (1, exact3 op na nb, 0) := by
  simp [rk] at a b c
  have e1 : ka = 1 := by omega
  have e2 : kb = 1 := by omega
  rw [e1, e2]; exact calc_in h d
theorem calc_D2 {op ka na kb nb : Int} (h : opB op = true) (a : rk ka = true) (b : (!rk kb) = false) (c : (ka == 0) = false ∧ (kb == 0) = false) (d : inR (exact3 op na nb) = false) : calc3 op ka na kb nb = (0, 0, 12) := by
  simp [rk] at a b c
  have e1 : ka = 1 := by omega
  have e2 : kb = 1 := by omega
  rw [e1, e2]; exact calc_out h d
end Go.Proofs.Ytolcebbpbihnoaa
