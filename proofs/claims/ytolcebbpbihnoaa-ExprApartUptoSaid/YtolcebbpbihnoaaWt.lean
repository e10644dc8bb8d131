/- Contracts of the reference's Calc and Neg, and of the project's Neg, in whatever memory. Conditions: the numbers lie within 64 bits. -/
import Derived.Test.YtolcebbpbihnoaaWr
namespace Go.Proofs.Ytolcebbpbihnoaa
open Go.RowKit

theorem fits_pos {P : Int} (h0 : 0 ≤ P) (h1 : P < 340282366920938463463374607431768211456) (h : wH P = 0) (g : (wL P : Int) < 9223372036854775808) : inR P = true ∧ (wL P : Int) = P := by
  unfold wH wL at *
  refine ⟨inR_of _ (by omega) (by omega), by omega⟩
theorem fits_not {P : Int} (h0 : 0 ≤ P) (h1 : P < 340282366920938463463374607431768211456) (h : ¬wH P = 0 ∨ 9223372036854775808 ≤ (wL P : Int)) : inR P = false := by
  unfold wH wL at *
  rw [inR, decide_eq_false]
  omega
theorem fits_neg {P : Int} (h0 : 0 ≤ P) (h1 : P < 340282366920938463463374607431768211456) (h : wH P = 0) (g : (wL P : Int) ≤ 9223372036854775808) : inR (-P) = true ∧ wrap64 (IntKind.u64.wrap (-(wL P : Int))) = -P := by
  rw [IntKind.wrap_u64]
  unfold wH wL wrap64 at *
  refine ⟨inR_of _ (by omega) (by omega), by omega⟩
theorem fits_negnot {P : Int} (h0 : 0 ≤ P) (h1 : P < 340282366920938463463374607431768211456) (h : ¬wH P = 0 ∨ 9223372036854775808 < (wL P : Int)) : inR (-P) = false := by
  unfold wH wL at *
  rw [inR, decide_eq_false]
  omega

def fitV (x : Int) : Int := if inR x then x else 0
theorem fitV_in {x : Int} (h : inR x = true) : fitV x = x := by rw [fitV, if_pos h]
theorem fitV_out {x : Int} (h : inR x = false) : fitV x = 0 := by rw [fitV, h]; rfl

theorem ret_in {x a : Int} {b : Bool} (h : inR x = true) (ha : a = x) (hb : b = true) : Ending.returned (.tuple #[.int .i64 a, .bool b]) = .returned (.tuple #[.int .i64 (fitV x), .bool (inR x)]) := by rw [fitV_in h, h, ha, hb]
theorem ret_out {x a : Int} {b : Bool} (h : inR x = false) (ha : a = 0) (hb : b = false) : Ending.returned (.tuple #[.int .i64 a, .bool b]) = .returned (.tuple #[.int .i64 (fitV x), .bool (inR x)]) := by rw [fitV_out h, h, ha, hb]

set_option maxHeartbeats 1000000 in
theorem whole_pos (P : Int) (w : World) (h0 : 0 ≤ P) (h1 : P < 340282366920938463463374607431768211456) :
    Calls Try.prog 49 #[.int .u64 (wH P : Nat), .int .u64 (wL P : Nat), .bool false] w fun e w' => e = .returned (.tuple #[.int .i64 (fitV P), .bool (inR P)]) ∧ w = w' := by
  have K1 := hid0 (@fits_pos P h0 h1)
  have K2 := hid0 (@fits_not P h0 h1)
  clear h0 h1
  go_enter Try.func49, Try.ntmps49
  go_wp2
  · go_ret2
    exact ⟨ret_out (K2.out (.inr (by omega))) rfl rfl, rfl⟩
  · have hk := K1.out ‹_› (by omega)
    go_ret2
    exact ⟨ret_in hk.1 hk.2 rfl, rfl⟩
  · go_ret2
    exact ⟨ret_out (K2.out (.inr (by omega))) rfl rfl, rfl⟩
  · go_ret2
    exact ⟨ret_out (K2.out (.inl ‹_›)) rfl rfl, rfl⟩

set_option maxHeartbeats 1000000 in
theorem whole_neg (P : Int) (w : World) (h0 : 0 ≤ P) (h1 : P < 340282366920938463463374607431768211456) :
    Calls Try.prog 49 #[.int .u64 (wH P : Nat), .int .u64 (wL P : Nat), .bool true] w fun e w' => e = .returned (.tuple #[.int .i64 (fitV (-P)), .bool (inR (-P))]) ∧ w = w' := by
  have K1 := hid0 (@fits_neg P h0 h1)
  have K2 := hid0 (@fits_negnot P h0 h1)
  clear h0 h1
  go_enter Try.func49, Try.ntmps49
  go_wp2
  · have hk := K1.out ‹_› (by omega)
    go_ret2
    refine ⟨ret_in hk.1 ?_ rfl, rfl⟩
    rw [← hk.2, show ((wL P : Nat) : Int) = 9223372036854775808 by assumption]
  · have hk := K1.out ‹_› (by omega)
    go_ret2
    exact ⟨ret_in hk.1 hk.2 rfl, rfl⟩
  · go_ret2
    exact ⟨ret_out (K2.out (.inr ‹_›)) rfl rfl, rfl⟩
  · go_ret2
    exact ⟨ret_out (K2.out (.inl ‹_›)) rfl rfl, rfl⟩
end Go.Proofs.Ytolcebbpbihnoaa
