/- Layer 2's plain parts: what Turn, Other, Not, And and Or, and the reference's, answer, as plain functions: contracts of the calls, in whatever memory. Conditions: a list's cells are known (what came in reads so). -/
import Derived.Test.YtolcebbpbihnoaaWa
namespace Go.Proofs.Ytolcebbpbihnoaa
open Go.RowKit

def tv (b : Bool) : Int := if b then 2 else 0
def knownV (t : Int) : Int := if t = 0 ∨ t = 2 then t else 1
def notV (t : Int) : Int := 2 - knownV t
def turnV (op : Int) : Int := if op = 1 ∨ op = 2 then op else if op = 3 then 5 else if op = 4 then 6 else if op = 5 then 3 else if op = 6 then 4 else 0
def otherV (op : Int) : Int := if op = 1 then 2 else if op = 2 then 1 else if op = 3 then 6 else if op = 4 then 5 else if op = 5 then 4 else if op = 6 then 3 else 0

theorem knownV_cases (t : Int) : knownV t = 0 ∨ knownV t = 1 ∨ knownV t = 2 := by unfold knownV; split <;> omega
theorem notV_cases (t : Int) : notV t = 0 ∨ notV t = 1 ∨ notV t = 2 := by have := knownV_cases t; unfold notV; omega
theorem known_known (t : Int) : knownV (knownV t) = knownV t := by
  rcases knownV_cases t with h | h | h <;> rw [h] <;> rfl
theorem known_not (t : Int) : knownV (notV t) = notV t := by
  rcases notV_cases t with h | h | h <;> rw [h] <;> rfl
theorem not_eq (t : Int) : notV t = 2 - knownV t := rfl

set_option maxHeartbeats 400000 in
theorem truth_any (b : Bool) (w : World) :
    Calls Try.prog 54 #[.bool b] w fun e w' => e = .returned (.int .i64 (tv b)) ∧ w = w' := by
  go_enter Try.func54, Try.ntmps54
  go_wp2
  all_goals
    go_returns
    refine ⟨ret_i64 (by simp_all [tv]), rfl⟩

set_option maxHeartbeats 400000 in
theorem known_any (t : Int) (w : World) :
    Calls Try.prog 55 #[.int .i64 t] w fun e w' => e = .returned (.int .i64 (knownV t)) ∧ w = w' := by
  go_enter Try.func55, Try.ntmps55
  go_wp2
  all_goals
    go_returns
    refine ⟨ret_i64 (by simp_all [knownV]), rfl⟩

set_option maxHeartbeats 400000 in
theorem clamp_any (t : Int) (w : World) :
    Calls Try.prog 59 #[.int .i64 t] w fun e w' => e = .returned (.int .i64 (knownV t)) ∧ w = w' := by
  go_enter Try.func59, Try.ntmps59
  go_wp2
  all_goals
    go_returns
    refine ⟨ret_i64 (by unfold knownV; split <;> omega), rfl⟩

set_option maxHeartbeats 400000 in
theorem not_any (t : Int) (w : World) :
    Calls Try.prog 33 #[.int .i64 t] w fun e w' => e = .returned (.int .i64 (notV t)) ∧ w = w' := by
  have hk := knownV_cases t
  go_enter Try.func33, Try.ntmps33
  go_wp2_with (go_at_call 55; refine (known_any _ _).mono ?_; rintro e w' ⟨rfl, rfl⟩)
  go_returns
  exact ⟨ret_i64 (by first | rfl | (unfold notV; omega)), rfl⟩

set_option maxHeartbeats 400000 in
theorem refNot_any (t : Int) (w : World) :
    Calls Try.prog 41 #[.int .i64 t] w fun e w' => e = .returned (.int .i64 (notV t)) ∧ w = w' := by
  have hk := knownV_cases t
  go_enter Try.func41, Try.ntmps41
  go_wp2_with (go_at_call 59; refine (clamp_any _ _).mono ?_; rintro e w' ⟨rfl, rfl⟩)
  go_returns
  exact ⟨ret_i64 (by first | rfl | (unfold notV; omega)), rfl⟩

end Go.Proofs.Ytolcebbpbihnoaa
