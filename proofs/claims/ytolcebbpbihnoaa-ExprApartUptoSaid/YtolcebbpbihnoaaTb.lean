/- And and Or, and the reference's: contracts of the calls, in whatever memory. Conditions: a list's cells are known (what came in reads so, and what a call has made itself). -/
import Derived.Test.YtolcebbpbihnoaaTa
import Derived.Test.YtolcebbpbihnoaaLa
import Derived.Deep.RegionHeld3
namespace Go.Proofs.Ytolcebbpbihnoaa
open Go.RowKit

def andV (l : List Int) : Int := l.foldl (fun m t => min m (knownV t)) 2
def orV (l : List Int) : Int := l.foldl (fun m t => max m (knownV t)) 0

theorem andV_snoc (l : List Int) (t : Int) : andV (l ++ [t]) = min (andV l) (knownV t) := by simp [andV]
theorem orV_snoc (l : List Int) (t : Int) : orV (l ++ [t]) = max (orV l) (knownV t) := by simp [orV]
theorem take_snoc (l : List Int) (k : Nat) (h : k < l.length) : l.take (k + 1) = l.take k ++ [l[k]] := by rw [List.take_succ_eq_append_getElem h]
theorem andV_next (l : List Int) (k : Nat) (h : k < l.length) : andV (l.take (k + 1)) = min (andV (l.take k)) (knownV l[k]) := by rw [take_snoc l k h, andV_snoc]
theorem orV_next (l : List Int) (k : Nat) (h : k < l.length) : orV (l.take (k + 1)) = max (orV (l.take k)) (knownV l[k]) := by rw [take_snoc l k h, orV_snoc]
theorem andV_all (l : List Int) (k : Nat) (h1 : k ≤ l.length) (h : ¬ (k : Int) < l.length) : andV (l.take k) = andV l := by rw [List.take_of_length_le (by omega)]
theorem orV_all (l : List Int) (k : Nat) (h1 : k ≤ l.length) (h : ¬ (k : Int) < l.length) : orV (l.take k) = orV l := by rw [List.take_of_length_le (by omega)]
theorem andV_cases (l : List Int) : andV l = 0 ∨ andV l = 1 ∨ andV l = 2 := by
  have h : ∀ (l : List Int) (m : Int), (m = 0 ∨ m = 1 ∨ m = 2) → (l.foldl (fun m t => min m (knownV t)) m = 0 ∨ l.foldl (fun m t => min m (knownV t)) m = 1 ∨ l.foldl (fun m t => min m (knownV t)) m = 2) := by
    intro l
    induction l with
    | nil => intro m h; exact h
    | cons t l ih => intro m h; have := knownV_cases t; exact ih _ (by dsimp only; omega)
  exact h l 2 (by omega)
theorem orV_cases (l : List Int) : orV l = 0 ∨ orV l = 1 ∨ orV l = 2 := by
  have h : ∀ (l : List Int) (m : Int), (m = 0 ∨ m = 1 ∨ m = 2) → (l.foldl (fun m t => max m (knownV t)) m = 0 ∨ l.foldl (fun m t => max m (knownV t)) m = 1 ∨ l.foldl (fun m t => max m (knownV t)) m = 2) := by
    intro l
    induction l with
    | nil => intro m h; exact h
    | cons t l ih => intro m h; have := knownV_cases t; exact ih _ (by dsimp only; omega)
  exact h l 0 (by omega)
theorem andV_nil : andV [] = 2 := rfl
theorem orV_nil : orV [] = 0 := rfl

set_option maxHeartbeats 800000 in
theorem and_any (a : Option Addr) (c : Nat) (l : List Int) (w : World) (h1 : IntsAt w a l) (m1 : l.length ≤ maxLen) :
    Calls Try.prog 34 #[.slice a l.length c] w fun e w' => e = .returned (.int .i64 (andV l)) ∧ w = w' := by
  unfold maxLen at m1
  have R1 := hid0 h1
  clear h1
  go_enter Try.func34, Try.ntmps34
  go_wp2
  go_loopw [3, 8] (fun m i wr => ∃ k : Nat, k ≤ l.length ∧ i = .int .i64 k ∧ m = .int .i64 (andV (l.take k)) ∧ wr = w) (fun _ i _ => l.length - (intOf i).toNat)
  case atStart => exact ⟨0, Nat.zero_le _, rfl, rfl, rfl⟩
  case round =>
    obtain ⟨k, hk, rfl, rfl, rfl⟩ := hrel
    by_cases hlt : k < l.length
    · obtain ⟨b1, o1, rfl, hc1⟩ := R1.out (by intro e; rw [e] at hlt; exact absurd hlt (by simp))
      have hc := hc1 k hlt
      clear hc1
      go_wp2_with (go_at_call 55; refine (known_any _ _).mono ?_; rintro e w' ⟨rfl, rfl⟩)
      exact ⟨⟨k + 1, by omega, by go_num, congrArg _ (by rw [andV_next l k hlt]; try (split <;> omega)), trivial⟩, by simp [intOf]; omega⟩
    · go_wp2
      go_ret
      exact ⟨ret_i64 (by rw [List.take_of_length_le (by omega)]), rfl⟩

set_option maxHeartbeats 800000 in
theorem or_any (a : Option Addr) (c : Nat) (l : List Int) (w : World) (h1 : IntsAt w a l) (m1 : l.length ≤ maxLen) :
    Calls Try.prog 36 #[.slice a l.length c] w fun e w' => e = .returned (.int .i64 (orV l)) ∧ w = w' := by
  unfold maxLen at m1
  have R1 := hid0 h1
  clear h1
  go_enter Try.func36, Try.ntmps36
  go_wp2
  go_loopw [3, 8] (fun m i wr => ∃ k : Nat, k ≤ l.length ∧ i = .int .i64 k ∧ m = .int .i64 (orV (l.take k)) ∧ wr = w) (fun _ i _ => l.length - (intOf i).toNat)
  case atStart => exact ⟨0, Nat.zero_le _, rfl, rfl, rfl⟩
  case round =>
    obtain ⟨k, hk, rfl, rfl, rfl⟩ := hrel
    by_cases hlt : k < l.length
    · obtain ⟨b1, o1, rfl, hc1⟩ := R1.out (by intro e; rw [e] at hlt; exact absurd hlt (by simp))
      have hc := hc1 k hlt
      clear hc1
      go_wp2_with (go_at_call 55; refine (known_any _ _).mono ?_; rintro e w' ⟨rfl, rfl⟩)
      exact ⟨⟨k + 1, by omega, by go_num, congrArg _ (by rw [orV_next l k hlt]; try (split <;> omega)), trivial⟩, by simp [intOf]; omega⟩
    · go_wp2
      go_ret
      exact ⟨ret_i64 (by rw [List.take_of_length_le (by omega)]), rfl⟩

set_option maxHeartbeats 800000 in
theorem refAnd_any (a : Option Addr) (c : Nat) (l : List Int) (w : World) (h1 : IntsAt w a l) (m1 : l.length ≤ maxLen) :
    Calls Try.prog 39 #[.slice a l.length c] w fun e w' => e = .returned (.int .i64 (andV l)) ∧ w = w' := by
  unfold maxLen at m1
  have R1 := hid0 h1
  clear h1
  go_enter Try.func39, Try.ntmps39
  go_wp2
  go_loopw [3, 4] (fun m i wr => ∃ k : Nat, k ≤ l.length ∧ i = .int .i64 k ∧ m = .int .i64 (andV (l.take k)) ∧ wr = w) (fun _ i _ => l.length - (intOf i).toNat)
  case atStart => exact ⟨0, Nat.zero_le _, rfl, rfl, rfl⟩
  case round =>
    obtain ⟨k, hk, rfl, rfl, rfl⟩ := hrel
    by_cases hlt : k < l.length
    · obtain ⟨b1, o1, rfl, hc1⟩ := R1.out (by intro e; rw [e] at hlt; exact absurd hlt (by simp))
      have hc := hc1 k hlt
      clear hc1
      go_wp2_with (go_at_call 59; refine (clamp_any _ _).mono ?_; rintro e w' ⟨rfl, rfl⟩)
      · exact ⟨⟨k + 1, by omega, by go_num, congrArg _ (by rw [andV_next l k hlt]; omega), trivial⟩, by simp [intOf]; omega⟩
      · exact ⟨⟨k + 1, by omega, by go_num, congrArg _ (by rw [andV_next l k hlt]; omega), trivial⟩, by simp [intOf]; omega⟩
    · go_wp2
      go_ret
      exact ⟨ret_i64 (by rw [List.take_of_length_le (by omega)]), rfl⟩

set_option maxHeartbeats 800000 in
theorem refOr_any (a : Option Addr) (c : Nat) (l : List Int) (w : World) (h1 : IntsAt w a l) (m1 : l.length ≤ maxLen) :
    Calls Try.prog 40 #[.slice a l.length c] w fun e w' => e = .returned (.int .i64 (orV l)) ∧ w = w' := by
  unfold maxLen at m1
  have R1 := hid0 h1
  clear h1
  go_enter Try.func40, Try.ntmps40
  go_wp2
  go_loopw [3, 4] (fun m i wr => ∃ k : Nat, k ≤ l.length ∧ i = .int .i64 k ∧ m = .int .i64 (orV (l.take k)) ∧ wr = w) (fun _ i _ => l.length - (intOf i).toNat)
  case atStart => exact ⟨0, Nat.zero_le _, rfl, rfl, rfl⟩
  case round =>
    obtain ⟨k, hk, rfl, rfl, rfl⟩ := hrel
    by_cases hlt : k < l.length
    · obtain ⟨b1, o1, rfl, hc1⟩ := R1.out (by intro e; rw [e] at hlt; exact absurd hlt (by simp))
      have hc := hc1 k hlt
      clear hc1
      go_wp2_with (go_at_call 59; refine (clamp_any _ _).mono ?_; rintro e w' ⟨rfl, rfl⟩)
      · exact ⟨⟨k + 1, by omega, by go_num, congrArg _ (by rw [orV_next l k hlt]; omega), trivial⟩, by simp [intOf]; omega⟩
      · exact ⟨⟨k + 1, by omega, by go_num, congrArg _ (by rw [orV_next l k hlt]; omega), trivial⟩, by simp [intOf]; omega⟩
    · go_wp2
      go_ret
      exact ⟨ret_i64 (by rw [List.take_of_length_le (by omega)]), rfl⟩

theorem and_pair (b : Nat) (x y : Int) (w : World) (h0 : w.cell? ⟨b, 0, none⟩ = some (.int .i64 x)) (h1 : w.cell? ⟨b, 1, none⟩ = some (.int .i64 y)) :
    Calls Try.prog 34 #[.slice (some ⟨b, 0, none⟩) 2 2] w fun e w' => e = .returned (.int .i64 (andV [x, y])) ∧ w = w' :=
  and_any (some ⟨b, 0, none⟩) 2 [x, y] w (pair_at b x y w h0 h1) (by unfold maxLen; simp)
theorem or_pair (b : Nat) (x y : Int) (w : World) (h0 : w.cell? ⟨b, 0, none⟩ = some (.int .i64 x)) (h1 : w.cell? ⟨b, 1, none⟩ = some (.int .i64 y)) :
    Calls Try.prog 36 #[.slice (some ⟨b, 0, none⟩) 2 2] w fun e w' => e = .returned (.int .i64 (orV [x, y])) ∧ w = w' :=
  or_any (some ⟨b, 0, none⟩) 2 [x, y] w (pair_at b x y w h0 h1) (by unfold maxLen; simp)
end Go.Proofs.Ytolcebbpbihnoaa
