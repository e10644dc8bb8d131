/- Several of my texts laid together, each as it was: Sw. Conditions: each names its own. -/
import Derived.Test.YtneebnankghhgabSq
import Derived.BigQuiet
/- The project's trees: one is made; what a nil tree has: contracts of the calls, in whatever memory. Conditions: none. -/
namespace Go.Proofs.Ytneebnankghhgab
open Go.RowKit

theorem newI_no (o : Int) (w : World) (h : o < 3 ∨ 64 < o) : Calls Try.prog 19 #[.int .i64 o] w fun e w' => e = .returned (.tuple #[.pointer none, .int .i64 1]) ∧ w = w' := by
  rcases h with h | h
  · go_enter Try.func19, Try.ntmps19
    go_wp2
    go_ret2
    exact ⟨rfl, rfl⟩
  · have h3 : ¬ o < 3 := by omega
    go_enter Try.func19, Try.ntmps19
    go_wp2
    go_ret2
    exact ⟨rfl, rfl⟩
theorem newI_yes (o : Nat) (w : World) (h1 : 3 ≤ o) (h2 : o ≤ 64) : Calls Try.prog 19 #[.int .i64 (o : Int)] w fun e w' => e = .returned (.tuple #[.pointer (some ⟨w.heap.size + 1, 0, none⟩), .int .i64 0]) ∧ (∀ P : Nat → Prop, P w.heap.size → ¬ P (w.heap.size + 1) → TreeAt 1 eI P w' (w.heap.size + 1) o []) ∧ Below w.heap.size w w' ∧ w'.heap.size = w.heap.size + 2 := by
  have h3 : ¬ (o : Int) < 3 := by omega
  have h4 : ¬ (64 : Int) < (o : Int) := by omega
  go_enter Try.func19, Try.ntmps19
  go_wp2
  go_ret2
  refine ⟨rfl, fun P hP hO => ⟨by go_cell, by go_cell, ⟨0, w.heap.size, ([] : List (Key × (Int))), by go_cell, ⟨fun _ _ hx => by simp at hx, by simp, by simp, List.Pairwise.nil, fun _ hx => by cases hx⟩, NodeAt.mk_leaf hP (vk := .slice none 0 0) (vv := .slice none 0 0) (by go_cell) (by go_cell) (by go_cell) Sl.nil Sl.nil rfl rfl, rfl⟩, fun j => ?_, h1, h2, hO⟩, ?_, by simp⟩
  · exact World.frozen?_alloc_at _ _ _ _ (by simp)
  · exact ((Below.refl _ _).alloc (Nat.le_refl _) _).alloc (by simp) _
theorem newP_no (o : Int) (w : World) (h : o < 3 ∨ 64 < o) : Calls Try.prog 6 #[.int .i64 o] w fun e w' => e = .returned (.tuple #[.pointer none, .int .i64 1]) ∧ w = w' := by
  rcases h with h | h
  · go_enter Try.func6, Try.ntmps6
    go_wp2
    go_ret2
    exact ⟨rfl, rfl⟩
  · have h3 : ¬ o < 3 := by omega
    go_enter Try.func6, Try.ntmps6
    go_wp2
    go_ret2
    exact ⟨rfl, rfl⟩
theorem newP_yes (o : Nat) (w : World) (h1 : 3 ≤ o) (h2 : o ≤ 64) : Calls Try.prog 6 #[.int .i64 (o : Int)] w fun e w' => e = .returned (.tuple #[.pointer (some ⟨w.heap.size + 1, 0, none⟩), .int .i64 0]) ∧ (∀ P : Nat → Prop, P w.heap.size → ¬ P (w.heap.size + 1) → TreeAt 2 eP P w' (w.heap.size + 1) o []) ∧ Below w.heap.size w w' ∧ w'.heap.size = w.heap.size + 2 := by
  have h3 : ¬ (o : Int) < 3 := by omega
  have h4 : ¬ (64 : Int) < (o : Int) := by omega
  go_enter Try.func6, Try.ntmps6
  go_wp2
  go_ret2
  refine ⟨rfl, fun P hP hO => ⟨by go_cell, by go_cell, ⟨0, w.heap.size, ([] : List (Key × (Int × Key))), by go_cell, ⟨fun _ _ hx => by simp at hx, by simp, by simp, List.Pairwise.nil, fun _ hx => by cases hx⟩, NodeAt.mk_leaf hP (vk := .slice none 0 0) (vv := .slice none 0 0) (by go_cell) (by go_cell) (by go_cell) Sl.nil Sl.nil rfl rfl, rfl⟩, fun j => ?_, h1, h2, hO⟩, ?_, by simp⟩
  · exact World.frozen?_alloc_at _ _ _ _ (by simp)
  · exact ((Below.refl _ _).alloc (Nat.le_refl _) _).alloc (by simp) _
theorem newL_no (o : Int) (w : World) (h : o < 3 ∨ 64 < o) : Calls Try.prog 7 #[.int .i64 o] w fun e w' => e = .returned (.tuple #[.pointer none, .int .i64 1]) ∧ w = w' := by
  rcases h with h | h
  · go_enter Try.func7, Try.ntmps7
    go_wp2
    go_ret2
    exact ⟨rfl, rfl⟩
  · have h3 : ¬ o < 3 := by omega
    go_enter Try.func7, Try.ntmps7
    go_wp2
    go_ret2
    exact ⟨rfl, rfl⟩
theorem newL_yes (o : Nat) (w : World) (h1 : 3 ≤ o) (h2 : o ≤ 64) : Calls Try.prog 7 #[.int .i64 (o : Int)] w fun e w' => e = .returned (.tuple #[.pointer (some ⟨w.heap.size + 1, 0, none⟩), .int .i64 0]) ∧ (∀ P : Nat → Prop, P w.heap.size → ¬ P (w.heap.size + 1) → TreeAt 1 eL P w' (w.heap.size + 1) o []) ∧ Below w.heap.size w w' ∧ w'.heap.size = w.heap.size + 2 := by
  have h3 : ¬ (o : Int) < 3 := by omega
  have h4 : ¬ (64 : Int) < (o : Int) := by omega
  go_enter Try.func7, Try.ntmps7
  go_wp2
  go_ret2
  refine ⟨rfl, fun P hP hO => ⟨by go_cell, by go_cell, ⟨0, w.heap.size, ([] : List (Key × (Nat))), by go_cell, ⟨fun _ _ hx => by simp at hx, by simp, by simp, List.Pairwise.nil, fun _ hx => by cases hx⟩, NodeAt.mk_leaf hP (vk := .slice none 0 0) (vv := .slice none 0 0) (by go_cell) (by go_cell) (by go_cell) Sl.nil Sl.nil rfl rfl, rfl⟩, fun j => ?_, h1, h2, hO⟩, ?_, by simp⟩
  · exact World.frozen?_alloc_at _ _ _ _ (by simp)
  · exact ((Below.refl _ _).alloc (Nat.le_refl _) _).alloc (by simp) _
end Go.Proofs.Ytneebnankghhgab
