/- The document's example, which every law of this seat asks first: it is true, in whatever memory. Condition: internal/bytealg.MaxLen holds some integer. -/
import Derived.Test.YtojlgiipnnnfgaaDoorWd
namespace Go.Proofs.YtojlgiipnnnfgaaDoor
open Go.RowKit

set_option maxHeartbeats 400000 in
theorem printIts (m : Int) (w : World) (hm : w.cell? ⟨0, 0, none⟩ = some (.int .i64 m)) :
    Calls Tryd.prog 22 #[.agg #[.int .i64 3, .int .i64 0, .string ⟨#[105, 116, 39, 115]⟩]] w
      fun e w' => e = .returned (.string ⟨#[39, 105, 116, 39, 39, 115, 39]⟩) ∧ Below w.heap.size w w' := by
  have hm2 : ∀ o, (w.alloc o).cell? ⟨0, 0, none⟩ = some (.int .i64 m) := fun o => cell_later ((Below.refl _ _).alloc (Nat.le_refl _) _) hm
  go_enter Tryd.func22, Tryd.ntmps22
  go_wp2_with (go_at_call 38; refine (Tryd.strings_ReplaceAll _ _ _ m _ (by decide) (hm2 _) (by decide) (by decide)).mono ?_; rintro e w' ⟨rfl, hb⟩)
  go_ret
  exact ⟨by kernel_rfl, below_through hb (by go_size) (by go_grown)⟩

set_option maxHeartbeats 400000 in
theorem calcEx1 (w : World) :
    Calls Tryd.prog 17 #[.int .i64 3, .agg #[.int .i64 1, .int .i64 9223372036854775807, .string ⟨#[]⟩], .agg #[.int .i64 1, .int .i64 1, .string ⟨#[]⟩]] w
      fun e w' => e = .returned (.tuple #[.agg #[.int .i64 0, .int .i64 0, .string ⟨#[]⟩], .int .i64 12]) ∧ Below w.heap.size w w' :=
  (calc_any 3 1 9223372036854775807 1 1 ⟨#[]⟩ ⟨#[]⟩ w (by decide) (by decide) (by decide) (by decide))
theorem calcEx2 (w : World) :
    Calls Tryd.prog 17 #[.int .i64 5, .agg #[.int .i64 1, .int .i64 (-4611686018427387904), .string ⟨#[]⟩], .agg #[.int .i64 1, .int .i64 2, .string ⟨#[]⟩]] w
      fun e w' => e = .returned (.tuple #[.agg #[.int .i64 1, .int .i64 (-9223372036854775808), .string ⟨#[]⟩], .int .i64 0]) ∧ Below w.heap.size w w' :=
  (calc_any 5 1 (-4611686018427387904) 1 2 ⟨#[]⟩ ⟨#[]⟩ w (by decide) (by decide) (by decide) (by decide))

set_option maxHeartbeats 2000000 in
theorem awake_any (m : Int) (w : World) (hm : w.cell? ⟨0, 0, none⟩ = some (.int .i64 m)) :
    Calls Tryd.prog 10 #[] w fun e w' => e = .returned (.bool true) ∧ Below w.heap.size w w' := by
  go_enter Tryd.func10, Tryd.ntmps10
  go_wp2_with (go_at_call 21; refine (num_any _ _).mono ?_; rintro e w' ⟨rfl, hb⟩; obtain ⟨hc, hf⟩ := below_cells hb; have hz : w.heap.size ≤ w'.heap.size := (by have := hb.size; (try simp at this); omega))
  refine (calcEx1 _).mono ?_
  rintro e w1 ⟨rfl, hb1⟩
  obtain ⟨hc1, hf1⟩ := below_cells hb1
  have hz1 : w.heap.size ≤ w1.heap.size := (by have := hb1.size; (try simp at this); omega)
  go_wp2_with (go_at_call 21; refine (num_any _ _).mono ?_; rintro e w' ⟨rfl, hb⟩; obtain ⟨hc, hf⟩ := below_cells hb; have hz : w1.heap.size < w'.heap.size := (by have := hb.size; (try simp at this); omega))
  refine (calcEx2 _).mono ?_
  rintro e w2 ⟨rfl, hb2⟩
  obtain ⟨hc2, hf2⟩ := below_cells hb2
  have hz2 : w1.heap.size < w2.heap.size := (by have := hb2.size; (try simp at this); omega)
  have c0 : w2.cell? ⟨w1.heap.size, 0, none⟩ = some (.int .i64 0) := by go_cell
  have c1 : w2.cell? ⟨w1.heap.size, 1, none⟩ = some (.int .i64 0) := by go_cell
  have c2 : w2.cell? ⟨w1.heap.size, 2, none⟩ = some (.string ⟨#[]⟩) := by go_cell
  have hb12 : Below w.heap.size w w2 := by
    refine below_through hb2 (by omega) (below_through hb (by omega) (below_through ‹_› (by simp; omega) (Below.alloc ?_ (by omega) _)))
    exact below_through hb1 (by omega) (below_through ‹_› (by omega) ‹_›)
  have hm2 : w2.cell? ⟨0, 0, none⟩ = some (.int .i64 m) := cell_later hb12 hm
  have hz3 := hb12.size
  have hm2a : ∀ o, (w2.alloc o).cell? ⟨0, 0, none⟩ = some (.int .i64 m) := fun o => cell_later ((Below.refl _ _).alloc (Nat.le_refl _) _) hm2
  clear hb hb1 hb2 hc hc1 hc2 hf hf1 hf2 hz hz1 hm
  go_wp2_with fail
  go_region_with (first
    | (go_at_call 21; refine (num_any _ _).mono ?_; rintro e w3 ⟨rfl, hb3⟩; obtain ⟨hc3, hf3⟩ := below_cells hb3; have hm3 : w3.cell? ⟨0, 0, none⟩ = some (.int .i64 m) := cell_later hb3 (by simp [hm2a]))
    | (go_at_call 22; refine (printIts m _ (by assumption)).mono ?_; rintro e w4 ⟨rfl, hb4⟩))
  all_goals
    have hz4 : w.heap.size ≤ w3.heap.size := by have := hb3.size; simp at this; omega
    go_wp2
    go_ret
    refine ⟨rfl, below_through hb4 hz4 (below_through hb3 (by simp; omega) ?_)⟩
    exact Below.drew (Below.alloc hb12 (by omega) _)
end Go.Proofs.YtojlgiipnnnfgaaDoor
