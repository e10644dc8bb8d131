/- The document's example, which every law of the layer asks first: it is true, in whatever memory. And the laws TruthCompares and TruthJoins: they return true, and below the heap's end memory is as it was. Conditions: a list's cells are known (what came in reads so). -/
import Derived.Test.YtchifcjjojiohaaTc
import Derived.Deep.RegionHeld3
namespace Go.Proofs.Ytchifcjjojiohaa
open Go.RowKit

theorem compareEx1 (w : World) : Calls Try.prog 9 #[.int .i64 1, .agg #[.int .i64 1, .int .i64 3, .string ⟨#[]⟩], .agg #[.int .i64 0, .int .i64 0, .string ⟨#[]⟩]] w
      fun e w' => e = .returned (.int .i64 1) ∧ Below w.heap.size w w' := compare_any 1 1 3 0 0 ⟨#[]⟩ ⟨#[]⟩ w
theorem compareEx2 (w : World) : Calls Try.prog 9 #[.int .i64 3, .agg #[.int .i64 1, .int .i64 0, .string ⟨#[]⟩], .agg #[.int .i64 1, .int .i64 3, .string ⟨#[]⟩]] w
      fun e w' => e = .returned (.int .i64 2) ∧ Below w.heap.size w w' := compare_any 3 1 0 1 3 ⟨#[]⟩ ⟨#[]⟩ w
theorem andEx (b : Nat) (w : World) (h0 : w.cell? ⟨b, 0, none⟩ = some (.int .i64 2)) (h1 : w.cell? ⟨b, 1, none⟩ = some (.int .i64 1)) :
    Calls Try.prog 16 #[.slice (some ⟨b, 0, none⟩) 2 2] w fun e w' => e = .returned (.int .i64 1) ∧ w = w' := and_pair b 2 1 w h0 h1
theorem notEx (w : World) : Calls Try.prog 15 #[.int .i64 0] w fun e w' => e = .returned (.int .i64 2) ∧ w = w' := not_any 0 w

set_option maxHeartbeats 2000000 in
theorem awake_any (w : World) :
    Calls Try.prog 8 #[] w fun e w' => e = .returned (.bool true) ∧ Below w.heap.size w w' := by
  go_enter Try.func8, Try.ntmps8
  go_wp2_with fail
  refine (compareEx1 _).mono ?_
  rintro e w1 ⟨rfl, hb1⟩
  obtain ⟨hc1, hf1⟩ := below_cells hb1
  have hz1 : w.heap.size < w1.heap.size := (by have := hb1.size; (try simp at this); omega)
  have c0 : w1.cell? ⟨w.heap.size, 0, none⟩ = some (.int .i64 1) := by go_cell
  have c1 : w1.cell? ⟨w.heap.size, 1, none⟩ = some (.int .i64 3) := by go_cell
  have c2 : w1.cell? ⟨w.heap.size, 2, none⟩ = some (.string ⟨#[]⟩) := by go_cell
  have hB1 : Below w.heap.size w w1 := below_through hb1 (by simp) (by go_grown)
  clear hb1 hc1 hf1
  go_wp2_with fail
  refine (compareEx2 _).mono ?_
  rintro e w2 ⟨rfl, hb2⟩
  have hB2 : Below w.heap.size w w2 := below_through hb2 (by omega) hB1
  clear hb2 hB1 c0 c1 c2
  go_wp2_with (first
    | (go_at_call 16; refine (andEx _ _ (by go_cell) (by go_cell)).mono ?_; rintro e w3 ⟨rfl, rfl⟩)
    | (go_at_call 15; refine (notEx _).mono ?_; rintro e w3 ⟨rfl, rfl⟩))
  go_ret
  exact ⟨rfl, Below.alloc hB2 hB2.size _⟩

set_option maxHeartbeats 1000000 in
theorem lawJoins (a : Option Addr) (c : Nat) (l : List Int) (n : Int) (w : World) (h1 : IntsAt w a l) (m1 : l.length ≤ maxLen) :
    Calls Try.prog 5 #[.slice a l.length c, .int .i64 n] w fun e w' => e = .returned (.bool true) ∧ Below w.heap.size w w' := by
  have R1 := hid0 h1
  have M1 := hid0 m1
  clear h1 m1
  go_enter Try.func5, Try.ntmps5
  go_wp2_with fail
  refine (awake_any _).mono ?_
  rintro e w1 ⟨rfl, hB1⟩
  have R2 := hid0 (R1.out.later hB1)
  go_wp2_with (first
    | (go_at_call 16; refine (and_any _ _ _ _ R2.out M1.out).mono ?_; rintro e w3 ⟨rfl, rfl⟩)
    | (go_at_call 17; refine (refAnd_any _ _ _ _ R2.out M1.out).mono ?_; rintro e w3 ⟨rfl, rfl⟩)
    | (go_at_call 18; refine (or_any _ _ _ _ R2.out M1.out).mono ?_; rintro e w3 ⟨rfl, rfl⟩)
    | (go_at_call 19; refine (refOr_any _ _ _ _ R2.out M1.out).mono ?_; rintro e w3 ⟨rfl, rfl⟩)
    | (go_at_call 15; refine (not_any _ _).mono ?_; rintro e w3 ⟨rfl, rfl⟩)
    | (go_at_call 20; refine (refNot_any _ _).mono ?_; rintro e w3 ⟨rfl, rfl⟩))
  go_ret
  exact ⟨ret_bool (by simp), hB1⟩

set_option maxHeartbeats 2000000 in
theorem lawCompares (op k1 n1 k2 n2 : Int) (s1 s2 : ByteArray) (w : World) :
    Calls Try.prog 3 #[.int .i64 op, .agg #[.int .i64 k1, .int .i64 n1, .string s1], .agg #[.int .i64 k2, .int .i64 n2, .string s2]] w fun e w' => e = .returned (.bool true) ∧ Below w.heap.size w w' := by
  go_enter Try.func3, Try.ntmps3
  go_wp2_with fail
  go_region_held3 (fun w' => w'.cell? ⟨w.heap.size, 0, none⟩ = some (.int .i64 k1) ∧ w'.cell? ⟨w.heap.size, 1, none⟩ = some (.int .i64 n1) ∧ w'.cell? ⟨w.heap.size, 2, none⟩ = some (.string s1) ∧
      w'.cell? ⟨w.heap.size + 1, 0, none⟩ = some (.int .i64 k2) ∧ w'.cell? ⟨w.heap.size + 1, 1, none⟩ = some (.int .i64 n2) ∧ w'.cell? ⟨w.heap.size + 1, 2, none⟩ = some (.string s2) ∧ Below w.heap.size w w')
    ((go_split_ands; (try dsimp only); (repeat' apply And.intro); all_goals (first
      | assumption
      | exact cell_later hbn ‹_›
      | exact below_through hbn (Below.size ‹Below w.heap.size w _›) ‹_›
      | exact Below.drew (((Below.refl _ _).alloc (Nat.le_refl _) _).alloc (by simp) _)
      | go_keep
      | go_cell)))
    (first
      | (go_at_call 8; refine (awake_any _).mono ?_; rintro e wn ⟨rfl, hbn⟩)
      | (go_at_call 9; refine (compare_any _ _ _ _ _ _ _ _).mono ?_; rintro e wn ⟨rfl, hbn⟩)
      | (go_at_call 10; refine (refCompare_any _ _ _ _ _ _ _ _).mono ?_; rintro e wn ⟨rfl, hbn⟩)
      | (go_at_call 11; refine (turn_any _ _).mono ?_; rintro e wn ⟨rfl, rfl⟩)
      | (go_at_call 12; refine (refTurn_any _ _).mono ?_; rintro e wn ⟨rfl, rfl⟩)
      | (go_at_call 13; refine (other_any _ _).mono ?_; rintro e wn ⟨rfl, rfl⟩)
      | (go_at_call 14; refine (refOther_any _ _).mono ?_; rintro e wn ⟨rfl, rfl⟩))
  go_wp2
  go_ret
  obtain ⟨_, _, _, _, _, _, hB⟩ := ‹wn.cell? ⟨w.heap.size, 0, none⟩ = some (.int .i64 k1) ∧ _›
  exact ⟨rfl, hB⟩
end Go.Proofs.Ytchifcjjojiohaa
