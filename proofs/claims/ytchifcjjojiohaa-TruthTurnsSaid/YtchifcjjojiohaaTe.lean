/- The walk of the law TruthTurns: it returns true, and below the heap's end memory is as it was. Conditions: none. -/
import Derived.Test.YtchifcjjojiohaaTd
namespace Go.Proofs.Ytchifcjjojiohaa
open Go.RowKit

theorem turn_same (op k n k' n' : Int) (s s' : ByteArray) : cmpO (turnV op) k' n' s' k n s = cmpO op k n s k' n' s' := by
  have h := cmpV_flip k n s k' n' s'
  have e1 : (cmpV k n s k' n' s' == 0) = (cmpV k' n' s' k n s == 0) := by rw [Bool.eq_iff_iff, beq_iff_eq, beq_iff_eq]; omega
  have e2 : (cmpV k n s k' n' s' != 0) = (cmpV k' n' s' k n s != 0) := by rw [bne, bne, e1]
  have e3 : decide (cmpV k n s k' n' s' < 0) = decide (0 < cmpV k' n' s' k n s) := by rw [decide_eq_decide]; omega
  have e4 : decide (cmpV k n s k' n' s' ≤ 0) = decide (0 ≤ cmpV k' n' s' k n s) := by rw [decide_eq_decide]; omega
  have e5 : decide (0 < cmpV k n s k' n' s') = decide (cmpV k' n' s' k n s < 0) := by rw [decide_eq_decide]; omega
  have e6 : decide (0 ≤ cmpV k n s k' n' s') = decide (cmpV k' n' s' k n s ≤ 0) := by rw [decide_eq_decide]; omega
  unfold cmpO
  by_cases hk : k = 0 ∨ k' = 0 ∨ k ≠ k'
  · rw [if_pos hk, if_pos (by omega)]
  · rw [if_neg hk, if_neg (by omega)]
    unfold opV
    rw [e1, e2, e3, e4, e5, e6]
    by_cases h1 : op = 1
    · subst h1; rfl
    by_cases h2 : op = 2
    · subst h2; rfl
    by_cases h3 : op = 3
    · subst h3; rfl
    by_cases h4 : op = 4
    · subst h4; rfl
    by_cases h5 : op = 5
    · subst h5; rfl
    by_cases h6 : op = 6
    · subst h6; rfl
    simp [turnV, h1, h2, h3, h4, h5, h6]

theorem not_tv (b : Bool) : notV (tv b) = tv (!b) := by cases b <;> rfl
theorem other_not (op k n k' n' : Int) (s s' : ByteArray) : cmpO (otherV op) k n s k' n' s' = notV (cmpO op k n s k' n' s') := by
  have e1 : (!decide (cmpV k n s k' n' s' < 0)) = decide (0 ≤ cmpV k n s k' n' s') := by rw [← decide_not, decide_eq_decide]; omega
  have e2 : (!decide (cmpV k n s k' n' s' ≤ 0)) = decide (0 < cmpV k n s k' n' s') := by rw [← decide_not, decide_eq_decide]; omega
  have e3 : (!decide (0 < cmpV k n s k' n' s')) = decide (cmpV k n s k' n' s' ≤ 0) := by rw [← decide_not, decide_eq_decide]; omega
  have e4 : (!decide (0 ≤ cmpV k n s k' n' s')) = decide (cmpV k n s k' n' s' < 0) := by rw [← decide_not, decide_eq_decide]; omega
  unfold cmpO
  by_cases hk : k = 0 ∨ k' = 0 ∨ k ≠ k'
  · rw [if_pos hk, if_pos hk]; rfl
  · rw [if_neg hk, if_neg hk]
    by_cases h1 : op = 1
    · subst h1; exact (not_tv _).symm
    by_cases h2 : op = 2
    · subst h2; exact ((not_tv _).trans (by rw [bne, Bool.not_not]; rfl)).symm
    by_cases h3 : op = 3
    · subst h3; exact ((not_tv _).trans (by rw [e1]; rfl)).symm
    by_cases h4 : op = 4
    · subst h4; exact ((not_tv _).trans (by rw [e2]; rfl)).symm
    by_cases h5 : op = 5
    · subst h5; exact ((not_tv _).trans (by rw [e3]; rfl)).symm
    by_cases h6 : op = 6
    · subst h6; exact ((not_tv _).trans (by rw [e4]; rfl)).symm
    have a1 : otherV op = 0 := by simp [otherV, h1, h2, h3, h4, h5, h6]
    have a2 : opV op (cmpV k n s k' n' s') = 1 := by simp [opV, h1, h2, h3, h4, h5, h6]
    rw [a1, a2]; rfl
theorem opV_known {op c : Int} (h1 : 1 ≤ op) (h2 : op ≤ 6) : opV op c ≠ 1 := by
  have t : ∀ b, tv b ≠ 1 := fun b => by cases b <;> decide
  unfold opV
  repeat' split
  all_goals first | exact t _ | omega
theorem unknown_iff (op k n k' n' : Int) (s s' : ByteArray) (h1 : 1 ≤ op) (h2 : op ≤ 6) (_ : ¬ k = 0) (_ : ¬ k' = 0) : (cmpO op k n s k' n' s' == 1) = (k != k') := by
  rw [Bool.eq_iff_iff, beq_iff_eq, bne_iff_ne]
  unfold cmpO
  constructor
  · intro h e
    rw [if_neg (by omega)] at h
    exact opV_known h1 h2 h
  · intro h
    rw [if_pos (by omega)]
theorem unknown_of (op k n k' n' : Int) (s s' : ByteArray) (h : k = 0 ∨ k' = 0 ∨ op < 1 ∨ 6 < op) : cmpO op k n s k' n' s' = 1 := by
  unfold cmpO
  by_cases hk : k = 0 ∨ k' = 0 ∨ k ≠ k'
  · rw [if_pos hk]
  · rw [if_neg hk]
    unfold opV
    rw [if_neg (by omega), if_neg (by omega), if_neg (by omega), if_neg (by omega), if_neg (by omega), if_neg (by omega)]

set_option maxHeartbeats 4000000 in
theorem lawTurns (op k1 n1 k2 n2 : Int) (s1 s2 : ByteArray) (w : World) :
    Calls Try.prog 4 #[.int .i64 op, .agg #[.int .i64 k1, .int .i64 n1, .string s1], .agg #[.int .i64 k2, .int .i64 n2, .string s2]] w fun e w' => e = .returned (.bool true) ∧ Below w.heap.size w w' := by
  have T1 := hid0 (turn_same op k1 n1 k2 n2 s1 s2)
  have T2 := hid0 (other_not op k1 n1 k2 n2 s1 s2)
  have T3 := hid0 (unknown_iff op k1 n1 k2 n2 s1 s2)
  go_enter Try.func4, Try.ntmps4
  go_wp2_with fail
  refine (compare_any _ _ _ _ _ _ _ _).mono ?_
  rintro e w1 ⟨rfl, hb1⟩
  obtain ⟨hc1, hf1⟩ := below_cells hb1
  have hz1 : w.heap.size + 1 < w1.heap.size := (by have := hb1.size; (try simp at this); omega)
  have c0 : w1.cell? ⟨w.heap.size, 0, none⟩ = some (.int .i64 k1) := by go_cell
  have c1 : w1.cell? ⟨w.heap.size, 1, none⟩ = some (.int .i64 n1) := by go_cell
  have c2 : w1.cell? ⟨w.heap.size, 2, none⟩ = some (.string s1) := by go_cell
  have c3 : w1.cell? ⟨w.heap.size + 1, 0, none⟩ = some (.int .i64 k2) := by go_cell
  have c4 : w1.cell? ⟨w.heap.size + 1, 1, none⟩ = some (.int .i64 n2) := by go_cell
  have c5 : w1.cell? ⟨w.heap.size + 1, 2, none⟩ = some (.string s2) := by go_cell
  have hB1 : Below w.heap.size w w1 := below_through hb1 (by go_size) (by go_grown)
  clear hb1 hc1 hf1
  go_wp2_with fail
  · refine (awake_any _).mono ?_
    rintro e w2 ⟨rfl, hb2⟩
    go_wp2
    go_ret
    exact ⟨ret_bool (by rw [unknown_of _ _ _ _ _ _ _ (by omega)]; rfl), below_through hb2 hB1.size hB1⟩
  · refine (awake_any _).mono ?_
    rintro e w2 ⟨rfl, hb2⟩
    go_wp2
    go_ret
    exact ⟨ret_bool (by rw [unknown_of _ _ _ _ _ _ _ (by omega)]; rfl), below_through hb2 hB1.size hB1⟩
  · refine (awake_any _).mono ?_
    rintro e w2 ⟨rfl, hb2⟩
    go_wp2
    go_ret
    exact ⟨ret_bool (by rw [unknown_of _ _ _ _ _ _ _ (by have h := ‹(((k1 == 0) = true ∨ (k2 == 0) = true) ∨ op < 1) ∨ 6 < op›; simp only [beq_iff_eq] at h; omega)]; rfl), below_through hb2 hB1.size hB1⟩
  · have hop : (((k1 == 0) = false ∧ (k2 == 0) = false) ∧ 1 ≤ op) ∧ op ≤ 6 := by assumption
    simp only [beq_eq_false_iff_ne] at hop
    have t1 := T1.out
    have t2 := T2.out
    have t3 := T3.out hop.1.2 hop.2 hop.1.1.1 hop.1.1.2
    clear hop
    go_region_held3 (fun w' => w'.cell? ⟨w.heap.size, 0, none⟩ = some (.int .i64 k1) ∧ w'.cell? ⟨w.heap.size, 1, none⟩ = some (.int .i64 n1) ∧ w'.cell? ⟨w.heap.size, 2, none⟩ = some (.string s1) ∧
        w'.cell? ⟨w.heap.size + 1, 0, none⟩ = some (.int .i64 k2) ∧ w'.cell? ⟨w.heap.size + 1, 1, none⟩ = some (.int .i64 n2) ∧ w'.cell? ⟨w.heap.size + 1, 2, none⟩ = some (.string s2) ∧ Below w.heap.size w w')
      ((go_split_ands; (try dsimp only); (repeat' apply And.intro); all_goals (first
        | assumption
        | exact cell_later hbn ‹_›
        | exact below_through hbn (Below.size ‹Below w.heap.size w _›) ‹_›
        | exact Below.drew hB1
        | go_keep)))
      (first
        | (go_at_call 8; refine (awake_any _).mono ?_; rintro e wn ⟨rfl, hbn⟩)
        | (go_at_call 9; refine (compare_any _ _ _ _ _ _ _ _).mono ?_; rintro e wn ⟨rfl, hbn⟩)
        | (go_at_call 11; refine (turn_any _ _).mono ?_; rintro e wn ⟨rfl, rfl⟩)
        | (go_at_call 13; refine (other_any _ _).mono ?_; rintro e wn ⟨rfl, rfl⟩)
        | (go_at_call 15; refine (not_any _ _).mono ?_; rintro e wn ⟨rfl, rfl⟩))
    go_wp2
    go_ret
    obtain ⟨_, _, _, _, _, _, hB⟩ := ‹wn.cell? ⟨w.heap.size, 0, none⟩ = some (.int .i64 k1) ∧ _›
    exact ⟨ret_bool (by simp), hB⟩
  · refine (awake_any _).mono ?_
    rintro e w2 ⟨rfl, hb2⟩
    go_wp2
    go_ret
    exact ⟨ret_bool (by rw [unknown_of _ _ _ _ _ _ _ (by omega)]; rfl), below_through hb2 hB1.size hB1⟩
end Go.Proofs.Ytchifcjjojiohaa
