/- The walk of the law TruthChain: it returns true, and below the heap's end memory is as it was. Conditions: none. -/
import Derived.Test.YtchifcjjojiohaaTd
namespace Go.Proofs.Ytchifcjjojiohaa
open Go.RowKit

theorem of_one_kind (op k n n' : Int) (s s' : ByteArray) (hk : ¬ k = 0) : cmpO op k n s k n' s' = opV op (cmpV k n s k n' s') := by
  unfold cmpO; rw [if_neg (by omega)]
/-- How many of the first i of less, same and greater hold. -/
def hits (c : Int) (i : Nat) : Int := (if 0 < i ∧ c < 0 then 1 else 0) + (if 1 < i ∧ c = 0 then 1 else 0) + (if 2 < i ∧ 0 < c then 1 else 0)
theorem hits_none (c : Int) : hits c 0 = 0 := by simp [hits]
theorem hits_one (c : Int) (i : Nat) (h : 3 ≤ i) : hits c i = 1 := by
  unfold hits
  rcases Int.lt_trichotomy c 0 with h | h | h
  · rw [if_pos (by omega), if_neg (by omega), if_neg (by omega)]; rfl
  · rw [if_neg (by omega), if_pos (by omega), if_neg (by omega)]; rfl
  · rw [if_neg (by omega), if_neg (by omega), if_pos (by omega)]; rfl
theorem hits_low (c : Int) (i : Nat) : 0 ≤ hits c i := by unfold hits; split <;> split <;> split <;> omega
theorem hits_high (c : Int) (i : Nat) : hits c i ≤ 1 := by unfold hits; split <;> split <;> split <;> omega
theorem hits0_yes {c : Int} (h : c < 0) : hits c 0 + 1 = hits c 1 := by unfold hits; repeat' split
                                                                        all_goals omega
theorem hits0_no {c : Int} (h : ¬ c < 0) : hits c 0 = hits c 1 := by unfold hits; repeat' split
                                                                     all_goals omega
theorem hits1_yes {c : Int} (h : (c == 0) = true) : hits c 1 + 1 = hits c 2 := by rw [beq_iff_eq] at h; unfold hits; repeat' split
                                                                                  all_goals omega
theorem hits1_no {c : Int} (h : (c == 0) = false) : hits c 1 = hits c 2 := by rw [beq_eq_false_iff_ne] at h; unfold hits; repeat' split
                                                                              all_goals omega
theorem hits2_yes {c : Int} (h : 0 < c) : hits c 2 + 1 = hits c 3 := by unfold hits; repeat' split
                                                                        all_goals omega
theorem hits2_no {c : Int} (h : ¬ 0 < c) : hits c 2 = hits c 3 := by unfold hits; repeat' split
                                                                     all_goals omega
theorem cmpV_strict (k n : Int) (s : ByteArray) (n' : Int) (s' : ByteArray) (n'' : Int) (s'' : ByteArray) (h1 : cmpV k n s k n' s' < 0) (h2 : cmpV k n' s' k n'' s'' < 0) : cmpV k n s k n'' s'' < 0 := by
  have h3 := cmpV_trans k n s k n' s' k n'' s'' (by omega) (by omega)
  by_cases h0 : cmpV k n s k n'' s'' = 0
  · obtain ⟨_, rfl, rfl⟩ := (cmpV_zero _ _ _ _ _ _).1 h0
    have := cmpV_flip k n s k n' s'
    omega
  · omega
/-- What the three operators answer, by the order's sign. -/
theorem less_is (k n n' : Int) (s s' : ByteArray) (hk : ¬ k = 0) : (cmpO 3 k n s k n' s' == 2) = decide (cmpV k n s k n' s' < 0) := by
  rw [of_one_kind _ _ _ _ _ _ hk]; show (tv _ == 2) = _; cases decide (cmpV k n s k n' s' < 0) <;> rfl
theorem same_is (k n n' : Int) (s s' : ByteArray) (hk : ¬ k = 0) : (cmpO 1 k n s k n' s' == 2) = (cmpV k n s k n' s' == 0) := by
  rw [of_one_kind _ _ _ _ _ _ hk]; show (tv _ == 2) = _; cases (cmpV k n s k n' s' == 0) <;> rfl
theorem more_is (k n n' : Int) (s s' : ByteArray) (hk : ¬ k = 0) : (cmpO 5 k n s k n' s' == 2) = decide (0 < cmpV k n s k n' s') := by
  rw [of_one_kind _ _ _ _ _ _ hk]; show (tv _ == 2) = _; cases decide (0 < cmpV k n s k n' s') <;> rfl

theorem pick_op (W : World) (k : Nat) (n : Int) (h : k = 0 ∧ n = 3 ∨ k = 1 ∧ n = 1 ∨ k = 2 ∧ n = 5) : (Instr.index 32 (.agg #[.int .i64 3, .int .i64 1, .int .i64 5]) (.int .i64 k)).run Try.prog W = .ok (.int .i64 n) W := by
  rcases h with ⟨rfl, rfl⟩ | ⟨rfl, rfl⟩ | ⟨rfl, rfl⟩ <;> rfl

set_option maxHeartbeats 4000000 in
theorem lawChain (k1 n1 k2 n2 k3 n3 : Int) (s1 s2 s3 : ByteArray) (w : World) :
    Calls Try.prog 7 #[.agg #[.int .i64 k1, .int .i64 n1, .string s1], .agg #[.int .i64 k2, .int .i64 n2, .string s2], .agg #[.int .i64 k3, .int .i64 n3, .string s3]] w fun e w' => e = .returned (.bool true) ∧ Below w.heap.size w w' := by
  go_enter Try.func7, Try.ntmps7
  go_wp2_with fail
  go_region
  obtain ⟨W, hW⟩ : ∃ W, W = (((w.alloc (Obj.cells #[.int .i64 k1, .int .i64 n1, .string s1] 23)).alloc (Obj.cells #[.int .i64 k1, .int .i64 n2, .string s2] 23)).alloc (Obj.cells #[.int .i64 k1, .int .i64 n3, .string s3] 23)).drew := ⟨_, rfl⟩
  rw [← hW]
  have c0 : W.cell? ⟨w.heap.size, 0, none⟩ = some (.int .i64 k1) := by rw [hW]; go_cell
  have c1 : W.cell? ⟨w.heap.size, 1, none⟩ = some (.int .i64 n1) := by rw [hW]; go_cell
  have c2 : W.cell? ⟨w.heap.size, 2, none⟩ = some (.string s1) := by rw [hW]; go_cell
  have c3 : W.cell? ⟨w.heap.size + 1, 0, none⟩ = some (.int .i64 k1) := by rw [hW]; go_cell
  have c4 : W.cell? ⟨w.heap.size + 1, 1, none⟩ = some (.int .i64 n2) := by rw [hW]; go_cell
  have c5 : W.cell? ⟨w.heap.size + 1, 2, none⟩ = some (.string s2) := by rw [hW]; go_cell
  have c6 : W.cell? ⟨w.heap.size + 1 + 1, 0, none⟩ = some (.int .i64 k1) := by rw [hW]; go_cell
  have c7 : W.cell? ⟨w.heap.size + 1 + 1, 1, none⟩ = some (.int .i64 n3) := by rw [hW]; go_cell
  have c8 : W.cell? ⟨w.heap.size + 1 + 1, 2, none⟩ = some (.string s3) := by rw [hW]; go_cell
  have hB : Below w.heap.size w W := by rw [hW]; exact Below.drew ((((Below.refl _ _).alloc (Nat.le_refl _) _).alloc (by simp) _).alloc (by simp; omega) _)
  clear hW
  have hsz := hB.size
  go_wp2_with fail
  · refine (awake_any _).mono ?_
    rintro e w2 ⟨rfl, hb2⟩
    go_wp2
    go_ret
    exact ⟨rfl, below_through hb2 hsz hB⟩
  · have hkf : (k1 == 0) = false := by assumption
    simp only [hkf]
    go_loopw [7, 8] (fun n i wr => ∃ k : Nat, k ≤ 3 ∧ i = .int .i64 k ∧ n = .int .i64 (hits (cmpV k1 n1 s1 k1 n2 s2) k) ∧
        wr.cell? ⟨w.heap.size, 0, none⟩ = some (.int .i64 k1) ∧ wr.cell? ⟨w.heap.size, 1, none⟩ = some (.int .i64 n1) ∧ wr.cell? ⟨w.heap.size, 2, none⟩ = some (.string s1) ∧
        wr.cell? ⟨w.heap.size + 1, 0, none⟩ = some (.int .i64 k1) ∧ wr.cell? ⟨w.heap.size + 1, 1, none⟩ = some (.int .i64 n2) ∧ wr.cell? ⟨w.heap.size + 1, 2, none⟩ = some (.string s2) ∧
        wr.cell? ⟨w.heap.size + 1 + 1, 0, none⟩ = some (.int .i64 k1) ∧ wr.cell? ⟨w.heap.size + 1 + 1, 1, none⟩ = some (.int .i64 n3) ∧ wr.cell? ⟨w.heap.size + 1 + 1, 2, none⟩ = some (.string s3) ∧
        Below w.heap.size w wr) (fun _ i _ => 3 - (intOf i).toNat)
    case atStart => exact ⟨0, Nat.zero_le _, rfl, by rw [hits_none], c0, c1, c2, c3, c4, c5, c6, c7, c8, hB⟩
    case round =>
      clear c0 c1 c2 c3 c4 c5 c6 c7 c8 hB hsz
      obtain ⟨k, hk, rfl, rfl, c0, c1, c2, c3, c4, c5, c6, c7, c8, hB⟩ := hrel
      have hk0 : ¬ k1 = 0 := by have h := ‹(k1 == 0) = false›; simpa using h
      have hz2 : w.heap.size + 1 + 1 < wr.heap.size := World.block_lt_of_cell? _ _ c6
      have hz1 : w.heap.size + 1 < wr.heap.size := by omega
      have hz : w.heap.size < wr.heap.size := by omega
      have hl := hits_low (cmpV k1 n1 s1 k1 n2 s2) k
      have hh := hits_high (cmpV k1 n1 s1 k1 n2 s2) k
      have e12 := less_is k1 n1 n2 s1 s2 hk0
      have x0 : ∀ W : World, (Instr.index 32 (.agg #[.int .i64 3, .int .i64 1, .int .i64 5]) (.int .i64 0)).run Try.prog W = .ok (.int .i64 3) W := fun W => pick_op W 0 3 (by simp)
      have x1 : ∀ W : World, (Instr.index 32 (.agg #[.int .i64 3, .int .i64 1, .int .i64 5]) (.int .i64 1)).run Try.prog W = .ok (.int .i64 1) W := fun W => pick_op W 1 1 (by simp)
      have x2 : ∀ W : World, (Instr.index 32 (.agg #[.int .i64 3, .int .i64 1, .int .i64 5]) (.int .i64 2)).run Try.prog W = .ok (.int .i64 5) W := fun W => pick_op W 2 5 (by simp)
      by_cases hlt : k < 3
      · have e0 := same_is k1 n1 n2 s1 s2 hk0
        have e5 := more_is k1 n1 n2 s1 s2 hk0
        rcases (show k = 0 ∨ k = 1 ∨ k = 2 by omega) with rfl | rfl | rfl
        all_goals
          go_wp2_with fail
          go_region_held3 (fun w' => w'.cell? ⟨w.heap.size, 0, none⟩ = some (.int .i64 k1) ∧ w'.cell? ⟨w.heap.size, 1, none⟩ = some (.int .i64 n1) ∧ w'.cell? ⟨w.heap.size, 2, none⟩ = some (.string s1) ∧
              w'.cell? ⟨w.heap.size + 1, 0, none⟩ = some (.int .i64 k1) ∧ w'.cell? ⟨w.heap.size + 1, 1, none⟩ = some (.int .i64 n2) ∧ w'.cell? ⟨w.heap.size + 1, 2, none⟩ = some (.string s2) ∧
              w'.cell? ⟨w.heap.size + 1 + 1, 0, none⟩ = some (.int .i64 k1) ∧ w'.cell? ⟨w.heap.size + 1 + 1, 1, none⟩ = some (.int .i64 n3) ∧ w'.cell? ⟨w.heap.size + 1 + 1, 2, none⟩ = some (.string s3) ∧ Below w.heap.size w w')
            ((go_split_ands; (try dsimp only); (repeat' apply And.intro); all_goals (first
              | assumption
              | exact cell_later hbn ‹_›
              | exact below_through hbn (Below.size ‹Below w.heap.size w _›) ‹_›
              | exact Below.drew hB
              | go_keep)))
            (first
              | (go_at_call 9; refine (compare_any _ _ _ _ _ _ _ _).mono ?_; rintro e wn ⟨rfl, hbn⟩))
          go_wp2
          all_goals
            have HH := ‹wn.cell? ⟨w.heap.size, 0, none⟩ = some (.int .i64 k1) ∧ _›
            clear c0 c1 c2 c3 c4 c5 c6 c7 c8
            go_roundw
            case rel =>
              first
                | exact ⟨1, by omega, rfl, congrArg _ (by first | exact hits0_yes ‹_› | exact hits0_no (by omega)), HH⟩
                | exact ⟨2, by omega, rfl, congrArg _ (by first | exact hits1_yes ‹_› | exact hits1_no ‹_›), HH⟩
                | exact ⟨3, by omega, rfl, congrArg _ (by first | exact hits2_yes ‹_› | exact hits2_no (by omega)), HH⟩
            case measure => simp [intOf]
      · obtain rfl : k = 3 := by omega
        have e3 := hits_one (cmpV k1 n1 s1 k1 n2 s2) 3 (by omega)
        have e23 := less_is k1 n2 n3 s2 s3 hk0
        have e13 := less_is k1 n1 n3 s1 s3 hk0
        clear hl hh x0 x1 x2
        by_cases g1 : cmpV k1 n1 s1 k1 n2 s2 < 0
        · by_cases g2 : cmpV k1 n2 s2 k1 n3 s3 < 0
          · have g3 := cmpV_strict k1 n1 s1 n2 s2 n3 s3 g1 g2
            rw [decide_eq_true g1] at e12
            rw [decide_eq_true g2] at e23
            rw [decide_eq_true g3] at e13
            go_wp2_with (first
              | (go_at_call 9; refine (compare_any _ _ _ _ _ _ _ _).mono ?_; rintro e w' ⟨rfl, hb⟩; obtain ⟨hc, hf⟩ := below_cells hb; have hz2 : w.heap.size + 1 + 1 < w'.heap.size := (by have := hb.size; omega); have hz1 : w.heap.size + 1 < w'.heap.size := (by omega); have hz : w.heap.size < w'.heap.size := (by omega))
              | (go_at_call 8; refine (awake_any _).mono ?_; rintro e w' ⟨rfl, hb⟩; obtain ⟨hc, hf⟩ := below_cells hb; have hz2 : w.heap.size + 1 + 1 < w'.heap.size := (by have := hb.size; omega); have hz1 : w.heap.size + 1 < w'.heap.size := (by omega); have hz : w.heap.size < w'.heap.size := (by omega))
              | (go_at_call 21; refine (refCmp_any _ _ _ _ _ _ _).mono ?_; rintro e w' ⟨rfl, hb⟩; obtain ⟨hc, hf⟩ := below_cells hb; have hz2 : w.heap.size + 1 + 1 < w'.heap.size := (by have := hb.size; omega); have hz1 : w.heap.size + 1 < w'.heap.size := (by omega); have hz : w.heap.size < w'.heap.size := (by omega)))
            go_ret
            exact ⟨ret_bool (by simp), by repeat (first | exact hB | (refine below_through ‹_› (by omega) ?_))⟩
          · rw [decide_eq_true g1] at e12
            rw [decide_eq_false g2] at e23
            clear e13
            go_wp2_with (first
              | (go_at_call 9; refine (compare_any _ _ _ _ _ _ _ _).mono ?_; rintro e w' ⟨rfl, hb⟩; obtain ⟨hc, hf⟩ := below_cells hb; have hz2 : w.heap.size + 1 + 1 < w'.heap.size := (by have := hb.size; omega); have hz1 : w.heap.size + 1 < w'.heap.size := (by omega); have hz : w.heap.size < w'.heap.size := (by omega))
              | (go_at_call 8; refine (awake_any _).mono ?_; rintro e w' ⟨rfl, hb⟩; obtain ⟨hc, hf⟩ := below_cells hb; have hz2 : w.heap.size + 1 + 1 < w'.heap.size := (by have := hb.size; omega); have hz1 : w.heap.size + 1 < w'.heap.size := (by omega); have hz : w.heap.size < w'.heap.size := (by omega))
              | (go_at_call 21; refine (refCmp_any _ _ _ _ _ _ _).mono ?_; rintro e w' ⟨rfl, hb⟩; obtain ⟨hc, hf⟩ := below_cells hb; have hz2 : w.heap.size + 1 + 1 < w'.heap.size := (by have := hb.size; omega); have hz1 : w.heap.size + 1 < w'.heap.size := (by omega); have hz : w.heap.size < w'.heap.size := (by omega)))
            go_ret
            exact ⟨ret_bool (by simp), by repeat (first | exact hB | (refine below_through ‹_› (by omega) ?_))⟩
        · rw [decide_eq_false g1] at e12
          clear e13 e23
          go_wp2_with (first
            | (go_at_call 9; refine (compare_any _ _ _ _ _ _ _ _).mono ?_; rintro e w' ⟨rfl, hb⟩; obtain ⟨hc, hf⟩ := below_cells hb; have hz2 : w.heap.size + 1 + 1 < w'.heap.size := (by have := hb.size; omega); have hz1 : w.heap.size + 1 < w'.heap.size := (by omega); have hz : w.heap.size < w'.heap.size := (by omega))
            | (go_at_call 8; refine (awake_any _).mono ?_; rintro e w' ⟨rfl, hb⟩; obtain ⟨hc, hf⟩ := below_cells hb; have hz2 : w.heap.size + 1 + 1 < w'.heap.size := (by have := hb.size; omega); have hz1 : w.heap.size + 1 < w'.heap.size := (by omega); have hz : w.heap.size < w'.heap.size := (by omega))
            | (go_at_call 21; refine (refCmp_any _ _ _ _ _ _ _).mono ?_; rintro e w' ⟨rfl, hb⟩; obtain ⟨hc, hf⟩ := below_cells hb; have hz2 : w.heap.size + 1 + 1 < w'.heap.size := (by have := hb.size; omega); have hz1 : w.heap.size + 1 < w'.heap.size := (by omega); have hz : w.heap.size < w'.heap.size := (by omega)))
          go_ret
          exact ⟨ret_bool (by simp), by repeat (first | exact hB | (refine below_through ‹_› (by omega) ?_))⟩
end Go.Proofs.Ytchifcjjojiohaa
