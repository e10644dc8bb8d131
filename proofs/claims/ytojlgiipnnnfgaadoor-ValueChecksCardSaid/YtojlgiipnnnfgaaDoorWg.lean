/- The walk of the law ValueChecks: it returns true, and below the heap's end memory is as it was. Condition: internal/bytealg.MaxLen holds some integer; the text is a Go string. -/
import Derived.Test.YtojlgiipnnnfgaaDoorWf
namespace Go.Proofs.YtojlgiipnnnfgaaDoor
open Go.RowKit

set_option maxHeartbeats 1000000 in
theorem lawChecks (k n m : Int) (s : ByteArray) (w : World) (hs : s.size ≤ maxLen) (hm : w.cell? ⟨0, 0, none⟩ = some (.int .i64 m)) :
    Calls Tryd.prog 3 #[.agg #[.int .i64 k, .int .i64 n, .string s]] w fun e w' => e = .returned (.bool true) ∧ Below w.heap.size w w' := by
  have hma : ∀ o, (w.alloc o).cell? ⟨0, 0, none⟩ = some (.int .i64 m) := fun o => cell_later ((Below.refl _ _).alloc (Nat.le_refl _) _) hm
  have H : Hid (w.cell? ⟨0, 0, none⟩ = some (.int .i64 m)) := Lib.hid hm
  clear hm
  go_enter Tryd.func3, Tryd.ntmps3
  go_wp2_with fail
  go_region_with (first
    | (go_at_call 10; refine (awake_any m _ (by simp [hma])).mono ?_; rintro e w3 ⟨rfl, hb3⟩; obtain ⟨hc3, hf3⟩ := below_cells hb3; have hz3 : w.heap.size < w3.heap.size := (by have := hb3.size; simp at this; omega); have q0 : w3.cell? ⟨w.heap.size, 0, none⟩ = some (.int .i64 k) := (by rw [hc3 _ _ (by simp)]; simp); have q1 : w3.cell? ⟨w.heap.size, 1, none⟩ = some (.int .i64 n) := (by rw [hc3 _ _ (by simp)]; simp); have q2 : w3.cell? ⟨w.heap.size, 2, none⟩ = some (.string s) := (by rw [hc3 _ _ (by simp)]; simp); clear hc3 hf3)
    | (go_at_call 11; refine (check_any _ _ _ _ hs).mono ?_; rintro e w4 ⟨rfl, hb4⟩; obtain ⟨hc4, hf4⟩ := below_cells hb4; have r0 := (hc4 w.heap.size 0 hz3).trans q0; have r1 := (hc4 w.heap.size 1 hz3).trans q1; have r2 := (hc4 w.heap.size 2 hz3).trans q2; clear hc4 hf4)
    | (go_at_call 12; refine (refCheck_any _ _ _ _ hs).mono ?_; rintro e w5 ⟨rfl, hb5⟩))
  all_goals
    have hz4 : w.heap.size ≤ w4.heap.size := by have := hb4.size; omega
    go_wp2
    go_ret
    refine ⟨ret_bool (by simp), below_through hb5 hz4 (below_through hb4 (by omega) (below_through hb3 (by simp) ?_))⟩
    exact Below.drew (Below.alloc (Below.refl _ _) (Nat.le_refl _) _)
end Go.Proofs.YtojlgiipnnnfgaaDoor
