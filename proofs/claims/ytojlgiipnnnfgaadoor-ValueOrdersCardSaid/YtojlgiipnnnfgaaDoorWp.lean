/- The walk of the law ValueOrders: it returns true, and below the heap's end memory is as it was. Condition: internal/bytealg.MaxLen holds some integer. -/
import Derived.Test.YtojlgiipnnnfgaaDoorWo
import Derived.Test.YtojlgiipnnnfgaaDoorWf
import Derived.Test.YtojlgiipnnnfgaaDoorWq
import Derived.Deep.RegionHeld3
namespace Go.Proofs.YtojlgiipnnnfgaaDoor
open Go.RowKit

theorem cmp_same (k n : Int) (s : ByteArray) (k' n' : Int) (s' : ByteArray) : ((cmpV k n s k' n' s' == 0) == sameV k n s k' n' s') = true := by
  have h : (cmpV k n s k' n' s' == 0) = sameV k n s k' n' s' := by
    rw [Bool.eq_iff_iff, sameV_iff, beq_iff_eq, cmpV_zero]
  rw [h]; simp

set_option maxHeartbeats 2000000 in
theorem lawOrders (k1 n1 k2 n2 k3 n3 m : Int) (s1 s2 s3 : ByteArray) (w : World) (hm : w.cell? ⟨0, 0, none⟩ = some (.int .i64 m)) :
    Calls Tryd.prog 4 #[.agg #[.int .i64 k1, .int .i64 n1, .string s1], .agg #[.int .i64 k2, .int .i64 n2, .string s2], .agg #[.int .i64 k3, .int .i64 n3, .string s3]] w fun e w' => e = .returned (.bool true) ∧ Below w.heap.size w w' := by
  have hma : ∀ o1 o2 o3, (((w.alloc o1).alloc o2).alloc o3).cell? ⟨0, 0, none⟩ = some (.int .i64 m) := fun o1 o2 o3 => cell_later ((((Below.refl _ _).alloc (Nat.le_refl _) _).alloc (by simp) _).alloc (by simp; omega) _) hm
  have z0 : ∀ o1 o2 : Obj, (((w.alloc o1).alloc o2).alloc (Obj.cells #[.int .i64 k3, .int .i64 n3, .string s3] 23)).cell? ⟨w.heap.size + 1 + 1, 0, none⟩ = some (.int .i64 k3) := fun o1 o2 => by go_cell
  have z1 : ∀ o1 o2 : Obj, (((w.alloc o1).alloc o2).alloc (Obj.cells #[.int .i64 k3, .int .i64 n3, .string s3] 23)).cell? ⟨w.heap.size + 1 + 1, 1, none⟩ = some (.int .i64 n3) := fun o1 o2 => by go_cell
  have z2 : ∀ o1 o2 : Obj, (((w.alloc o1).alloc o2).alloc (Obj.cells #[.int .i64 k3, .int .i64 n3, .string s3] 23)).cell? ⟨w.heap.size + 1 + 1, 2, none⟩ = some (.string s3) := fun o1 o2 => by go_cell
  have bd12 := cmpV_bd k1 n1 s1 k2 n2 s2
  have bd21 := cmpV_bd k2 n2 s2 k1 n1 s1
  have bd23 := cmpV_bd k2 n2 s2 k3 n3 s3
  have bd13 := cmpV_bd k1 n1 s1 k3 n3 s3
  have hflip : (cmpV k1 n1 s1 k2 n2 s2 != IntKind.i64.wrap (-cmpV k2 n2 s2 k1 n1 s1)) = false := by rw [IntWalk.i64_in _ (by omega), ← cmpV_flip k1 n1 s1 k2 n2 s2]; simp
  have H : Hid (w.cell? ⟨0, 0, none⟩ = some (.int .i64 m)) := Lib.hid hm
  clear hm
  go_enter Tryd.func4, Tryd.ntmps4
  go_wp2_with fail
  go_region_held3 (fun w' => w'.cell? ⟨w.heap.size, 0, none⟩ = some (.int .i64 k1) ∧ w'.cell? ⟨w.heap.size, 1, none⟩ = some (.int .i64 n1) ∧ w'.cell? ⟨w.heap.size, 2, none⟩ = some (.string s1) ∧
      w'.cell? ⟨w.heap.size + 1, 0, none⟩ = some (.int .i64 k2) ∧ w'.cell? ⟨w.heap.size + 1, 1, none⟩ = some (.int .i64 n2) ∧ w'.cell? ⟨w.heap.size + 1, 2, none⟩ = some (.string s2) ∧
      w'.cell? ⟨w.heap.size + 1 + 1, 0, none⟩ = some (.int .i64 k3) ∧ w'.cell? ⟨w.heap.size + 1 + 1, 1, none⟩ = some (.int .i64 n3) ∧ w'.cell? ⟨w.heap.size + 1 + 1, 2, none⟩ = some (.string s3) ∧
      w'.cell? ⟨0, 0, none⟩ = some (.int .i64 m) ∧ Below w.heap.size w w')
    ((go_split_ands; (try dsimp only); (repeat' apply And.intro); all_goals (first
      | assumption
      | exact cell_later hb ‹_›
      | exact below_through hb (Below.size ‹Below w.heap.size w _›) ‹_›
      | exact Below.drew ((((Below.refl _ _).alloc (Nat.le_refl _) _).alloc (by simp) _).alloc (by simp; omega) _)
      | go_keep
      | go_cell)))
    (first
      | (go_at_call 10; (try go_split_ands); refine (awake_any m _ (by first | assumption | simp [hma])).mono ?_; rintro e w' ⟨rfl, hb⟩)
      | (go_at_call 13; refine (cmp_any _ _ _ _ _ _ _).mono ?_; rintro e w' ⟨rfl, hb⟩)
      | (go_at_call 14; refine (refCmp_any _ _ _ _ _ _ _).mono ?_; rintro e w' ⟨rfl, hb⟩))
  clear hma z0 z1 z2
  obtain ⟨c0, c1, c2, c3, c4, c5, c6, c7, c8, c9, hb1⟩ := ‹w'.cell? ⟨w.heap.size, 0, none⟩ = some (.int .i64 k1) ∧ _›
  have hz2 : w.heap.size + 1 + 1 < w'.heap.size := World.block_lt_of_cell? _ _ c6
  have hz1 : w.heap.size + 1 < w'.heap.size := by omega
  have hz : w.heap.size < w'.heap.size := by omega
  clear c9
  go_wp2_with (go_at_call 13; refine (cmp_any _ _ _ _ _ _ _).mono ?_; rintro e w' ⟨rfl, hb⟩; obtain ⟨hc, hf⟩ := below_cells hb; have hz2 : w.heap.size + 1 + 1 < w'.heap.size := (by have := hb.size; (try simp at this); omega); have hz1 : w.heap.size + 1 < w'.heap.size := (by omega); have hz : w.heap.size < w'.heap.size := (by omega))
  · exact absurd (cmpV_trans k1 n1 s1 k2 n2 s2 k3 n3 s3 ‹_› ‹_›) (by omega)
  all_goals
    have q0 : w'.cell? ⟨w.heap.size, 0, none⟩ = some (.int .i64 k1) := by go_cell
    have q1 : w'.cell? ⟨w.heap.size, 1, none⟩ = some (.int .i64 n1) := by go_cell
    have q2 : w'.cell? ⟨w.heap.size, 2, none⟩ = some (.string s1) := by go_cell
    have q3 : w'.cell? ⟨w.heap.size + 1, 0, none⟩ = some (.int .i64 k2) := by go_cell
    have q4 : w'.cell? ⟨w.heap.size + 1, 1, none⟩ = some (.int .i64 n2) := by go_cell
    have q5 : w'.cell? ⟨w.heap.size + 1, 2, none⟩ = some (.string s2) := by go_cell
    have hB : Below w.heap.size w w' := by
      repeat (first | exact hb1 | (refine below_through ‹_› (by omega) ?_))
    have HE := eql23 k1 n1 s1 k2 n2 s2
    go_region_held3 (fun w' => w'.cell? ⟨w.heap.size, 0, none⟩ = some (.int .i64 k1) ∧ w'.cell? ⟨w.heap.size, 1, none⟩ = some (.int .i64 n1) ∧ w'.cell? ⟨w.heap.size, 2, none⟩ = some (.string s1) ∧
        w'.cell? ⟨w.heap.size + 1, 0, none⟩ = some (.int .i64 k2) ∧ w'.cell? ⟨w.heap.size + 1, 1, none⟩ = some (.int .i64 n2) ∧ w'.cell? ⟨w.heap.size + 1, 2, none⟩ = some (.string s2) ∧ Below w.heap.size w w')
      ((go_split_ands; (try dsimp only); (repeat' apply And.intro); all_goals (first
        | assumption
        | exact cell_later hbn ‹_›
        | exact below_through hbn (Below.size ‹Below w.heap.size w _›) ‹_›
        | exact Below.drew hB
        | go_keep)))
      (first
        | (go_at_call 13; refine (cmp_any _ _ _ _ _ _ _).mono ?_; rintro e wn ⟨rfl, hbn⟩))
    go_wp2
    go_ret
    obtain ⟨_, _, _, _, _, _, hBn⟩ := ‹wn.cell? ⟨w.heap.size, 0, none⟩ = some (.int .i64 k1) ∧ _›
    exact ⟨ret_bool (cmp_same k1 n1 s1 k2 n2 s2), hBn⟩
end Go.Proofs.YtojlgiipnnnfgaaDoor
