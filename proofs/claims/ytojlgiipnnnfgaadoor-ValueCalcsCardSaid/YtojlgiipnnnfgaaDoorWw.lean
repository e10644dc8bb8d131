/- The walk of the law ValueCalcs: it returns true, and below the heap's end memory is as it was. Conditions: internal/bytealg.MaxLen holds some integer; the numbers lie within 64 bits. -/
import Derived.Test.YtojlgiipnnnfgaaDoorWv
namespace Go.Proofs.YtojlgiipnnnfgaaDoor
open Go.RowKit

set_option maxHeartbeats 2000000 in
theorem lawCalcs (op k1 n1 k2 n2 x : Int) (s1 s2 : ByteArray) (w : World) (h1 : -9223372036854775808 ≤ n1) (h2 : n1 ≤ 9223372036854775807) (h3 : -9223372036854775808 ≤ n2) (h4 : n2 ≤ 9223372036854775807) (hx : w.cell? ⟨0, 0, none⟩ = some (.int .i64 x)) :
    Calls Tryd.prog 6 #[.int .i64 op, .agg #[.int .i64 k1, .int .i64 n1, .string s1], .agg #[.int .i64 k2, .int .i64 n2, .string s2]] w fun e w' => e = .returned (.bool true) ∧ Below w.heap.size w w' := by
  have hxa : ∀ o1 o2, ((w.alloc o1).alloc o2).cell? ⟨0, 0, none⟩ = some (.int .i64 x) := fun o1 o2 => cell_later (((Below.refl _ _).alloc (Nat.le_refl _) _).alloc (by simp) _) hx
  have HX := Lib.hid hxa
  clear hxa hx
  go_enter Tryd.func6, Tryd.ntmps6
  go_wp2_with fail
  refine (calc_any _ _ _ _ _ _ _ _ h1 h2 h3 h4).mono ?_
  rintro e w3 ⟨rfl, hb⟩
  have hx := cell_later hb (HX.out _ _)
  have a0 : w3.cell? ⟨w.heap.size, 0, none⟩ = some (.int .i64 k1) := cell_later hb (by simp)
  have a1 : w3.cell? ⟨w.heap.size, 1, none⟩ = some (.int .i64 n1) := cell_later hb (by simp)
  have a2 : w3.cell? ⟨w.heap.size, 2, none⟩ = some (.string s1) := cell_later hb (by simp)
  have b0 : w3.cell? ⟨w.heap.size + 1, 0, none⟩ = some (.int .i64 k2) := cell_later hb (by simp)
  have b1 : w3.cell? ⟨w.heap.size + 1, 1, none⟩ = some (.int .i64 n2) := cell_later hb (by simp)
  have b2 : w3.cell? ⟨w.heap.size + 1, 2, none⟩ = some (.string s2) := cell_later hb (by simp)
  have hB := below_alloc2 hb
  clear hb HX
  have za0 : w.heap.size < w3.heap.size := World.block_lt_of_cell? _ _ a0
  have zb0 : w.heap.size + 1 < w3.heap.size := World.block_lt_of_cell? _ _ b0
  go_wp2_with fail
  refine (refCalc_any _ _ _ _ _ _ _ _ h1 h2 h3 h4).mono ?_
  rintro e w4 ⟨rfl, hb⟩
  have hb' := below_alloc1 hb
  replace a0 := cell_later hb' a0
  replace a1 := cell_later hb' a1
  replace a2 := cell_later hb' a2
  replace b0 := cell_later hb' b0
  replace b1 := cell_later hb' b1
  replace b2 := cell_later hb' b2
  have c30 := new_cell hb 0 _ rfl
  have c31 := new_cell hb 1 _ rfl
  have c32 := new_cell hb 2 _ rfl
  replace hx := cell_later hb' hx
  replace hB := hB.trans (hb'.mono hB.size)
  clear hb hb'
  have za0 : w.heap.size < w4.heap.size := World.block_lt_of_cell? _ _ a0
  have zb0 : w.heap.size + 1 < w4.heap.size := World.block_lt_of_cell? _ _ b0
  have zc30 : w3.heap.size < w4.heap.size := World.block_lt_of_cell? _ _ c30
  go_wp2_with fail
  refine (neg_any _ _ _ _ h1 h2).mono ?_
  rintro e w5 ⟨rfl, hb⟩
  have hb' := below_alloc1 hb
  replace a0 := cell_later hb' a0
  replace a1 := cell_later hb' a1
  replace a2 := cell_later hb' a2
  replace b0 := cell_later hb' b0
  replace b1 := cell_later hb' b1
  replace b2 := cell_later hb' b2
  replace c30 := cell_later hb' c30
  replace c31 := cell_later hb' c31
  replace c32 := cell_later hb' c32
  have c40 := new_cell hb 0 _ rfl
  have c41 := new_cell hb 1 _ rfl
  have c42 := new_cell hb 2 _ rfl
  replace hx := cell_later hb' hx
  replace hB := hB.trans (hb'.mono hB.size)
  clear hb hb'
  have za0 : w.heap.size < w5.heap.size := World.block_lt_of_cell? _ _ a0
  have zb0 : w.heap.size + 1 < w5.heap.size := World.block_lt_of_cell? _ _ b0
  have zc30 : w3.heap.size < w5.heap.size := World.block_lt_of_cell? _ _ c30
  have zc40 : w4.heap.size < w5.heap.size := World.block_lt_of_cell? _ _ c40
  go_wp2_with fail
  refine (refNeg_any _ _ _ _ h1 h2).mono ?_
  rintro e w6 ⟨rfl, hb⟩
  have hb' := below_alloc1 hb
  replace a0 := cell_later hb' a0
  replace a1 := cell_later hb' a1
  replace a2 := cell_later hb' a2
  replace b0 := cell_later hb' b0
  replace b1 := cell_later hb' b1
  replace b2 := cell_later hb' b2
  replace c30 := cell_later hb' c30
  replace c31 := cell_later hb' c31
  replace c32 := cell_later hb' c32
  replace c40 := cell_later hb' c40
  replace c41 := cell_later hb' c41
  replace c42 := cell_later hb' c42
  have c50 := new_cell hb 0 _ rfl
  have c51 := new_cell hb 1 _ rfl
  have c52 := new_cell hb 2 _ rfl
  replace hx := cell_later hb' hx
  replace hB := hB.trans (hb'.mono hB.size)
  clear hb hb'
  have za0 : w.heap.size < w6.heap.size := World.block_lt_of_cell? _ _ a0
  have zb0 : w.heap.size + 1 < w6.heap.size := World.block_lt_of_cell? _ _ b0
  have zc30 : w3.heap.size < w6.heap.size := World.block_lt_of_cell? _ _ c30
  have zc40 : w4.heap.size < w6.heap.size := World.block_lt_of_cell? _ _ c40
  have zc50 : w5.heap.size < w6.heap.size := World.block_lt_of_cell? _ _ c50
  go_wp2_with fail
  refine (awake_any x _ (cell_later ((Below.refl _ _).alloc (Nat.le_refl _) _) hx)).mono ?_
  rintro e w7 ⟨rfl, hb⟩
  have hb' := below_alloc1 hb
  replace a0 := cell_later hb' a0
  replace a1 := cell_later hb' a1
  replace a2 := cell_later hb' a2
  replace b0 := cell_later hb' b0
  replace b1 := cell_later hb' b1
  replace b2 := cell_later hb' b2
  replace c30 := cell_later hb' c30
  replace c31 := cell_later hb' c31
  replace c32 := cell_later hb' c32
  replace c40 := cell_later hb' c40
  replace c41 := cell_later hb' c41
  replace c42 := cell_later hb' c42
  replace c50 := cell_later hb' c50
  replace c51 := cell_later hb' c51
  replace c52 := cell_later hb' c52
  have c60 := new_cell hb 0 _ rfl
  have c61 := new_cell hb 1 _ rfl
  have c62 := new_cell hb 2 _ rfl
  replace hx := cell_later hb' hx
  replace hB := hB.trans (hb'.mono hB.size)
  clear hb hb'
  have za0 : w.heap.size < w7.heap.size := World.block_lt_of_cell? _ _ a0
  have zb0 : w.heap.size + 1 < w7.heap.size := World.block_lt_of_cell? _ _ b0
  have zc30 : w3.heap.size < w7.heap.size := World.block_lt_of_cell? _ _ c30
  have zc40 : w4.heap.size < w7.heap.size := World.block_lt_of_cell? _ _ c40
  have zc50 : w5.heap.size < w7.heap.size := World.block_lt_of_cell? _ _ c50
  have zc60 : w6.heap.size < w7.heap.size := World.block_lt_of_cell? _ _ c60
  have E2 := eql23
  have R := sameV_refl
  go_wp2
  go_ret
  exact ⟨rfl, hB⟩
end Go.Proofs.YtojlgiipnnnfgaaDoor
