/- The walk of the law ValueBack: it returns true, and below the heap's end memory is as it was. Conditions: internal/bytealg.MaxLen holds some integer; the two numbers lie within 64 bits. -/
import Derived.Test.YtojlgiipnnnfgaaDoorWf
import Derived.Test.YtojlgiipnnnfgaaDoorWq
namespace Go.Proofs.YtojlgiipnnnfgaaDoor
open Go.RowKit

theorem calcAs {op ka na kb nb a b c : Int} (h : calc3 op ka na kb nb = (a, b, c)) (sa sb : ByteArray) (w : World) (ha1 : -9223372036854775808 ≤ na) (ha2 : na ≤ 9223372036854775807) (hb1 : -9223372036854775808 ≤ nb) (hb2 : nb ≤ 9223372036854775807) :
    Calls Tryd.prog 17 #[.int .i64 op, .agg #[.int .i64 ka, .int .i64 na, .string sa], .agg #[.int .i64 kb, .int .i64 nb, .string sb]] w
      fun e w' => e = .returned (.tuple #[.agg #[.int .i64 a, .int .i64 b, .string ⟨#[]⟩], .int .i64 c]) ∧ Below w.heap.size w w' :=
  (calc_any op ka na kb nb sa sb w ha1 ha2 hb1 hb2).mono fun e w' ⟨he, hb⟩ => ⟨by rw [he, cK, cN, cE, h], hb⟩

theorem calc_swap (op x y : Int) (h : op = 3 ∨ op = 5) : calc3 op 1 x 1 y = calc3 op 1 y 1 x := by
  have e : exact3 op x y = exact3 op y x := by
    rcases h with rfl | rfl
    · simp [exact3, Int.add_comm]
    · simp [exact3, Int.mul_comm]
  simp only [calc3, e]
theorem calc_nothing (x : Int) : calc3 5 1 x 0 0 = (0, 0, 0) := by simp [calc3]
theorem calc_back {x y : Int} (h1 : -9223372036854775808 ≤ x) (h2 : x ≤ 9223372036854775807) : calc3 4 1 (x + y) 1 y = (1, x, 0) := by
  have e : exact3 4 (x + y) y = x := by simp [exact3]
  simp [calc3, e, inR, h1, h2]
theorem calc_none0 (y : Int) : calc3 4 0 0 1 y = (0, 0, 0) := by simp [calc3]
theorem sameV_refl (k n : Int) (s : ByteArray) : sameV k n s k n s = true := (sameV_iff ..).2 ⟨rfl, rfl, rfl⟩
theorem bne_refl' (a : Int) : (a != a) = false := by simp
theorem below_alloc2 {W w1 : World} {o1 o2 : Obj} (hb : Below ((W.alloc o1).alloc o2).heap.size ((W.alloc o1).alloc o2) w1) : Below W.heap.size W w1 :=
  below_through hb (by simp; omega) (((Below.refl _ _).alloc (Nat.le_refl _) _).alloc (by simp) _)
theorem below_alloc1 {W w1 : World} {o1 : Obj} (hb : Below (W.alloc o1).heap.size (W.alloc o1) w1) : Below W.heap.size W w1 :=
  below_through hb (by simp) ((Below.refl _ _).alloc (Nat.le_refl _) _)
theorem new_cell {W w1 : World} {cs : Array Value} {t : TypeId} (hb : Below (W.alloc (.cells cs t)).heap.size (W.alloc (.cells cs t)) w1) (i : Nat) (v : Value) (h : cs[i]? = some v) : w1.cell? ⟨W.heap.size, i, none⟩ = some v :=
  cell_later hb (by rw [World.cell?_alloc_new]; exact h)

set_option maxHeartbeats 2000000 in
theorem back_in (n m pk pn pe x : Int) (w : World) (hn1 : -9223372036854775808 ≤ n) (hn2 : n ≤ 9223372036854775807) (hm1 : -9223372036854775808 ≤ m) (hm2 : m ≤ 9223372036854775807)
    (h3 : calc3 3 1 n 1 m = (1, n + m, 0)) (h5 : calc3 5 1 n 1 m = (pk, pn, pe)) (hx : w.cell? ⟨0, 0, none⟩ = some (.int .i64 x)) (hs1 : -9223372036854775808 ≤ n + m) (hs2 : n + m ≤ 9223372036854775807) :
    Calls Tryd.prog 7 #[.int .i64 n, .int .i64 m] w fun e w' => e = .returned (.bool true) ∧ Below w.heap.size w w' := by
  have H3 := Lib.hid h3
  have H3b := Lib.hid ((calc_swap 3 m n (.inl rfl)).trans h3)
  have H5 := Lib.hid h5
  have H5b := Lib.hid ((calc_swap 5 m n (.inr rfl)).trans h5)
  have H4 : Hid (calc3 4 1 (n + m) 1 m = (1, n, 0)) := Lib.hid (calc_back hn1 hn2)
  clear h3 h5
  go_enter Tryd.func7, Tryd.ntmps7
  go_wp2_with fail
  refine (num_any _ _).mono ?_
  rintro e w1 ⟨rfl, hb1⟩
  replace hx := cell_later hb1 hx
  go_wp2_with fail
  refine (num_any _ _).mono ?_
  rintro e w2 ⟨rfl, hb2⟩
  replace hx := cell_later hb2 hx
  have hB : Below w.heap.size w w2 := hb1.trans (hb2.mono hb1.size)
  clear hb1 hb2
  go_wp2_with fail
  refine (calcAs (H3.out) _ _ _ (by first | assumption | omega) (by first | assumption | omega) (by first | assumption | omega) (by first | assumption | omega)).mono ?_
  rintro e w3 ⟨rfl, hb⟩
  have a0 : w3.cell? ⟨w2.heap.size, 0, none⟩ = some (.int .i64 1) := cell_later hb (by simp)
  have a1 : w3.cell? ⟨w2.heap.size, 1, none⟩ = some (.int .i64 n) := cell_later hb (by simp)
  have a2 : w3.cell? ⟨w2.heap.size, 2, none⟩ = some (.string ⟨#[]⟩) := cell_later hb (by simp)
  have b0 : w3.cell? ⟨w2.heap.size + 1, 0, none⟩ = some (.int .i64 1) := cell_later hb (by simp)
  have b1 : w3.cell? ⟨w2.heap.size + 1, 1, none⟩ = some (.int .i64 m) := cell_later hb (by simp)
  have b2 : w3.cell? ⟨w2.heap.size + 1, 2, none⟩ = some (.string ⟨#[]⟩) := cell_later hb (by simp)
  have hb' := below_alloc2 hb
  replace hx := cell_later hb' hx
  replace hB := hB.trans (hb'.mono hB.size)
  clear hb hb'
  have za0 : w2.heap.size < w3.heap.size := World.block_lt_of_cell? _ _ a0
  have zb0 : w2.heap.size + 1 < w3.heap.size := World.block_lt_of_cell? _ _ b0
  go_wp2_with fail
  refine (calcAs (H3b.out) _ _ _ (by first | assumption | omega) (by first | assumption | omega) (by first | assumption | omega) (by first | assumption | omega)).mono ?_
  rintro e w4 ⟨rfl, hb⟩
  have hb' := below_alloc1 hb
  replace a0 := cell_later hb' a0
  replace a1 := cell_later hb' a1
  replace a2 := cell_later hb' a2
  replace b0 := cell_later hb' b0
  replace b1 := cell_later hb' b1
  replace b2 := cell_later hb' b2
  have c30 := new_cell hb 0 _ rfl
  have c31 := new_cell hb 1 _ rfl
  have c32 := new_cell hb 2 _ rfl
  replace hx := cell_later hb' hx
  replace hB := hB.trans (hb'.mono hB.size)
  clear hb hb'
  have za0 : w2.heap.size < w4.heap.size := World.block_lt_of_cell? _ _ a0
  have zb0 : w2.heap.size + 1 < w4.heap.size := World.block_lt_of_cell? _ _ b0
  have zc30 : w3.heap.size < w4.heap.size := World.block_lt_of_cell? _ _ c30
  go_wp2_with fail
  refine (calcAs (H5.out) _ _ _ (by first | assumption | omega) (by first | assumption | omega) (by first | assumption | omega) (by first | assumption | omega)).mono ?_
  rintro e w5 ⟨rfl, hb⟩
  have hb' := below_alloc1 hb
  replace a0 := cell_later hb' a0
  replace a1 := cell_later hb' a1
  replace a2 := cell_later hb' a2
  replace b0 := cell_later hb' b0
  replace b1 := cell_later hb' b1
  replace b2 := cell_later hb' b2
  replace c30 := cell_later hb' c30
  replace c31 := cell_later hb' c31
  replace c32 := cell_later hb' c32
  have c40 := new_cell hb 0 _ rfl
  have c41 := new_cell hb 1 _ rfl
  have c42 := new_cell hb 2 _ rfl
  replace hx := cell_later hb' hx
  replace hB := hB.trans (hb'.mono hB.size)
  clear hb hb'
  have za0 : w2.heap.size < w5.heap.size := World.block_lt_of_cell? _ _ a0
  have zb0 : w2.heap.size + 1 < w5.heap.size := World.block_lt_of_cell? _ _ b0
  have zc30 : w3.heap.size < w5.heap.size := World.block_lt_of_cell? _ _ c30
  have zc40 : w4.heap.size < w5.heap.size := World.block_lt_of_cell? _ _ c40
  go_wp2_with fail
  refine (calcAs (H5b.out) _ _ _ (by first | assumption | omega) (by first | assumption | omega) (by first | assumption | omega) (by first | assumption | omega)).mono ?_
  rintro e w6 ⟨rfl, hb⟩
  have hb' := below_alloc1 hb
  replace a0 := cell_later hb' a0
  replace a1 := cell_later hb' a1
  replace a2 := cell_later hb' a2
  replace b0 := cell_later hb' b0
  replace b1 := cell_later hb' b1
  replace b2 := cell_later hb' b2
  replace c30 := cell_later hb' c30
  replace c31 := cell_later hb' c31
  replace c32 := cell_later hb' c32
  replace c40 := cell_later hb' c40
  replace c41 := cell_later hb' c41
  replace c42 := cell_later hb' c42
  have c50 := new_cell hb 0 _ rfl
  have c51 := new_cell hb 1 _ rfl
  have c52 := new_cell hb 2 _ rfl
  replace hx := cell_later hb' hx
  replace hB := hB.trans (hb'.mono hB.size)
  clear hb hb'
  have za0 : w2.heap.size < w6.heap.size := World.block_lt_of_cell? _ _ a0
  have zb0 : w2.heap.size + 1 < w6.heap.size := World.block_lt_of_cell? _ _ b0
  have zc30 : w3.heap.size < w6.heap.size := World.block_lt_of_cell? _ _ c30
  have zc40 : w4.heap.size < w6.heap.size := World.block_lt_of_cell? _ _ c40
  have zc50 : w5.heap.size < w6.heap.size := World.block_lt_of_cell? _ _ c50
  go_wp2_with fail
  refine (calcAs (H4.out) _ _ _ (by first | assumption | omega) (by first | assumption | omega) (by first | assumption | omega) (by first | assumption | omega)).mono ?_
  rintro e w7 ⟨rfl, hb⟩
  have hb' := below_alloc1 hb
  replace a0 := cell_later hb' a0
  replace a1 := cell_later hb' a1
  replace a2 := cell_later hb' a2
  replace b0 := cell_later hb' b0
  replace b1 := cell_later hb' b1
  replace b2 := cell_later hb' b2
  replace c30 := cell_later hb' c30
  replace c31 := cell_later hb' c31
  replace c32 := cell_later hb' c32
  replace c40 := cell_later hb' c40
  replace c41 := cell_later hb' c41
  replace c42 := cell_later hb' c42
  replace c50 := cell_later hb' c50
  replace c51 := cell_later hb' c51
  replace c52 := cell_later hb' c52
  have c60 := new_cell hb 0 _ rfl
  have c61 := new_cell hb 1 _ rfl
  have c62 := new_cell hb 2 _ rfl
  replace hx := cell_later hb' hx
  replace hB := hB.trans (hb'.mono hB.size)
  clear hb hb'
  have za0 : w2.heap.size < w7.heap.size := World.block_lt_of_cell? _ _ a0
  have zb0 : w2.heap.size + 1 < w7.heap.size := World.block_lt_of_cell? _ _ b0
  have zc30 : w3.heap.size < w7.heap.size := World.block_lt_of_cell? _ _ c30
  have zc40 : w4.heap.size < w7.heap.size := World.block_lt_of_cell? _ _ c40
  have zc50 : w5.heap.size < w7.heap.size := World.block_lt_of_cell? _ _ c50
  have zc60 : w6.heap.size < w7.heap.size := World.block_lt_of_cell? _ _ c60
  go_wp2_with fail
  refine (calcAs (calc_nothing n) _ _ _ (by first | assumption | omega) (by first | assumption | omega) (by first | assumption | omega) (by first | assumption | omega)).mono ?_
  rintro e w8 ⟨rfl, hb⟩
  have hb' := below_alloc1 hb
  replace a0 := cell_later hb' a0
  replace a1 := cell_later hb' a1
  replace a2 := cell_later hb' a2
  replace b0 := cell_later hb' b0
  replace b1 := cell_later hb' b1
  replace b2 := cell_later hb' b2
  replace c30 := cell_later hb' c30
  replace c31 := cell_later hb' c31
  replace c32 := cell_later hb' c32
  replace c40 := cell_later hb' c40
  replace c41 := cell_later hb' c41
  replace c42 := cell_later hb' c42
  replace c50 := cell_later hb' c50
  replace c51 := cell_later hb' c51
  replace c52 := cell_later hb' c52
  replace c60 := cell_later hb' c60
  replace c61 := cell_later hb' c61
  replace c62 := cell_later hb' c62
  have c70 := new_cell hb 0 _ rfl
  have c71 := new_cell hb 1 _ rfl
  have c72 := new_cell hb 2 _ rfl
  replace hx := cell_later hb' hx
  replace hB := hB.trans (hb'.mono hB.size)
  clear hb hb'
  have za0 : w2.heap.size < w8.heap.size := World.block_lt_of_cell? _ _ a0
  have zb0 : w2.heap.size + 1 < w8.heap.size := World.block_lt_of_cell? _ _ b0
  have zc30 : w3.heap.size < w8.heap.size := World.block_lt_of_cell? _ _ c30
  have zc40 : w4.heap.size < w8.heap.size := World.block_lt_of_cell? _ _ c40
  have zc50 : w5.heap.size < w8.heap.size := World.block_lt_of_cell? _ _ c50
  have zc60 : w6.heap.size < w8.heap.size := World.block_lt_of_cell? _ _ c60
  have zc70 : w7.heap.size < w8.heap.size := World.block_lt_of_cell? _ _ c70
  go_wp2_with fail
  refine (awake_any x _ (cell_later ((Below.refl _ _).alloc (Nat.le_refl _) _) hx)).mono ?_
  rintro e w9 ⟨rfl, hb⟩
  have hb' := below_alloc1 hb
  replace a0 := cell_later hb' a0
  replace a1 := cell_later hb' a1
  replace a2 := cell_later hb' a2
  replace b0 := cell_later hb' b0
  replace b1 := cell_later hb' b1
  replace b2 := cell_later hb' b2
  replace c30 := cell_later hb' c30
  replace c31 := cell_later hb' c31
  replace c32 := cell_later hb' c32
  replace c40 := cell_later hb' c40
  replace c41 := cell_later hb' c41
  replace c42 := cell_later hb' c42
  replace c50 := cell_later hb' c50
  replace c51 := cell_later hb' c51
  replace c52 := cell_later hb' c52
  replace c60 := cell_later hb' c60
  replace c61 := cell_later hb' c61
  replace c62 := cell_later hb' c62
  replace c70 := cell_later hb' c70
  replace c71 := cell_later hb' c71
  replace c72 := cell_later hb' c72
  have c80 := new_cell hb 0 _ rfl
  have c81 := new_cell hb 1 _ rfl
  have c82 := new_cell hb 2 _ rfl
  replace hB := hB.trans (hb'.mono hB.size)
  clear hb hb' hx
  have za0 : w2.heap.size < w9.heap.size := World.block_lt_of_cell? _ _ a0
  have zb0 : w2.heap.size + 1 < w9.heap.size := World.block_lt_of_cell? _ _ b0
  have zc30 : w3.heap.size < w9.heap.size := World.block_lt_of_cell? _ _ c30
  have zc40 : w4.heap.size < w9.heap.size := World.block_lt_of_cell? _ _ c40
  have zc50 : w5.heap.size < w9.heap.size := World.block_lt_of_cell? _ _ c50
  have zc60 : w6.heap.size < w9.heap.size := World.block_lt_of_cell? _ _ c60
  have zc70 : w7.heap.size < w9.heap.size := World.block_lt_of_cell? _ _ c70
  have zc80 : w8.heap.size < w9.heap.size := World.block_lt_of_cell? _ _ c80
  have E := neq23
  have E2 := eql23
  have R := sameV_refl
  go_wp2
  go_ret
  exact ⟨rfl, hB⟩

set_option maxHeartbeats 2000000 in
theorem back_out (n m pk pn pe x : Int) (w : World) (hn1 : -9223372036854775808 ≤ n) (hn2 : n ≤ 9223372036854775807) (hm1 : -9223372036854775808 ≤ m) (hm2 : m ≤ 9223372036854775807)
    (h3 : calc3 3 1 n 1 m = (0, 0, 12)) (h5 : calc3 5 1 n 1 m = (pk, pn, pe)) (hx : w.cell? ⟨0, 0, none⟩ = some (.int .i64 x)) :
    Calls Tryd.prog 7 #[.int .i64 n, .int .i64 m] w fun e w' => e = .returned (.bool true) ∧ Below w.heap.size w w' := by
  have H3 := Lib.hid h3
  have H3b := Lib.hid ((calc_swap 3 m n (.inl rfl)).trans h3)
  have H5 := Lib.hid h5
  have H5b := Lib.hid ((calc_swap 5 m n (.inr rfl)).trans h5)
  have H4 : Hid (calc3 4 0 0 1 m = (0, 0, 0)) := Lib.hid (calc_none0 m)
  clear h3 h5
  go_enter Tryd.func7, Tryd.ntmps7
  go_wp2_with fail
  refine (num_any _ _).mono ?_
  rintro e w1 ⟨rfl, hb1⟩
  replace hx := cell_later hb1 hx
  go_wp2_with fail
  refine (num_any _ _).mono ?_
  rintro e w2 ⟨rfl, hb2⟩
  replace hx := cell_later hb2 hx
  have hB : Below w.heap.size w w2 := hb1.trans (hb2.mono hb1.size)
  clear hb1 hb2
  go_wp2_with fail
  refine (calcAs (H3.out) _ _ _ (by first | assumption | omega) (by first | assumption | omega) (by first | assumption | omega) (by first | assumption | omega)).mono ?_
  rintro e w3 ⟨rfl, hb⟩
  have a0 : w3.cell? ⟨w2.heap.size, 0, none⟩ = some (.int .i64 1) := cell_later hb (by simp)
  have a1 : w3.cell? ⟨w2.heap.size, 1, none⟩ = some (.int .i64 n) := cell_later hb (by simp)
  have a2 : w3.cell? ⟨w2.heap.size, 2, none⟩ = some (.string ⟨#[]⟩) := cell_later hb (by simp)
  have b0 : w3.cell? ⟨w2.heap.size + 1, 0, none⟩ = some (.int .i64 1) := cell_later hb (by simp)
  have b1 : w3.cell? ⟨w2.heap.size + 1, 1, none⟩ = some (.int .i64 m) := cell_later hb (by simp)
  have b2 : w3.cell? ⟨w2.heap.size + 1, 2, none⟩ = some (.string ⟨#[]⟩) := cell_later hb (by simp)
  have hb' := below_alloc2 hb
  replace hx := cell_later hb' hx
  replace hB := hB.trans (hb'.mono hB.size)
  clear hb hb'
  have za0 : w2.heap.size < w3.heap.size := World.block_lt_of_cell? _ _ a0
  have zb0 : w2.heap.size + 1 < w3.heap.size := World.block_lt_of_cell? _ _ b0
  go_wp2_with fail
  refine (calcAs (H3b.out) _ _ _ (by first | assumption | omega) (by first | assumption | omega) (by first | assumption | omega) (by first | assumption | omega)).mono ?_
  rintro e w4 ⟨rfl, hb⟩
  have hb' := below_alloc1 hb
  replace a0 := cell_later hb' a0
  replace a1 := cell_later hb' a1
  replace a2 := cell_later hb' a2
  replace b0 := cell_later hb' b0
  replace b1 := cell_later hb' b1
  replace b2 := cell_later hb' b2
  have c30 := new_cell hb 0 _ rfl
  have c31 := new_cell hb 1 _ rfl
  have c32 := new_cell hb 2 _ rfl
  replace hx := cell_later hb' hx
  replace hB := hB.trans (hb'.mono hB.size)
  clear hb hb'
  have za0 : w2.heap.size < w4.heap.size := World.block_lt_of_cell? _ _ a0
  have zb0 : w2.heap.size + 1 < w4.heap.size := World.block_lt_of_cell? _ _ b0
  have zc30 : w3.heap.size < w4.heap.size := World.block_lt_of_cell? _ _ c30
  go_wp2_with fail
  refine (calcAs (H5.out) _ _ _ (by first | assumption | omega) (by first | assumption | omega) (by first | assumption | omega) (by first | assumption | omega)).mono ?_
  rintro e w5 ⟨rfl, hb⟩
  have hb' := below_alloc1 hb
  replace a0 := cell_later hb' a0
  replace a1 := cell_later hb' a1
  replace a2 := cell_later hb' a2
  replace b0 := cell_later hb' b0
  replace b1 := cell_later hb' b1
  replace b2 := cell_later hb' b2
  replace c30 := cell_later hb' c30
  replace c31 := cell_later hb' c31
  replace c32 := cell_later hb' c32
  have c40 := new_cell hb 0 _ rfl
  have c41 := new_cell hb 1 _ rfl
  have c42 := new_cell hb 2 _ rfl
  replace hx := cell_later hb' hx
  replace hB := hB.trans (hb'.mono hB.size)
  clear hb hb'
  have za0 : w2.heap.size < w5.heap.size := World.block_lt_of_cell? _ _ a0
  have zb0 : w2.heap.size + 1 < w5.heap.size := World.block_lt_of_cell? _ _ b0
  have zc30 : w3.heap.size < w5.heap.size := World.block_lt_of_cell? _ _ c30
  have zc40 : w4.heap.size < w5.heap.size := World.block_lt_of_cell? _ _ c40
  go_wp2_with fail
  refine (calcAs (H5b.out) _ _ _ (by first | assumption | omega) (by first | assumption | omega) (by first | assumption | omega) (by first | assumption | omega)).mono ?_
  rintro e w6 ⟨rfl, hb⟩
  have hb' := below_alloc1 hb
  replace a0 := cell_later hb' a0
  replace a1 := cell_later hb' a1
  replace a2 := cell_later hb' a2
  replace b0 := cell_later hb' b0
  replace b1 := cell_later hb' b1
  replace b2 := cell_later hb' b2
  replace c30 := cell_later hb' c30
  replace c31 := cell_later hb' c31
  replace c32 := cell_later hb' c32
  replace c40 := cell_later hb' c40
  replace c41 := cell_later hb' c41
  replace c42 := cell_later hb' c42
  have c50 := new_cell hb 0 _ rfl
  have c51 := new_cell hb 1 _ rfl
  have c52 := new_cell hb 2 _ rfl
  replace hx := cell_later hb' hx
  replace hB := hB.trans (hb'.mono hB.size)
  clear hb hb'
  have za0 : w2.heap.size < w6.heap.size := World.block_lt_of_cell? _ _ a0
  have zb0 : w2.heap.size + 1 < w6.heap.size := World.block_lt_of_cell? _ _ b0
  have zc30 : w3.heap.size < w6.heap.size := World.block_lt_of_cell? _ _ c30
  have zc40 : w4.heap.size < w6.heap.size := World.block_lt_of_cell? _ _ c40
  have zc50 : w5.heap.size < w6.heap.size := World.block_lt_of_cell? _ _ c50
  go_wp2_with fail
  refine (calcAs (H4.out) _ _ _ (by first | assumption | omega) (by first | assumption | omega) (by first | assumption | omega) (by first | assumption | omega)).mono ?_
  rintro e w7 ⟨rfl, hb⟩
  have hb' := below_alloc1 hb
  replace a0 := cell_later hb' a0
  replace a1 := cell_later hb' a1
  replace a2 := cell_later hb' a2
  replace b0 := cell_later hb' b0
  replace b1 := cell_later hb' b1
  replace b2 := cell_later hb' b2
  replace c30 := cell_later hb' c30
  replace c31 := cell_later hb' c31
  replace c32 := cell_later hb' c32
  replace c40 := cell_later hb' c40
  replace c41 := cell_later hb' c41
  replace c42 := cell_later hb' c42
  replace c50 := cell_later hb' c50
  replace c51 := cell_later hb' c51
  replace c52 := cell_later hb' c52
  have c60 := new_cell hb 0 _ rfl
  have c61 := new_cell hb 1 _ rfl
  have c62 := new_cell hb 2 _ rfl
  replace hx := cell_later hb' hx
  replace hB := hB.trans (hb'.mono hB.size)
  clear hb hb'
  have za0 : w2.heap.size < w7.heap.size := World.block_lt_of_cell? _ _ a0
  have zb0 : w2.heap.size + 1 < w7.heap.size := World.block_lt_of_cell? _ _ b0
  have zc30 : w3.heap.size < w7.heap.size := World.block_lt_of_cell? _ _ c30
  have zc40 : w4.heap.size < w7.heap.size := World.block_lt_of_cell? _ _ c40
  have zc50 : w5.heap.size < w7.heap.size := World.block_lt_of_cell? _ _ c50
  have zc60 : w6.heap.size < w7.heap.size := World.block_lt_of_cell? _ _ c60
  go_wp2_with fail
  refine (calcAs (calc_nothing n) _ _ _ (by first | assumption | omega) (by first | assumption | omega) (by first | assumption | omega) (by first | assumption | omega)).mono ?_
  rintro e w8 ⟨rfl, hb⟩
  have hb' := below_alloc1 hb
  replace a0 := cell_later hb' a0
  replace a1 := cell_later hb' a1
  replace a2 := cell_later hb' a2
  replace b0 := cell_later hb' b0
  replace b1 := cell_later hb' b1
  replace b2 := cell_later hb' b2
  replace c30 := cell_later hb' c30
  replace c31 := cell_later hb' c31
  replace c32 := cell_later hb' c32
  replace c40 := cell_later hb' c40
  replace c41 := cell_later hb' c41
  replace c42 := cell_later hb' c42
  replace c50 := cell_later hb' c50
  replace c51 := cell_later hb' c51
  replace c52 := cell_later hb' c52
  replace c60 := cell_later hb' c60
  replace c61 := cell_later hb' c61
  replace c62 := cell_later hb' c62
  have c70 := new_cell hb 0 _ rfl
  have c71 := new_cell hb 1 _ rfl
  have c72 := new_cell hb 2 _ rfl
  replace hx := cell_later hb' hx
  replace hB := hB.trans (hb'.mono hB.size)
  clear hb hb'
  have za0 : w2.heap.size < w8.heap.size := World.block_lt_of_cell? _ _ a0
  have zb0 : w2.heap.size + 1 < w8.heap.size := World.block_lt_of_cell? _ _ b0
  have zc30 : w3.heap.size < w8.heap.size := World.block_lt_of_cell? _ _ c30
  have zc40 : w4.heap.size < w8.heap.size := World.block_lt_of_cell? _ _ c40
  have zc50 : w5.heap.size < w8.heap.size := World.block_lt_of_cell? _ _ c50
  have zc60 : w6.heap.size < w8.heap.size := World.block_lt_of_cell? _ _ c60
  have zc70 : w7.heap.size < w8.heap.size := World.block_lt_of_cell? _ _ c70
  go_wp2_with fail
  refine (awake_any x _ (cell_later ((Below.refl _ _).alloc (Nat.le_refl _) _) hx)).mono ?_
  rintro e w9 ⟨rfl, hb⟩
  have hb' := below_alloc1 hb
  replace a0 := cell_later hb' a0
  replace a1 := cell_later hb' a1
  replace a2 := cell_later hb' a2
  replace b0 := cell_later hb' b0
  replace b1 := cell_later hb' b1
  replace b2 := cell_later hb' b2
  replace c30 := cell_later hb' c30
  replace c31 := cell_later hb' c31
  replace c32 := cell_later hb' c32
  replace c40 := cell_later hb' c40
  replace c41 := cell_later hb' c41
  replace c42 := cell_later hb' c42
  replace c50 := cell_later hb' c50
  replace c51 := cell_later hb' c51
  replace c52 := cell_later hb' c52
  replace c60 := cell_later hb' c60
  replace c61 := cell_later hb' c61
  replace c62 := cell_later hb' c62
  replace c70 := cell_later hb' c70
  replace c71 := cell_later hb' c71
  replace c72 := cell_later hb' c72
  have c80 := new_cell hb 0 _ rfl
  have c81 := new_cell hb 1 _ rfl
  have c82 := new_cell hb 2 _ rfl
  replace hB := hB.trans (hb'.mono hB.size)
  clear hb hb' hx
  have za0 : w2.heap.size < w9.heap.size := World.block_lt_of_cell? _ _ a0
  have zb0 : w2.heap.size + 1 < w9.heap.size := World.block_lt_of_cell? _ _ b0
  have zc30 : w3.heap.size < w9.heap.size := World.block_lt_of_cell? _ _ c30
  have zc40 : w4.heap.size < w9.heap.size := World.block_lt_of_cell? _ _ c40
  have zc50 : w5.heap.size < w9.heap.size := World.block_lt_of_cell? _ _ c50
  have zc60 : w6.heap.size < w9.heap.size := World.block_lt_of_cell? _ _ c60
  have zc70 : w7.heap.size < w9.heap.size := World.block_lt_of_cell? _ _ c70
  have zc80 : w8.heap.size < w9.heap.size := World.block_lt_of_cell? _ _ c80
  have E := neq23
  have E2 := eql23
  have R := sameV_refl
  go_wp2
  go_ret
  exact ⟨rfl, hB⟩

theorem lawBack (n m x : Int) (w : World) (hn1 : -9223372036854775808 ≤ n) (hn2 : n ≤ 9223372036854775807) (hm1 : -9223372036854775808 ≤ m) (hm2 : m ≤ 9223372036854775807) (hx : w.cell? ⟨0, 0, none⟩ = some (.int .i64 x)) :
    Calls Tryd.prog 7 #[.int .i64 n, .int .i64 m] w fun e w' => e = .returned (.bool true) ∧ Below w.heap.size w w' := by
  cases h : inR (n + m) with
  | true => exact back_in n m _ _ _ x w hn1 hn2 hm1 hm2 (calc_in (op := 3) rfl h) rfl hx (inR_bd h).1 (inR_bd h).2
  | false => exact back_out n m _ _ _ x w hn1 hn2 hm1 hm2 (calc_out (op := 3) rfl h) rfl hx
end Go.Proofs.YtojlgiipnnnfgaaDoor
