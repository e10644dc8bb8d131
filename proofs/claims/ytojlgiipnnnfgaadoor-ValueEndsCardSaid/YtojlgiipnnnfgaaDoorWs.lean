/- The walk of the law ValueEnds: it returns true, and below the heap's end memory is as it was. Conditions: internal/bytealg.MaxLen holds some integer; the two numbers lie within 64 bits. -/
import Derived.Test.YtojlgiipnnnfgaaDoorWr
namespace Go.Proofs.YtojlgiipnnnfgaaDoor
open Go.RowKit

theorem ends_key (n m : Int) (hn1 : -9223372036854775808 ≤ n) (hn2 : n ≤ 9223372036854775807) (hm1 : -9223372036854775808 ≤ m) (hm2 : m ≤ 9223372036854775807) (ho : inR (n * m) = false) (hm : m ≠ 0)
    (e : wrap64 ((wrap64 (n * m)).tdiv m) = n) : (n = -9223372036854775808 ∧ m = -1) ∨ (m = -9223372036854775808 ∧ n = -1) := by
  have ho' : ¬(-9223372036854775808 ≤ n * m ∧ n * m ≤ 9223372036854775807) := by
    intro h; rw [inR_of _ h.1 h.2] at ho; cases ho
  by_cases h1 : m = -1
  · subst h1
    left
    refine ⟨?_, rfl⟩
    omega
  · exfalso
    have hw : -9223372036854775808 ≤ wrap64 (n * m) ∧ wrap64 (n * m) ≤ 9223372036854775807 := by unfold wrap64; omega
    have hd : ∃ q, wrap64 (n * m) = n * m + q * 18446744073709551616 := ⟨-((n * m + 9223372036854775808) / 18446744073709551616), by unfold wrap64; omega⟩
    obtain ⟨q, hq⟩ := hd
    have hq0 : q ≠ 0 := by intro h; subst h; omega
    generalize wrap64 (n * m) = v at hw hq e
    have hm' : 1 ≤ m.natAbs := by omega
    have hb : (v.tdiv m).natAbs = v.natAbs / m.natAbs := Int.natAbs_tdiv v m
    have hr : (v.tmod m).natAbs = v.natAbs % m.natAbs := Int.natAbs_tmod v m
    have hlt : v.natAbs % m.natAbs < m.natAbs := Nat.mod_lt _ hm'
    have hmd := Int.mul_tdiv_add_tmod v m
    have hdl : v.natAbs / m.natAbs ≤ v.natAbs := Nat.div_le_self _ _
    have hin : -9223372036854775808 ≤ v.tdiv m ∧ v.tdiv m ≤ 9223372036854775807 := by
      by_cases h2 : m = 1
      · subst h2; rw [Int.tdiv_one]; exact hw
      · have h3 : 2 ≤ m.natAbs := by omega
        have : v.natAbs / m.natAbs ≤ v.natAbs / 2 := Nat.div_le_div_left h3 (by omega)
        omega
    have e' : v.tdiv m = n := by
      have : wrap64 (v.tdiv m) = v.tdiv m := by unfold wrap64; omega
      rw [← this]; exact e
    rw [e', Int.mul_comm] at hmd
    omega

set_option maxHeartbeats 1000000 in
theorem ends_out (n m x : Int) (w : World) (hn1 : -9223372036854775808 ≤ n) (hn2 : n ≤ 9223372036854775807) (hm1 : -9223372036854775808 ≤ m) (hm2 : m ≤ 9223372036854775807)
    (h5 : calc3 5 1 n 1 m = (0, 0, 12)) (hx : w.cell? ⟨0, 0, none⟩ = some (.int .i64 x)) (hn0 : (n != 0) = true) (hm0 : (m != 0) = true) (ho : inR (n * m) = false) :
    Calls Tryd.prog 8 #[.int .i64 n, .int .i64 m] w fun e w' => e = .returned (.bool true) ∧ Below w.heap.size w w' := by
  have H5 := Lib.hid h5
  have hmz : m ≠ 0 := by simpa using hm0
  have K := Lib.hid (ends_key n m hn1 hn2 hm1 hm2 ho hmz)
  clear h5 ho hmz
  go_enter Tryd.func8, Tryd.ntmps8
  go_wp2_with fail
  refine (num_any _ _).mono ?_
  rintro e w1 ⟨rfl, hb1⟩
  replace hx := cell_later hb1 hx
  go_wp2_with fail
  refine (num_any _ _).mono ?_
  rintro e w2 ⟨rfl, hb2⟩
  replace hx := cell_later hb2 hx
  have hB : Below w.heap.size w w2 := hb1.trans (hb2.mono hb1.size)
  clear hb1 hb2
  go_wp2_with fail
  refine (calcAs H5.out _ _ _ hn1 hn2 hm1 hm2).mono ?_
  rintro e w3 ⟨rfl, hb⟩
  replace hB := hB.trans (hb.mono hB.size)
  replace hx := cell_later hb hx
  clear hb
  go_wp2_with fail
  refine (awake_any x _ (cell_later ((Below.refl _ _).alloc (Nat.le_refl _) _) hx)).mono ?_
  rintro e w4 ⟨rfl, hb⟩
  have c0 := new_cell hb 0 _ rfl
  have c1 := new_cell hb 1 _ rfl
  have c2 := new_cell hb 2 _ rfl
  have hb' := below_alloc1 hb
  replace hB := hB.trans (hb'.mono hB.size)
  clear hb hb' hx
  have E2 := eql23
  have R := sameV_refl
  go_wp2
  all_goals first
    | exact absurd ‹m = 0› (by simpa using hm0)
    | (go_ret
       refine ⟨ret_bool ?_, hB⟩
       first
         | rfl
         | (rcases K.out ‹_› with ⟨g1, g2⟩ | ⟨g1, g2⟩ <;> first | (exfalso; omega) | (simp [g2]; done)))

set_option maxHeartbeats 1000000 in
theorem ends_in (n m x : Int) (w : World) (hn1 : -9223372036854775808 ≤ n) (hn2 : n ≤ 9223372036854775807) (hm1 : -9223372036854775808 ≤ m) (hm2 : m ≤ 9223372036854775807)
    (h5 : calc3 5 1 n 1 m = (1, n * m, 0)) (hx : w.cell? ⟨0, 0, none⟩ = some (.int .i64 x)) :
    Calls Tryd.prog 8 #[.int .i64 n, .int .i64 m] w fun e w' => e = .returned (.bool true) ∧ Below w.heap.size w w' := by
  have H5 := Lib.hid h5
  clear h5
  go_enter Tryd.func8, Tryd.ntmps8
  go_wp2_with fail
  refine (num_any _ _).mono ?_
  rintro e w1 ⟨rfl, hb1⟩
  replace hx := cell_later hb1 hx
  go_wp2_with fail
  refine (num_any _ _).mono ?_
  rintro e w2 ⟨rfl, hb2⟩
  replace hx := cell_later hb2 hx
  have hB : Below w.heap.size w w2 := hb1.trans (hb2.mono hb1.size)
  clear hb1 hb2
  go_wp2_with fail
  refine (calcAs H5.out _ _ _ hn1 hn2 hm1 hm2).mono ?_
  rintro e w3 ⟨rfl, hb⟩
  replace hB := hB.trans (hb.mono hB.size)
  replace hx := cell_later hb hx
  clear hb
  go_wp2_with fail
  refine (awake_any x _ (cell_later ((Below.refl _ _).alloc (Nat.le_refl _) _) hx)).mono ?_
  rintro e w4 ⟨rfl, hb⟩
  have c0 := new_cell hb 0 _ rfl
  have c1 := new_cell hb 1 _ rfl
  have c2 := new_cell hb 2 _ rfl
  have hb' := below_alloc1 hb
  replace hB := hB.trans (hb'.mono hB.size)
  clear hb hb' hx
  have E2 := eql23
  have R := sameV_refl
  go_wp2
  all_goals
    go_ret
    exact ⟨rfl, hB⟩

theorem lawEnds (n m x : Int) (w : World) (hn1 : -9223372036854775808 ≤ n) (hn2 : n ≤ 9223372036854775807) (hm1 : -9223372036854775808 ≤ m) (hm2 : m ≤ 9223372036854775807) (hx : w.cell? ⟨0, 0, none⟩ = some (.int .i64 x)) :
    Calls Tryd.prog 8 #[.int .i64 n, .int .i64 m] w fun e w' => e = .returned (.bool true) ∧ Below w.heap.size w w' := by
  cases h : inR (n * m) with
  | true => exact ends_in n m x w hn1 hn2 hm1 hm2 (calc_in (op := 5) rfl h) hx
  | false =>
    have hn0 : n ≠ 0 := by intro e; rw [e, Int.zero_mul] at h; exact absurd h (by decide)
    have hm0 : m ≠ 0 := by intro e; rw [e, Int.mul_zero] at h; exact absurd h (by decide)
    exact ends_out n m x w hn1 hn2 hm1 hm2 (calc_out (op := 5) rfl h) hx (by simpa using hn0) (by simpa using hm0) h
end Go.Proofs.YtojlgiipnnnfgaaDoor
