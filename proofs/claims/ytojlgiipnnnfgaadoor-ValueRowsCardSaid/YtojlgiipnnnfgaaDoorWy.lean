/- The walk of the law ValueRows: it returns true, and below the heap's end memory is as it was. Conditions: internal/bytealg.MaxLen holds some integer; the rows' cells are known. -/
import Derived.Test.YtojlgiipnnnfgaaDoorWx
import Derived.Test.YtojlgiipnnnfgaaDoorWf
namespace Go.Proofs.YtojlgiipnnnfgaaDoor
open Go.RowKit

set_option maxHeartbeats 1000000 in
theorem lawRows (a1 a2 a3 : Option Addr) (c1 c2 c3 : Nat) (l1 l2 l3 : List Val) (x : Int) (w : World) (h1 : RowAt w a1 l1) (h2 : RowAt w a2 l2) (h3 : RowAt w a3 l3) (m1 : l1.length ≤ maxLen) (m2 : l2.length ≤ maxLen) (hx : w.cell? ⟨0, 0, none⟩ = some (.int .i64 x)) :
    Calls Tryd.prog 5 #[.slice a1 l1.length c1, .slice a2 l2.length c2, .slice a3 l3.length c3] w fun e w' => e = .returned (.bool true) ∧ Below w.heap.size w w' := by
  have R1 := Lib.hid h1
  have R2 := Lib.hid h2
  have R3 := Lib.hid h3
  have M1 := Lib.hid m1
  have M2 := Lib.hid m2
  have HX := Lib.hid hx
  have bd21 := rowsV_bd l2 l1
  have hflip : (rowsV l1 l2 != -rowsV l2 l1) = false := by rw [← rowsV_flip l1 l2]; simp
  have T := Lib.hid (rowsV_trans l1 l2 l3)
  clear h1 h2 h3 m1 m2 hx
  go_enter Tryd.func5, Tryd.ntmps5
  go_wp2_with fail
  refine (awake_any x _ HX.out).mono ?_
  rintro e w1 ⟨rfl, hB1⟩
  go_wp2_with fail
  refine (rows_any _ _ _ _ _ _ _ (R1.out.later hB1) (R2.out.later hB1) M1.out).mono ?_
  rintro e w2 ⟨rfl, hb⟩
  have hB2 := hB1.trans (hb.mono hB1.size)
  go_wp2_with fail
  refine (refRows_any _ _ _ _ _ _ _ (R1.out.later hB2) (R2.out.later hB2) M1.out).mono ?_
  rintro e w3 ⟨rfl, hb⟩
  have hB3 := hB2.trans (hb.mono hB2.size)
  go_wp2_with fail
  refine (rows_any _ _ _ _ _ _ _ (R1.out.later hB3) (R2.out.later hB3) M1.out).mono ?_
  rintro e w4 ⟨rfl, hb⟩
  have hB4 := hB3.trans (hb.mono hB3.size)
  go_wp2_with fail
  refine (rows_any _ _ _ _ _ _ _ (R2.out.later hB4) (R1.out.later hB4) M2.out).mono ?_
  rintro e w5 ⟨rfl, hb⟩
  have hB5 := hB4.trans (hb.mono hB4.size)
  go_wp2_with fail
  refine (rows_any _ _ _ _ _ _ _ (R1.out.later hB5) (R2.out.later hB5) M1.out).mono ?_
  rintro e w6 ⟨rfl, hb⟩
  have hB6 := hB5.trans (hb.mono hB5.size)
  by_cases g1 : 0 < rowsV l1 l2
  · go_wp2
    go_ret
    exact ⟨rfl, hB6⟩
  · go_wp2_with fail
    refine (rows_any _ _ _ _ _ _ _ (R2.out.later hB6) (R3.out.later hB6) M2.out).mono ?_
    rintro e w7 ⟨rfl, hb⟩
    have hB7 := hB6.trans (hb.mono hB6.size)
    by_cases g2 : 0 < rowsV l2 l3
    · go_wp2
      go_ret
      exact ⟨rfl, hB7⟩
    · go_wp2_with fail
      refine (rows_any _ _ _ _ _ _ _ (R1.out.later hB7) (R3.out.later hB7) M1.out).mono ?_
      rintro e w8 ⟨rfl, hb⟩
      have hB8 := hB7.trans (hb.mono hB7.size)
      have g3 : rowsV l1 l3 ≤ 0 := T.out (by omega) (by omega)
      go_wp2
      go_ret
      exact ⟨ret_bool (by simp), hB8⟩
end Go.Proofs.YtojlgiipnnnfgaaDoor
