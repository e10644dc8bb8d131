/- The walk of the law PageDoes: it returns true, and below the heap's end memory is as it was. Conditions: the slots' cells are known (what came in reads so). -/
import Derived.Test.YtpcjfhoppcmenaaQq
namespace Go.Proofs.Ytpcjfhoppcmenaa
open Go.RowKit

/-- Two pages that are the same are told to be so. (A structure: a contract at other arguments is refused at once.) -/
structure SameC (a1 : Option Addr) (c1 : Nat) (a2 : Option Addr) (c2 n : Nat) (q : Pg) : Prop where
  out : ∀ W, PgAt W a1 c1 q → PgAt W a2 c2 q → Calls Try.prog 16 #[.agg #[.slice a1 n c1], .agg #[.slice a2 n c2]] W fun e w' => e = .returned (.bool true) ∧ Below W.heap.size W w'
set_option maxHeartbeats 8000000 in
set_option maxRecDepth 1000000 in
theorem lawPageDoes (a : Option Addr) (c : Nat) (p : Pg) (i : Int) (d : List UInt8) (w : World) (hP : PgAt w a c p) (hi1 : -9223372036854775808 ≤ i) (hi2 : i ≤ 9223372036854775807) (hd : d.length ≤ 140737488351232) (hdn : (d.length : Int) ≤ 9223372036854775807) :
    Calls Try.prog 3 #[.agg #[.slice a p.length c], .int .i64 i, .string (txt d)] w fun e w' => e = .returned (.bool true) ∧ Below w.heap.size w w' := by
  have hfp := put_fine ⟨hP.len, hP.small⟩ d
  have hfc := cut_fine ⟨hP.len, hP.small⟩ i
  have hfs := set_fine ⟨hP.len, hP.small⟩ i d
  have hlp := fine_len hfp
  have hlc := fine_len hfc
  have hls := fine_len hfs
  obtain ⟨PP, hpp⟩ : ∃ x, putP p d = x := ⟨_, rfl⟩
  obtain ⟨pk, hpi⟩ : ∃ x, putI p d = x := ⟨_, rfl⟩
  obtain ⟨pe, hpe⟩ : ∃ x, putE p d = x := ⟨_, rfl⟩
  obtain ⟨gd, hgd⟩ : ∃ x, getD p i = x := ⟨_, rfl⟩
  obtain ⟨ge, hge⟩ : ∃ x, getE p i = x := ⟨_, rfl⟩
  obtain ⟨CC, hcc⟩ : ∃ x, cutP p i = x := ⟨_, rfl⟩
  obtain ⟨SS, hsp⟩ : ∃ x, setP p i d = x := ⟨_, rfl⟩
  obtain ⟨se, hse⟩ : ∃ x, setE p i d = x := ⟨_, rfl⟩
  obtain ⟨sw, hsw⟩ : ∃ x, sizeW p = x := ⟨_, rfl⟩
  obtain ⟨rb, hrb⟩ : ∃ x, rightB p = x := ⟨_, rfl⟩
  obtain ⟨dn, hdd⟩ : ∃ x, d.length = x := ⟨_, rfl⟩
  obtain ⟨fb, hfb⟩ : ∃ x, fitsB p (dn : Int) = x := ⟨_, rfl⟩
  rw [hpp] at hfp hlp
  rw [hcc] at hfc hlc
  rw [hsp] at hfs hls
  have hzd : (txt d).size = dn := by rw [txt_size, hdd]
  have hgg := txt_toList gd
  rw [hdd] at hdn
  clear hdd
  have hlm : p.length ≤ maxLen := by have := hP.len; unfold maxLen; omega
  have hF := fun B (hB : w.heap.size ≤ B) => far_old (B := B) hP.out hB
  have Hv3 := hid0 (VarAt.new w (.slice a p.length c) 24)
  have qv3 := Hv3.out.cell
  have fv3 := Hv3.out.frz
  replace hP := hP.alloc (Obj.cells #[.slice a p.length c] 24)
  have hB : Below w.heap.size w (w.alloc (Obj.cells #[.slice a p.length c] 24)) := (Below.refl _ _).alloc (Nat.le_refl _) _
  go_enter Try.func3, Try.ntmps3
  have C := copied_any a c p _ hP.out hP.len
  go_wp2_with fail
  refine C.mono ?_
  rintro e w1 ⟨⟨a7, c7, rfl, hc7, hq7⟩, hb1⟩
  clear C
  replace hB := below_through hb1 hB.size hB
  replace hP := hP.later hb1
  replace Hv3 := hid0 (Hv3.out.later hb1)
  replace qv3 := Hv3.out.cell
  replace fv3 := Hv3.out.frz
  clear hb1
  have hW : PgAt w1 a7 c7 p := ⟨hq7, hc7, hP.len, hP.small⟩
  have hFW := fun B (hB : w1.heap.size ≤ B) => far_old (B := B) hq7 hB
  clear hq7 hc7
  have hs1 := hB.size
  have hl3 := Hv3.out.lt
  have hzv7 := hB.size
  have Hv7 := hid0 (VarAt.new w1 (.slice a7 p.length c7) 24)
  replace hB := hB.alloc hzv7 (Obj.cells #[.slice a7 p.length c7] 24)
  replace hP := hP.alloc (Obj.cells #[.slice a7 p.length c7] 24)
  replace hW := hW.alloc (Obj.cells #[.slice a7 p.length c7] 24)
  replace Hv3 := hid0 (Hv3.out.alloc (Obj.cells #[.slice a7 p.length c7] 24))
  replace qv3 := Hv3.out.cell
  replace fv3 := Hv3.out.frz
  have qv7 := Hv7.out.cell
  have fv7 := Hv7.out.frz
  have C := pgPut_any a c p d _ hP.out hP.cap hP.len hP.small (le47 hd)
  unfold PutAns at C
  rw [hpi, hpe] at C
  go_wp2_with fail
  refine C.mono ?_
  rintro e w2 ⟨⟨a8, c8, Q, rfl, hc8, hq8, hqe, _⟩, hb2⟩
  clear C
  rw [hpp] at hqe
  obtain rfl := hqe.symm
  have hl7 := Hv7.out.lt
  have hs2 := hb2.size
  rw [World.size_alloc] at hs2
  replace hB := below_through hb2 hB.size hB
  replace hP := hP.later hb2
  replace hW := hW.later hb2
  replace Hv3 := hid0 (Hv3.out.later hb2)
  replace qv3 := Hv3.out.cell
  replace fv3 := Hv3.out.frz
  replace Hv7 := hid0 (Hv7.out.later hb2)
  replace qv7 := Hv7.out.cell
  replace fv7 := Hv7.out.frz
  clear hb2
  have hA : PgAt w2 a8 c8 PP := ⟨hq8, hc8, hfp.1, hfp.2⟩
  clear hq8 hc8
  have hzv8 := hB.size
  have Hv8 := hid0 (VarAt.new w2 (.slice a8 PP.length c8) 24)
  replace hB := hB.alloc hzv8 (Obj.cells #[.slice a8 PP.length c8] 24)
  replace hP := hP.alloc (Obj.cells #[.slice a8 PP.length c8] 24)
  replace hW := hW.alloc (Obj.cells #[.slice a8 PP.length c8] 24)
  replace hA := hA.alloc (Obj.cells #[.slice a8 PP.length c8] 24)
  replace Hv3 := hid0 (Hv3.out.alloc (Obj.cells #[.slice a8 PP.length c8] 24))
  replace qv3 := Hv3.out.cell
  replace fv3 := Hv3.out.frz
  replace Hv7 := hid0 (Hv7.out.alloc (Obj.cells #[.slice a8 PP.length c8] 24))
  replace qv7 := Hv7.out.cell
  replace fv7 := Hv7.out.frz
  have qv8 := Hv8.out.cell
  have fv8 := Hv8.out.frz
  have C := refPut_any a7 c7 p d _ hW.out hW.cap hW.len hW.small
  unfold PutAns at C
  rw [hpi, hpe] at C
  go_wp2_with fail
  refine C.mono ?_
  rintro e w3 ⟨⟨a11, c11, Q, rfl, hc11, hq11, hqe, _⟩, hb3⟩
  clear C
  rw [hpp] at hqe
  obtain rfl := hqe.symm
  have hl8 := Hv8.out.lt
  have hs3 := hb3.size
  rw [World.size_alloc] at hs3
  replace hB := below_through hb3 hB.size hB
  replace hP := hP.later hb3
  replace hW := hW.later hb3
  replace hA := hA.later hb3
  replace Hv3 := hid0 (Hv3.out.later hb3)
  replace qv3 := Hv3.out.cell
  replace fv3 := Hv3.out.frz
  replace Hv7 := hid0 (Hv7.out.later hb3)
  replace qv7 := Hv7.out.cell
  replace fv7 := Hv7.out.frz
  replace Hv8 := hid0 (Hv8.out.later hb3)
  replace qv8 := Hv8.out.cell
  replace fv8 := Hv8.out.frz
  clear hb3
  have hA2 : PgAt w3 a11 c11 PP := ⟨hq11, hc11, hfp.1, hfp.2⟩
  clear hq11 hc11
  have hzv11 := hB.size
  have Hv11 := hid0 (VarAt.new w3 (.slice a11 PP.length c11) 24)
  replace hB := hB.alloc hzv11 (Obj.cells #[.slice a11 PP.length c11] 24)
  replace hP := hP.alloc (Obj.cells #[.slice a11 PP.length c11] 24)
  replace hW := hW.alloc (Obj.cells #[.slice a11 PP.length c11] 24)
  replace hA := hA.alloc (Obj.cells #[.slice a11 PP.length c11] 24)
  replace hA2 := hA2.alloc (Obj.cells #[.slice a11 PP.length c11] 24)
  replace Hv3 := hid0 (Hv3.out.alloc (Obj.cells #[.slice a11 PP.length c11] 24))
  replace qv3 := Hv3.out.cell
  replace fv3 := Hv3.out.frz
  replace Hv7 := hid0 (Hv7.out.alloc (Obj.cells #[.slice a11 PP.length c11] 24))
  replace qv7 := Hv7.out.cell
  replace fv7 := Hv7.out.frz
  replace Hv8 := hid0 (Hv8.out.alloc (Obj.cells #[.slice a11 PP.length c11] 24))
  replace qv8 := Hv8.out.cell
  replace fv8 := Hv8.out.frz
  have qv11 := Hv11.out.cell
  have fv11 := Hv11.out.frz
  have C := pgGet_any a c p i _ hP.out hP.cap hP.len hP.small hi1 hi2
  rw [hgd, hge] at C
  go_wp2_with fail
  refine C.mono ?_
  rintro e w4 ⟨rfl, hb4⟩
  clear C
  have hl11 := Hv11.out.lt
  have hs4 := hb4.size
  rw [World.size_alloc] at hs4
  replace hB := below_through hb4 hB.size hB
  replace hP := hP.later hb4
  replace hW := hW.later hb4
  replace hA := hA.later hb4
  replace hA2 := hA2.later hb4
  replace Hv3 := hid0 (Hv3.out.later hb4)
  replace qv3 := Hv3.out.cell
  replace fv3 := Hv3.out.frz
  replace Hv7 := hid0 (Hv7.out.later hb4)
  replace qv7 := Hv7.out.cell
  replace fv7 := Hv7.out.frz
  replace Hv8 := hid0 (Hv8.out.later hb4)
  replace qv8 := Hv8.out.cell
  replace fv8 := Hv8.out.frz
  replace Hv11 := hid0 (Hv11.out.later hb4)
  replace qv11 := Hv11.out.cell
  replace fv11 := Hv11.out.frz
  clear hb4
  have C := refGet_any a7 c7 p i _ hW.out hlm hW.small hi2
  rw [hgd, hge] at C
  go_wp2_with fail
  refine C.mono ?_
  rintro e w5 ⟨rfl, hb5⟩
  clear C
  have hs5 := hb5.size
  replace hB := below_through hb5 hB.size hB
  replace hP := hP.later hb5
  replace hW := hW.later hb5
  replace hA := hA.later hb5
  replace hA2 := hA2.later hb5
  replace Hv3 := hid0 (Hv3.out.later hb5)
  replace qv3 := Hv3.out.cell
  replace fv3 := Hv3.out.frz
  replace Hv7 := hid0 (Hv7.out.later hb5)
  replace qv7 := Hv7.out.cell
  replace fv7 := Hv7.out.frz
  replace Hv8 := hid0 (Hv8.out.later hb5)
  replace qv8 := Hv8.out.cell
  replace fv8 := Hv8.out.frz
  replace Hv11 := hid0 (Hv11.out.later hb5)
  replace qv11 := Hv11.out.cell
  replace fv11 := Hv11.out.frz
  clear hb5
  go_wp2_with fail
  refine (awake_any _).mono ?_
  rintro e w6 ⟨rfl, hb6⟩
  have hs6 := hb6.size
  replace hB := below_through hb6 hB.size hB
  replace hP := hP.later hb6
  replace hW := hW.later hb6
  replace hA := hA.later hb6
  replace hA2 := hA2.later hb6
  replace Hv3 := hid0 (Hv3.out.later hb6)
  replace qv3 := Hv3.out.cell
  replace fv3 := Hv3.out.frz
  replace Hv7 := hid0 (Hv7.out.later hb6)
  replace qv7 := Hv7.out.cell
  replace fv7 := Hv7.out.frz
  replace Hv8 := hid0 (Hv8.out.later hb6)
  replace qv8 := Hv8.out.cell
  replace fv8 := Hv8.out.frz
  replace Hv11 := hid0 (Hv11.out.later hb6)
  replace qv11 := Hv11.out.cell
  replace fv11 := Hv11.out.frz
  clear hb6
  have C := refSame_any a8 a11 c8 c11 PP _ hA.out hA2.out hlp
  go_wp2_with fail
  refine C.mono ?_
  rintro e w7 ⟨rfl, hb7⟩
  clear C
  have hs7 := hb7.size
  replace hB := below_through hb7 hB.size hB
  replace hP := hP.later hb7
  replace hW := hW.later hb7
  replace hA := hA.later hb7
  replace hA2 := hA2.later hb7
  replace Hv3 := hid0 (Hv3.out.later hb7)
  replace qv3 := Hv3.out.cell
  replace fv3 := Hv3.out.frz
  replace Hv7 := hid0 (Hv7.out.later hb7)
  replace qv7 := Hv7.out.cell
  replace fv7 := Hv7.out.frz
  replace Hv8 := hid0 (Hv8.out.later hb7)
  replace qv8 := Hv8.out.cell
  replace fv8 := Hv8.out.frz
  replace Hv11 := hid0 (Hv11.out.later hb7)
  replace qv11 := Hv11.out.cell
  replace fv11 := Hv11.out.frz
  clear hb7
  clear hA hA2
  have C := pgCut_any a c p i _ hP.out hP.cap hP.len hP.small hi1 hi2
  unfold PgAns at C
  rw [hge] at C
  go_wp2_with fail
  refine C.mono ?_
  rintro e w8 ⟨⟨b8, e8, Q, rfl, hc8, hq8, hqe, hAw⟩, hb8⟩
  clear C
  rw [hcc] at hqe
  obtain rfl := hqe.symm
  have hs8 := hb8.size
  have hF8 := fun B (h1 : w.heap.size ≤ B) (h2 : B < w7.heap.size) => far_away hAw (hF B h1) h2
  replace hB := below_through hb8 hB.size hB
  replace hP := hP.later hb8
  replace hW := hW.later hb8
  replace Hv3 := hid0 (Hv3.out.later hb8)
  replace qv3 := Hv3.out.cell
  replace fv3 := Hv3.out.frz
  replace Hv7 := hid0 (Hv7.out.later hb8)
  replace qv7 := Hv7.out.cell
  replace fv7 := Hv7.out.frz
  replace Hv8 := hid0 (Hv8.out.later hb8)
  replace qv8 := Hv8.out.cell
  replace fv8 := Hv8.out.frz
  replace Hv11 := hid0 (Hv11.out.later hb8)
  replace qv11 := Hv11.out.cell
  replace fv11 := Hv11.out.frz
  clear hb8
  have hC : PgAt w8 b8 e8 CC := ⟨hq8, hc8, hfc.1, hfc.2⟩
  clear hq8 hc8 hAw
  have oqv8 := qv8
  have ofv8 := fv8
  replace hB := hB.setCell (p := ⟨w2.heap.size, 0, none⟩) (by show w.heap.size ≤ w2.heap.size; omega) (.slice b8 CC.length e8)
  replace hP := hP.setCell (w2.heap.size) 0 (.slice b8 CC.length e8) (hF _ (by omega))
  replace hW := hW.setCell (w2.heap.size) 0 (.slice b8 CC.length e8) (hFW _ (by omega))
  replace hC := hC.setCell (w2.heap.size) 0 (.slice b8 CC.length e8) (hF8 _ (by omega) (by omega))
  replace Hv3 := hid0 (Hv3.out.other ⟨w2.heap.size, 0, none⟩ (.slice b8 CC.length e8) (by show w2.heap.size ≠ w.heap.size; omega))
  replace qv3 := Hv3.out.cell
  replace fv3 := Hv3.out.frz
  replace Hv7 := hid0 (Hv7.out.other ⟨w2.heap.size, 0, none⟩ (.slice b8 CC.length e8) (by show w2.heap.size ≠ w1.heap.size; omega))
  replace qv7 := Hv7.out.cell
  replace fv7 := Hv7.out.frz
  replace Hv8 := hid0 (Hv8.out.set (.slice b8 CC.length e8))
  replace qv8 := Hv8.out.cell
  replace fv8 := Hv8.out.frz
  replace Hv11 := hid0 (Hv11.out.other ⟨w2.heap.size, 0, none⟩ (.slice b8 CC.length e8) (by show w2.heap.size ≠ w3.heap.size; omega))
  replace qv11 := Hv11.out.cell
  replace fv11 := Hv11.out.frz
  have C := refCut_any a7 c7 p i _ hW.out hW.cap hW.len hW.small hi2
  unfold PgAns at C
  rw [hge] at C
  go_wp2_with fail
  refine C.mono ?_
  rintro e w9 ⟨⟨b11, e11, Q, rfl, hc11, hq11, hqe, hAw⟩, hb9⟩
  clear C
  rw [hcc] at hqe
  obtain rfl := hqe.symm
  have hs9 := hb9.size
  rw [World.size_setCell] at hs9
  have hF11 := fun B (h1 : w1.heap.size ≤ B) (h2 : B < w8.heap.size) => far_away hAw (hFW B h1) (by rw [World.size_setCell]; exact h2)
  replace hB := below_through hb9 hB.size hB
  replace hP := hP.later hb9
  replace hW := hW.later hb9
  replace hC := hC.later hb9
  replace Hv3 := hid0 (Hv3.out.later hb9)
  replace qv3 := Hv3.out.cell
  replace fv3 := Hv3.out.frz
  replace Hv7 := hid0 (Hv7.out.later hb9)
  replace qv7 := Hv7.out.cell
  replace fv7 := Hv7.out.frz
  replace Hv8 := hid0 (Hv8.out.later hb9)
  replace qv8 := Hv8.out.cell
  replace fv8 := Hv8.out.frz
  replace Hv11 := hid0 (Hv11.out.later hb9)
  replace qv11 := Hv11.out.cell
  replace fv11 := Hv11.out.frz
  clear hb9
  have hD : PgAt w9 b11 e11 CC := ⟨hq11, hc11, hfc.1, hfc.2⟩
  clear hq11 hc11 hAw
  have oqv11 := qv11
  have ofv11 := fv11
  replace hB := hB.setCell (p := ⟨w3.heap.size, 0, none⟩) (by show w.heap.size ≤ w3.heap.size; omega) (.slice b11 CC.length e11)
  replace hP := hP.setCell (w3.heap.size) 0 (.slice b11 CC.length e11) (hF _ (by omega))
  replace hW := hW.setCell (w3.heap.size) 0 (.slice b11 CC.length e11) (hFW _ (by omega))
  replace hC := hC.setCell (w3.heap.size) 0 (.slice b11 CC.length e11) (hF8 _ (by omega) (by omega))
  replace hD := hD.setCell (w3.heap.size) 0 (.slice b11 CC.length e11) (hF11 _ (by omega) (by omega))
  replace Hv3 := hid0 (Hv3.out.other ⟨w3.heap.size, 0, none⟩ (.slice b11 CC.length e11) (by show w3.heap.size ≠ w.heap.size; omega))
  replace qv3 := Hv3.out.cell
  replace fv3 := Hv3.out.frz
  replace Hv7 := hid0 (Hv7.out.other ⟨w3.heap.size, 0, none⟩ (.slice b11 CC.length e11) (by show w3.heap.size ≠ w1.heap.size; omega))
  replace qv7 := Hv7.out.cell
  replace fv7 := Hv7.out.frz
  replace Hv8 := hid0 (Hv8.out.other ⟨w3.heap.size, 0, none⟩ (.slice b11 CC.length e11) (by show w3.heap.size ≠ w2.heap.size; omega))
  replace qv8 := Hv8.out.cell
  replace fv8 := Hv8.out.frz
  replace Hv11 := hid0 (Hv11.out.set (.slice b11 CC.length e11))
  replace qv11 := Hv11.out.cell
  replace fv11 := Hv11.out.frz
  have C := pgSet_any a c p i d _ hP.out hP.cap hP.len hP.small hi1 hi2 hd
  unfold PgAns at C
  rw [hse] at C
  go_wp2_with fail
  refine C.mono ?_
  rintro e w10 ⟨⟨a18, c18, Q, rfl, hc18, hq18, hqe, _⟩, hb10⟩
  clear C
  rw [hsp] at hqe
  obtain rfl := hqe.symm
  replace hB := below_through hb10 hB.size hB
  replace hP := hP.later hb10
  replace hW := hW.later hb10
  replace hC := hC.later hb10
  replace hD := hD.later hb10
  replace Hv3 := hid0 (Hv3.out.later hb10)
  replace qv3 := Hv3.out.cell
  replace fv3 := Hv3.out.frz
  replace Hv7 := hid0 (Hv7.out.later hb10)
  replace qv7 := Hv7.out.cell
  replace fv7 := Hv7.out.frz
  replace Hv8 := hid0 (Hv8.out.later hb10)
  replace qv8 := Hv8.out.cell
  replace fv8 := Hv8.out.frz
  replace Hv11 := hid0 (Hv11.out.later hb10)
  replace qv11 := Hv11.out.cell
  replace fv11 := Hv11.out.frz
  clear hb10
  have hE : PgAt w10 a18 c18 SS := ⟨hq18, hc18, hfs.1, hfs.2⟩
  clear hq18 hc18
  have hzv18 := hB.size
  have Hv18 := hid0 (VarAt.new w10 (.slice a18 SS.length c18) 24)
  replace hB := hB.alloc hzv18 (Obj.cells #[.slice a18 SS.length c18] 24)
  replace hP := hP.alloc (Obj.cells #[.slice a18 SS.length c18] 24)
  replace hW := hW.alloc (Obj.cells #[.slice a18 SS.length c18] 24)
  replace hC := hC.alloc (Obj.cells #[.slice a18 SS.length c18] 24)
  replace hD := hD.alloc (Obj.cells #[.slice a18 SS.length c18] 24)
  replace hE := hE.alloc (Obj.cells #[.slice a18 SS.length c18] 24)
  replace Hv3 := hid0 (Hv3.out.alloc (Obj.cells #[.slice a18 SS.length c18] 24))
  replace qv3 := Hv3.out.cell
  replace fv3 := Hv3.out.frz
  replace Hv7 := hid0 (Hv7.out.alloc (Obj.cells #[.slice a18 SS.length c18] 24))
  replace qv7 := Hv7.out.cell
  replace fv7 := Hv7.out.frz
  replace Hv8 := hid0 (Hv8.out.alloc (Obj.cells #[.slice a18 SS.length c18] 24))
  replace qv8 := Hv8.out.cell
  replace fv8 := Hv8.out.frz
  replace Hv11 := hid0 (Hv11.out.alloc (Obj.cells #[.slice a18 SS.length c18] 24))
  replace qv11 := Hv11.out.cell
  replace fv11 := Hv11.out.frz
  have qv18 := Hv18.out.cell
  have fv18 := Hv18.out.frz
  have C := refSet_any a7 c7 p i d _ hW.out hW.cap hW.len hW.small hi2 (le47 hd)
  unfold PgAns at C
  rw [hse] at C
  go_wp2_with fail
  refine C.mono ?_
  rintro e w11 ⟨⟨a19, c19, Q, rfl, hc19, hq19, hqe, _⟩, hb11⟩
  clear C
  rw [hsp] at hqe
  obtain rfl := hqe.symm
  replace hB := below_through hb11 hB.size hB
  replace hP := hP.later hb11
  replace hW := hW.later hb11
  replace hC := hC.later hb11
  replace hD := hD.later hb11
  replace hE := hE.later hb11
  replace Hv3 := hid0 (Hv3.out.later hb11)
  replace qv3 := Hv3.out.cell
  replace fv3 := Hv3.out.frz
  replace Hv7 := hid0 (Hv7.out.later hb11)
  replace qv7 := Hv7.out.cell
  replace fv7 := Hv7.out.frz
  replace Hv8 := hid0 (Hv8.out.later hb11)
  replace qv8 := Hv8.out.cell
  replace fv8 := Hv8.out.frz
  replace Hv11 := hid0 (Hv11.out.later hb11)
  replace qv11 := Hv11.out.cell
  replace fv11 := Hv11.out.frz
  replace Hv18 := hid0 (Hv18.out.later hb11)
  replace qv18 := Hv18.out.cell
  replace fv18 := Hv18.out.frz
  clear hb11
  have hG : PgAt w11 a19 c19 SS := ⟨hq19, hc19, hfs.1, hfs.2⟩
  clear hq19 hc19
  have hzv19 := hB.size
  have Hv19 := hid0 (VarAt.new w11 (.slice a19 SS.length c19) 24)
  replace hB := hB.alloc hzv19 (Obj.cells #[.slice a19 SS.length c19] 24)
  replace hP := hP.alloc (Obj.cells #[.slice a19 SS.length c19] 24)
  replace hW := hW.alloc (Obj.cells #[.slice a19 SS.length c19] 24)
  replace hC := hC.alloc (Obj.cells #[.slice a19 SS.length c19] 24)
  replace hD := hD.alloc (Obj.cells #[.slice a19 SS.length c19] 24)
  replace hE := hE.alloc (Obj.cells #[.slice a19 SS.length c19] 24)
  replace hG := hG.alloc (Obj.cells #[.slice a19 SS.length c19] 24)
  replace Hv3 := hid0 (Hv3.out.alloc (Obj.cells #[.slice a19 SS.length c19] 24))
  replace qv3 := Hv3.out.cell
  replace fv3 := Hv3.out.frz
  replace Hv7 := hid0 (Hv7.out.alloc (Obj.cells #[.slice a19 SS.length c19] 24))
  replace qv7 := Hv7.out.cell
  replace fv7 := Hv7.out.frz
  replace Hv8 := hid0 (Hv8.out.alloc (Obj.cells #[.slice a19 SS.length c19] 24))
  replace qv8 := Hv8.out.cell
  replace fv8 := Hv8.out.frz
  replace Hv11 := hid0 (Hv11.out.alloc (Obj.cells #[.slice a19 SS.length c19] 24))
  replace qv11 := Hv11.out.cell
  replace fv11 := Hv11.out.frz
  replace Hv18 := hid0 (Hv18.out.alloc (Obj.cells #[.slice a19 SS.length c19] 24))
  replace qv18 := Hv18.out.cell
  replace fv18 := Hv18.out.frz
  have qv19 := Hv19.out.cell
  have fv19 := Hv19.out.frz
  have K1 : SameC b8 e8 b11 e11 CC.length CC := ⟨fun W h1 h2 => refSame_any _ _ _ _ CC W h1.out h2.out hlc⟩
  have K2 : SameC a18 c18 a19 c19 SS.length SS := ⟨fun W h1 h2 => refSame_any _ _ _ _ SS W h1.out h2.out hls⟩
  have K3 : SameC a c a7 c7 p.length p := ⟨fun W h1 h2 => refSame_any _ _ _ _ p W h1.out h2.out hlm⟩
  have C21 := fun W (hp : PgAt W a c p) => pgSize_any a c p W hp.out hp.len hp.small
  have C22 := fun W (hp : PgAt W a7 c7 p) => refSize_any a7 c7 p W hp.out hlm hp.small
  have C23 := fun W (hp : PgAt W a c p) => pgRight_any a c p W hp.out hp.cap hp.len hp.small
  have C24 := fun W (hp : PgAt W a7 c7 p) => refRight_any a7 c7 p W hp.out hlm hp.small
  have C25 := fun W (hp : PgAt W a c p) => pgFits_any a c p (dn : Int) W hp.out hp.cap hp.len hp.small (by omega) hdn
  have C26 := fun W (hp : PgAt W a7 c7 p) => refFits_any a7 c7 p (dn : Int) W hp.out hlm hp.small
  rw [hsw] at C21 C22
  rw [hrb] at C23 C24
  rw [hfb] at C25 C26
  clear hF hFW hF8 hF11 hd hi1 hi2 hlm hlp hlc hls hfp hfc hfs hs1 hs2 hs3 hs4 hs5 hs6 hs7 hs8 hs9 hl3 hl7 hl8 hl11 hzv7 hzv8 hzv11 hzv18 hzv19 Hv3 Hv7 Hv8 Hv11 Hv18 Hv19 fv3 fv7 fv8 fv11 fv18 fv19 hpp hpi hpe hgd hge hcc hsp hse hsw hrb hfb
  go_wp2_with fail
  go_region_held3 (fun w' => w'.cell? ⟨w.heap.size, 0, none⟩ = some (.slice a p.length c) ∧ w'.cell? ⟨w1.heap.size, 0, none⟩ = some (.slice a7 p.length c7) ∧ w'.cell? ⟨w2.heap.size, 0, none⟩ = some (.slice b8 CC.length e8) ∧ w'.cell? ⟨w3.heap.size, 0, none⟩ = some (.slice b11 CC.length e11) ∧ w'.cell? ⟨w10.heap.size, 0, none⟩ = some (.slice a18 SS.length c18) ∧ w'.cell? ⟨w11.heap.size, 0, none⟩ = some (.slice a19 SS.length c19) ∧ PgAt w' a c p ∧ PgAt w' a7 c7 p ∧ PgAt w' b8 e8 CC ∧ PgAt w' b11 e11 CC ∧ PgAt w' a18 c18 SS ∧ PgAt w' a19 c19 SS ∧ Below w.heap.size w w')
    ((go_split_ands; (try dsimp only); (repeat' apply And.intro); all_goals (first
      | assumption
      | exact cell_later hbn ‹_›
      | exact PgAt.later ‹_› hbn
      | exact below_through hbn (Below.size ‹Below w.heap.size w _›) ‹_›
      | exact PgAt.drew ‹_›
      | exact Below.drew hB
      | go_keep)))
    (first
      | (go_at_call 16; (try go_split_ands); refine ((by first | exact K1 | exact K2 | exact K3 : SameC _ _ _ _ _ _).out _ (by assumption) (by assumption)).mono ?_; rintro e wn ⟨rfl, hbn⟩)
      | (go_at_call 21; (try go_split_ands); refine (C21 _ (by assumption)).mono ?_; rintro e wn ⟨rfl, hbn⟩)
      | (go_at_call 22; (try go_split_ands); refine (C22 _ (by assumption)).mono ?_; rintro e wn ⟨rfl, hbn⟩)
      | (go_at_call 23; (try go_split_ands); refine (C23 _ (by assumption)).mono ?_; rintro e wn ⟨rfl, hbn⟩)
      | (go_at_call 24; (try go_split_ands); refine (C24 _ (by assumption)).mono ?_; rintro e wn ⟨rfl, hbn⟩)
      | (go_at_call 25; (try go_split_ands); refine (C25 _ (by assumption)).mono ?_; rintro e wn ⟨rfl, hbn⟩)
      | (go_at_call 26; (try go_split_ands); refine (C26 _ (by assumption)).mono ?_; rintro e wn ⟨rfl, hbn⟩))
  have HH := ‹wn.cell? ⟨w.heap.size, 0, none⟩ = some (.slice a p.length c) ∧ _›
  have HBB := HH.2.2.2.2.2.2.2.2.2.2.2.2
  clear oqv8 ofv8 oqv11 ofv11 K1 K2 K3 C21 C22 C23 C24 C25 C26 hP hW hC hD hE hG hB qv3 qv7 qv8 qv11 qv18 qv19
  go_wp2
  go_ret
  exact ⟨rfl, HBB⟩
end Go.Proofs.Ytpcjfhoppcmenaa
