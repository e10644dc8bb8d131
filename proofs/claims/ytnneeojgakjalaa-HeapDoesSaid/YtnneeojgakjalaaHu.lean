/- The walk of the law HeapDoes: it returns true, and below the heap's end memory is as it was. Conditions: the pages' cells are known (what came in reads so); the document's example stands. -/
import Derived.Test.YtnneeojgakjalaaHpg
import Derived.Test.YtnneeojgakjalaaHua
namespace Go.Proofs.Ytnneeojgakjalaa
open Go.RowKit

/-- Two heaps that are the same are told to be so. (A structure: a contract at other arguments is refused at once.) -/
structure SameH (a1 : Option Addr) (c1 : Nat) (E1 : List PgE) (a2 : Option Addr) (c2 : Nat) (E2 : List PgE) : Prop where
  out : ∀ W, HpAt W a1 c1 E1 → HpAt W a2 c2 E2 → Calls Try.prog 13 #[.agg #[.slice a1 E1.length c1], .agg #[.slice a2 E2.length c2]] W fun e w' => e = .returned (.bool true) ∧ Below W.heap.size W w'
set_option maxHeartbeats 16000000 in
set_option maxRecDepth 1000000 in
theorem lawHeapDoes (awk : ∀ w : World, Calls Try.prog 12 #[] w fun e w' => e = .returned (.bool true) ∧ Below w.heap.size w w') (a : Option Addr) (c : Nat) (E : List PgE) (x y : Int) (d : List UInt8) (most : Int) (w : World) (hE : HpAt w a c E) (hx1 : -9223372036854775808 ≤ x) (hx2 : x ≤ 9223372036854775807) (hy1 : -9223372036854775808 ≤ y) (hy2 : y ≤ 9223372036854775807) (hd : d.length ≤ 140737488351232) (hm1 : -9223372036854775808 ≤ most) (hm2 : most ≤ 9223372036854775807) :
    Calls Try.prog 3 #[.agg #[.slice a E.length c], .agg #[.int .i64 x, .int .i64 y, .string (txt d), .int .i64 most]] w fun e w' => e = .returned (.bool true) ∧ Below w.heap.size w w' := by
  obtain ⟨PP, hPP⟩ : ∃ z, putHP (hp E) d most = z := ⟨_, rfl⟩
  have HPP := hid0 hPP
  clear hPP
  obtain ⟨X, hPX⟩ : ∃ z, putHX (hp E) d most = z := ⟨_, rfl⟩
  have HPX := hid0 hPX
  clear hPX
  obtain ⟨Y, hPY⟩ : ∃ z, putHY (hp E) d most = z := ⟨_, rfl⟩
  have HPY := hid0 hPY
  clear hPY
  obtain ⟨PE, hPE⟩ : ∃ z, putHE (hp E) d most = z := ⟨_, rfl⟩
  have HPE := hid0 hPE
  clear hPE
  obtain ⟨GD, hGD⟩ : ∃ z, getHD (hp E) x y = z := ⟨_, rfl⟩
  have HGD := hid0 hGD
  clear hGD
  obtain ⟨GE, hGE⟩ : ∃ z, getHE (hp E) x y = z := ⟨_, rfl⟩
  have HGE := hid0 hGE
  clear hGE
  obtain ⟨CH, hCH⟩ : ∃ z, cutHP (hp E) x y = z := ⟨_, rfl⟩
  have HCH := hid0 hCH
  clear hCH
  obtain ⟨SP, hSP⟩ : ∃ z, setHP (hp E) x y d most = z := ⟨_, rfl⟩
  have HSP := hid0 hSP
  clear hSP
  obtain ⟨SX, hSX⟩ : ∃ z, setHX (hp E) x y d most = z := ⟨_, rfl⟩
  have HSX := hid0 hSX
  clear hSX
  obtain ⟨SY, hSY⟩ : ∃ z, setHY (hp E) x y d most = z := ⟨_, rfl⟩
  have HSY := hid0 hSY
  clear hSY
  obtain ⟨SE, hSE⟩ : ∃ z, setHE (hp E) x y d most = z := ⟨_, rfl⟩
  have HSE := hid0 hSE
  clear hSE
  obtain ⟨RB, hRB⟩ : ∃ z, rightH (hp E) = z := ⟨_, rfl⟩
  have HRB := hid0 hRB
  clear hRB
  have hF := fun B (hB : w.heap.size ≤ B) => hfar_old (B := B) hE hB
  have q0 := ((VarAt.new w (.slice a E.length c) 24).alloc (Obj.cells #[.int .i64 x, .int .i64 y, .string (txt d), .int .i64 most] 28))
  have e0 : ((w.alloc (Obj.cells #[.slice a E.length c] 24)).alloc (Obj.cells #[.int .i64 x, .int .i64 y, .string (txt d), .int .i64 most] 28)).cell? ⟨w.heap.size + 1, 0, none⟩ = some (.int .i64 x) := by go_cell
  have e1 : ((w.alloc (Obj.cells #[.slice a E.length c] 24)).alloc (Obj.cells #[.int .i64 x, .int .i64 y, .string (txt d), .int .i64 most] 28)).cell? ⟨w.heap.size + 1, 1, none⟩ = some (.int .i64 y) := by go_cell
  have e2 : ((w.alloc (Obj.cells #[.slice a E.length c] 24)).alloc (Obj.cells #[.int .i64 x, .int .i64 y, .string (txt d), .int .i64 most] 28)).cell? ⟨w.heap.size + 1, 2, none⟩ = some (.string (txt d)) := by go_cell
  have e3 : ((w.alloc (Obj.cells #[.slice a E.length c] 24)).alloc (Obj.cells #[.int .i64 x, .int .i64 y, .string (txt d), .int .i64 most] 28)).cell? ⟨w.heap.size + 1, 3, none⟩ = some (.int .i64 most) := by go_cell
  have hB : Below w.heap.size w ((w.alloc (Obj.cells #[.slice a E.length c] 24)).alloc (Obj.cells #[.int .i64 x, .int .i64 y, .string (txt d), .int .i64 most] 28)) := ((Below.refl _ _).alloc (Nat.le_refl _) _).alloc (by simp) _
  have hsz : ((w.alloc (Obj.cells #[.slice a E.length c] 24)).alloc (Obj.cells #[.int .i64 x, .int .i64 y, .string (txt d), .int .i64 most] 28)).heap.size = w.heap.size + 1 + 1 := by simp
  replace hE := (hE.alloc (Obj.cells #[.slice a E.length c] 24)).alloc (Obj.cells #[.int .i64 x, .int .i64 y, .string (txt d), .int .i64 most] 28)
  go_enter Try.func3, Try.ntmps3
  have HQ := hid0 (And.intro q0 hE)
  clear q0 hE
  go_wp2_with fail
  obtain ⟨q0, hE⟩ := HQ.out
  clear HQ
  generalize (w.alloc (Obj.cells #[.slice a E.length c] 24)).alloc (Obj.cells #[.int .i64 x, .int .i64 y, .string (txt d), .int .i64 most] 28) = W0 at q0 e0 e1 e2 e3 hB hE hsz ⊢
  have hl5 : w.heap.size + 1 < W0.heap.size := by omega
  go_region_held3 (fun w' => w'.cell? ⟨w.heap.size + 1, 0, none⟩ = some (.int .i64 x) ∧ w'.cell? ⟨w.heap.size + 1, 1, none⟩ = some (.int .i64 y) ∧ w'.cell? ⟨w.heap.size + 1, 2, none⟩ = some (.string (txt d)) ∧ w'.cell? ⟨w.heap.size + 1, 3, none⟩ = some (.int .i64 most))
    ((go_split_ands; (try dsimp only); (repeat' apply And.intro); all_goals (first | assumption | exact cell_alloc_keep ‹_› | exact e0 | exact e1 | exact e2 | exact e3 | go_keep)))
    (fail)
  have Hv2 := hid0 (q0.alloc (Obj.cells #[.int .i64 x, .int .i64 y] 26)).drew
  have Hd5 := (IdAt.new W0 x y 26).drew
  rw [hsz] at Hd5
  replace Hd5 := hid0 Hd5
  replace hB := Below.drew (hB.alloc hB.size (Obj.cells #[.int .i64 x, .int .i64 y] 26))
  replace hE := (hE.alloc (Obj.cells #[.int .i64 x, .int .i64 y] 26)).drew
  have hsz1 : (W0.alloc (Obj.cells #[.int .i64 x, .int .i64 y] 26)).drew.heap.size = w.heap.size + 1 + 1 + 1 := by show (W0.alloc _).heap.size = _; simp [hsz]
  have HK := hid0 (And.intro Hv2 (And.intro Hd5 (And.intro hB (And.intro hE hsz1))))
  clear q0 e0 e1 e2 e3 hB hE hsz hl5 Hv2 Hd5 hsz1
  revert HK
  generalize (W0.alloc (Obj.cells #[.int .i64 x, .int .i64 y] 26)).drew = W1
  intro HK
  obtain ⟨Hv2, Hd5, hB, hE, hsz1⟩ := HK.out
  clear HK
  have qv2 := Hv2.out.cell
  have fv2 := Hv2.out.frz
  have qd5 := Hd5.out.c0
  have rd5 := Hd5.out.c1
  have C := hCopied_any a c E _ hE
  go_wp2_with fail
  refine C.mono ?_
  rintro e w1 ⟨⟨a8, c8, E8, rfl, hE8, hh8⟩, hb1⟩
  clear C
  have hs1 := hb1.size
  have HH8 := hid0 hh8
  clear hh8
  replace hB := below_through hb1 hB.size hB
  replace hE := hE.later hb1
  replace Hv2 := hid0 (Hv2.out.later hb1)
  replace qv2 := Hv2.out.cell
  replace fv2 := Hv2.out.frz
  replace Hd5 := hid0 (Hd5.out.later hb1)
  replace qd5 := Hd5.out.c0
  replace rd5 := Hd5.out.c1
  clear hb1
  have hF8 := fun B (hB : w1.heap.size ≤ B) => hfar_old (B := B) hE8 hB
  have Hv8 := hid0 (VarAt.new w1 (.slice a8 E8.length c8) 24)
  replace hB := hB.alloc hB.size (Obj.cells #[.slice a8 E8.length c8] 24)
  replace hE := hE.alloc (Obj.cells #[.slice a8 E8.length c8] 24)
  replace hE8 := hE8.alloc (Obj.cells #[.slice a8 E8.length c8] 24)
  replace Hv2 := hid0 (Hv2.out.alloc (Obj.cells #[.slice a8 E8.length c8] 24))
  replace qv2 := Hv2.out.cell
  replace fv2 := Hv2.out.frz
  replace Hd5 := hid0 (Hd5.out.alloc (Obj.cells #[.slice a8 E8.length c8] 24))
  replace qd5 := Hd5.out.c0
  replace rd5 := Hd5.out.c1
  have qv8 := Hv8.out.cell
  have fv8 := Hv8.out.frz
  have C := hpPut_any a c E d most _ hE hd hm1 hm2
  unfold HIdAns at C
  rw [HPP.out, HPX.out, HPY.out, HPE.out] at C
  go_wp2_with fail
  refine C.mono ?_
  rintro e w2 ⟨⟨a9, c9, E9, rfl, hE9, hh9, -⟩, hb2⟩
  clear C
  have hs2 := hb2.size
  rw [World.size_alloc] at hs2
  have HH9 := hid0 hh9
  clear hh9
  replace hB := below_through hb2 hB.size hB
  replace hE := hE.later hb2
  replace hE8 := hE8.later hb2
  replace Hv2 := hid0 (Hv2.out.later hb2)
  replace qv2 := Hv2.out.cell
  replace fv2 := Hv2.out.frz
  replace Hv8 := hid0 (Hv8.out.later hb2)
  replace qv8 := Hv8.out.cell
  replace fv8 := Hv8.out.frz
  replace Hd5 := hid0 (Hd5.out.later hb2)
  replace qd5 := Hd5.out.c0
  replace rd5 := Hd5.out.c1
  clear hb2
  have Hv9 := hid0 (VarAt.new w2 (.slice a9 E9.length c9) 24)
  replace hB := hB.alloc hB.size (Obj.cells #[.slice a9 E9.length c9] 24)
  replace hE := hE.alloc (Obj.cells #[.slice a9 E9.length c9] 24)
  replace hE8 := hE8.alloc (Obj.cells #[.slice a9 E9.length c9] 24)
  replace hE9 := hE9.alloc (Obj.cells #[.slice a9 E9.length c9] 24)
  replace Hv2 := hid0 (Hv2.out.alloc (Obj.cells #[.slice a9 E9.length c9] 24))
  replace qv2 := Hv2.out.cell
  replace fv2 := Hv2.out.frz
  replace Hv8 := hid0 (Hv8.out.alloc (Obj.cells #[.slice a9 E9.length c9] 24))
  replace qv8 := Hv8.out.cell
  replace fv8 := Hv8.out.frz
  replace Hd5 := hid0 (Hd5.out.alloc (Obj.cells #[.slice a9 E9.length c9] 24))
  replace qd5 := Hd5.out.c0
  replace rd5 := Hd5.out.c1
  have qv9 := Hv9.out.cell
  have fv9 := Hv9.out.frz
  have Hd10 := IdAt.new (w2.alloc (Obj.cells #[.slice a9 E9.length c9] 24)) ((X : Int)) ((Y : Int)) 26
  rw [World.size_alloc] at Hd10
  replace Hd10 := hid0 Hd10
  replace hB := hB.alloc hB.size (Obj.cells #[.int .i64 ((X : Int)), .int .i64 ((Y : Int))] 26)
  replace hE := hE.alloc (Obj.cells #[.int .i64 ((X : Int)), .int .i64 ((Y : Int))] 26)
  replace hE8 := hE8.alloc (Obj.cells #[.int .i64 ((X : Int)), .int .i64 ((Y : Int))] 26)
  replace hE9 := hE9.alloc (Obj.cells #[.int .i64 ((X : Int)), .int .i64 ((Y : Int))] 26)
  replace Hv2 := hid0 (Hv2.out.alloc (Obj.cells #[.int .i64 ((X : Int)), .int .i64 ((Y : Int))] 26))
  replace qv2 := Hv2.out.cell
  replace fv2 := Hv2.out.frz
  replace Hv8 := hid0 (Hv8.out.alloc (Obj.cells #[.int .i64 ((X : Int)), .int .i64 ((Y : Int))] 26))
  replace qv8 := Hv8.out.cell
  replace fv8 := Hv8.out.frz
  replace Hv9 := hid0 (Hv9.out.alloc (Obj.cells #[.int .i64 ((X : Int)), .int .i64 ((Y : Int))] 26))
  replace qv9 := Hv9.out.cell
  replace fv9 := Hv9.out.frz
  replace Hd5 := hid0 (Hd5.out.alloc (Obj.cells #[.int .i64 ((X : Int)), .int .i64 ((Y : Int))] 26))
  replace qd5 := Hd5.out.c0
  replace rd5 := Hd5.out.c1
  have qd10 := Hd10.out.c0
  have rd10 := Hd10.out.c1
  have C := refHPut_any a8 c8 E8 d most _ hE8 hd
  unfold HIdAns at C
  rw [HH8.out, HPP.out, HPX.out, HPY.out, HPE.out] at C
  go_wp2_with fail
  refine C.mono ?_
  rintro e w3 ⟨⟨a12, c12, E12, rfl, hE12, hh12, -⟩, hb3⟩
  clear C
  have hs3 := hb3.size
  rw [World.size_alloc, World.size_alloc] at hs3
  have HH12 := hid0 hh12
  clear hh12
  replace hB := below_through hb3 hB.size hB
  replace hE := hE.later hb3
  replace hE8 := hE8.later hb3
  replace hE9 := hE9.later hb3
  replace Hv2 := hid0 (Hv2.out.later hb3)
  replace qv2 := Hv2.out.cell
  replace fv2 := Hv2.out.frz
  replace Hv8 := hid0 (Hv8.out.later hb3)
  replace qv8 := Hv8.out.cell
  replace fv8 := Hv8.out.frz
  replace Hv9 := hid0 (Hv9.out.later hb3)
  replace qv9 := Hv9.out.cell
  replace fv9 := Hv9.out.frz
  replace Hd5 := hid0 (Hd5.out.later hb3)
  replace qd5 := Hd5.out.c0
  replace rd5 := Hd5.out.c1
  replace Hd10 := hid0 (Hd10.out.later hb3)
  replace qd10 := Hd10.out.c0
  replace rd10 := Hd10.out.c1
  clear hb3
  have Hv12 := hid0 (VarAt.new w3 (.slice a12 E12.length c12) 24)
  replace hB := hB.alloc hB.size (Obj.cells #[.slice a12 E12.length c12] 24)
  replace hE := hE.alloc (Obj.cells #[.slice a12 E12.length c12] 24)
  replace hE8 := hE8.alloc (Obj.cells #[.slice a12 E12.length c12] 24)
  replace hE9 := hE9.alloc (Obj.cells #[.slice a12 E12.length c12] 24)
  replace hE12 := hE12.alloc (Obj.cells #[.slice a12 E12.length c12] 24)
  replace Hv2 := hid0 (Hv2.out.alloc (Obj.cells #[.slice a12 E12.length c12] 24))
  replace qv2 := Hv2.out.cell
  replace fv2 := Hv2.out.frz
  replace Hv8 := hid0 (Hv8.out.alloc (Obj.cells #[.slice a12 E12.length c12] 24))
  replace qv8 := Hv8.out.cell
  replace fv8 := Hv8.out.frz
  replace Hv9 := hid0 (Hv9.out.alloc (Obj.cells #[.slice a12 E12.length c12] 24))
  replace qv9 := Hv9.out.cell
  replace fv9 := Hv9.out.frz
  replace Hd5 := hid0 (Hd5.out.alloc (Obj.cells #[.slice a12 E12.length c12] 24))
  replace qd5 := Hd5.out.c0
  replace rd5 := Hd5.out.c1
  replace Hd10 := hid0 (Hd10.out.alloc (Obj.cells #[.slice a12 E12.length c12] 24))
  replace qd10 := Hd10.out.c0
  replace rd10 := Hd10.out.c1
  have qv12 := Hv12.out.cell
  have fv12 := Hv12.out.frz
  have Hd13 := IdAt.new (w3.alloc (Obj.cells #[.slice a12 E12.length c12] 24)) ((X : Int)) ((Y : Int)) 26
  rw [World.size_alloc] at Hd13
  replace Hd13 := hid0 Hd13
  replace hB := hB.alloc hB.size (Obj.cells #[.int .i64 ((X : Int)), .int .i64 ((Y : Int))] 26)
  replace hE := hE.alloc (Obj.cells #[.int .i64 ((X : Int)), .int .i64 ((Y : Int))] 26)
  replace hE8 := hE8.alloc (Obj.cells #[.int .i64 ((X : Int)), .int .i64 ((Y : Int))] 26)
  replace hE9 := hE9.alloc (Obj.cells #[.int .i64 ((X : Int)), .int .i64 ((Y : Int))] 26)
  replace hE12 := hE12.alloc (Obj.cells #[.int .i64 ((X : Int)), .int .i64 ((Y : Int))] 26)
  replace Hv2 := hid0 (Hv2.out.alloc (Obj.cells #[.int .i64 ((X : Int)), .int .i64 ((Y : Int))] 26))
  replace qv2 := Hv2.out.cell
  replace fv2 := Hv2.out.frz
  replace Hv8 := hid0 (Hv8.out.alloc (Obj.cells #[.int .i64 ((X : Int)), .int .i64 ((Y : Int))] 26))
  replace qv8 := Hv8.out.cell
  replace fv8 := Hv8.out.frz
  replace Hv9 := hid0 (Hv9.out.alloc (Obj.cells #[.int .i64 ((X : Int)), .int .i64 ((Y : Int))] 26))
  replace qv9 := Hv9.out.cell
  replace fv9 := Hv9.out.frz
  replace Hv12 := hid0 (Hv12.out.alloc (Obj.cells #[.int .i64 ((X : Int)), .int .i64 ((Y : Int))] 26))
  replace qv12 := Hv12.out.cell
  replace fv12 := Hv12.out.frz
  replace Hd5 := hid0 (Hd5.out.alloc (Obj.cells #[.int .i64 ((X : Int)), .int .i64 ((Y : Int))] 26))
  replace qd5 := Hd5.out.c0
  replace rd5 := Hd5.out.c1
  replace Hd10 := hid0 (Hd10.out.alloc (Obj.cells #[.int .i64 ((X : Int)), .int .i64 ((Y : Int))] 26))
  replace qd10 := Hd10.out.c0
  replace rd10 := Hd10.out.c1
  have qd13 := Hd13.out.c0
  have rd13 := Hd13.out.c1
  have C := hpGet_any a c E x y _ hE hx1 hx2 hy1 hy2
  rw [HGD.out, HGE.out] at C
  go_wp2_with fail
  refine C.mono ?_
  rintro e w4 ⟨rfl, hb4⟩
  clear C
  have hs4 := hb4.size
  rw [World.size_alloc, World.size_alloc] at hs4
  replace hB := below_through hb4 hB.size hB
  replace hE := hE.later hb4
  replace hE8 := hE8.later hb4
  replace hE9 := hE9.later hb4
  replace hE12 := hE12.later hb4
  replace Hv2 := hid0 (Hv2.out.later hb4)
  replace qv2 := Hv2.out.cell
  replace fv2 := Hv2.out.frz
  replace Hv8 := hid0 (Hv8.out.later hb4)
  replace qv8 := Hv8.out.cell
  replace fv8 := Hv8.out.frz
  replace Hv9 := hid0 (Hv9.out.later hb4)
  replace qv9 := Hv9.out.cell
  replace fv9 := Hv9.out.frz
  replace Hv12 := hid0 (Hv12.out.later hb4)
  replace qv12 := Hv12.out.cell
  replace fv12 := Hv12.out.frz
  replace Hd5 := hid0 (Hd5.out.later hb4)
  replace qd5 := Hd5.out.c0
  replace rd5 := Hd5.out.c1
  replace Hd10 := hid0 (Hd10.out.later hb4)
  replace qd10 := Hd10.out.c0
  replace rd10 := Hd10.out.c1
  replace Hd13 := hid0 (Hd13.out.later hb4)
  replace qd13 := Hd13.out.c0
  replace rd13 := Hd13.out.c1
  clear hb4
  have C := refHGet_any a8 c8 E8 x y _ hE8 hx2 hy2
  rw [HH8.out, HGD.out, HGE.out] at C
  go_wp2_with fail
  refine C.mono ?_
  rintro e w5 ⟨rfl, hb5⟩
  clear C
  have hs5 := hb5.size
  replace hB := below_through hb5 hB.size hB
  replace hE := hE.later hb5
  replace hE8 := hE8.later hb5
  replace hE9 := hE9.later hb5
  replace hE12 := hE12.later hb5
  replace Hv2 := hid0 (Hv2.out.later hb5)
  replace qv2 := Hv2.out.cell
  replace fv2 := Hv2.out.frz
  replace Hv8 := hid0 (Hv8.out.later hb5)
  replace qv8 := Hv8.out.cell
  replace fv8 := Hv8.out.frz
  replace Hv9 := hid0 (Hv9.out.later hb5)
  replace qv9 := Hv9.out.cell
  replace fv9 := Hv9.out.frz
  replace Hv12 := hid0 (Hv12.out.later hb5)
  replace qv12 := Hv12.out.cell
  replace fv12 := Hv12.out.frz
  replace Hd5 := hid0 (Hd5.out.later hb5)
  replace qd5 := Hd5.out.c0
  replace rd5 := Hd5.out.c1
  replace Hd10 := hid0 (Hd10.out.later hb5)
  replace qd10 := Hd10.out.c0
  replace rd10 := Hd10.out.c1
  replace Hd13 := hid0 (Hd13.out.later hb5)
  replace qd13 := Hd13.out.c0
  replace rd13 := Hd13.out.c1
  clear hb5
  go_wp2_with fail
  refine (awk _).mono ?_
  rintro e w6 ⟨rfl, hb6⟩
  have hs6 := hb6.size
  replace hB := below_through hb6 hB.size hB
  replace hE := hE.later hb6
  replace hE8 := hE8.later hb6
  replace hE9 := hE9.later hb6
  replace hE12 := hE12.later hb6
  replace Hv2 := hid0 (Hv2.out.later hb6)
  replace qv2 := Hv2.out.cell
  replace fv2 := Hv2.out.frz
  replace Hv8 := hid0 (Hv8.out.later hb6)
  replace qv8 := Hv8.out.cell
  replace fv8 := Hv8.out.frz
  replace Hv9 := hid0 (Hv9.out.later hb6)
  replace qv9 := Hv9.out.cell
  replace fv9 := Hv9.out.frz
  replace Hv12 := hid0 (Hv12.out.later hb6)
  replace qv12 := Hv12.out.cell
  replace fv12 := Hv12.out.frz
  replace Hd5 := hid0 (Hd5.out.later hb6)
  replace qd5 := Hd5.out.c0
  replace rd5 := Hd5.out.c1
  replace Hd10 := hid0 (Hd10.out.later hb6)
  replace qd10 := Hd10.out.c0
  replace rd10 := Hd10.out.c1
  replace Hd13 := hid0 (Hd13.out.later hb6)
  replace qd13 := Hd13.out.c0
  replace rd13 := Hd13.out.c1
  clear hb6
  have C := refHSame_any a9 a12 c9 c12 E9 E12 _ hE9 hE12 (HH9.out.trans HH12.out.symm)
  go_wp2_with fail
  refine C.mono ?_
  rintro e w7 ⟨rfl, hb7⟩
  clear C
  have hs7 := hb7.size
  replace hB := below_through hb7 hB.size hB
  replace hE := hE.later hb7
  replace hE8 := hE8.later hb7
  replace hE9 := hE9.later hb7
  replace hE12 := hE12.later hb7
  replace Hv2 := hid0 (Hv2.out.later hb7)
  replace qv2 := Hv2.out.cell
  replace fv2 := Hv2.out.frz
  replace Hv8 := hid0 (Hv8.out.later hb7)
  replace qv8 := Hv8.out.cell
  replace fv8 := Hv8.out.frz
  replace Hv9 := hid0 (Hv9.out.later hb7)
  replace qv9 := Hv9.out.cell
  replace fv9 := Hv9.out.frz
  replace Hv12 := hid0 (Hv12.out.later hb7)
  replace qv12 := Hv12.out.cell
  replace fv12 := Hv12.out.frz
  replace Hd5 := hid0 (Hd5.out.later hb7)
  replace qd5 := Hd5.out.c0
  replace rd5 := Hd5.out.c1
  replace Hd10 := hid0 (Hd10.out.later hb7)
  replace qd10 := Hd10.out.c0
  replace rd10 := Hd10.out.c1
  replace Hd13 := hid0 (Hd13.out.later hb7)
  replace qd13 := Hd13.out.c0
  replace rd13 := Hd13.out.c1
  clear hb7
  clear hE9 hE12
  have C := hpCut_any a c E x y _ hE hx1 hx2 hy1 hy2
  unfold HAns at C
  rw [HCH.out, HGE.out] at C
  go_wp2_with fail
  refine C.mono ?_
  rintro e w8 ⟨⟨b9, e9, E10, rfl, hE10, hh10, haw10⟩, hb8⟩
  clear C
  have hs8 := hb8.size
  have HH10 := hid0 hh10
  clear hh10
  have hF10 := fun B (h1 : w.heap.size ≤ B) (h2 : B < w7.heap.size) => hfar_away haw10 (hF B h1) h2
  clear haw10
  clear Hd10 qd10 rd10
  clear Hd13 qd13 rd13
  replace hB := below_through hb8 hB.size hB
  replace hE := hE.later hb8
  replace hE8 := hE8.later hb8
  replace Hv2 := hid0 (Hv2.out.later hb8)
  replace qv2 := Hv2.out.cell
  replace fv2 := Hv2.out.frz
  replace Hv8 := hid0 (Hv8.out.later hb8)
  replace qv8 := Hv8.out.cell
  replace fv8 := Hv8.out.frz
  replace Hv9 := hid0 (Hv9.out.later hb8)
  replace qv9 := Hv9.out.cell
  replace fv9 := Hv9.out.frz
  replace Hv12 := hid0 (Hv12.out.later hb8)
  replace qv12 := Hv12.out.cell
  replace fv12 := Hv12.out.frz
  replace Hd5 := hid0 (Hd5.out.later hb8)
  replace qd5 := Hd5.out.c0
  replace rd5 := Hd5.out.c1
  clear hb8
  have oqv9 := qv9
  have ofv9 := fv9
  replace hB := hB.setCell (p := ⟨w2.heap.size, 0, none⟩) (by show w.heap.size ≤ w2.heap.size; omega) (.slice b9 E10.length e9)
  replace hE := hE.setCell (w2.heap.size) 0 (.slice b9 E10.length e9) (hF _ (by omega))
  replace hE8 := hE8.setCell (w2.heap.size) 0 (.slice b9 E10.length e9) (hF8 _ (by omega))
  replace hE10 := hE10.setCell (w2.heap.size) 0 (.slice b9 E10.length e9) (hF10 _ (by omega) (by omega))
  replace Hv2 := hid0 (Hv2.out.other ⟨w2.heap.size, 0, none⟩ (.slice b9 E10.length e9) (by show w2.heap.size ≠ w.heap.size; omega))
  replace qv2 := Hv2.out.cell
  replace fv2 := Hv2.out.frz
  replace Hv8 := hid0 (Hv8.out.other ⟨w2.heap.size, 0, none⟩ (.slice b9 E10.length e9) (by show w2.heap.size ≠ w1.heap.size; omega))
  replace qv8 := Hv8.out.cell
  replace fv8 := Hv8.out.frz
  replace Hv9 := hid0 (Hv9.out.set (.slice b9 E10.length e9))
  replace qv9 := Hv9.out.cell
  replace fv9 := Hv9.out.frz
  replace Hv12 := hid0 (Hv12.out.other ⟨w2.heap.size, 0, none⟩ (.slice b9 E10.length e9) (by show w2.heap.size ≠ w3.heap.size; omega))
  replace qv12 := Hv12.out.cell
  replace fv12 := Hv12.out.frz
  replace Hd5 := hid0 (Hd5.out.other ⟨w2.heap.size, 0, none⟩ (.slice b9 E10.length e9) (by show w2.heap.size ≠ w.heap.size + 1 + 1; omega))
  replace qd5 := Hd5.out.c0
  replace rd5 := Hd5.out.c1
  have C := refHCut_any a8 c8 E8 x y _ hE8 hx2 hy2
  unfold HAns at C
  rw [HH8.out, HCH.out, HGE.out] at C
  go_wp2_with fail
  refine C.mono ?_
  rintro e w9 ⟨⟨b12, e12, E13, rfl, hE13, hh13, haw13⟩, hb9⟩
  clear C
  have hs9 := hb9.size
  rw [World.size_setCell] at hs9
  have HH13 := hid0 hh13
  clear hh13
  have hF13 := fun B (h1 : w1.heap.size ≤ B) (h2 : B < w8.heap.size) => hfar_away haw13 (hF8 B h1) (by rw [World.size_setCell]; exact h2)
  clear haw13
  replace hB := below_through hb9 hB.size hB
  replace hE := hE.later hb9
  replace hE8 := hE8.later hb9
  replace hE10 := hE10.later hb9
  replace Hv2 := hid0 (Hv2.out.later hb9)
  replace qv2 := Hv2.out.cell
  replace fv2 := Hv2.out.frz
  replace Hv8 := hid0 (Hv8.out.later hb9)
  replace qv8 := Hv8.out.cell
  replace fv8 := Hv8.out.frz
  replace Hv9 := hid0 (Hv9.out.later hb9)
  replace qv9 := Hv9.out.cell
  replace fv9 := Hv9.out.frz
  replace Hv12 := hid0 (Hv12.out.later hb9)
  replace qv12 := Hv12.out.cell
  replace fv12 := Hv12.out.frz
  replace Hd5 := hid0 (Hd5.out.later hb9)
  replace qd5 := Hd5.out.c0
  replace rd5 := Hd5.out.c1
  clear hb9
  have oqv12 := qv12
  have ofv12 := fv12
  replace hB := hB.setCell (p := ⟨w3.heap.size, 0, none⟩) (by show w.heap.size ≤ w3.heap.size; omega) (.slice b12 E13.length e12)
  replace hE := hE.setCell (w3.heap.size) 0 (.slice b12 E13.length e12) (hF _ (by omega))
  replace hE8 := hE8.setCell (w3.heap.size) 0 (.slice b12 E13.length e12) (hF8 _ (by omega))
  replace hE10 := hE10.setCell (w3.heap.size) 0 (.slice b12 E13.length e12) (hF10 _ (by omega) (by omega))
  replace hE13 := hE13.setCell (w3.heap.size) 0 (.slice b12 E13.length e12) (hF13 _ (by omega) (by omega))
  replace Hv2 := hid0 (Hv2.out.other ⟨w3.heap.size, 0, none⟩ (.slice b12 E13.length e12) (by show w3.heap.size ≠ w.heap.size; omega))
  replace qv2 := Hv2.out.cell
  replace fv2 := Hv2.out.frz
  replace Hv8 := hid0 (Hv8.out.other ⟨w3.heap.size, 0, none⟩ (.slice b12 E13.length e12) (by show w3.heap.size ≠ w1.heap.size; omega))
  replace qv8 := Hv8.out.cell
  replace fv8 := Hv8.out.frz
  replace Hv9 := hid0 (Hv9.out.other ⟨w3.heap.size, 0, none⟩ (.slice b12 E13.length e12) (by show w3.heap.size ≠ w2.heap.size; omega))
  replace qv9 := Hv9.out.cell
  replace fv9 := Hv9.out.frz
  replace Hv12 := hid0 (Hv12.out.set (.slice b12 E13.length e12))
  replace qv12 := Hv12.out.cell
  replace fv12 := Hv12.out.frz
  replace Hd5 := hid0 (Hd5.out.other ⟨w3.heap.size, 0, none⟩ (.slice b12 E13.length e12) (by show w3.heap.size ≠ w.heap.size + 1 + 1; omega))
  replace qd5 := Hd5.out.c0
  replace rd5 := Hd5.out.c1
  have C := hpSet_any a c E x y d most _ hE hx1 hx2 hy1 hy2 hd hm1 hm2
  unfold HIdAns at C
  rw [HSP.out, HSX.out, HSY.out, HSE.out] at C
  go_wp2_with fail
  refine C.mono ?_
  rintro e w10 ⟨⟨a19, c19, E19, rfl, hE19, hh19, -⟩, hb10⟩
  clear C
  have HH19 := hid0 hh19
  clear hh19
  replace hB := below_through hb10 hB.size hB
  replace hE := hE.later hb10
  replace hE8 := hE8.later hb10
  replace hE10 := hE10.later hb10
  replace hE13 := hE13.later hb10
  replace Hv2 := hid0 (Hv2.out.later hb10)
  replace qv2 := Hv2.out.cell
  replace fv2 := Hv2.out.frz
  replace Hv8 := hid0 (Hv8.out.later hb10)
  replace qv8 := Hv8.out.cell
  replace fv8 := Hv8.out.frz
  replace Hv9 := hid0 (Hv9.out.later hb10)
  replace qv9 := Hv9.out.cell
  replace fv9 := Hv9.out.frz
  replace Hv12 := hid0 (Hv12.out.later hb10)
  replace qv12 := Hv12.out.cell
  replace fv12 := Hv12.out.frz
  replace Hd5 := hid0 (Hd5.out.later hb10)
  replace qd5 := Hd5.out.c0
  replace rd5 := Hd5.out.c1
  clear hb10
  have Hv19 := hid0 (VarAt.new w10 (.slice a19 E19.length c19) 24)
  replace hB := hB.alloc hB.size (Obj.cells #[.slice a19 E19.length c19] 24)
  replace hE := hE.alloc (Obj.cells #[.slice a19 E19.length c19] 24)
  replace hE8 := hE8.alloc (Obj.cells #[.slice a19 E19.length c19] 24)
  replace hE10 := hE10.alloc (Obj.cells #[.slice a19 E19.length c19] 24)
  replace hE13 := hE13.alloc (Obj.cells #[.slice a19 E19.length c19] 24)
  replace hE19 := hE19.alloc (Obj.cells #[.slice a19 E19.length c19] 24)
  replace Hv2 := hid0 (Hv2.out.alloc (Obj.cells #[.slice a19 E19.length c19] 24))
  replace qv2 := Hv2.out.cell
  replace fv2 := Hv2.out.frz
  replace Hv8 := hid0 (Hv8.out.alloc (Obj.cells #[.slice a19 E19.length c19] 24))
  replace qv8 := Hv8.out.cell
  replace fv8 := Hv8.out.frz
  replace Hv9 := hid0 (Hv9.out.alloc (Obj.cells #[.slice a19 E19.length c19] 24))
  replace qv9 := Hv9.out.cell
  replace fv9 := Hv9.out.frz
  replace Hv12 := hid0 (Hv12.out.alloc (Obj.cells #[.slice a19 E19.length c19] 24))
  replace qv12 := Hv12.out.cell
  replace fv12 := Hv12.out.frz
  replace Hd5 := hid0 (Hd5.out.alloc (Obj.cells #[.slice a19 E19.length c19] 24))
  replace qd5 := Hd5.out.c0
  replace rd5 := Hd5.out.c1
  have qv19 := Hv19.out.cell
  have fv19 := Hv19.out.frz
  have Hd20 := IdAt.new (w10.alloc (Obj.cells #[.slice a19 E19.length c19] 24)) (SX) (SY) 26
  rw [World.size_alloc] at Hd20
  replace Hd20 := hid0 Hd20
  replace hB := hB.alloc hB.size (Obj.cells #[.int .i64 (SX), .int .i64 (SY)] 26)
  replace hE := hE.alloc (Obj.cells #[.int .i64 (SX), .int .i64 (SY)] 26)
  replace hE8 := hE8.alloc (Obj.cells #[.int .i64 (SX), .int .i64 (SY)] 26)
  replace hE10 := hE10.alloc (Obj.cells #[.int .i64 (SX), .int .i64 (SY)] 26)
  replace hE13 := hE13.alloc (Obj.cells #[.int .i64 (SX), .int .i64 (SY)] 26)
  replace hE19 := hE19.alloc (Obj.cells #[.int .i64 (SX), .int .i64 (SY)] 26)
  replace Hv2 := hid0 (Hv2.out.alloc (Obj.cells #[.int .i64 (SX), .int .i64 (SY)] 26))
  replace qv2 := Hv2.out.cell
  replace fv2 := Hv2.out.frz
  replace Hv8 := hid0 (Hv8.out.alloc (Obj.cells #[.int .i64 (SX), .int .i64 (SY)] 26))
  replace qv8 := Hv8.out.cell
  replace fv8 := Hv8.out.frz
  replace Hv9 := hid0 (Hv9.out.alloc (Obj.cells #[.int .i64 (SX), .int .i64 (SY)] 26))
  replace qv9 := Hv9.out.cell
  replace fv9 := Hv9.out.frz
  replace Hv12 := hid0 (Hv12.out.alloc (Obj.cells #[.int .i64 (SX), .int .i64 (SY)] 26))
  replace qv12 := Hv12.out.cell
  replace fv12 := Hv12.out.frz
  replace Hv19 := hid0 (Hv19.out.alloc (Obj.cells #[.int .i64 (SX), .int .i64 (SY)] 26))
  replace qv19 := Hv19.out.cell
  replace fv19 := Hv19.out.frz
  replace Hd5 := hid0 (Hd5.out.alloc (Obj.cells #[.int .i64 (SX), .int .i64 (SY)] 26))
  replace qd5 := Hd5.out.c0
  replace rd5 := Hd5.out.c1
  have qd20 := Hd20.out.c0
  have rd20 := Hd20.out.c1
  have C := refHSet_any a8 c8 E8 x y d most _ hE8 hx2 hy2 hd
  unfold HIdAns at C
  rw [HH8.out, HSP.out, HSX.out, HSY.out, HSE.out] at C
  go_wp2_with fail
  refine C.mono ?_
  rintro e w11 ⟨⟨a21, c21, E21, rfl, hE21, hh21, -⟩, hb11⟩
  clear C
  have HH21 := hid0 hh21
  clear hh21
  replace hB := below_through hb11 hB.size hB
  replace hE := hE.later hb11
  replace hE8 := hE8.later hb11
  replace hE10 := hE10.later hb11
  replace hE13 := hE13.later hb11
  replace hE19 := hE19.later hb11
  replace Hv2 := hid0 (Hv2.out.later hb11)
  replace qv2 := Hv2.out.cell
  replace fv2 := Hv2.out.frz
  replace Hv8 := hid0 (Hv8.out.later hb11)
  replace qv8 := Hv8.out.cell
  replace fv8 := Hv8.out.frz
  replace Hv9 := hid0 (Hv9.out.later hb11)
  replace qv9 := Hv9.out.cell
  replace fv9 := Hv9.out.frz
  replace Hv12 := hid0 (Hv12.out.later hb11)
  replace qv12 := Hv12.out.cell
  replace fv12 := Hv12.out.frz
  replace Hv19 := hid0 (Hv19.out.later hb11)
  replace qv19 := Hv19.out.cell
  replace fv19 := Hv19.out.frz
  replace Hd5 := hid0 (Hd5.out.later hb11)
  replace qd5 := Hd5.out.c0
  replace rd5 := Hd5.out.c1
  replace Hd20 := hid0 (Hd20.out.later hb11)
  replace qd20 := Hd20.out.c0
  replace rd20 := Hd20.out.c1
  clear hb11
  have Hv21 := hid0 (VarAt.new w11 (.slice a21 E21.length c21) 24)
  replace hB := hB.alloc hB.size (Obj.cells #[.slice a21 E21.length c21] 24)
  replace hE := hE.alloc (Obj.cells #[.slice a21 E21.length c21] 24)
  replace hE8 := hE8.alloc (Obj.cells #[.slice a21 E21.length c21] 24)
  replace hE10 := hE10.alloc (Obj.cells #[.slice a21 E21.length c21] 24)
  replace hE13 := hE13.alloc (Obj.cells #[.slice a21 E21.length c21] 24)
  replace hE19 := hE19.alloc (Obj.cells #[.slice a21 E21.length c21] 24)
  replace hE21 := hE21.alloc (Obj.cells #[.slice a21 E21.length c21] 24)
  replace Hv2 := hid0 (Hv2.out.alloc (Obj.cells #[.slice a21 E21.length c21] 24))
  replace qv2 := Hv2.out.cell
  replace fv2 := Hv2.out.frz
  replace Hv8 := hid0 (Hv8.out.alloc (Obj.cells #[.slice a21 E21.length c21] 24))
  replace qv8 := Hv8.out.cell
  replace fv8 := Hv8.out.frz
  replace Hv9 := hid0 (Hv9.out.alloc (Obj.cells #[.slice a21 E21.length c21] 24))
  replace qv9 := Hv9.out.cell
  replace fv9 := Hv9.out.frz
  replace Hv12 := hid0 (Hv12.out.alloc (Obj.cells #[.slice a21 E21.length c21] 24))
  replace qv12 := Hv12.out.cell
  replace fv12 := Hv12.out.frz
  replace Hv19 := hid0 (Hv19.out.alloc (Obj.cells #[.slice a21 E21.length c21] 24))
  replace qv19 := Hv19.out.cell
  replace fv19 := Hv19.out.frz
  replace Hd5 := hid0 (Hd5.out.alloc (Obj.cells #[.slice a21 E21.length c21] 24))
  replace qd5 := Hd5.out.c0
  replace rd5 := Hd5.out.c1
  replace Hd20 := hid0 (Hd20.out.alloc (Obj.cells #[.slice a21 E21.length c21] 24))
  replace qd20 := Hd20.out.c0
  replace rd20 := Hd20.out.c1
  have qv21 := Hv21.out.cell
  have fv21 := Hv21.out.frz
  have Hd22 := IdAt.new (w11.alloc (Obj.cells #[.slice a21 E21.length c21] 24)) (SX) (SY) 26
  rw [World.size_alloc] at Hd22
  replace Hd22 := hid0 Hd22
  replace hB := hB.alloc hB.size (Obj.cells #[.int .i64 (SX), .int .i64 (SY)] 26)
  replace hE := hE.alloc (Obj.cells #[.int .i64 (SX), .int .i64 (SY)] 26)
  replace hE8 := hE8.alloc (Obj.cells #[.int .i64 (SX), .int .i64 (SY)] 26)
  replace hE10 := hE10.alloc (Obj.cells #[.int .i64 (SX), .int .i64 (SY)] 26)
  replace hE13 := hE13.alloc (Obj.cells #[.int .i64 (SX), .int .i64 (SY)] 26)
  replace hE19 := hE19.alloc (Obj.cells #[.int .i64 (SX), .int .i64 (SY)] 26)
  replace hE21 := hE21.alloc (Obj.cells #[.int .i64 (SX), .int .i64 (SY)] 26)
  replace Hv2 := hid0 (Hv2.out.alloc (Obj.cells #[.int .i64 (SX), .int .i64 (SY)] 26))
  replace qv2 := Hv2.out.cell
  replace fv2 := Hv2.out.frz
  replace Hv8 := hid0 (Hv8.out.alloc (Obj.cells #[.int .i64 (SX), .int .i64 (SY)] 26))
  replace qv8 := Hv8.out.cell
  replace fv8 := Hv8.out.frz
  replace Hv9 := hid0 (Hv9.out.alloc (Obj.cells #[.int .i64 (SX), .int .i64 (SY)] 26))
  replace qv9 := Hv9.out.cell
  replace fv9 := Hv9.out.frz
  replace Hv12 := hid0 (Hv12.out.alloc (Obj.cells #[.int .i64 (SX), .int .i64 (SY)] 26))
  replace qv12 := Hv12.out.cell
  replace fv12 := Hv12.out.frz
  replace Hv19 := hid0 (Hv19.out.alloc (Obj.cells #[.int .i64 (SX), .int .i64 (SY)] 26))
  replace qv19 := Hv19.out.cell
  replace fv19 := Hv19.out.frz
  replace Hv21 := hid0 (Hv21.out.alloc (Obj.cells #[.int .i64 (SX), .int .i64 (SY)] 26))
  replace qv21 := Hv21.out.cell
  replace fv21 := Hv21.out.frz
  replace Hd5 := hid0 (Hd5.out.alloc (Obj.cells #[.int .i64 (SX), .int .i64 (SY)] 26))
  replace qd5 := Hd5.out.c0
  replace rd5 := Hd5.out.c1
  replace Hd20 := hid0 (Hd20.out.alloc (Obj.cells #[.int .i64 (SX), .int .i64 (SY)] 26))
  replace qd20 := Hd20.out.c0
  replace rd20 := Hd20.out.c1
  have qd22 := Hd22.out.c0
  have rd22 := Hd22.out.c1
  have K1 : SameH b9 e9 E10 b12 e12 E13 := ⟨fun W h1 h2 => refHSame_any _ _ _ _ _ _ W h1 h2 (HH10.out.trans HH13.out.symm)⟩
  have K2 : SameH a19 c19 E19 a21 c21 E21 := ⟨fun W h1 h2 => refHSame_any _ _ _ _ _ _ W h1 h2 (HH19.out.trans HH21.out.symm)⟩
  have K3 : SameH a c E a8 c8 E8 := ⟨fun W h1 h2 => refHSame_any _ _ _ _ _ _ W h1 h2 HH8.out.symm⟩
  have C23 := fun W (hp : HpAt W a c E) => hpRight_any a c E W hp
  have C24 := fun W (hp : HpAt W a8 c8 E8) => refHRight_any a8 c8 E8 W hp
  rw [HRB.out] at C23
  rw [HH8.out, HRB.out] at C24
  clear hF hF8 hF10 hF13 hd hx1 hx2 hy1 hy2 hm1 hm2 hs1 hs2 hs3 hs4 hs5 hs6 hs7 hs8 hs9 hsz1 Hv2 Hv8 Hv9 Hv12 Hv19 Hv21 Hd5 Hd20 Hd22 fv2 fv8 fv9 fv12 fv19 fv21 oqv9 ofv9 oqv12 ofv12 awk
  go_wp2_with fail
  go_region_held3 (fun w' => w'.cell? ⟨w.heap.size, 0, none⟩ = some (.slice a E.length c) ∧ w'.cell? ⟨w1.heap.size, 0, none⟩ = some (.slice a8 E8.length c8) ∧ w'.cell? ⟨w2.heap.size, 0, none⟩ = some (.slice b9 E10.length e9) ∧ w'.cell? ⟨w3.heap.size, 0, none⟩ = some (.slice b12 E13.length e12) ∧ w'.cell? ⟨w10.heap.size, 0, none⟩ = some (.slice a19 E19.length c19) ∧ w'.cell? ⟨w11.heap.size, 0, none⟩ = some (.slice a21 E21.length c21) ∧ w'.cell? ⟨w10.heap.size + 1, 0, none⟩ = some (.int .i64 SX) ∧ w'.cell? ⟨w10.heap.size + 1, 1, none⟩ = some (.int .i64 SY) ∧ w'.cell? ⟨w11.heap.size + 1, 0, none⟩ = some (.int .i64 SX) ∧ w'.cell? ⟨w11.heap.size + 1, 1, none⟩ = some (.int .i64 SY) ∧ HpAt w' a c E ∧ HpAt w' a8 c8 E8 ∧ HpAt w' b9 e9 E10 ∧ HpAt w' b12 e12 E13 ∧ HpAt w' a19 c19 E19 ∧ HpAt w' a21 c21 E21 ∧ Below w.heap.size w w')
    ((go_split_ands; (try dsimp only); (repeat' apply And.intro); all_goals (first
      | assumption
      | exact cell_later hbn ‹_›
      | exact HpAt.later ‹_› hbn
      | exact below_through hbn (Below.size ‹Below w.heap.size w _›) ‹_›
      | exact HpAt.drew ‹_›
      | exact Below.drew hB
      | go_keep)))
    (first
      | (go_at_call 13; (try go_split_ands); refine ((by first | exact K1 | exact K2 | exact K3 : SameH _ _ _ _ _ _).out _ (by assumption) (by assumption)).mono ?_; rintro e wn ⟨rfl, hbn⟩)
      | (go_at_call 18; (try go_split_ands); refine (C23 _ (by assumption)).mono ?_; rintro e wn ⟨rfl, hbn⟩)
      | (go_at_call 19; (try go_split_ands); refine (C24 _ (by assumption)).mono ?_; rintro e wn ⟨rfl, hbn⟩))
  have HH := ‹wn.cell? ⟨w.heap.size, 0, none⟩ = some (.slice a E.length c) ∧ _›
  have HBB := HH.2.2.2.2.2.2.2.2.2.2.2.2.2.2.2.2
  clear K1 K2 K3 C23 C24 hE hE8 hE10 hE13 hE19 hE21 hB qv2 qv8 qv9 qv12 qv19 qv21 qd20 rd20 qd22 rd22
  go_wp2
  go_ret
  exact ⟨rfl, HBB⟩
end Go.Proofs.Ytnneeojgakjalaa
