/- Several of my texts laid together, each as it was: X5. Conditions: each names its own. -/
import Derived.Test.YtjmoegcfgadjiaaGreatJ1
import Derived.Test.YtjmoegcfgadjiaaGreatI8
import Derived.Test.YtjmoegcfgadjiaaGreatH8
import Derived.Test.YtjmoegcfgadjiaaGreatH2
/- The example of stage 12 holds: a contract of the call, in whatever memory. Conditions: none. -/
namespace Go.Proofs.YtjmoegcfgadjiaaGreat
open Go.RowKit

/-- The plan's box. -/
structure SAw7 (w : World) (pb : Nat) (W : World) : Prop where
  pl : VarB W (pb + 1) [.slice (some ⟨pb, 0, none⟩) 1 1]
  b : Below w.heap.size w W
theorem SAw7.below {w : World} {pb : Nat} {W W' : World} (h : SAw7 w pb W) (hb : Below W.heap.size W W') : SAw7 w pb W' := ⟨h.pl.below hb, below_through hb h.b.size h.b⟩
theorem eq12 (n : Int) (W : World) : (binOp .eql 37 (.agg #[.int .i64 1, .int .i64 n, .string ⟨#[]⟩]) (.agg #[.int .i64 1, .int .i64 n, .string ⟨#[]⟩])).run Tryz.prog W = .ok (.bool true) W := by
  have h := eql23 1 n ⟨#[]⟩ 1 n ⟨#[]⟩ W
  have e : sameV 1 n ⟨#[]⟩ 1 n ⟨#[]⟩ = true := by simp [sameV]
  rw [e] at h; exact h
theorem VarB.newAt (w : World) (us : List Value) (ty : TypeId) {B : Nat} (hB : B = w.heap.size) : VarB (w.alloc (.cells us.toArray ty)) B us := by subst hB; exact VarB.new w us ty
theorem num12_any (n : Int) (w : World) :
    Calls Tryz.prog 20 #[.int .i64 n] w fun e w' => e = .returned (.agg #[.int .i64 1, .int .i64 n, .string ⟨#[]⟩]) ∧ Below w.heap.size w w' := by
  go_enter Tryz.func20, Tryz.ntmps20
  go_wp2
  exact end_blk (VarB.new w [.int .i64 1, .int .i64 n, .string ⟨#[]⟩] 37) rfl rfl _ Tryz.underlying37 rfl infoV rfl ⟨rfl, (Below.refl _ _).alloc (Nat.le_refl _) _⟩
theorem col12_any (n : Int) (w : World) :
    Calls Tryz.prog 19 #[.int .i64 n] w fun e w' => e = .returned (.agg #[.int .i64 1, .int .i64 n, .int .i64 0, .int .i64 0, .string ⟨#[]⟩, .slice none 0 0]) ∧ Below w.heap.size w w' := by
  go_enter Tryz.func19, Tryz.ntmps19
  go_wp2
  exact end_blk (VarB.new w [.int .i64 1, .int .i64 n, .int .i64 0, .int .i64 0, .string ⟨#[]⟩, .slice none 0 0] 40) rfl rfl _ Tryz.underlying40 rfl sizeX rfl ⟨rfl, (Below.refl _ _).alloc (Nat.le_refl _) _⟩
set_option maxHeartbeats 8000000 in
set_option maxRecDepth 1000000 in
theorem awake12_any (w : World) :
    Calls Tryz.prog 15 #[] w fun e w' => e = .returned (.bool true) ∧ Below w.heap.size w w' := by
  go_enter Tryz.func15, Tryz.ntmps15
  go_wp2_with fail
  go_at_call 20
  refine (num12_any _ _).mono ?_
  rintro e w1 ⟨rfl, hb1⟩
  have B1 := hb1
  go_wp2_with fail
  go_at_call 20
  refine (num12_any _ _).mono ?_
  rintro e w2 ⟨rfl, hb2⟩
  have B2 := below_through hb2 B1.size B1
  clear hb1 hb2 B1
  have R1 := VarB.new w2 [.int .i64 1, .int .i64 1, .string ⟨#[]⟩, .int .i64 1, .int .i64 5, .string ⟨#[]⟩] 37
  have B2' := B2.alloc B2.size (Obj.cells #[.int .i64 1, .int .i64 1, .string ⟨#[]⟩, .int .i64 1, .int .i64 5, .string ⟨#[]⟩] 37)
  go_wp2_with fail
  go_at_call 20
  refine (num12_any _ _).mono ?_
  rintro e w3 ⟨rfl, hb3⟩
  have R1 := R1.below hb3
  have B3 := below_through hb3 B2'.size B2'
  clear hb3 B2' B2
  go_wp2_with fail
  go_at_call 20
  refine (num12_any _ _).mono ?_
  rintro e w4 ⟨rfl, hb4⟩
  have R1 := R1.below hb4
  have B4 := below_through hb4 B3.size B3
  clear hb4 B3
  have R2 := (((((VarB.newAt w4 [.int .i64 1, .int .i64 2, .string ⟨#[]⟩, .int .i64 1, .int .i64 7, .string ⟨#[]⟩] 37 (B := w4.heap.size) (by simp)).alloc (Obj.cells #[.slice (some ⟨w2.heap.size, 0, none⟩) 2 2, .int .i64 2, .slice (some ⟨w4.heap.size, 0, none⟩) 2 2, .int .i64 1] 49)).alloc (Obj.cells #[.string ⟨#[116]⟩, .slice (some ⟨w4.heap.size + 1, 0, none⟩) 2 2] 59)).alloc (Obj.cells #[.string ⟨#[116]⟩] 9)).alloc (Obj.cells #[.int .i64 2] 3)).alloc (Obj.cells #[.int .i64 0] 3)
  have VM := ((((VarB.newAt (w4.alloc (Obj.cells #[.int .i64 1, .int .i64 2, .string ⟨#[]⟩, .int .i64 1, .int .i64 7, .string ⟨#[]⟩] 37)) [.slice (some ⟨w2.heap.size, 0, none⟩) 2 2, .int .i64 2, .slice (some ⟨w4.heap.size, 0, none⟩) 2 2, .int .i64 1] 49 (B := w4.heap.size + 1) (by simp)).alloc (Obj.cells #[.string ⟨#[116]⟩, .slice (some ⟨w4.heap.size + 1, 0, none⟩) 2 2] 59)).alloc (Obj.cells #[.string ⟨#[116]⟩] 9)).alloc (Obj.cells #[.int .i64 2] 3)).alloc (Obj.cells #[.int .i64 0] 3)
  have VL := (((VarB.newAt ((w4.alloc (Obj.cells #[.int .i64 1, .int .i64 2, .string ⟨#[]⟩, .int .i64 1, .int .i64 7, .string ⟨#[]⟩] 37)).alloc (Obj.cells #[.slice (some ⟨w2.heap.size, 0, none⟩) 2 2, .int .i64 2, .slice (some ⟨w4.heap.size, 0, none⟩) 2 2, .int .i64 1] 49)) [.string ⟨#[116]⟩, .slice (some ⟨w4.heap.size + 1, 0, none⟩) 2 2] 59 (B := w4.heap.size + 1 + 1) (by simp)).alloc (Obj.cells #[.string ⟨#[116]⟩] 9)).alloc (Obj.cells #[.int .i64 2] 3)).alloc (Obj.cells #[.int .i64 0] 3)
  have VF := ((VarB.newAt (((w4.alloc (Obj.cells #[.int .i64 1, .int .i64 2, .string ⟨#[]⟩, .int .i64 1, .int .i64 7, .string ⟨#[]⟩] 37)).alloc (Obj.cells #[.slice (some ⟨w2.heap.size, 0, none⟩) 2 2, .int .i64 2, .slice (some ⟨w4.heap.size, 0, none⟩) 2 2, .int .i64 1] 49)).alloc (Obj.cells #[.string ⟨#[116]⟩, .slice (some ⟨w4.heap.size + 1, 0, none⟩) 2 2] 59)) [.string ⟨#[116]⟩] 9 (B := w4.heap.size + 1 + 1 + 1) (by simp)).alloc (Obj.cells #[.int .i64 2] 3)).alloc (Obj.cells #[.int .i64 0] 3)
  have VQ := (VarB.newAt ((((w4.alloc (Obj.cells #[.int .i64 1, .int .i64 2, .string ⟨#[]⟩, .int .i64 1, .int .i64 7, .string ⟨#[]⟩] 37)).alloc (Obj.cells #[.slice (some ⟨w2.heap.size, 0, none⟩) 2 2, .int .i64 2, .slice (some ⟨w4.heap.size, 0, none⟩) 2 2, .int .i64 1] 49)).alloc (Obj.cells #[.string ⟨#[116]⟩, .slice (some ⟨w4.heap.size + 1, 0, none⟩) 2 2] 59)).alloc (Obj.cells #[.string ⟨#[116]⟩] 9)) [.int .i64 2] 3 (B := w4.heap.size + 1 + 1 + 1 + 1) (by simp)).alloc (Obj.cells #[.int .i64 0] 3)
  have VG := VarB.newAt (((((w4.alloc (Obj.cells #[.int .i64 1, .int .i64 2, .string ⟨#[]⟩, .int .i64 1, .int .i64 7, .string ⟨#[]⟩] 37)).alloc (Obj.cells #[.slice (some ⟨w2.heap.size, 0, none⟩) 2 2, .int .i64 2, .slice (some ⟨w4.heap.size, 0, none⟩) 2 2, .int .i64 1] 49)).alloc (Obj.cells #[.string ⟨#[116]⟩, .slice (some ⟨w4.heap.size + 1, 0, none⟩) 2 2] 59)).alloc (Obj.cells #[.string ⟨#[116]⟩] 9)).alloc (Obj.cells #[.int .i64 2] 3)) [.int .i64 0] 3 (B := w4.heap.size + 1 + 1 + 1 + 1 + 1) (by simp)
  have hbc := (((((((Below.refl w4.heap.size w4).alloc (by simp; try omega) (Obj.cells #[.int .i64 1, .int .i64 2, .string ⟨#[]⟩, .int .i64 1, .int .i64 7, .string ⟨#[]⟩] 37)).alloc (by simp; try omega) (Obj.cells #[.slice (some ⟨w2.heap.size, 0, none⟩) 2 2, .int .i64 2, .slice (some ⟨w4.heap.size, 0, none⟩) 2 2, .int .i64 1] 49)).alloc (by simp; try omega) (Obj.cells #[.string ⟨#[116]⟩, .slice (some ⟨w4.heap.size + 1, 0, none⟩) 2 2] 59)).alloc (by simp; try omega) (Obj.cells #[.string ⟨#[116]⟩] 9)).alloc (by simp; try omega) (Obj.cells #[.int .i64 2] 3)).alloc (by simp; try omega) (Obj.cells #[.int .i64 0] 3))
  have R1 := R1.below hbc
  have B5 := below_through hbc B4.size B4
  clear hbc B4
  go_wp2_with fail
  go_at_call 19
  refine (col12_any _ _).mono ?_
  rintro e w5 ⟨rfl, hb5⟩
  have R1 := R1.below hb5
  have R2 := R2.below hb5
  have VM := VM.below hb5
  have VL := VL.below hb5
  have VF := VF.below hb5
  have VQ := VQ.below hb5
  have VG := VG.below hb5
  have B6 := below_through hb5 B5.size B5
  clear hb5 B5
  go_wp2_with fail
  go_at_call 19
  refine (col12_any _ _).mono ?_
  rintro e w6 ⟨rfl, hb6⟩
  have R1 := R1.below hb6
  have R2 := R2.below hb6
  have VM := VM.below hb6
  have VL := VL.below hb6
  have VF := VF.below hb6
  have VQ := VQ.below hb6
  have VG := VG.below hb6
  have B7 := below_through hb6 B6.size B6
  clear hb6 B6
  go_wp2_with fail
  have VO := ((VarB.newAt w6 [.int .i64 0, .int .i64 1, .int .i64 0, .int .i64 0, .int .i64 0, .string ⟨#[]⟩, .slice none 0 0, .string ⟨#[]⟩, .int .i64 0, .int .i64 3, .int .i64 1, .int .i64 1, .int .i64 0, .int .i64 0, .string ⟨#[]⟩, .slice none 0 0, .string ⟨#[]⟩, .int .i64 0] 55 (B := w6.heap.size) (by simp)).alloc (Obj.cells #[.bool false, .slice (some ⟨w4.heap.size + 1 + 1 + 1, 0, none⟩) 1 1, .slice (some ⟨w4.heap.size + 1 + 1 + 1 + 1, 0, none⟩) 1 1, .int .i64 0, .int .i64 0, .int .i64 0, .int .i64 0, .int .i64 0, .int .i64 0, .string ⟨#[]⟩, .slice none 0 0, .int .i64 0, .int .i64 0, .int .i64 0, .int .i64 0, .string ⟨#[]⟩, .slice none 0 0, .slice none 0 0, .slice (some ⟨w4.heap.size + 1 + 1 + 1 + 1 + 1, 0, none⟩) 1 1, .slice (some ⟨w6.heap.size, 0, none⟩) 2 2] 46)).alloc (Obj.cells #[.slice (some ⟨w6.heap.size + 1, 0, none⟩) 1 1] 24)
  have VP := (VarB.newAt (w6.alloc (Obj.cells #[.int .i64 0, .int .i64 1, .int .i64 0, .int .i64 0, .int .i64 0, .string ⟨#[]⟩, .slice none 0 0, .string ⟨#[]⟩, .int .i64 0, .int .i64 3, .int .i64 1, .int .i64 1, .int .i64 0, .int .i64 0, .string ⟨#[]⟩, .slice none 0 0, .string ⟨#[]⟩, .int .i64 0] 55)) [.bool false, .slice (some ⟨w4.heap.size + 1 + 1 + 1, 0, none⟩) 1 1, .slice (some ⟨w4.heap.size + 1 + 1 + 1 + 1, 0, none⟩) 1 1, .int .i64 0, .int .i64 0, .int .i64 0, .int .i64 0, .int .i64 0, .int .i64 0, .string ⟨#[]⟩, .slice none 0 0, .int .i64 0, .int .i64 0, .int .i64 0, .int .i64 0, .string ⟨#[]⟩, .slice none 0 0, .slice none 0 0, .slice (some ⟨w4.heap.size + 1 + 1 + 1 + 1 + 1, 0, none⟩) 1 1, .slice (some ⟨w6.heap.size, 0, none⟩) 2 2] 46 (B := w6.heap.size + 1) (by simp)).alloc (Obj.cells #[.slice (some ⟨w6.heap.size + 1, 0, none⟩) 1 1] 24)
  have VB := VarB.newAt ((w6.alloc (Obj.cells #[.int .i64 0, .int .i64 1, .int .i64 0, .int .i64 0, .int .i64 0, .string ⟨#[]⟩, .slice none 0 0, .string ⟨#[]⟩, .int .i64 0, .int .i64 3, .int .i64 1, .int .i64 1, .int .i64 0, .int .i64 0, .string ⟨#[]⟩, .slice none 0 0, .string ⟨#[]⟩, .int .i64 0] 55)).alloc (Obj.cells #[.bool false, .slice (some ⟨w4.heap.size + 1 + 1 + 1, 0, none⟩) 1 1, .slice (some ⟨w4.heap.size + 1 + 1 + 1 + 1, 0, none⟩) 1 1, .int .i64 0, .int .i64 0, .int .i64 0, .int .i64 0, .int .i64 0, .int .i64 0, .string ⟨#[]⟩, .slice none 0 0, .int .i64 0, .int .i64 0, .int .i64 0, .int .i64 0, .string ⟨#[]⟩, .slice none 0 0, .slice none 0 0, .slice (some ⟨w4.heap.size + 1 + 1 + 1 + 1 + 1, 0, none⟩) 1 1, .slice (some ⟨w6.heap.size, 0, none⟩) 2 2] 46)) [.slice (some ⟨w6.heap.size + 1, 0, none⟩) 1 1] 24 (B := w6.heap.size + 1 + 1) (by simp)
  have hbc := ((((Below.refl w6.heap.size w6).alloc (by simp; try omega) (Obj.cells #[.int .i64 0, .int .i64 1, .int .i64 0, .int .i64 0, .int .i64 0, .string ⟨#[]⟩, .slice none 0 0, .string ⟨#[]⟩, .int .i64 0, .int .i64 3, .int .i64 1, .int .i64 1, .int .i64 0, .int .i64 0, .string ⟨#[]⟩, .slice none 0 0, .string ⟨#[]⟩, .int .i64 0] 55)).alloc (by simp; try omega) (Obj.cells #[.bool false, .slice (some ⟨w4.heap.size + 1 + 1 + 1, 0, none⟩) 1 1, .slice (some ⟨w4.heap.size + 1 + 1 + 1 + 1, 0, none⟩) 1 1, .int .i64 0, .int .i64 0, .int .i64 0, .int .i64 0, .int .i64 0, .int .i64 0, .string ⟨#[]⟩, .slice none 0 0, .int .i64 0, .int .i64 0, .int .i64 0, .int .i64 0, .string ⟨#[]⟩, .slice none 0 0, .slice none 0 0, .slice (some ⟨w4.heap.size + 1 + 1 + 1 + 1 + 1, 0, none⟩) 1 1, .slice (some ⟨w6.heap.size, 0, none⟩) 2 2] 46)).alloc (by simp; try omega) (Obj.cells #[.slice (some ⟨w6.heap.size + 1, 0, none⟩) 1 1] 24))
  have R1 := R1.below hbc
  have R2 := R2.below hbc
  have VM := VM.below hbc
  have VL := VL.below hbc
  have VF := VF.below hbc
  have VQ := VQ.below hbc
  have VG := VG.below hbc
  have B8 := below_through hbc B7.size B7
  clear hbc B7
  have hEx : ExAt (((w6.alloc (Obj.cells #[.int .i64 0, .int .i64 1, .int .i64 0, .int .i64 0, .int .i64 0, .string ⟨#[]⟩, .slice none 0 0, .string ⟨#[]⟩, .int .i64 0, .int .i64 3, .int .i64 1, .int .i64 1, .int .i64 0, .int .i64 0, .string ⟨#[]⟩, .slice none 0 0, .string ⟨#[]⟩, .int .i64 0] 55)).alloc (Obj.cells #[.bool false, .slice (some ⟨w4.heap.size + 1 + 1 + 1, 0, none⟩) 1 1, .slice (some ⟨w4.heap.size + 1 + 1 + 1 + 1, 0, none⟩) 1 1, .int .i64 0, .int .i64 0, .int .i64 0, .int .i64 0, .int .i64 0, .int .i64 0, .string ⟨#[]⟩, .slice none 0 0, .int .i64 0, .int .i64 0, .int .i64 0, .int .i64 0, .string ⟨#[]⟩, .slice none 0 0, .slice none 0 0, .slice (some ⟨w4.heap.size + 1 + 1 + 1 + 1 + 1, 0, none⟩) 1 1, .slice (some ⟨w6.heap.size, 0, none⟩) 2 2] 46)).alloc (Obj.cells #[.slice (some ⟨w6.heap.size + 1, 0, none⟩) 1 1] 24)) w2.heap.size w4.heap.size (w4.heap.size + 1) (w4.heap.size + 1 + 1) (w4.heap.size + 1 + 1 + 1) (w4.heap.size + 1 + 1 + 1 + 1) (w4.heap.size + 1 + 1 + 1 + 1 + 1) w6.heap.size (w6.heap.size + 1) := ⟨R1, R2, VM, VL, VF, VQ, VG, VO, VP⟩
  generalize (((w6.alloc (Obj.cells #[.int .i64 0, .int .i64 1, .int .i64 0, .int .i64 0, .int .i64 0, .string ⟨#[]⟩, .slice none 0 0, .string ⟨#[]⟩, .int .i64 0, .int .i64 3, .int .i64 1, .int .i64 1, .int .i64 0, .int .i64 0, .string ⟨#[]⟩, .slice none 0 0, .string ⟨#[]⟩, .int .i64 0] 55)).alloc (Obj.cells #[.bool false, .slice (some ⟨w4.heap.size + 1 + 1 + 1, 0, none⟩) 1 1, .slice (some ⟨w4.heap.size + 1 + 1 + 1 + 1, 0, none⟩) 1 1, .int .i64 0, .int .i64 0, .int .i64 0, .int .i64 0, .int .i64 0, .int .i64 0, .string ⟨#[]⟩, .slice none 0 0, .int .i64 0, .int .i64 0, .int .i64 0, .int .i64 0, .string ⟨#[]⟩, .slice none 0 0, .slice none 0 0, .slice (some ⟨w4.heap.size + 1 + 1 + 1 + 1 + 1, 0, none⟩) 1 1, .slice (some ⟨w6.heap.size, 0, none⟩) 2 2] 46)).alloc (Obj.cells #[.slice (some ⟨w6.heap.size + 1, 0, none⟩) 1 1] 24)) = W at *
  have hNs := hEx.names
  have hPs := hEx.plan
  have CRows := planRows_any _ 1 _ _ 1 _ W hPs hNs hEx.alike
  rw [ex_rows] at CRows
  have CC := hid0 (fun (W' : World) (hW : Below W.heap.size W W') => (show Calls Tryz.prog 21 #[.agg #[.slice (some ⟨w6.heap.size + 1, 0, none⟩) 1 1], .slice (some ⟨w4.heap.size + 1 + 1, 0, none⟩) 1 1] W' (fun e w' => e = .returned (.int .i64 3) ∧ Below W'.heap.size W' w') from by
    have := planCost_any _ 1 _ _ 1 _ W' (hPs.later hW) (hNs.later hW)
    rw [ex_cost] at this
    exact this))
  refine Calls.mono CRows ?_
  rintro e w7 ⟨⟨a', c', E', rfl, hc', hE', hm'⟩, hb7⟩
  obtain ⟨⟨a1, c1, r1, n1⟩, ⟨a2, c2, r2, n2⟩, rfl, h1, h2⟩ := two_of hm'
  obtain rfl : r1 = [vI 1, vI 10] := congrArg Prod.fst h1
  obtain rfl : r2 = [vI 2, vI 7] := congrArg Prod.fst h2
  obtain ⟨b1, o1, rfl, hcl⟩ := hE'.1 (by simp)
  obtain ⟨q0, q1⟩ := hcl 0 (by simp)
  obtain ⟨p0, p1⟩ := hcl 1 (by simp)
  have hr1 := (hE'.2 _ (List.mem_cons_self)).1
  have hr2 := (hE'.2 _ (List.mem_cons_of_mem _ (List.mem_cons_self))).1
  obtain ⟨b2, o2, ea, hx1⟩ := hr1 (by simp)
  dsimp only at ea
  subst ea
  obtain ⟨b3, o3, eb, hx2⟩ := hr2 (by simp)
  dsimp only at eb
  subst eb
  have x0 : w7.cell? ⟨b2, o2 + 3, none⟩ = some (.int .i64 1) := (hx1 1 (by simp)).1
  have x1 : w7.cell? ⟨b2, o2 + 3 + 1, none⟩ = some (.int .i64 10) := (hx1 1 (by simp)).2.1
  have x2 : w7.cell? ⟨b2, o2 + 3 + 2, none⟩ = some (.string ⟨#[]⟩) := (hx1 1 (by simp)).2.2
  have y0 : w7.cell? ⟨b3, o3 + 3, none⟩ = some (.int .i64 1) := (hx2 1 (by simp)).1
  have y1 : w7.cell? ⟨b3, o3 + 3 + 1, none⟩ = some (.int .i64 7) := (hx2 1 (by simp)).2.1
  have y2 : w7.cell? ⟨b3, o3 + 3 + 2, none⟩ = some (.string ⟨#[]⟩) := (hx2 1 (by simp)).2.2
  have q0 : w7.cell? ⟨b1, o1, none⟩ = some (.slice (some ⟨b2, o2, none⟩) 2 c1) := q0
  have p0 : w7.cell? ⟨b1, o1 + 2, none⟩ = some (.slice (some ⟨b3, o3, none⟩) 2 c2) := p0
  have hS7 : SAw7 w7 (w6.heap.size + 1) w7.drew := ⟨(VB.below hb7).drew, Below.drew (Below.refl _ _)⟩
  have E10 := eq12 10
  have E7 := eq12 7
  have B9 := hid0 (below_through hb7 B8.size B8)
  have hb7' := hid0 hb7
  clear hE' hm' hcl hr1 hr2 hx1 hx2 h1 h2 q1 p1 hc' hNs hPs hEx CRows hb7 B8 VB
  go_wp2_with fail
  refine wp_region_held_drew (S := SAw7 w7 (w6.heap.size + 1)) (by kernel_rfl) hS7 (fun hHeld => ?_)
  refine wpAnyH_take (i := 0) (v := ?_) rfl (by kernel_rfl) (by kernel_rfl) (by kernel_rfl) (fun _ _ _ h => h) (Or.inl ⟨by rfl, ?_⟩) (by assumption) ?_
  rotate_left
  · (intro wx hSw; have u0 := cell_later hSw.b q0; have u1 := cell_later hSw.b p0; have u2 := cell_later hSw.b x0; have u3 := cell_later hSw.b x1; have u4 := cell_later hSw.b x2; have u5 := cell_later hSw.b y0; have u6 := cell_later hSw.b y1; have u7 := cell_later hSw.b y2; go_simp; (try with_reducible rfl); (try omega))
  (try simp only [Act.put, List.setIfInBounds_toArray, List.set_cons_zero, List.set_cons_succ, List.getElem_toArray, List.getElem_cons_zero])
  refine wpAnyH_take (i := 1) (v := ?_) rfl (by kernel_rfl) (by kernel_rfl) (by kernel_rfl) (fun _ _ _ h => h) (Or.inl ⟨by rfl, ?_⟩) (by assumption) ?_
  rotate_left
  · (intro wx hSw; have u0 := cell_later hSw.b q0; have u1 := cell_later hSw.b p0; have u2 := cell_later hSw.b x0; have u3 := cell_later hSw.b x1; have u4 := cell_later hSw.b x2; have u5 := cell_later hSw.b y0; have u6 := cell_later hSw.b y1; have u7 := cell_later hSw.b y2; go_simp; (try with_reducible rfl); (try omega))
  (try simp only [Act.put, List.setIfInBounds_toArray, List.set_cons_zero, List.set_cons_succ, List.getElem_toArray, List.getElem_cons_zero, List.getElem_cons_succ])
  refine wpAnyH_take (i := 2) (v := ?_) rfl (by kernel_rfl) (by kernel_rfl) (by kernel_rfl) (fun _ _ _ h => h) (Or.inl ⟨by rfl, ?_⟩) (by assumption) ?_
  rotate_left
  · (intro wx hSw; have u0 := cell_later hSw.b q0; have u1 := cell_later hSw.b p0; have u2 := cell_later hSw.b x0; have u3 := cell_later hSw.b x1; have u4 := cell_later hSw.b x2; have u5 := cell_later hSw.b y0; have u6 := cell_later hSw.b y1; have u7 := cell_later hSw.b y2; go_simp; (try with_reducible rfl); (try omega))
  (try simp only [Act.put, List.setIfInBounds_toArray, List.set_cons_zero, List.set_cons_succ, List.getElem_toArray, List.getElem_cons_zero, List.getElem_cons_succ])
  refine wpAnyH_take (i := 3) (v := ?_) rfl (by kernel_rfl) (by kernel_rfl) (by kernel_rfl) (fun _ _ _ h => h) (Or.inl ⟨by rfl, ?_⟩) (by assumption) ?_
  rotate_left
  · (intro wx hSw; have u0 := cell_later hSw.b q0; have u1 := cell_later hSw.b p0; have u2 := cell_later hSw.b x0; have u3 := cell_later hSw.b x1; have u4 := cell_later hSw.b x2; have u5 := cell_later hSw.b y0; have u6 := cell_later hSw.b y1; have u7 := cell_later hSw.b y2; go_simp; (try with_reducible rfl); (try omega))
  (try simp only [Act.put, List.setIfInBounds_toArray, List.set_cons_zero, List.set_cons_succ, List.getElem_toArray, List.getElem_cons_zero, List.getElem_cons_succ])
  refine wpAnyH_take (i := 4) (v := ?_) rfl (by kernel_rfl) (by kernel_rfl) (by kernel_rfl) (fun _ _ _ h => h) (Or.inl ⟨by rfl, ?_⟩) (by assumption) ?_
  rotate_left
  · (intro wx hSw; have u0 := cell_later hSw.b q0; have u1 := cell_later hSw.b p0; have u2 := cell_later hSw.b x0; have u3 := cell_later hSw.b x1; have u4 := cell_later hSw.b x2; have u5 := cell_later hSw.b y0; have u6 := cell_later hSw.b y1; have u7 := cell_later hSw.b y2; go_simp; (try with_reducible rfl); (try omega))
  (try simp only [Act.put, List.setIfInBounds_toArray, List.set_cons_zero, List.set_cons_succ, List.getElem_toArray, List.getElem_cons_zero, List.getElem_cons_succ])
  refine wpAnyH_take (i := 5) (v := ?_) rfl (by kernel_rfl) (by kernel_rfl) (by kernel_rfl) (fun _ _ _ h => h) (Or.inl ⟨by rfl, ?_⟩) (by assumption) ?_
  rotate_left
  · (intro wx hSw; have u0 := cell_later hSw.b q0; have u1 := cell_later hSw.b p0; have u2 := cell_later hSw.b x0; have u3 := cell_later hSw.b x1; have u4 := cell_later hSw.b x2; have u5 := cell_later hSw.b y0; have u6 := cell_later hSw.b y1; have u7 := cell_later hSw.b y2; go_simp; (try with_reducible rfl); (try omega))
  (try simp only [Act.put, List.setIfInBounds_toArray, List.set_cons_zero, List.set_cons_succ, List.getElem_toArray, List.getElem_cons_zero, List.getElem_cons_succ])
  refine wpAnyH_take (i := 6) (v := ?_) rfl (by kernel_rfl) (by kernel_rfl) (by kernel_rfl) (fun _ _ _ h => h) (Or.inl ⟨by rfl, ?_⟩) (by assumption) ?_
  rotate_left
  · (intro wx hSw; have u0 := cell_later hSw.b q0; have u1 := cell_later hSw.b p0; have u2 := cell_later hSw.b x0; have u3 := cell_later hSw.b x1; have u4 := cell_later hSw.b x2; have u5 := cell_later hSw.b y0; have u6 := cell_later hSw.b y1; have u7 := cell_later hSw.b y2; go_simp; (try with_reducible rfl); (try omega))
  (try simp only [Act.put, List.setIfInBounds_toArray, List.set_cons_zero, List.set_cons_succ, List.getElem_toArray, List.getElem_cons_zero, List.getElem_cons_succ])
  refine wpAnyH_take (i := 7) (v := ?_) rfl (by kernel_rfl) (by kernel_rfl) (by kernel_rfl) (fun _ _ _ h => h) (Or.inl ⟨by rfl, ?_⟩) (by assumption) ?_
  rotate_left
  · (intro wx hSw; have u0 := cell_later hSw.b q0; have u1 := cell_later hSw.b p0; have u2 := cell_later hSw.b x0; have u3 := cell_later hSw.b x1; have u4 := cell_later hSw.b x2; have u5 := cell_later hSw.b y0; have u6 := cell_later hSw.b y1; have u7 := cell_later hSw.b y2; go_simp; (try with_reducible rfl); (try omega))
  (try simp only [Act.put, List.setIfInBounds_toArray, List.set_cons_zero, List.set_cons_succ, List.getElem_toArray, List.getElem_cons_zero, List.getElem_cons_succ])
  refine wpAnyH_take (i := 8) (v := ?_) rfl (by kernel_rfl) (by kernel_rfl) (by kernel_rfl) (fun _ _ _ h => h) (Or.inl ⟨by rfl, ?_⟩) (by assumption) ?_
  rotate_left
  · (intro wx hSw; have u0 := cell_later hSw.b q0; have u1 := cell_later hSw.b p0; have u2 := cell_later hSw.b x0; have u3 := cell_later hSw.b x1; have u4 := cell_later hSw.b x2; have u5 := cell_later hSw.b y0; have u6 := cell_later hSw.b y1; have u7 := cell_later hSw.b y2; go_simp; (try with_reducible rfl); (try omega))
  (try simp only [Act.put, List.setIfInBounds_toArray, List.set_cons_zero, List.set_cons_succ, List.getElem_toArray, List.getElem_cons_zero, List.getElem_cons_succ])
  refine wpAnyH_take (i := 9) (v := ?_) rfl (by kernel_rfl) (by kernel_rfl) (by kernel_rfl) (fun _ _ _ h => h) (Or.inl ⟨by rfl, ?_⟩) (by assumption) ?_
  rotate_left
  · (intro wx hSw; have u0 := cell_later hSw.b q0; have u1 := cell_later hSw.b p0; have u2 := cell_later hSw.b x0; have u3 := cell_later hSw.b x1; have u4 := cell_later hSw.b x2; have u5 := cell_later hSw.b y0; have u6 := cell_later hSw.b y1; have u7 := cell_later hSw.b y2; go_simp; (try with_reducible rfl); (try omega))
  (try simp only [Act.put, List.setIfInBounds_toArray, List.set_cons_zero, List.set_cons_succ, List.getElem_toArray, List.getElem_cons_zero, List.getElem_cons_succ])
  refine wpAnyH_take (i := 10) (v := ?_) rfl (by kernel_rfl) (by kernel_rfl) (by kernel_rfl) (fun _ _ _ h => h) (Or.inl ⟨by rfl, ?_⟩) (by assumption) ?_
  rotate_left
  · (intro wx hSw; have u0 := cell_later hSw.b q0; have u1 := cell_later hSw.b p0; have u2 := cell_later hSw.b x0; have u3 := cell_later hSw.b x1; have u4 := cell_later hSw.b x2; have u5 := cell_later hSw.b y0; have u6 := cell_later hSw.b y1; have u7 := cell_later hSw.b y2; go_simp; (try with_reducible rfl); (try omega))
  (try simp only [Act.put, List.setIfInBounds_toArray, List.set_cons_zero, List.set_cons_succ, List.getElem_toArray, List.getElem_cons_zero, List.getElem_cons_succ])
  refine wpAnyH_take (i := 11) (v := ?_) rfl (by kernel_rfl) (by kernel_rfl) (by kernel_rfl) (fun _ _ _ h => h) (Or.inl ⟨by rfl, ?_⟩) (by assumption) ?_
  rotate_left
  · (intro wx hSw; have u0 := cell_later hSw.b q0; have u1 := cell_later hSw.b p0; have u2 := cell_later hSw.b x0; have u3 := cell_later hSw.b x1; have u4 := cell_later hSw.b x2; have u5 := cell_later hSw.b y0; have u6 := cell_later hSw.b y1; have u7 := cell_later hSw.b y2; go_simp; (try with_reducible rfl); (try omega))
  (try simp only [Act.put, List.setIfInBounds_toArray, List.set_cons_zero, List.set_cons_succ, List.getElem_toArray, List.getElem_cons_zero, List.getElem_cons_succ])
  refine wpAnyH_take (i := 12) (v := ?_) rfl (by kernel_rfl) (by kernel_rfl) (by kernel_rfl) (fun _ _ _ h => h) (Or.inl ⟨by rfl, ?_⟩) (by assumption) ?_
  rotate_left
  · (intro wx hSw; have u0 := cell_later hSw.b q0; have u1 := cell_later hSw.b p0; have u2 := cell_later hSw.b x0; have u3 := cell_later hSw.b x1; have u4 := cell_later hSw.b x2; have u5 := cell_later hSw.b y0; have u6 := cell_later hSw.b y1; have u7 := cell_later hSw.b y2; go_simp; (try with_reducible rfl); (try omega))
  (try simp only [Act.put, List.setIfInBounds_toArray, List.set_cons_zero, List.set_cons_succ, List.getElem_toArray, List.getElem_cons_zero, List.getElem_cons_succ])
  refine wpAnyH_take (i := 13) (v := ?_) rfl (by kernel_rfl) (by kernel_rfl) (by kernel_rfl) (fun _ _ _ h => h) (Or.inl ⟨by rfl, ?_⟩) (by assumption) ?_
  rotate_left
  · (intro wx hSw; have u0 := cell_later hSw.b q0; have u1 := cell_later hSw.b p0; have u2 := cell_later hSw.b x0; have u3 := cell_later hSw.b x1; have u4 := cell_later hSw.b x2; have u5 := cell_later hSw.b y0; have u6 := cell_later hSw.b y1; have u7 := cell_later hSw.b y2; go_simp; (try with_reducible rfl); (try omega))
  (try simp only [Act.put, List.setIfInBounds_toArray, List.set_cons_zero, List.set_cons_succ, List.getElem_toArray, List.getElem_cons_zero, List.getElem_cons_succ])
  refine wpAnyH_ready (rs := [14]) (by kernel_rfl) (by simp) ?_
  refine AllReadyH.cons rfl (fun K hK => ?_) AllReadyH.nil
  go_simp
  refine (num12_any _ _).mono ?_
  rintro e v1 ⟨rfl, hbx⟩
  have hS7 := hS7.below hbx
  clear hbx
  refine hK.out _ _ hS7 (fun hHeld => ?_)
  clear hK K
  (try simp only [Act.put, List.setIfInBounds_toArray, List.set_cons_zero, List.set_cons_succ, List.getElem_toArray, List.getElem_cons_zero, List.getElem_cons_succ])
  refine wpAnyH_take (i := 15) (v := ?_) rfl (by kernel_rfl) (by kernel_rfl) (by kernel_rfl) (fun _ _ _ h => h) (Or.inl ⟨by rfl, ?_⟩) (by assumption) ?_
  rotate_left
  · (intro wx hSw; have u0 := cell_later hSw.b q0; have u1 := cell_later hSw.b p0; have u2 := cell_later hSw.b x0; have u3 := cell_later hSw.b x1; have u4 := cell_later hSw.b x2; have u5 := cell_later hSw.b y0; have u6 := cell_later hSw.b y1; have u7 := cell_later hSw.b y2; go_simp; (try with_reducible rfl); (try omega))
  (try simp only [Act.put, List.setIfInBounds_toArray, List.set_cons_zero, List.set_cons_succ, List.getElem_toArray, List.getElem_cons_zero, List.getElem_cons_succ])
  refine wpAnyH_take (i := 16) (v := ?_) rfl (by kernel_rfl) (by kernel_rfl) (by kernel_rfl) (fun _ _ _ h => h) (Or.inl ⟨by rfl, ?_⟩) (by assumption) ?_
  rotate_left
  · (intro wx hSw; have u0 := cell_later hSw.b q0; have u1 := cell_later hSw.b p0; have u2 := cell_later hSw.b x0; have u3 := cell_later hSw.b x1; have u4 := cell_later hSw.b x2; have u5 := cell_later hSw.b y0; have u6 := cell_later hSw.b y1; have u7 := cell_later hSw.b y2; go_simp; (try with_reducible rfl); (try omega))
  (try simp only [Act.put, List.setIfInBounds_toArray, List.set_cons_zero, List.set_cons_succ, List.getElem_toArray, List.getElem_cons_zero, List.getElem_cons_succ])
  refine wpAnyH_take (i := 17) (v := ?_) rfl (by kernel_rfl) (by kernel_rfl) (by kernel_rfl) (fun _ _ _ h => h) (Or.inl ⟨by rfl, ?_⟩) (by assumption) ?_
  rotate_left
  · (intro wx hSw; have u0 := cell_later hSw.b q0; have u1 := cell_later hSw.b p0; have u2 := cell_later hSw.b x0; have u3 := cell_later hSw.b x1; have u4 := cell_later hSw.b x2; have u5 := cell_later hSw.b y0; have u6 := cell_later hSw.b y1; have u7 := cell_later hSw.b y2; go_simp; (try with_reducible rfl); (try omega))
  (try simp only [Act.put, List.setIfInBounds_toArray, List.set_cons_zero, List.set_cons_succ, List.getElem_toArray, List.getElem_cons_zero, List.getElem_cons_succ])
  refine wpAnyH_take (i := 18) (v := ?_) rfl (by kernel_rfl) (by kernel_rfl) (by kernel_rfl) (fun _ _ _ h => h) (Or.inl ⟨by rfl, ?_⟩) (by assumption) ?_
  rotate_left
  · (intro wx hSw; have u0 := cell_later hSw.b q0; have u1 := cell_later hSw.b p0; have u2 := cell_later hSw.b x0; have u3 := cell_later hSw.b x1; have u4 := cell_later hSw.b x2; have u5 := cell_later hSw.b y0; have u6 := cell_later hSw.b y1; have u7 := cell_later hSw.b y2; go_simp; (try with_reducible rfl); (try omega))
  (try simp only [Act.put, List.setIfInBounds_toArray, List.set_cons_zero, List.set_cons_succ, List.getElem_toArray, List.getElem_cons_zero, List.getElem_cons_succ])
  refine wpAnyH_take (i := 19) (v := ?_) rfl (by kernel_rfl) (by kernel_rfl) (by kernel_rfl) (fun _ _ _ h => h) (Or.inl ⟨by rfl, ?_⟩) (by assumption) ?_
  rotate_left
  · (intro wx hSw; have u0 := cell_later hSw.b q0; have u1 := cell_later hSw.b p0; have u2 := cell_later hSw.b x0; have u3 := cell_later hSw.b x1; have u4 := cell_later hSw.b x2; have u5 := cell_later hSw.b y0; have u6 := cell_later hSw.b y1; have u7 := cell_later hSw.b y2; go_simp; (try with_reducible rfl); (try omega))
  (try simp only [Act.put, List.setIfInBounds_toArray, List.set_cons_zero, List.set_cons_succ, List.getElem_toArray, List.getElem_cons_zero, List.getElem_cons_succ])
  refine wpAnyH_take (i := 20) (v := ?_) rfl (by kernel_rfl) (by kernel_rfl) (by kernel_rfl) (fun _ _ _ h => h) (Or.inl ⟨by rfl, ?_⟩) (by assumption) ?_
  rotate_left
  · (intro wx hSw; have u0 := cell_later hSw.b q0; have u1 := cell_later hSw.b p0; have u2 := cell_later hSw.b x0; have u3 := cell_later hSw.b x1; have u4 := cell_later hSw.b x2; have u5 := cell_later hSw.b y0; have u6 := cell_later hSw.b y1; have u7 := cell_later hSw.b y2; go_simp; (try with_reducible rfl); (try omega))
  (try simp only [Act.put, List.setIfInBounds_toArray, List.set_cons_zero, List.set_cons_succ, List.getElem_toArray, List.getElem_cons_zero, List.getElem_cons_succ])
  refine wpAnyH_take (i := 21) (v := ?_) rfl (by kernel_rfl) (by kernel_rfl) (by kernel_rfl) (fun _ _ _ h => h) (Or.inl ⟨by rfl, ?_⟩) (by assumption) ?_
  rotate_left
  · (intro wx hSw; have u0 := cell_later hSw.b q0; have u1 := cell_later hSw.b p0; have u2 := cell_later hSw.b x0; have u3 := cell_later hSw.b x1; have u4 := cell_later hSw.b x2; have u5 := cell_later hSw.b y0; have u6 := cell_later hSw.b y1; have u7 := cell_later hSw.b y2; go_simp; (try with_reducible rfl); (try omega))
  (try simp only [Act.put, List.setIfInBounds_toArray, List.set_cons_zero, List.set_cons_succ, List.getElem_toArray, List.getElem_cons_zero, List.getElem_cons_succ])
  refine wpAnyH_take (i := 22) (v := ?_) rfl (by kernel_rfl) (by kernel_rfl) (by kernel_rfl) (fun _ _ _ h => h) (Or.inl ⟨by rfl, ?_⟩) (by assumption) ?_
  rotate_left
  · (intro wx hSw; have u0 := cell_later hSw.b q0; have u1 := cell_later hSw.b p0; have u2 := cell_later hSw.b x0; have u3 := cell_later hSw.b x1; have u4 := cell_later hSw.b x2; have u5 := cell_later hSw.b y0; have u6 := cell_later hSw.b y1; have u7 := cell_later hSw.b y2; go_simp; (try with_reducible rfl); (try omega))
  (try simp only [Act.put, List.setIfInBounds_toArray, List.set_cons_zero, List.set_cons_succ, List.getElem_toArray, List.getElem_cons_zero, List.getElem_cons_succ])
  refine wpAnyH_take (i := 23) (v := ?_) rfl (by kernel_rfl) (by kernel_rfl) (by kernel_rfl) (fun _ _ _ h => h) (Or.inl ⟨by rfl, ?_⟩) (by assumption) ?_
  rotate_left
  · (intro wx hSw; have u0 := cell_later hSw.b q0; have u1 := cell_later hSw.b p0; have u2 := cell_later hSw.b x0; have u3 := cell_later hSw.b x1; have u4 := cell_later hSw.b x2; have u5 := cell_later hSw.b y0; have u6 := cell_later hSw.b y1; have u7 := cell_later hSw.b y2; go_simp; (try with_reducible rfl); (try omega))
  (try simp only [Act.put, List.setIfInBounds_toArray, List.set_cons_zero, List.set_cons_succ, List.getElem_toArray, List.getElem_cons_zero, List.getElem_cons_succ])
  refine wpAnyH_ready (rs := [24]) (by kernel_rfl) (by simp) ?_
  refine AllReadyH.cons rfl (fun K hK => ?_) AllReadyH.nil
  go_simp
  refine (num12_any _ _).mono ?_
  rintro e v2 ⟨rfl, hbx⟩
  have hS7 := hS7.below hbx
  clear hbx
  refine hK.out _ _ hS7 (fun hHeld => ?_)
  clear hK K
  (try simp only [Act.put, List.setIfInBounds_toArray, List.set_cons_zero, List.set_cons_succ, List.getElem_toArray, List.getElem_cons_zero, List.getElem_cons_succ])
  refine wpAnyH_take (i := 25) (v := ?_) rfl (by kernel_rfl) (by kernel_rfl) (by kernel_rfl) (fun _ _ _ h => h) (Or.inl ⟨by rfl, ?_⟩) (by assumption) ?_
  rotate_left
  · (intro wx hSw; have u0 := cell_later hSw.b q0; have u1 := cell_later hSw.b p0; have u2 := cell_later hSw.b x0; have u3 := cell_later hSw.b x1; have u4 := cell_later hSw.b x2; have u5 := cell_later hSw.b y0; have u6 := cell_later hSw.b y1; have u7 := cell_later hSw.b y2; go_simp; (try with_reducible rfl); (try omega))
  (try simp only [Act.put, List.setIfInBounds_toArray, List.set_cons_zero, List.set_cons_succ, List.getElem_toArray, List.getElem_cons_zero, List.getElem_cons_succ])
  refine wpAnyH_take (i := 26) (v := ?_) rfl (by kernel_rfl) (by kernel_rfl) (by kernel_rfl) (fun _ _ _ h => h) (Or.inl ⟨by rfl, ?_⟩) (by assumption) ?_
  rotate_left
  · (intro wx hSw; have u0 := cell_later hSw.b q0; have u1 := cell_later hSw.b p0; have u2 := cell_later hSw.b x0; have u3 := cell_later hSw.b x1; have u4 := cell_later hSw.b x2; have u5 := cell_later hSw.b y0; have u6 := cell_later hSw.b y1; have u7 := cell_later hSw.b y2; go_simp; (try with_reducible rfl); (try omega))
  (try simp only [Act.put, List.setIfInBounds_toArray, List.set_cons_zero, List.set_cons_succ, List.getElem_toArray, List.getElem_cons_zero, List.getElem_cons_succ])
  refine wpAnyH_take (i := 27) (v := ?_) rfl (by kernel_rfl) (by kernel_rfl) (by kernel_rfl) (fun _ _ _ h => h) (Or.inl ⟨by rfl, ?_⟩) (by assumption) ?_
  rotate_left
  · (intro wx hSw; have u0 := cell_later hSw.b q0; have u1 := cell_later hSw.b p0; have u2 := cell_later hSw.b x0; have u3 := cell_later hSw.b x1; have u4 := cell_later hSw.b x2; have u5 := cell_later hSw.b y0; have u6 := cell_later hSw.b y1; have u7 := cell_later hSw.b y2; go_simp; (try with_reducible rfl); (try omega))
  (try simp only [Act.put, List.setIfInBounds_toArray, List.set_cons_zero, List.set_cons_succ, List.getElem_toArray, List.getElem_cons_zero, List.getElem_cons_succ])
  refine wpAnyH_take (i := 28) (v := .agg [.slice (some ⟨w6.heap.size + 1, 0, none⟩) 1 1].toArray) rfl (by kernel_rfl) (by kernel_rfl) (by kernel_rfl) (fun _ _ _ h => h) (yieldsIf_load_mid rfl 24 _ rfl (w6.heap.size + 1 + 1) (0) rfl [.slice (some ⟨w6.heap.size + 1, 0, none⟩) 1 1] _ (fun w h => h.pl.at_) Tryz.underlying24 rfl (sizePlan)) (by assumption) ?_
  (try simp only [Act.put, List.setIfInBounds_toArray, List.set_cons_zero, List.set_cons_succ, List.getElem_toArray, List.getElem_cons_zero, List.getElem_cons_succ])
  refine wpAnyH_take (i := 29) (v := ?_) rfl (by kernel_rfl) (by kernel_rfl) (by kernel_rfl) (fun _ _ _ h => h) (Or.inl ⟨by rfl, ?_⟩) (by assumption) ?_
  rotate_left
  · (intro wx hSw; have u0 := cell_later hSw.b q0; have u1 := cell_later hSw.b p0; have u2 := cell_later hSw.b x0; have u3 := cell_later hSw.b x1; have u4 := cell_later hSw.b x2; have u5 := cell_later hSw.b y0; have u6 := cell_later hSw.b y1; have u7 := cell_later hSw.b y2; go_simp; (try with_reducible rfl); (try omega))
  (try simp only [Act.put, List.setIfInBounds_toArray, List.set_cons_zero, List.set_cons_succ, List.getElem_toArray, List.getElem_cons_zero, List.getElem_cons_succ])
  refine wpAnyH_ready (rs := [30]) (by kernel_rfl) (by simp) ?_
  refine AllReadyH.cons rfl (fun K hK => ?_) AllReadyH.nil
  go_simp
  refine (CC.out _ (below_through hS7.b hb7'.out.size hb7'.out)).mono ?_
  rintro e v3 ⟨rfl, hbx⟩
  have hS7 := hS7.below hbx
  clear hbx
  refine hK.out _ _ hS7 (fun hHeld => ?_)
  clear hK K
  (try simp only [Act.put, List.setIfInBounds_toArray, List.set_cons_zero, List.set_cons_succ, List.getElem_toArray, List.getElem_cons_zero, List.getElem_cons_succ])
  refine wpAnyH_take (i := 31) (v := ?_) rfl (by kernel_rfl) (by kernel_rfl) (by kernel_rfl) (fun _ _ _ h => h) (Or.inl ⟨by rfl, ?_⟩) (by assumption) ?_
  rotate_left
  · (intro wx hSw; have u0 := cell_later hSw.b q0; have u1 := cell_later hSw.b p0; have u2 := cell_later hSw.b x0; have u3 := cell_later hSw.b x1; have u4 := cell_later hSw.b x2; have u5 := cell_later hSw.b y0; have u6 := cell_later hSw.b y1; have u7 := cell_later hSw.b y2; go_simp; (try with_reducible rfl); (try omega))
  (try simp only [Act.put, List.setIfInBounds_toArray, List.set_cons_zero, List.set_cons_succ, List.getElem_toArray, List.getElem_cons_zero, List.getElem_cons_succ])
  refine wpAnyH_take (i := 32) (v := ?_) rfl (by kernel_rfl) (by kernel_rfl) (by kernel_rfl) (fun _ _ _ h => h) (Or.inl ⟨by rfl, ?_⟩) (by assumption) ?_
  rotate_left
  · (intro wx hSw; have u0 := cell_later hSw.b q0; have u1 := cell_later hSw.b p0; have u2 := cell_later hSw.b x0; have u3 := cell_later hSw.b x1; have u4 := cell_later hSw.b x2; have u5 := cell_later hSw.b y0; have u6 := cell_later hSw.b y1; have u7 := cell_later hSw.b y2; go_simp; (try with_reducible rfl); (try omega))
  (try simp only [Act.put, List.setIfInBounds_toArray, List.set_cons_zero, List.set_cons_succ, List.getElem_toArray, List.getElem_cons_zero, List.getElem_cons_succ])
  refine wpAnyH_take (i := 33) (v := ?_) rfl (by kernel_rfl) (by kernel_rfl) (by kernel_rfl) (fun _ _ _ h => h) (Or.inl ⟨by rfl, ?_⟩) (by assumption) ?_
  rotate_left
  · (intro wx hSw; have u0 := cell_later hSw.b q0; have u1 := cell_later hSw.b p0; have u2 := cell_later hSw.b x0; have u3 := cell_later hSw.b x1; have u4 := cell_later hSw.b x2; have u5 := cell_later hSw.b y0; have u6 := cell_later hSw.b y1; have u7 := cell_later hSw.b y2; go_simp; (try with_reducible rfl); (try omega))
  (try simp only [Act.put, List.setIfInBounds_toArray, List.set_cons_zero, List.getElem_toArray, List.getElem_cons_zero, List.getElem_cons_succ])
  refine wpAnyH_done (by kernel_rfl) ?_ _
  have hb := hS7.b
  clear hS7 hHeld
  go_wp2_with fail
  go_ret
  exact ⟨rfl, below_through hb B9.out.size B9.out⟩
end Go.Proofs.YtjmoegcfgadjiaaGreat
