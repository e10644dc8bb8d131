/- Several of my texts laid together, each as it was: Fh, Pz, Ej. Conditions: each names its own. -/
import Derived.Test.YtbcgjgjbliifbaaGreatDoorFG
import Derived.Test.YtbcgjgjbliifbaaGreatDoorWz
import Derived.Test.YtbcgjgjbliifbaaGreatDoorPB
import Derived.Stop.LaidErr
import Derived.OpenShut
import Derived.ChangeMaps5
/- The walk of the law ParseDepths: it returns true, and below the heap's end memory is as it was. Conditions: what strconv.ErrRange holds is an error. -/
namespace Go.Proofs.YtbcgjgjbliifbaaGreatDoor
open Go.RowKit

set_option maxRecDepth 100000 in
set_option maxHeartbeats 8000000 in
theorem lawParseDepths (s : List UInt8) (d m : Nat) (w : World) (hs : s.length ≤ maxLen) (hd : d < 256) (hm : m < 256) (er : ErAt w) :
    Calls Tryz.prog 4 #[.string (txt s), .int .u8 (d : Nat), .int .u8 (m : Nat)] w fun e w' => e = .returned (.bool true) ∧ Below w.heap.size w w' := by
  have e1 : IntKind.i64.wrap (d : Int) = (d : Int) := IntWalk.i64_in _ (by omega)
  have e2 : IntKind.i64.wrap (m : Int) = (m : Int) := IntWalk.i64_in _ (by omega)
  have e3 : IntKind.i64.wrap ((d : Int) + (m : Int)) = (d : Int) + (m : Int) := IntWalk.i64_in _ (by omega)
  by_cases h : (parM s (d : Int)).2 = 19
  · have hz := parM_fault (s := s) (m := (d : Int)) (by omega)
    have HZ := hid0 hz
    have HH := hid0 h
    clear h hz
    go_enter Tryz.func4, Tryz.ntmps4
    go_wp2_with fail
    go_at_call 10
    refine (paParse_any s (d : Int) w hs (by omega) er).mono ?_
    rintro e w1a ⟨us, hl, rfl, hA, hb⟩
    obtain ⟨s1_0, s1_1, s1_2, s1_3, s1_4, s1_5, s1_6, s1_7, s1_8, s1_9, s1_10, s1_11, s1_12, s1_13, s1_14, s1_15, s1_16, s1_17, s1_18, s1_19, s1_20, s1_21, s1_22, s1_23, s1_24, s1_25, rfl⟩ := len26' hl
    clear hl
    rw [HZ.out] at hA
    rw [HH.out]
    replace er := er.later hb
    have BB := hb
    clear hb
    have hX : VarB (w1a.alloc (Obj.cells #[.int .i64 0, .string ⟨#[]⟩, .slice none 0 0, .slice none 0 0, .slice none 0 0, .int .i64 0, .slice none 0 0, .slice none 0 0, .int .i64 0, .int .i64 0, .int .i64 0, .string ⟨#[]⟩, .string ⟨#[]⟩, .int .i64 0, .int .i64 0, .string ⟨#[]⟩, .slice none 0 0, .int .i64 0, .string ⟨#[]⟩, .string ⟨#[]⟩, .int .i64 0, .int .i64 0, .string ⟨#[]⟩, .slice none 0 0, .slice none 0 0, .int .i64 0] 38)) w1a.heap.size zStv := VarB.new w1a zStv 38
    have hA2 := hA.any ((Below.refl w1a.heap.size w1a).alloc (Nat.le_refl _) (Obj.cells #[.int .i64 0, .string ⟨#[]⟩, .slice none 0 0, .slice none 0 0, .slice none 0 0, .int .i64 0, .slice none 0 0, .slice none 0 0, .int .i64 0, .int .i64 0, .int .i64 0, .string ⟨#[]⟩, .string ⟨#[]⟩, .int .i64 0, .int .i64 0, .string ⟨#[]⟩, .slice none 0 0, .int .i64 0, .string ⟨#[]⟩, .string ⟨#[]⟩, .int .i64 0, .int .i64 0, .string ⟨#[]⟩, .slice none 0 0, .slice none 0 0, .int .i64 0] 38))
    have A1 := hA.any (Below.refl w1a.heap.size w1a)
    clear hA
    go_wp2_with (first | ((with_reducible refine wp_putB hX hA2 ?_ ?_ ?_ ?_ ?_); (rfl); (exact infoSt); (rfl); (rfl); intro w1b V1 hw; simp only [Act.put]) | fail)
    have hG : Below w1a.heap.size w1a w1b := by rw [hw.out]; exact ((Below.refl _ _).alloc (Nat.le_refl _) _).trans ⟨(grown_setCells _ _ _ _).os, (grown_setCells _ _ _ _).tape, (grown_setCells _ _ _ _).output, (grown_setCells _ _ _ _).size, fun k hk => heap_setCells _ _ _ _ k (by omega)⟩
    clear hX hA2 hw
    replace er := er.later hG
    replace A1 := A1.any hG
    replace BB := below_through hG BB.size BB
    clear hG
    go_wp2_with (first | ((with_reducible refine wp_getG V1.at_ ?_ Tryz.underlying38 ?_ ?_ ?_ ?_); (rfl); (rfl); (exact infoSt); (rfl)) | fail)
    go_at_call 10
    refine (paParse_any s ((d : Int) + (m : Int)) _ hs (by omega) er).mono ?_
    rintro e w2a ⟨us, hl, rfl, hA, hb⟩
    obtain ⟨s2_0, s2_1, s2_2, s2_3, s2_4, s2_5, s2_6, s2_7, s2_8, s2_9, s2_10, s2_11, s2_12, s2_13, s2_14, s2_15, s2_16, s2_17, s2_18, s2_19, s2_20, s2_21, s2_22, s2_23, s2_24, s2_25, rfl⟩ := len26' hl
    clear hl
    replace er := er.later hb
    replace A1 := A1.any hb
    replace V1 := V1.below hb
    replace BB := below_through hb BB.size BB
    clear hb
    have hX : VarB (w2a.alloc (Obj.cells #[.int .i64 0, .string ⟨#[]⟩, .slice none 0 0, .slice none 0 0, .slice none 0 0, .int .i64 0, .slice none 0 0, .slice none 0 0, .int .i64 0, .int .i64 0, .int .i64 0, .string ⟨#[]⟩, .string ⟨#[]⟩, .int .i64 0, .int .i64 0, .string ⟨#[]⟩, .slice none 0 0, .int .i64 0, .string ⟨#[]⟩, .string ⟨#[]⟩, .int .i64 0, .int .i64 0, .string ⟨#[]⟩, .slice none 0 0, .slice none 0 0, .int .i64 0] 38)) w2a.heap.size zStv := VarB.new w2a zStv 38
    have hA2 := hA.any ((Below.refl w2a.heap.size w2a).alloc (Nat.le_refl _) (Obj.cells #[.int .i64 0, .string ⟨#[]⟩, .slice none 0 0, .slice none 0 0, .slice none 0 0, .int .i64 0, .slice none 0 0, .slice none 0 0, .int .i64 0, .int .i64 0, .int .i64 0, .string ⟨#[]⟩, .string ⟨#[]⟩, .int .i64 0, .int .i64 0, .string ⟨#[]⟩, .slice none 0 0, .int .i64 0, .string ⟨#[]⟩, .string ⟨#[]⟩, .int .i64 0, .int .i64 0, .string ⟨#[]⟩, .slice none 0 0, .slice none 0 0, .int .i64 0] 38))
    have A2 := hA.any (Below.refl w2a.heap.size w2a)
    clear hA
    go_wp2_with (first | ((with_reducible refine wp_putB hX hA2 ?_ ?_ ?_ ?_ ?_); (rfl); (exact infoSt); (rfl); (rfl); intro w2b V2 hw; simp only [Act.put]) | fail)
    have hG : Below w2a.heap.size w2a w2b := by rw [hw.out]; exact ((Below.refl _ _).alloc (Nat.le_refl _) _).trans ⟨(grown_setCells _ _ _ _).os, (grown_setCells _ _ _ _).tape, (grown_setCells _ _ _ _).output, (grown_setCells _ _ _ _).size, fun k hk => heap_setCells _ _ _ _ k (by omega)⟩
    clear hX hA2 hw
    replace er := er.later hG
    replace A1 := A1.any hG
    replace V1 := V1.below hG
    replace A2 := A2.any hG
    replace BB := below_through hG BB.size BB
    clear hG
    clear e1 e2 e3
    go_wp2_with (first | ((with_reducible refine wp_getG V1.at_ ?_ Tryz.underlying38 ?_ ?_ ?_ ?_); (rfl); (rfl); (exact infoSt); (rfl)) | ((with_reducible refine wp_getG V2.at_ ?_ Tryz.underlying38 ?_ ?_ ?_ ?_); (rfl); (rfl); (exact infoSt); (rfl)) | fail)
    go_at_call 12
    refine (awake9_any _ er).mono ?_
    rintro e wX ⟨rfl, hb⟩
    replace er := er.later hb
    replace A1 := A1.any hb
    replace V1 := V1.below hb
    replace A2 := A2.any hb
    replace V2 := V2.below hb
    replace BB := below_through hb BB.size BB
    clear hb
    go_wp2_with (first | ((with_reducible refine wp_getG V1.at_ ?_ Tryz.underlying38 ?_ ?_ ?_ ?_); (rfl); (rfl); (exact infoSt); (rfl)) | ((with_reducible refine wp_getG V2.at_ ?_ Tryz.underlying38 ?_ ?_ ?_ ?_); (rfl); (rfl); (exact infoSt); (rfl)) | fail)
    go_at_call 13
    have hz9 : ∀ W P, LsAt W P (stL zS) [.int .i64 0, .string ⟨#[]⟩, .slice none 0 0, .slice none 0 0, .slice none 0 0, .int .i64 0, .slice none 0 0, .slice none 0 0, .int .i64 0, .int .i64 0, .int .i64 0, .string ⟨#[]⟩, .string ⟨#[]⟩, .int .i64 0, .int .i64 0, .string ⟨#[]⟩, .slice none 0 0, .int .i64 0, .string ⟨#[]⟩, .string ⟨#[]⟩, .int .i64 0, .int .i64 0, .string ⟨#[]⟩, .slice none 0 0, .slice none 0 0, .int .i64 0] := fun W P => LsAt.st (us := [.int .i64 0, .int .i64 0, .int .i64 0, .string ⟨#[]⟩, .string ⟨#[]⟩, .int .i64 0, .int .i64 0, .string ⟨#[]⟩, .slice none 0 0, .int .i64 0, .string ⟨#[]⟩, .string ⟨#[]⟩, .int .i64 0, .int .i64 0, .string ⟨#[]⟩, .slice none 0 0, .slice none 0 0]) zS rfl rfl rfl rfl (.rnil _ _) (.rnil _ _) (.rnil _ _) (.rnil _ _) (.rnil _ _) (.zC _ _)
    refine (refSame_any isSt_zS A1 (hz9 _ anyB)).mono ?_
    rintro e wX ⟨rfl, hb⟩
    replace er := er.later hb
    replace A1 := A1.any hb
    replace V1 := V1.below hb
    replace A2 := A2.any hb
    replace V2 := V2.below hb
    replace BB := below_through hb BB.size BB
    clear hb
    go_wp2_with fail
    go_ret
    exact ⟨rfl, BB⟩
  · have hk := parM_depth (s := s) (m := (d : Int)) (m' := (d : Int) + (m : Int)) (by omega) h
    obtain ⟨k, hk2⟩ : ∃ k, (parM s (d : Int)).2 = k := ⟨_, rfl⟩
    have hkb : ((k : Int) == 19) = false := by rw [beq_eq_false_iff_ne]; omega
    obtain ⟨X, hX⟩ : ∃ X, (parM s (d : Int)).1 = X := ⟨_, rfl⟩
    have hSt : IsSt X := by rw [← hX]; exact s_par s _
    have HK := hid0 hk
    have HK2 := hid0 hk2
    have HX := hid0 hX
    clear h hk hk2 hX
    go_enter Tryz.func4, Tryz.ntmps4
    go_wp2_with fail
    go_at_call 10
    refine (paParse_any s (d : Int) w hs (by omega) er).mono ?_
    rintro e w1a ⟨us, hl, rfl, hA, hb⟩
    obtain ⟨s1_0, s1_1, s1_2, s1_3, s1_4, s1_5, s1_6, s1_7, s1_8, s1_9, s1_10, s1_11, s1_12, s1_13, s1_14, s1_15, s1_16, s1_17, s1_18, s1_19, s1_20, s1_21, s1_22, s1_23, s1_24, s1_25, rfl⟩ := len26' hl
    clear hl
    rw [HX.out] at hA
    rw [HK2.out]
    replace er := er.later hb
    have BB := hb
    clear hb
    have hX : VarB (w1a.alloc (Obj.cells #[.int .i64 0, .string ⟨#[]⟩, .slice none 0 0, .slice none 0 0, .slice none 0 0, .int .i64 0, .slice none 0 0, .slice none 0 0, .int .i64 0, .int .i64 0, .int .i64 0, .string ⟨#[]⟩, .string ⟨#[]⟩, .int .i64 0, .int .i64 0, .string ⟨#[]⟩, .slice none 0 0, .int .i64 0, .string ⟨#[]⟩, .string ⟨#[]⟩, .int .i64 0, .int .i64 0, .string ⟨#[]⟩, .slice none 0 0, .slice none 0 0, .int .i64 0] 38)) w1a.heap.size zStv := VarB.new w1a zStv 38
    have hA2 := hA.any ((Below.refl w1a.heap.size w1a).alloc (Nat.le_refl _) (Obj.cells #[.int .i64 0, .string ⟨#[]⟩, .slice none 0 0, .slice none 0 0, .slice none 0 0, .int .i64 0, .slice none 0 0, .slice none 0 0, .int .i64 0, .int .i64 0, .int .i64 0, .string ⟨#[]⟩, .string ⟨#[]⟩, .int .i64 0, .int .i64 0, .string ⟨#[]⟩, .slice none 0 0, .int .i64 0, .string ⟨#[]⟩, .string ⟨#[]⟩, .int .i64 0, .int .i64 0, .string ⟨#[]⟩, .slice none 0 0, .slice none 0 0, .int .i64 0] 38))
    have A1 := hA.any (Below.refl w1a.heap.size w1a)
    clear hA
    go_wp2_with (first | ((with_reducible refine wp_putB hX hA2 ?_ ?_ ?_ ?_ ?_); (rfl); (exact infoSt); (rfl); (rfl); intro w1b V1 hw; simp only [Act.put]) | fail)
    have hG : Below w1a.heap.size w1a w1b := by rw [hw.out]; exact ((Below.refl _ _).alloc (Nat.le_refl _) _).trans ⟨(grown_setCells _ _ _ _).os, (grown_setCells _ _ _ _).tape, (grown_setCells _ _ _ _).output, (grown_setCells _ _ _ _).size, fun k hk => heap_setCells _ _ _ _ k (by omega)⟩
    clear hX hA2 hw
    replace er := er.later hG
    replace A1 := A1.any hG
    replace BB := below_through hG BB.size BB
    clear hG
    go_wp2_with (first | ((with_reducible refine wp_getG V1.at_ ?_ Tryz.underlying38 ?_ ?_ ?_ ?_); (rfl); (rfl); (exact infoSt); (rfl)) | fail)
    go_at_call 10
    refine (paParse_any s ((d : Int) + (m : Int)) _ hs (by omega) er).mono ?_
    rintro e w2a ⟨us, hl, rfl, hA, hb⟩
    obtain ⟨s2_0, s2_1, s2_2, s2_3, s2_4, s2_5, s2_6, s2_7, s2_8, s2_9, s2_10, s2_11, s2_12, s2_13, s2_14, s2_15, s2_16, s2_17, s2_18, s2_19, s2_20, s2_21, s2_22, s2_23, s2_24, s2_25, rfl⟩ := len26' hl
    clear hl
    rw [HK.out] at hA ⊢
    rw [HX.out] at hA
    rw [HK2.out]
    replace er := er.later hb
    replace A1 := A1.any hb
    replace V1 := V1.below hb
    replace BB := below_through hb BB.size BB
    clear hb
    have hX : VarB (w2a.alloc (Obj.cells #[.int .i64 0, .string ⟨#[]⟩, .slice none 0 0, .slice none 0 0, .slice none 0 0, .int .i64 0, .slice none 0 0, .slice none 0 0, .int .i64 0, .int .i64 0, .int .i64 0, .string ⟨#[]⟩, .string ⟨#[]⟩, .int .i64 0, .int .i64 0, .string ⟨#[]⟩, .slice none 0 0, .int .i64 0, .string ⟨#[]⟩, .string ⟨#[]⟩, .int .i64 0, .int .i64 0, .string ⟨#[]⟩, .slice none 0 0, .slice none 0 0, .int .i64 0] 38)) w2a.heap.size zStv := VarB.new w2a zStv 38
    have hA2 := hA.any ((Below.refl w2a.heap.size w2a).alloc (Nat.le_refl _) (Obj.cells #[.int .i64 0, .string ⟨#[]⟩, .slice none 0 0, .slice none 0 0, .slice none 0 0, .int .i64 0, .slice none 0 0, .slice none 0 0, .int .i64 0, .int .i64 0, .int .i64 0, .string ⟨#[]⟩, .string ⟨#[]⟩, .int .i64 0, .int .i64 0, .string ⟨#[]⟩, .slice none 0 0, .int .i64 0, .string ⟨#[]⟩, .string ⟨#[]⟩, .int .i64 0, .int .i64 0, .string ⟨#[]⟩, .slice none 0 0, .slice none 0 0, .int .i64 0] 38))
    have A2 := hA.any (Below.refl w2a.heap.size w2a)
    clear hA
    go_wp2_with (first | ((with_reducible refine wp_putB hX hA2 ?_ ?_ ?_ ?_ ?_); (rfl); (exact infoSt); (rfl); (rfl); intro w2b V2 hw; simp only [Act.put]) | fail)
    have hG : Below w2a.heap.size w2a w2b := by rw [hw.out]; exact ((Below.refl _ _).alloc (Nat.le_refl _) _).trans ⟨(grown_setCells _ _ _ _).os, (grown_setCells _ _ _ _).tape, (grown_setCells _ _ _ _).output, (grown_setCells _ _ _ _).size, fun k hk => heap_setCells _ _ _ _ k (by omega)⟩
    clear hX hA2 hw
    replace er := er.later hG
    replace A1 := A1.any hG
    replace V1 := V1.below hG
    replace A2 := A2.any hG
    replace BB := below_through hG BB.size BB
    clear hG
    clear e1 e2 e3
    go_wp2_with (first | ((with_reducible refine wp_getG V1.at_ ?_ Tryz.underlying38 ?_ ?_ ?_ ?_); (rfl); (rfl); (exact infoSt); (rfl)) | ((with_reducible refine wp_getG V2.at_ ?_ Tryz.underlying38 ?_ ?_ ?_ ?_); (rfl); (rfl); (exact infoSt); (rfl)) | fail)
    go_at_call 12
    refine (awake9_any _ er).mono ?_
    rintro e wX ⟨rfl, hb⟩
    replace er := er.later hb
    replace A1 := A1.any hb
    replace V1 := V1.below hb
    replace A2 := A2.any hb
    replace V2 := V2.below hb
    replace BB := below_through hb BB.size BB
    clear hb
    go_wp2_with (first | ((with_reducible refine wp_getG V1.at_ ?_ Tryz.underlying38 ?_ ?_ ?_ ?_); (rfl); (rfl); (exact infoSt); (rfl)) | ((with_reducible refine wp_getG V2.at_ ?_ Tryz.underlying38 ?_ ?_ ?_ ?_); (rfl); (rfl); (exact infoSt); (rfl)) | fail)
    go_at_call 13
    refine (refSame_any hSt A1 A2).mono ?_
    rintro e wX ⟨rfl, hb⟩
    replace er := er.later hb
    replace A1 := A1.any hb
    replace V1 := V1.below hb
    replace A2 := A2.any hb
    replace V2 := V2.below hb
    replace BB := below_through hb BB.size BB
    clear hb
    go_wp2_with fail
    go_ret
    exact ⟨rfl, BB⟩
end Go.Proofs.YtbcgjgjbliifbaaGreatDoor

/- What the rows of stage 9 share: what the listed variable strconv.ErrRange holds is an error. Conditions: what is listed is laid. -/
namespace Go.Proofs.YtbcgjgjbliifbaaGreatDoor
open Go.RowKit Go.ChangeShapes

theorem star8 : "*" ++ "errors.errorString" = "*errors.errorString" := by decide
theorem row8 (u : TypeId) (h : Tryz.prog.typeName? 3 u = some "*errors.errorString") : u = 211 :=
  typeName_ptr_named (nm := "errors.errorString") (by rw [star8]; kernel_rfl) (by kernel_rfl) (by decide) u (by rw [star8]; exact h)
theorem er_of_laid {W : World} (h : laidMetH Tryz.prog Rows.parseReadsRow.laid W) : ErAt W := by
  rw [MakeChecks.laidMetH_plain _ _ _ (by kernel_rfl)] at h
  have hL := h.tail.tail.tail
  obtain ⟨a0, s0, hv0, _, _, _⟩ := laid_sentinel hL (g := 2) (by kernel_rfl) (ti := 149) (by kernel_rfl) Tryz.underlying149 row8 Tryz.underlying211 Tryz.underlying213 rfl rfl Tryz.underlying9 (by kernel_rfl) (by kernel_rfl)
  exact ⟨_, by have h0 := World.var?_cell (g := 2) (by kernel_rfl) hv0 0; simpa using h0, .inr ⟨_, _, rfl⟩⟩
end Go.Proofs.YtbcgjgjbliifbaaGreatDoor

/- ParseDepths: whatever the text, what is read, or refused, at a depth is so at any greater one, unless it was refused for its depth: the row and its tied card. Conditions: none beyond the row's own cells (what the listed library variables hold, which the card ties to the program's text). -/
namespace Go.Proofs.YtbcgjgjbliifbaaGreatDoor
open Go.ChangeShapes Go.WideShapes Go.ChangeAt Go.RowKit Go.Joins
open Go.ChangeMaps (open_string shut_string)

set_option maxRecDepth 100000 in
theorem depths_lifted (os : Os) (started : os.Started) (H : Type) (enc : TypeId × Value → H) :
    ReturnsInHanded {} Tryz.checked os 4 .any (fun w args => (Rows.parseDepthsSpec.pre enc Tryz.prog Tryz.f4 Rows.parseDepthsRow.domain false w args ∧ laidMetH Tryz.prog Rows.parseDepthsRow.laid w) ∧ sizedMet enc Tryz.prog Tryz.f4 (OpenSpec.ofChange Rows.parseDepthsSpec) false w args)
      (Rows.parseDepthsSpec.post enc Tryz.prog Tryz.f4 false true false false) := by
  refine handed_laid_shaped (C := Tryz.checked) (X := fun w _ => laidMetH Tryz.prog Rows.parseDepthsRow.laid w) (fun _ _ _ hh h => h.of_heap hh) own started (by kernel_rfl) Tryz.func4
    (ChangeSpec.witness_shaped (enc := enc) (C := Tryz.checked) (os := os) (X := fun w _ => laidMetH Tryz.prog Rows.parseDepthsRow.laid w) false (World.laidAll Tryz.prog os Rows.parseDepthsRow.laid) #[.string ⟨#[]⟩, .int .u8 0, .int .u8 0] 8 (World.laidAll_os _ _ _)
      (World.shaped_of_ZipB (by kernel_rfl) (by kernel_rfl)) (by kernel_rfl) (by kernel_rfl) (by kernel_rfl)
      (by rw [MakeChecks.laidMetH_plain _ _ _ (by kernel_rfl)]; exact laidMet_laidAll _ (by kernel_rfl) (by kernel_rfl))) ?_
  intro W base args ds gs before hval0 hW _ hL hsh
  have er := er_of_laid (show laidMetH Tryz.prog Rows.parseReadsRow.laid W from hL)
  have hval : ∀ (j : Nat) t v, Tryz.f4.params[j]? = some t → args[j]? = some v → Value.okWide Tryz.prog W .any base t v := hval0
  have hW' := hW
  obtain ⟨p, q, hA0, hV, rfl, _, _⟩ := hW
  have hA : DataW.TrodAll enc Tryz.prog W 0 (fun _ => true) true Tryz.f4.params.toList args.toList ds p := hA0
  rw [Tryz.params4] at hA hval
  obtain ⟨v0, v1, v2, d0, d1, d2, p0, p1, p2, rfl, rfl, rfl, h0, h1, h2⟩ := trodAll_three hA
  obtain ⟨rfl, rfl⟩ := trodVars_none hV
  obtain ⟨s0, rfl, rfl, rfl, ws0⟩ := open_string Tryz.underlying9 (hval 0 9 v0 rfl rfl) h0
  have hs0 : s0.data.toList.length ≤ maxLen := by rw [size_list]; exact ws0
  have ht0 := txt_of s0
  obtain ⟨n1, rfl, rfl, rfl, wn1⟩ := open_int Tryz.underlying5 (hval 1 5 v1 rfl rfl) h1
  have bn1 := bounds_u8 wn1
  obtain ⟨n2, rfl, rfl, rfl, wn2⟩ := open_int Tryz.underlying5 (hval 2 5 v2 rfl rfl) h2
  have bn2 := bounds_u8 wn2
  have hlaw := lawParseDepths s0.data.toList n1.toNat n2.toNat W hs0 (by omega) (by omega) er
  rw [ht0] at hlaw
  rw [show ((n1.toNat : Nat) : Int) = n1 by omega] at hlaw
  rw [show ((n2.toNat : Nat) : Int) = n2 by omega] at hlaw
  refine hlaw.mono fun e W' ⟨he, hb⟩ => ?_
  subst he
  exact ⟨_, rfl, _, _, _, [], [], [], hW', trodAll_mk1 (shut_bool Tryz.underlying4 true), trodAll_mk3 (shut_string Tryz.underlying9 ws0) (shut_int Tryz.underlying5 wn1) (shut_int Tryz.underlying5 wn2), rfl, hb.frame _, fun h => by cases h⟩

theorem depths_row : Rows.ParseDepthsSaid :=
  OpenClaim.holds_of_wide 4 Tryz.f4 rfl rfl rfl rfl rfl rfl rfl ⟨rfl, rfl, rfl, rfl, rfl⟩ rfl rfl rfl rfl rfl (by kernel_rfl) Tryz.func4 (by kernel_rfl)
    (of_decide_eq_true (by kernel_rfl)) (by unfold Func.isWrapper; first | (rw [if_pos (by decide +kernel)]; kernel_rfl) | (rw [if_neg (by decide +kernel)]; exact ⟨rfl, rfl⟩))
    (fun os started H enc _ => depths_lifted os started H enc)
theorem depths_card : Rows.ParseDepthsCardSaid :=
  Claim7.holds_tied_plain_at .later [] _ _ _ _ depths_row (fun _ h => by cases h) (by kernel_rfl) (fun _ h => by cases h) parseDepths_row_tie rfl ⟨rfl, rfl⟩ (by kernel_rfl) rfl
    (fun f fn hf hfn => by
      obtain rfl : f = 4 := Option.some.inj ((show Tryz.prog.funcNamed "belvedere/belvederelaw09.ParseDepths" = some 4 by kernel_rfl).symm.trans hf) |>.symm
      obtain rfl : fn = Tryz.f4 := (Option.some.inj (Tryz.func4.symm.trans hfn)).symm
      exact ⟨by kernel_rfl, fun j t ht => by
        rw [Tryz.params4] at ht
        have hm : t ∈ [9, 5] := by simpa using Array.mem_of_getElem? ht
        have hall : ([9, 5].all fun u => !Tryz.prog.wantsStandIn u) = true := by kernel_rfl
        exact (show Tryz.prog.wantsStandIn t = false by simpa using List.all_eq_true.1 hall t hm)⟩)
    (by kernel_rfl)
end Go.Proofs.YtbcgjgjbliifbaaGreatDoor
