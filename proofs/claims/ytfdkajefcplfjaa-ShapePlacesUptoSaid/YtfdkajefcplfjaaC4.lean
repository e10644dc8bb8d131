/- Several of my texts laid together, each as it was: S8. Conditions: each names its own. -/
import Derived.Test.YtfdkajefcplfjaaC2
import Derived.Test.YtfdkajefcplfjaaC3
/- Where a part tells an aggregate of an expression, by the project: a contract of the call. Conditions: the part's and the expression's cells are known. -/
namespace Go.Proofs.Ytfdkajefcplfjaa
open Go.RowKit

theorem VarB.newAt8 (w : World) (us : List Value) (ty : TypeId) {B : Nat} (hB : B = w.heap.size) : VarB (w.alloc (.cells us.toArray ty)) B us := by subst hB; exact VarB.new w us ty
set_option maxRecDepth 100000 in
set_option maxHeartbeats 1000000 in
theorem indexFunc_pl (B1 B2 : Nat) (g : Int) (ex : Cx) (a : Option Addr) (c : Nat) (l : List Ox) (R : Int) (hR : placeM g ex l = R) (w : World) (h : OutsAt w a l) (hl : l.length ≤ 1099511627776)
    (CP : ∀ o ∈ l, ∀ W, Below w.heap.size w W → Calls Try.prog 18 #[.agg o.cells.toArray, .pointer (some ⟨B1, 0, none⟩), .pointer (some ⟨B2, 0, none⟩)] W fun e' w' => e' = .returned (.bool (plB g ex o)) ∧ Below W.heap.size W w') :
    Calls Try.prog 17 #[.slice a l.length c, .func (.func 18) #[] #[.pointer (some ⟨B1, 0, none⟩), .pointer (some ⟨B2, 0, none⟩)]] w fun e w' => e = .returned (.int .i64 R) ∧ Below w.heap.size w w' := by
  have A := hid0 h
  have HR := hid0 hR
  have HC := hid0 CP
  clear h hR CP
  go_enter Try.func17, Try.ntmps17
  go_wp2
  go_loopw [8] (fun iv wr => ∃ i : Nat, i ≤ l.length ∧ iv = .int .i64 i ∧ Hid ((l.take i).all (fun o => !plB g ex o) = true) ∧ Below w.heap.size w wr) (fun iv _ => l.length - (intOf iv).toNat)
  case atStart => exact ⟨0, Nat.zero_le _, rfl, hid0 rfl, Below.refl _ _⟩
  case round =>
    obtain ⟨i, hi, rfl, hO, hB⟩ := hrel
    have hsz := hB.size
    by_cases hlt : i < l.length
    · obtain ⟨b, o, rfl, hb, hR⟩ := (A.out.later hB).at_ i hlt
      have hmem := List.getElem_mem hlt
      have hnext := hid0 (fun hf => all_take (f := fun o => !plB g ex o) hlt hO.out hf)
      have hhit := hid0 (fun hf => place_hit hlt hO.out hf)
      have CW := HC.out _ hmem wr hB
      generalize l[i] = x at hR hmem hnext hhit CW
      have hcl := x.cells_len
      clear hmem
      generalize x.cells = us at hR CW hcl
      generalize plB g ex x = ra at CW hnext hhit
      have CW := hid0 CW
      cases ra with
      | true =>
        go_wp2_with (first | ((with_reducible refine wp_getB hR Try.underlying44 ?_ ?_ ?_ ?_); (rfl); (rw [hcl]; exact sizeOut); (rfl); simp only [Act.put]) | (go_at_call 18; go_must (refine CW.out.mono ?_; rintro e wn ⟨rfl, hbn⟩)) | fail)
        go_ret
        exact ⟨ret_i64 (by rw [← HR.out, hhit.out (by trivial)]), below_through hbn hsz hB⟩
      | false =>
        go_wp2_with (first | ((with_reducible refine wp_getB hR Try.underlying44 ?_ ?_ ?_ ?_); (rfl); (rw [hcl]; exact sizeOut); (rfl); simp only [Act.put]) | (go_at_call 18; go_must (refine CW.out.mono ?_; rintro e wn ⟨rfl, hbn⟩)) | fail)
        exact ⟨⟨i + 1, by omega, by go_num, hid0 (hnext.out (by trivial)), below_through hbn hsz hB⟩, by simp [intOf]; omega⟩
    · have hie : ¬ (i : Int) < l.length := by omega
      rw [List.take_of_length_le (by omega)] at hO
      go_wp2
      go_ret
      exact ⟨ret_i64 (by rw [← HR.out, place_none hO.out]), hB⟩
set_option maxRecDepth 100000 in
set_option maxHeartbeats 4000000 in
theorem shPlace1_any {n m : Nat} (x : Ox) (g : Int) (e : Cx) (B1 B2 : Nat) (w : World) (hx : CxAt w n x.e) (he : CxAt w m e) (V1 : VarB w B1 [.int .i64 g]) (V2 : VarB w B2 e.cells) :
    Calls Try.prog 18 #[.agg x.cells.toArray, .pointer (some ⟨B1, 0, none⟩), .pointer (some ⟨B2, 0, none⟩)] w fun e' w' => e' = .returned (.bool (plB g e x)) ∧ Below w.heap.size w w' := by
  have V0 := VarB.new w x.cells 44
  have hB0 : Below w.heap.size w (w.alloc (.cells x.cells.toArray 44)) := (Below.refl _ _).alloc (Nat.le_refl _) _
  have CX := hid0 ((shAlike_all n).out m x.e e _ (hx.later hB0) (he.later hB0))
  have q0 : _ = some (Value.int .i64 x.g) := V0.cell 0 rfl
  have v1 := (V1.below hB0).cell 0 rfl
  have hR1 := x.calc_in V0.at_
  have V2' := V2.below hB0
  have hR2 := V2'.at_
  have hxl := x.e.cells_len
  have hvl := e.cells_len
  have hpb : plB g e x = (decide (x.g = g) && (decide (g = 1) || alC x.e e)) := rfl
  clear hx he V1 V2 V0 V2'
  unfold Cx.val at CX
  obtain ⟨R, hR⟩ : ∃ R, plB g e x = R := ⟨_, rfl⟩
  rw [hR] at hpb ⊢
  clear hR
  obtain ⟨ra, hra⟩ : ∃ ra, alC x.e e = ra := ⟨_, rfl⟩
  rw [hra] at CX hpb
  clear hra
  generalize x.e.cells = xs at hR1 CX hxl
  generalize e.cells = vs at hR2 CX hvl
  generalize x.g = gx at q0 hpb
  generalize x.cells = us at *
  have hB0 := hid0 hB0
  by_cases hg : gx = g
  · have ga : (gx == g) = true := by simpa using hg
    by_cases hg1 : g = 1
    · have gb : (g == 1) = true := by simpa using hg1
      have HR := hid0 (show true = R by rw [hpb, hg, hg1]; rfl)
      clear hpb hg hg1
      go_enter Try.func18, Try.ntmps18
      go_wp2_with fail
      go_ret
      exact ⟨ret_bool HR.out, hB0.out⟩
    · have gb : (g == 1) = false := by simpa using hg1
      have HR := hid0 (show ra = R by rw [hpb, hg]; simp [hg1])
      clear hpb hg hg1
      go_enter Try.func18, Try.ntmps18
      go_wp2_with (first | ((with_reducible refine wp_getG ?_ hR1 Try.underlying34 ?_ ?_ ?_ ?_); (rfl); (rfl); (rw [hxl]; exact sizeX); (rfl); (try simp only [Act.put])) | ((with_reducible refine wp_getG ?_ hR2 Try.underlying34 ?_ ?_ ?_ ?_); (rfl); (rfl); (rw [hvl]; exact sizeX); (rfl); (try simp only [Act.put])) | (go_at_call 19; go_must (refine CX.out.mono ?_; rintro e' w1 ⟨rfl, hb1⟩)) | fail)
      go_ret
      exact ⟨ret_bool HR.out, below_through hb1 hB0.out.size hB0.out⟩
  · have ga : (gx == g) = false := by simpa using hg
    have HR := hid0 (show false = R by rw [hpb]; simp [hg])
    clear hpb hg
    go_enter Try.func18, Try.ntmps18
    go_wp2_with fail
    go_ret
    exact ⟨ret_bool HR.out, hB0.out⟩
set_option maxRecDepth 100000 in
set_option maxHeartbeats 4000000 in
theorem shPlace_any {n m : Nat} (p : Px) (g : Int) (e : Cx) (w : World) (hp : PxOk w n p) (he : CxAt w m e) :
    Calls Try.prog 9 #[p.val, .int .i64 g, e.val] w fun e' w' => e' = .returned (.int .i64 (placeM g e p.os)) ∧ Below w.heap.size w w' := by
  have VP := VarB.new w p.cells 40
  have hB1 : Below w.heap.size w (w.alloc (.cells p.cells.toArray 40)) := (Below.refl _ _).alloc (Nat.le_refl _) _
  have VG := VarB.newAt8 (w.alloc (.cells p.cells.toArray 40)) [.int .i64 g] 3 (B := w.heap.size + 1) (by simp)
  have hB2 := hB1.alloc (by simp) (.cells #[.int .i64 g] 3)
  have VE := VarB.newAt8 ((w.alloc (.cells p.cells.toArray 40)).alloc (.cells #[.int .i64 g] 3)) e.cells 34 (B := w.heap.size + 1 + 1) (by simp)
  have hB3 := hB2.alloc (by simp only [World.size_alloc]; omega) (.cells e.cells.toArray 34)
  have VP := (VP.alloc (.cells #[.int .i64 g] 3)).alloc (.cells e.cells.toArray 34)
  have VG := VG.alloc (.cells e.cells.toArray 34)
  have CI := hid0 (indexFunc_pl (w.heap.size + 1) (w.heap.size + 1 + 1) g e p.op p.oc p.os _ rfl _ (hp.outs.later hB3) hp.fewO (fun o ho W hW => shPlace1_any o g e _ _ W ((hp.es o ho).1.later (below_through hW hB3.size hB3)) (he.later (below_through hW hB3.size hB3)) (VG.below hW) (VE.below hW)))
  have q19 := VP.cell 19 p.c19
  have hB3 := hid0 hB3
  clear VP VG VE hB1 hB2 hp he
  unfold Px.val Cx.val
  generalize placeM g e p.os = R at *
  generalize p.cells = us at *
  generalize e.cells = vs at *
  generalize p.os.length = k at *
  generalize p.op = op at *
  generalize p.oc = oc at *
  go_enter Try.func9, Try.ntmps9
  go_wp2_with (first | (go_at_call 17; go_must (refine CI.out.mono ?_; rintro e' w1 ⟨rfl, hb1⟩)) | fail)
  go_ret
  exact ⟨rfl, below_through hb1 hB3.out.size hB3.out⟩
end Go.Proofs.Ytfdkajefcplfjaa
