/- Several of my texts laid together, each as it was: S11. Conditions: each names its own. -/
import Derived.Test.YtfdkajefcplfjaaC5
/- Whether a plan can be refreshed fast: the contract of the call. Conditions: the plan's cells are known. -/
namespace Go.Proofs.Ytfdkajefcplfjaa
open Go.RowKit

def zeroX : Cx := .mk 0 0 zV none 0 []
theorem zeroX_at (w : World) : CxAt w 1 zeroX := ⟨⟨inI_zV, by omega, by omega, by omega, by omega, by simp, by simp, ⟨fun i hi => absurd hi (by simp)⟩⟩, fun x hx => absurd hx (by simp)⟩
def followsB (p : Px) : Bool := tellsB p.os 1 zeroX && tellsGB p && !p.os.any (fun o => barB o.g) && countsSB p
set_option maxRecDepth 100000 in
set_option maxHeartbeats 4000000 in
theorem follows_any {n : Nat} (p : Px) (w : World) (hp : PxOk w n p) :
    Calls Try.prog 25 #[p.val] w fun e w' => e = .returned (.bool (followsB p)) ∧ Below w.heap.size w w' := by
  obtain ⟨V, hB0⟩ := part_box p w
  have hS0 : SFa w p.cells _ := ⟨V, hB0⟩
  have C1 := hid0 (fun (W : World) (hW : Below w.heap.size w W) => (show Calls Try.prog 34 #[p.val, .int .i64 1, .agg #[.int .i64 0, .int .i64 0, .int .i64 0, .int .i64 0, .string ⟨#[]⟩, .slice none 0 0]] W (fun e' w' => e' = .returned (.bool (tellsB p.os 1 zeroX)) ∧ Below W.heap.size W w') from tells_any p 1 zeroX W (hp.later hW) (zeroX_at W)))
  have C2 := hid0 (fun (W : World) (hW : Below w.heap.size w W) => tellsGroups_any p W (hp.later hW))
  have C3 := hid0 (fun (W : World) (hW : Below w.heap.size w W) => containsFunc_bar p.op p.oc p.os W (hp.outs.later hW) hp.fewO)
  have C4 := hid0 (fun (W : World) (hW : Below w.heap.size w W) => countsSums_any p W (hp.later hW))
  have h19 := hid0 p.c19
  have hpl := p.cells_len
  obtain ⟨R, hR⟩ : ∃ R, followsB p = R := ⟨_, rfl⟩
  rw [hR]
  have hR : (tellsB p.os 1 zeroX && tellsGB p && !p.os.any (fun o => barB o.g) && countsSB p) = R := hR
  clear hp V hB0
  unfold Px.val at *
  generalize tellsB p.os 1 zeroX = r1 at *
  generalize tellsGB p = r2 at *
  generalize p.os.any (fun o => barB o.g) = r3 at *
  generalize countsSB p = r4 at *
  generalize p.cells = us at *
  generalize p.os.length = k at *
  generalize p.op = op at *
  generalize p.oc = oc at *
  have HR := hid0 hR
  clear hR
  cases r1 with
  | false =>
    go_enter Try.func25, Try.ntmps25
    go_wp2_with (first | ((with_reducible refine wp_getG ?_ (hS0.v.at_) Try.underlying40 ?_ ?_ ?_ ?_); (rfl); (rfl); (rw [hpl]; exact sizePx); (rfl); (try simp only [Act.put])) | (go_at_call 34; go_must (refine (C1.out _ hS0.b).mono ?_; rintro e' w1 ⟨rfl, hb1⟩)) | fail)
    go_ret
    exact ⟨ret_bool (by rw [← HR.out]; rfl), (hS0.below hb1).b⟩
  | true =>
    cases r2 with
    | false =>
      go_enter Try.func25, Try.ntmps25
      go_wp2_with (first | (go_at_call 34; go_must (refine (C1.out _ hS0.b).mono ?_; rintro e' w1 ⟨rfl, hb1⟩)) | (go_at_call 35; go_must (refine (C2.out _ (hS0.below hb1).b).mono ?_; rintro e' w2 ⟨rfl, hb2⟩; (have hS2 := (hS0.below hb1).below hb2); (have q19 := hS2.v.cell 19 h19.out))) | ((with_reducible refine wp_getG ?_ (hS0.v.at_) Try.underlying40 ?_ ?_ ?_ ?_); (rfl); (rfl); (rw [hpl]; exact sizePx); (rfl); (try simp only [Act.put])) | ((with_reducible refine wp_getG ?_ ((hS0.below hb1).v.at_) Try.underlying40 ?_ ?_ ?_ ?_); (rfl); (rfl); (rw [hpl]; exact sizePx); (rfl); (try simp only [Act.put])) | fail)
      go_ret
      exact ⟨ret_bool (by rw [← HR.out]; rfl), ((hS0.below hb1).below hb2).b⟩
    | true =>
      cases r3 with
      | true =>
        go_enter Try.func25, Try.ntmps25
        go_wp2_with (first | (go_at_call 34; go_must (refine (C1.out _ hS0.b).mono ?_; rintro e' w1 ⟨rfl, hb1⟩)) | (go_at_call 35; go_must (refine (C2.out _ (hS0.below hb1).b).mono ?_; rintro e' w2 ⟨rfl, hb2⟩; (have hS2 := (hS0.below hb1).below hb2); (have q19 := hS2.v.cell 19 h19.out))) | (go_at_call 32; go_must (refine (C3.out _ hS2.b).mono ?_; rintro e' w3 ⟨rfl, hb3⟩; (have hS3 := hS2.below hb3))) | ((with_reducible refine wp_getG ?_ (hS0.v.at_) Try.underlying40 ?_ ?_ ?_ ?_); (rfl); (rfl); (rw [hpl]; exact sizePx); (rfl); (try simp only [Act.put])) | ((with_reducible refine wp_getG ?_ ((hS0.below hb1).v.at_) Try.underlying40 ?_ ?_ ?_ ?_); (rfl); (rfl); (rw [hpl]; exact sizePx); (rfl); (try simp only [Act.put])) | fail)
        go_ret
        exact ⟨ret_bool (by rw [← HR.out]; rfl), hS3.b⟩
      | false =>
        go_enter Try.func25, Try.ntmps25
        go_wp2_with (first | (go_at_call 34; go_must (refine (C1.out _ hS0.b).mono ?_; rintro e' w1 ⟨rfl, hb1⟩)) | (go_at_call 35; go_must (refine (C2.out _ (hS0.below hb1).b).mono ?_; rintro e' w2 ⟨rfl, hb2⟩; (have hS2 := (hS0.below hb1).below hb2); (have q19 := hS2.v.cell 19 h19.out))) | (go_at_call 32; go_must (refine (C3.out _ hS2.b).mono ?_; rintro e' w3 ⟨rfl, hb3⟩; (have hS3 := hS2.below hb3))) | (go_at_call 37; go_must (refine (C4.out _ hS3.b).mono ?_; rintro e' w4 ⟨rfl, hb4⟩)) | ((with_reducible refine wp_getG ?_ (hS3.v.at_) Try.underlying40 ?_ ?_ ?_ ?_); (rfl); (rfl); (rw [hpl]; exact sizePx); (rfl); (try simp only [Act.put])) | ((with_reducible refine wp_getG ?_ ((hS0.below hb1).v.at_) Try.underlying40 ?_ ?_ ?_ ?_); (rfl); (rfl); (rw [hpl]; exact sizePx); (rfl); (try simp only [Act.put])) | ((with_reducible refine wp_getG ?_ (hS0.v.at_) Try.underlying40 ?_ ?_ ?_ ?_); (rfl); (rfl); (rw [hpl]; exact sizePx); (rfl); (try simp only [Act.put])) | fail)
        go_ret
        exact ⟨ret_bool (by rw [← HR.out]; rfl), (hS3.below hb4).b⟩
def soleB : List Px → Bool
  | [p] => followsB p
  | _ => false
def fastB (ps : List Px) : Bool := planB ps && !ps.any Px.d && (!ps.any groupedB || soleB ps)
theorem fast_one (ps : List Px) (h : 0 < ps.length) (h1 : ps.length = 1) : soleB ps = followsB (ps[0]'h) := by
  match ps, h1 with
  | [p], _ => rfl
theorem fast_not (ps : List Px) (h1 : ps.length ≠ 1) : soleB ps = false := by
  match ps, h1 with
  | [], _ => rfl
  | [p], h1 => exact absurd rfl h1
  | p :: q :: l, _ => rfl
theorem any_some {ps : List Px} {q : Px → Bool} (h : ps.any q = true) : 0 < ps.length := by
  cases ps with
  | nil => simp at h
  | cons p l => simp
/-- The plan's box. -/
structure SPn (w : World) (us : List Value) (W : World) : Prop where
  v : VarB W w.heap.size us
  b : Below w.heap.size w W
theorem SPn.below {w : World} {us : List Value} {W W' : World} (h : SPn w us W) (hb : Below W.heap.size W W') : SPn w us W' := ⟨h.v.below hb, below_through hb h.b.size h.b⟩
set_option maxRecDepth 100000 in
set_option maxHeartbeats 4000000 in
theorem shFast_any {n : Nat} (a : Option Addr) (c : Nat) (ps : List Px) (w : World) (hP : PsOk w n a c ps) :
    Calls Try.prog 12 #[planV a ps.length c] w fun e w' => e = .returned (.bool (fastB ps)) ∧ Below w.heap.size w w' := by
  have hS0 : SPn w [.slice a ps.length c] (w.alloc (Obj.cells #[.slice a ps.length c] 24)) := ⟨VarB.new w [.slice a ps.length c] 24, (Below.refl _ _).alloc (Nat.le_refl _) _⟩
  have hfew := hP.few
  have C1 := hid0 (fun (W : World) (hW : Below w.heap.size w W) => planRight_any a c ps W (hP.later hW))
  have C2 := hid0 (fun (W : World) (hW : Below w.heap.size w W) => disAll_any a c ps W (hP.later hW))
  have C3 := hid0 (fun (W : World) (hW : Below w.heap.size w W) => grpAll_any a c ps W (hP.later hW))
  have C4 := hid0 (fun (p : Px) (hp : p ∈ ps) (W : World) (hW : Below w.heap.size w W) => follows_any p W ((hP.ok p hp).later hW))
  have HP := hid0 hP
  obtain ⟨R, hR⟩ : ∃ R, fastB ps = R := ⟨_, rfl⟩
  rw [hR]
  unfold fastB at hR
  have h1 := fun (h0 : 0 < ps.length) => fast_one ps h0
  have h2 := fast_not ps
  have h3 := any_some (ps := ps) (q := groupedB)
  clear hP
  generalize planB ps = r1 at *
  generalize ps.any Px.d = r2 at *
  generalize ps.any groupedB = r3 at *
  obtain ⟨r4, hr4⟩ : ∃ r4, soleB ps = r4 := ⟨_, rfl⟩
  rw [hr4] at hR h1 h2
  clear hr4
  have HR := hid0 hR
  have H1 := hid0 h1
  have H2 := hid0 h2
  have H3 := hid0 h3
  have hS0 := hid0 hS0
  clear hR h1 h2 h3
  unfold planV at C1 ⊢
  have q00 := hS0.out.v.cell 0 rfl
  cases r1 with
  | false =>
    go_enter Try.func12, Try.ntmps12
    go_wp2_with (first | ((with_reducible refine wp_getG ?_ (hS0.out.v.at_) Try.underlying24 ?_ ?_ ?_ ?_); (rfl); (rfl); (exact sizePlan); (rfl); (try simp only [Act.put])) | (go_at_call 21; go_must (refine (C1.out _ hS0.out.b).mono ?_; rintro e' w1 ⟨rfl, hb1⟩; (have hS1 := hS0.out.below hb1); (have q01 := hS1.v.cell 0 rfl))) | fail)
    go_ret
    exact ⟨ret_bool (by rw [← HR.out]; rfl), hS1.b⟩
  | true =>
    cases r2 with
    | true =>
      go_enter Try.func12, Try.ntmps12
      go_wp2_with (first | (go_at_call 21; go_must (refine (C1.out _ hS0.out.b).mono ?_; rintro e' w1 ⟨rfl, hb1⟩; (have hS1 := hS0.out.below hb1); (have q01 := hS1.v.cell 0 rfl))) | (go_at_call 22; (with_reducible refine (C2.out _ hS1.b).mono ?_); rintro e' w2 ⟨rfl, hb2⟩; (have hS2 := hS1.below hb2); (have q02 := hS2.v.cell 0 rfl)) | ((with_reducible refine wp_getG ?_ (hS0.out.v.at_) Try.underlying24 ?_ ?_ ?_ ?_); (rfl); (rfl); (exact sizePlan); (rfl); (try simp only [Act.put])) | fail)
      go_ret
      exact ⟨ret_bool (by rw [← HR.out]; rfl), hS2.b⟩
    | false =>
      cases r3 with
      | false =>
        go_enter Try.func12, Try.ntmps12
        go_wp2_with (first | (go_at_call 21; go_must (refine (C1.out _ hS0.out.b).mono ?_; rintro e' w1 ⟨rfl, hb1⟩; (have hS1 := hS0.out.below hb1); (have q01 := hS1.v.cell 0 rfl))) | (go_at_call 22; (with_reducible refine (C2.out _ hS1.b).mono ?_); rintro e' w2 ⟨rfl, hb2⟩; (have hS2 := hS1.below hb2); (have q02 := hS2.v.cell 0 rfl)) | (go_at_call 22; (with_reducible refine (C3.out _ hS2.b).mono ?_); rintro e' w3 ⟨rfl, hb3⟩; (have hS3 := hS2.below hb3); (have q03 := hS3.v.cell 0 rfl)) | ((with_reducible refine wp_getG ?_ (hS0.out.v.at_) Try.underlying24 ?_ ?_ ?_ ?_); (rfl); (rfl); (exact sizePlan); (rfl); (try simp only [Act.put])) | fail)
        go_ret
        exact ⟨ret_bool (by rw [← HR.out]; rfl), hS3.b⟩
      | true =>
        by_cases hl : ps.length = 1
        · have h0 := H3.out rfl
          obtain ⟨b1, o1, rfl, hb, hRx⟩ := HP.out.part 0 h0
          have e4 := H1.out h0 hl
          have C4x := C4.out _ (List.getElem_mem h0)
          have hpl := (ps[0]).cells_len
          rw [Nat.zero_mul, Nat.add_zero] at hRx
          rw [e4] at HR
          unfold Px.val at C4x
          generalize followsB ps[0] = r5 at C4x HR
          generalize (ps[0]).cells = us at C4x hRx hpl
          have C4x := hid0 C4x
          have HPA := hid0 (fun (W : World) (hW : Below w.heap.size w W) => rangeAt_blk hRx (hW.block b1 hb))
          have gl : ((ps.length : Int) == 1) = true := by simp; omega
          have hlp : (0 : Int) < (ps.length : Int) := by omega
          clear H1 H2 H3 e4 hl h0 hRx HP
          go_enter Try.func12, Try.ntmps12
          go_wp2_with (first | (go_at_call 21; go_must (refine (C1.out _ hS0.out.b).mono ?_; rintro e' w1 ⟨rfl, hb1⟩; (have hS1 := hS0.out.below hb1); (have q01 := hS1.v.cell 0 rfl))) | (go_at_call 22; (with_reducible refine (C2.out _ hS1.b).mono ?_); rintro e' w2 ⟨rfl, hb2⟩; (have hS2 := hS1.below hb2); (have q02 := hS2.v.cell 0 rfl)) | (go_at_call 22; (with_reducible refine (C3.out _ hS2.b).mono ?_); rintro e' w3 ⟨rfl, hb3⟩; (have hS3 := hS2.below hb3); (have q03 := hS3.v.cell 0 rfl)) | (go_at_call 25; go_must (refine (C4x.out _ hS3.b).mono ?_; rintro e' w4 ⟨rfl, hb4⟩)) | ((with_reducible refine wp_getG ?_ (HPA.out _ hS3.b) Try.underlying40 ?_ ?_ ?_ ?_); (rfl); (rfl); (rw [hpl]; exact sizePx); (rfl); (try simp only [Act.put])) | ((with_reducible refine wp_getG ?_ (hS0.out.v.at_) Try.underlying24 ?_ ?_ ?_ ?_); (rfl); (rfl); (exact sizePlan); (rfl); (try simp only [Act.put])) | fail)
          go_ret
          exact ⟨ret_bool (by rw [← HR.out]; simp), (hS3.below hb4).b⟩
        · have e4 := H2.out hl
          have gl : ((ps.length : Int) == 1) = false := by simp; omega
          clear H1 H2 H3 hl HP
          go_enter Try.func12, Try.ntmps12
          go_wp2_with (first | (go_at_call 21; go_must (refine (C1.out _ hS0.out.b).mono ?_; rintro e' w1 ⟨rfl, hb1⟩; (have hS1 := hS0.out.below hb1); (have q01 := hS1.v.cell 0 rfl))) | (go_at_call 22; (with_reducible refine (C2.out _ hS1.b).mono ?_); rintro e' w2 ⟨rfl, hb2⟩; (have hS2 := hS1.below hb2); (have q02 := hS2.v.cell 0 rfl)) | (go_at_call 22; (with_reducible refine (C3.out _ hS2.b).mono ?_); rintro e' w3 ⟨rfl, hb3⟩; (have hS3 := hS2.below hb3); (have q03 := hS3.v.cell 0 rfl)) | ((with_reducible refine wp_getG ?_ (hS0.out.v.at_) Try.underlying24 ?_ ?_ ?_ ?_); (rfl); (rfl); (exact sizePlan); (rfl); (try simp only [Act.put])) | fail)
          go_ret
          exact ⟨ret_bool (by rw [← HR.out, e4]; simp), hS3.b⟩
end Go.Proofs.Ytfdkajefcplfjaa
