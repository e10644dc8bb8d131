/- Several of my texts laid together, each as it was: S12, S13. Conditions: each names its own. -/
import Derived.Test.YtfdkajefcplfjaaC6
import Derived.Test.YtfdkajefcplfjaaC8
/- The example of stage 15, plainly and as it lies in memory. Conditions: its blocks' cells. -/
namespace Go.Proofs.Ytfdkajefcplfjaa
open Go.RowKit

def exOs : List Ox := [⟨0, colX 0, ⟨#[]⟩, 0⟩, ⟨1, zeroX, ⟨#[]⟩, 0⟩, ⟨3, colX 1, ⟨#[]⟩, 0⟩, ⟨2, colX 1, ⟨#[]⟩, 0⟩]
def exP (f q g o : Nat) (os : List Ox) : Px := ⟨false, some ⟨f, 0, none⟩, 1, [⟨#[116]⟩], some ⟨q, 0, none⟩, 1, [2], .mk 0 0 zCx zCx none 0 [], some ⟨g, 0, none⟩, 1, [0], some ⟨o, 0, none⟩, 4, os⟩
theorem inside_rise (F : List Int) (w : Int) : insideB (rise F) w = insideB F w := by
  unfold insideB
  rw [Bool.eq_iff_iff, List.all_eq_true, List.all_eq_true]
  exact ⟨fun h x hx => h x ((mem_rise _ _).2 hx), fun h x hx => h x ((mem_rise _ _).1 hx)⟩
theorem ex_planB (f q g o : Nat) : planB [exP f q g o exOs] = true := by
  unfold planB partB listsB
  simp only [inside_rise]
  rfl
theorem sv_zero : sameV zV.k zV.n zV.s zV.k zV.n zV.s = true := (sameV_iff ..).2 ⟨rfl, rfl, rfl⟩
theorem al_col (a b : Int) : alC (colX a) (colX b) = decide (a = b) := by
  unfold colX
  rw [alC, sv_zero, alL]
  simp
theorem al_zero (a : Int) : alC zeroX (colX a) = false := by
  unfold colX zeroX
  rw [alC]
  simp
theorem ex_tells0 : tellsB exOs 0 (colX 0) = true := by
  unfold tellsB exOs plB
  simp [al_col]
theorem ex_tells1 : tellsB exOs 1 zeroX = true := by
  unfold tellsB exOs plB
  simp
theorem ex_tells2 : tellsB exOs 2 (colX 1) = true := by
  unfold tellsB exOs plB
  simp [al_col]
theorem ex_follows (f q g o : Nat) : followsB (exP f q g o exOs) = true := by
  have h1 : tellsB (exP f q g o exOs).os 1 zeroX = true := ex_tells1
  have h2 : tellsGB (exP f q g o exOs) = true := by
    unfold tellsGB
    show [0].all (fun a => tellsB exOs 0 (colX a)) = true
    simp [ex_tells0]
  have h3 : (exP f q g o exOs).os.any (fun o => barB o.g) = false := by rfl
  have h4 : countsSB (exP f q g o exOs) = true := by
    unfold countsSB
    show exOs.all (countB1 exOs) = true
    unfold exOs countB1
    show (true && (true && ((!decide ((3 : Int) = 3) || tellsB exOs 2 (colX 1)) && (true && true)))) = true
    rw [ex_tells2]; rfl
  unfold followsB
  rw [h1, h2, h3, h4]; rfl
theorem ex_fast (f q g o : Nat) : fastB [exP f q g o exOs] = true := by
  have h : soleB [exP f q g o exOs] = true := ex_follows f q g o
  unfold fastB
  rw [ex_planB, h]
  simp [exP]
theorem ex_follows3 (f q g o : Nat) : followsB (exP f q g o (exOs.take 3)) = false := by
  have h4 : countsSB (exP f q g o (exOs.take 3)) = false := by
    unfold countsSB
    show (exOs.take 3).all (countB1 (exOs.take 3)) = false
    have h5 : tellsB (exOs.take 3) 2 (colX 1) = false := by
      unfold tellsB exOs plB
      simp
    show (true && (true && ((!decide ((3 : Int) = 3) || tellsB (exOs.take 3) 2 (colX 1)) && true))) = false
    rw [h5]; rfl
  unfold followsB
  rw [h4]; simp
theorem ex_fast3 (f q g o : Nat) : fastB [exP f q g o (exOs.take 3)] = false := by
  have h : soleB [exP f q g o (exOs.take 3)] = false := ex_follows3 f q g o
  have h2 : [exP f q g o (exOs.take 3)].any groupedB = true := by rfl
  unfold fastB
  rw [h, h2]; simp
theorem ex_place : placeM 3 (colX 1) exOs = 2 := by
  refine place_hit (i := 2) (by simp [exOs]) ?_ ?_
  · unfold exOs plB
    simp
  · show (decide ((3 : Int) = 3) && (decide ((3 : Int) = 1) || alC (colX 1) (colX 1))) = true
    rw [al_col]; rfl
theorem ex_refs (f q g o : Nat) : (riseB (namesF [exP f q g o exOs, exP f q g o (exOs.take 3)])).length = 1 := by
  have e : namesF [exP f q g o exOs, exP f q g o (exOs.take 3)] = [⟨#[116]⟩, ⟨#[116]⟩] := rfl
  have h1 : riseB [(⟨#[116]⟩ : ByteArray), ⟨#[116]⟩] = riseB [⟨#[116]⟩] := riseB_same (fun x => by simp)
  have h2 := riseB_len [(⟨#[116]⟩ : ByteArray)]
  have h3 : (⟨#[116]⟩ : ByteArray) ∈ riseB [⟨#[116]⟩] := (mem_riseB _ _).2 (by simp)
  rw [e, h1]
  have h4 := List.length_pos_of_mem h3
  simp at h2
  omega
/-! ### In memory -/
theorem rowC1 {W : World} {B m : Nat} {us : List Value} (_ : us.length = m) (V : VarB W B us) : RowC W m (some ⟨B, 0, none⟩) [us] := ⟨fun i hi => ⟨B, 0, rfl, V.lt, by
  obtain rfl : i = 0 := by simp at hi; exact hi
  rw [Nat.zero_mul, Nat.zero_add]; exact V.at_⟩⟩
theorem rowC2 {W : World} {X m : Nat} {a b : List Value} (ha : a.length = m) (hX : VarB W X (a ++ b)) : RowC W m (some ⟨X, 0, none⟩) [a, b] := by
  refine ⟨fun i hi => ⟨X, 0, rfl, hX.lt, ?_⟩⟩
  match i, hi with
  | 0, _ =>
    intro j v hv
    have hv : a[j]? = some v := hv
    have := hX.at_ j v (by rw [List.getElem?_append_left (List.getElem?_eq_some_iff.1 hv).1]; exact hv)
    simpa using this
  | 1, _ =>
    intro j v hv
    have hv : b[j]? = some v := hv
    have h := hX.at_ (m + j) v (by rw [List.getElem?_append_right (by omega), show m + j - a.length = j by omega]; exact hv)
    rw [show 0 + 1 * m + j = 0 + (m + j) by omega]; exact h
  | i + 2, hi => exact absurd hi (by simp)
theorem rowNone12 (W : World) (m : Nat) (p : Option Addr) : RowC W m p [] := ⟨fun i hi => absurd hi (by simp)⟩
theorem cx_leaf12 {W : World} {k a : Int} (n : Nat) (hk : 0 ≤ k ∧ k ≤ 9) (ha : 0 ≤ a ∧ a ≤ 9) : CxAt W (n + 1) (.mk k a zV none 0 []) :=
  ⟨⟨inI_zV, by omega, by omega, by omega, by omega, Nat.le_refl _, by simp, rowNone12 _ _ _⟩, fun x hx => absurd hx (by simp)⟩
theorem ints1 {W : World} {B : Nat} {x : Int} (V : VarB W B [.int .i64 x]) : IntsAt W (some ⟨B, 0, none⟩) [x] := fun _ => ⟨B, 0, rfl, fun i hi => by
  obtain rfl : i = 0 := by simp at hi; exact hi
  exact V.cell 0 rfl⟩
def ocells (g k a : Int) : List Value := [.int .i64 g, .int .i64 k, .int .i64 a, .int .i64 0, .int .i64 0, .string ⟨#[]⟩, .slice none 0 0, .string ⟨#[]⟩, .int .i64 0]
/-- The example's blocks. -/
structure M15 (w : World) (f q g o : Nat) (W : World) : Prop where
  F : VarB W f [.string ⟨#[116]⟩]
  Q : VarB W q [.int .i64 2]
  G : VarB W g [.int .i64 0]
  O : VarB W o (ocells 0 1 0 ++ (ocells 1 0 0 ++ (ocells 3 1 1 ++ ocells 2 1 1)))
  b : Below w.heap.size w W
theorem M15.below {w : World} {f q g o : Nat} {W W' : World} (h : M15 w f q g o W) (hb : Below W.heap.size W W') : M15 w f q g o W' := ⟨h.F.below hb, h.Q.below hb, h.G.below hb, h.O.below hb, below_through hb h.b.size h.b⟩
theorem M15.part {w : World} {f q g o : Nat} {W : World} (h : M15 w f q g o W) {os : List Ox} (hos : os = exOs ∨ os = exOs.take 3) : PxOk W 3 (exP f q g o os) := by
  have hm : ∀ x ∈ os, x ∈ exOs := by rcases hos with rfl | rfl; exact fun _ h => h; exact fun _ h => List.mem_of_mem_take h
  have hl : os.length ≤ 4 := by rcases hos with rfl | rfl <;> simp [exOs]
  have hR : RowC W 9 (some ⟨o, 0, none⟩) (exOs.map Ox.cells) := by
    refine ⟨fun i hi => ⟨o, 0, rfl, h.O.lt, fun j v hv => ?_⟩⟩
    have hi4 : i < 4 := by simpa [exOs] using hi
    have key : (ocells 0 1 0 ++ (ocells 1 0 0 ++ (ocells 3 1 1 ++ ocells 2 1 1)))[i * 9 + j]? = some v := by
      match i, hi4 with
      | 0, _ =>
        rw [Nat.zero_mul, Nat.zero_add, List.getElem?_append_left (List.getElem?_eq_some_iff.1 (show (ocells 0 1 0)[j]? = some v from hv)).1]; exact hv
      | 1, _ =>
        have hv : (ocells 1 0 0)[j]? = some v := hv
        rw [List.getElem?_append_right (by simp [ocells]), show 1 * 9 + j - (ocells 0 1 0).length = j by simp [ocells], List.getElem?_append_left (List.getElem?_eq_some_iff.1 hv).1]; exact hv
      | 2, _ =>
        have hv : (ocells 3 1 1)[j]? = some v := hv
        rw [List.getElem?_append_right (by simp [ocells]; omega), show 2 * 9 + j - (ocells 0 1 0).length = 9 + j by simp [ocells]; omega, List.getElem?_append_right (by simp [ocells]), show 9 + j - (ocells 1 0 0).length = j by simp [ocells], List.getElem?_append_left (List.getElem?_eq_some_iff.1 hv).1]; exact hv
      | 3, _ =>
        have hv : (ocells 2 1 1)[j]? = some v := hv
        rw [List.getElem?_append_right (by simp [ocells]; omega), show 3 * 9 + j - (ocells 0 1 0).length = 18 + j by simp [ocells]; omega, List.getElem?_append_right (by simp [ocells]; omega), show 18 + j - (ocells 1 0 0).length = 9 + j by simp [ocells]; omega, List.getElem?_append_right (by simp [ocells]), show 9 + j - (ocells 3 1 1).length = j by simp [ocells]]; exact hv
    have hh := h.O.at_ (i * 9 + j) v key
    rw [show (0 : Nat) + i * 9 + j = 0 + (i * 9 + j) by omega]; exact hh
  refine {
    fs := ⟨fun _ => ⟨f, 0, rfl, fun i hi => by
      obtain rfl : i = 0 := by simp [exP] at hi; exact hi
      exact h.F.cell 0 rfl⟩, fun s hs => by simp [exP] at hs; subst hs; show (1 : Nat) ≤ maxLen; unfold maxLen; omega⟩
    ws := ⟨ints1 h.Q, fun x hx => by simp [exP] at hx; subst hx; unfold in64; omega, by simp [exP]⟩
    wh := ⟨⟨cx_leaf12 1 (by omega) (by omega), cx_leaf12 1 (by omega) (by omega)⟩, ⟨Nat.le_refl _, by simp, rowNone12 _ _ _⟩, fun x hx => absurd hx (by simp)⟩
    gs := ⟨ints1 h.G, fun x hx => by simp [exP] at hx; subst hx; unfold in64; omega, by simp [exP]⟩
    os := by
      rcases hos with rfl | rfl
      · exact hR
      · exact ⟨fun i hi => by
          have hi3 : i < 3 := by simpa [exP, exOs] using hi
          obtain ⟨b, o', e, h1, h2⟩ := hR.out i (by simp [exOs]; omega)
          refine ⟨b, o', e, h1, ?_⟩
          have h3 : ((exP f q g o (exOs.take 3)).os.map Ox.cells)[i]'hi = (exOs.map Ox.cells)[i]'(by simp [exOs]; omega) := by
            rcases (by omega : i = 0 ∨ i = 1 ∨ i = 2) with rfl | rfl | rfl <;> rfl
          rw [h3]; exact h2⟩
    es := fun x hx => ?_
    fewF := by simp [exP]
    fewO := by show os.length ≤ _; omega
    capF := by simp [exP]
    capW := by simp [exP]
    capG := by simp [exP]
    capO := hl
    sizeT := by simp [exP, sizeT, sizeTL, zCx, sizeC, sizeCL]
    sizeC := fun x hx => ?_ }
  · have hx := hm x hx
    simp [exOs] at hx
    rcases hx with rfl | rfl | rfl | rfl
    · exact ⟨cx_leaf12 2 (by omega) (by omega), by unfold in64; dsimp only; omega⟩
    · exact ⟨cx_leaf12 2 (by omega) (by omega), by unfold in64; dsimp only; omega⟩
    · exact ⟨cx_leaf12 2 (by omega) (by omega), by unfold in64; dsimp only; omega⟩
    · exact ⟨cx_leaf12 2 (by omega) (by omega), by unfold in64; dsimp only; omega⟩
  · have hx := hm x hx
    simp [exOs] at hx
    rcases hx with rfl | rfl | rfl | rfl <;> simp [colX, zeroX, sizeC, sizeCL]
theorem M15.sole {w : World} {f q g o : Nat} {W : World} (h : M15 w f q g o W) {os : List Ox} (hos : os = exOs ∨ os = exOs.take 3) {B : Nat} (V : VarB W B (exP f q g o os).cells) : PsOk W 3 (some ⟨B, 0, none⟩) 1 [exP f q g o os] :=
  ⟨rowC1 (Px.cells_len _) V, fun x hx => by obtain rfl := List.mem_singleton.1 hx; exact h.part hos, by simp, by simp⟩
theorem M15.both {w : World} {f q g o : Nat} {W : World} (h : M15 w f q g o W) {B : Nat} (V : VarB W B ((exP f q g o exOs).cells ++ (exP f q g o (exOs.take 3)).cells)) : PsOk W 3 (some ⟨B, 0, none⟩) 2 [exP f q g o exOs, exP f q g o (exOs.take 3)] :=
  ⟨rowC2 (Px.cells_len _) V, fun x hx => by
    simp at hx
    rcases hx with rfl | rfl
    · exact h.part (.inl rfl)
    · exact h.part (.inr rfl), by simp, by simp⟩
end Go.Proofs.Ytfdkajefcplfjaa

/- The example of stage 15 holds: a contract of the call, in whatever memory. Conditions: none. -/
namespace Go.Proofs.Ytfdkajefcplfjaa
open Go.RowKit

theorem col15_any (n : Int) (w : World) :
    Calls Try.prog 16 #[.int .i64 n] w fun e w' => e = .returned (.agg #[.int .i64 1, .int .i64 n, .int .i64 0, .int .i64 0, .string ⟨#[]⟩, .slice none 0 0]) ∧ Below w.heap.size w w' := by
  go_enter Try.func16, Try.ntmps16
  go_wp2
  exact end_blk (VarB.new w [.int .i64 1, .int .i64 n, .int .i64 0, .int .i64 0, .string ⟨#[]⟩, .slice none 0 0] 34) rfl rfl _ Try.underlying34 rfl sizeX rfl ⟨rfl, (Below.refl _ _).alloc (Nat.le_refl _) _⟩
set_option maxRecDepth 1000000 in
theorem outs_lo (a : Option Addr) (n c k : Nat) (hk : k ≤ n) (hc : n ≤ c) (_hn : n ≤ 16000000) (W : World) :
    (Instr.slice 38 (.slice a n c) none (some (.int .i64 k)) none).run Try.prog W = .ok (.slice a k c) W := by
  rw [run_slice_h W 38 a n c Try.underlying38 .i64 k (by omega) (by omega)]
  simp [go_sem, Result.andThen, sliced]
theorem VarB.setZ {w : World} {B i : Nat} {us : List Value} (h : VarB w B us) (u : Value) (hi : i < us.length) : VarB (w.setCell ⟨B, i, none⟩ u) B (us.set i u) := by
  refine ⟨fun j v hv => ?_, fun j hj => ⟨?_, ?_⟩, by simpa using h.lt⟩
  · rw [List.getElem?_set] at hv
    by_cases e : i = j
    · subst e
      simp [hi] at hv
      subst hv
      rw [Nat.zero_add]
      obtain ⟨u0, hu0⟩ := Option.isSome_iff_exists.1 (h.there i hi).1
      rw [Nat.zero_add] at hu0
      exact World.cell?_setCell_same _ _ _ hu0
    · rw [if_neg e] at hv
      rw [World.cell?_setCell_other _ _ _ _ (by simp)]
      exact h.at_ j v hv
  · exact World.isSome_setCells B [u] i w _ (h.there j (by simpa using hj)).1
  · rw [World.frozen?_setCell]; exact (h.there j (by simpa using hj)).2
/-- The example's blocks and boxes. -/
structure A15 (w : World) (f q g o T U : Nat) (us vs : List Value) (W : World) : Prop where
  m : M15 w f q g o W
  t : VarB W T us
  u : VarB W U vs
theorem A15.below {w : World} {f q g o T U : Nat} {us vs : List Value} {W W' : World} (h : A15 w f q g o T U us vs W) (hb : Below W.heap.size W W') : A15 w f q g o T U us vs W' := ⟨h.m.below hb, h.t.below hb, h.u.below hb⟩
theorem A15.alloc {w : World} {f q g o T U : Nat} {us vs : List Value} {W : World} (h : A15 w f q g o T U us vs W) (x : Obj) : A15 w f q g o T U us vs (W.alloc x) := h.below ((Below.refl _ _).alloc (Nat.le_refl _) x)
theorem M15.set {w : World} {f q g o : Nat} {W : World} (h : M15 w f q g o W) {B k : Nat} {v : Value} (hf : f < B) (hq : q < B) (hg : g < B) (ho : o < B) (hB : w.heap.size ≤ B) : M15 w f q g o (W.setCell ⟨B, k, none⟩ v) :=
  ⟨h.F.other (o := k) [v] (by omega), h.Q.other (o := k) [v] (by omega), h.G.other (o := k) [v] (by omega), h.O.other (o := k) [v] (by omega), h.b.setCell hB _⟩
theorem M15.sets {w : World} {f q g o : Nat} {W : World} (h : M15 w f q g o W) {B k : Nat} {vs : List Value} (hf : f < B) (hq : q < B) (hg : g < B) (ho : o < B) (hB : w.heap.size ≤ B) : M15 w f q g o (W.setCells B k vs) :=
  ⟨h.F.other vs (by omega), h.Q.other vs (by omega), h.G.other vs (by omega), h.O.other vs (by omega), below_setCells _ _ h.b hB⟩
/-- What is left open. -/
structure PieceA (p : Prop) : Prop where
  out : p
set_option maxHeartbeats 8000000 in
set_option maxRecDepth 1000000 in
def awakeSkel : (C0 : Prop) ×' (PieceA C0 → ∀ w : World, Calls Try.prog 8 #[] w fun e w' => e = .returned (.bool true) ∧ Below w.heap.size w w') := by
  refine ⟨?C0, fun s0 w => ?main⟩
  case main =>
    have F0 := ((VarB.new w [.string ⟨#[116]⟩] 9).alloc (.cells #[.int .i64 2] 3)).alloc (.cells #[.int .i64 0] 3)
    have Q0 := (VarB.newAt8 (w.alloc (.cells #[.string ⟨#[116]⟩] 9)) [.int .i64 2] 3 (B := w.heap.size + 1) (by simp)).alloc (.cells #[.int .i64 0] 3)
    have G0 := VarB.newAt8 ((w.alloc (.cells #[.string ⟨#[116]⟩] 9)).alloc (.cells #[.int .i64 2] 3)) [.int .i64 0] 3 (B := w.heap.size + 1 + 1) (by simp)
    have B0 : Below w.heap.size w (((w.alloc (.cells #[.string ⟨#[116]⟩] 9)).alloc (.cells #[.int .i64 2] 3)).alloc (.cells #[.int .i64 0] 3)) := (((Below.refl _ _).alloc (Nat.le_refl _) _).alloc (by simp) _).alloc (by simp only [World.size_alloc]; omega) _
    have HZ : (((w.alloc (.cells #[.string ⟨#[116]⟩] 9)).alloc (.cells #[.int .i64 2] 3)).alloc (.cells #[.int .i64 0] 3)).heap.size = w.heap.size + 1 + 1 + 1 := by simp
    go_enter Try.func8, Try.ntmps8
    go_wp2_with fail
    go_at_call 16
    refine (col15_any _ _).mono ?_
    rintro e w1 ⟨rfl, hb1⟩
    have s1 := hb1.size
    rw [HZ] at s1
    have F0 := F0.below hb1
    have Q0 := Q0.below hb1
    have G0 := G0.below hb1
    have B0 := below_through hb1 B0.size B0
    clear hb1 HZ
    go_wp2_with fail
    go_at_call 16
    refine (col15_any _ _).mono ?_
    rintro e w2 ⟨rfl, hb2⟩
    have s2 := hb2.size
    have F0 := F0.below hb2
    have Q0 := Q0.below hb2
    have G0 := G0.below hb2
    have B0 := below_through hb2 B0.size B0
    clear hb2
    go_wp2_with fail
    go_at_call 16
    refine (col15_any _ _).mono ?_
    rintro e w3 ⟨rfl, hb3⟩
    have s3 : w.heap.size + 1 + 1 + 1 ≤ w3.heap.size := Nat.le_trans (Nat.le_trans s1 s2) hb3.size
    have F0 := F0.below hb3
    have Q0 := Q0.below hb3
    have G0 := G0.below hb3
    have B0 := below_through hb3 B0.size B0
    clear hb3 s1 s2
    have O0 := VarB.new w3 [.int .i64 0, .int .i64 1, .int .i64 0, .int .i64 0, .int .i64 0, .string ⟨#[]⟩, .slice none 0 0, .string ⟨#[]⟩, .int .i64 0, .int .i64 1, .int .i64 0, .int .i64 0, .int .i64 0, .int .i64 0, .string ⟨#[]⟩, .slice none 0 0, .string ⟨#[]⟩, .int .i64 0, .int .i64 3, .int .i64 1, .int .i64 1, .int .i64 0, .int .i64 0, .string ⟨#[]⟩, .slice none 0 0, .string ⟨#[]⟩, .int .i64 0, .int .i64 2, .int .i64 1, .int .i64 1, .int .i64 0, .int .i64 0, .string ⟨#[]⟩, .slice none 0 0, .string ⟨#[]⟩, .int .i64 0] 44
    have hM3 : M15 w w.heap.size (w.heap.size + 1) (w.heap.size + 1 + 1) w3.heap.size (w3.alloc (.cells #[.int .i64 0, .int .i64 1, .int .i64 0, .int .i64 0, .int .i64 0, .string ⟨#[]⟩, .slice none 0 0, .string ⟨#[]⟩, .int .i64 0, .int .i64 1, .int .i64 0, .int .i64 0, .int .i64 0, .int .i64 0, .string ⟨#[]⟩, .slice none 0 0, .string ⟨#[]⟩, .int .i64 0, .int .i64 3, .int .i64 1, .int .i64 1, .int .i64 0, .int .i64 0, .string ⟨#[]⟩, .slice none 0 0, .string ⟨#[]⟩, .int .i64 0, .int .i64 2, .int .i64 1, .int .i64 1, .int .i64 0, .int .i64 0, .string ⟨#[]⟩, .slice none 0 0, .string ⟨#[]⟩, .int .i64 0] 44)) := ⟨F0.alloc _, Q0.alloc _, G0.alloc _, O0, B0.alloc B0.size _⟩
    clear F0 Q0 G0 B0 O0
    have V0 := VarB.newAt8 (w3.alloc (.cells #[.int .i64 0, .int .i64 1, .int .i64 0, .int .i64 0, .int .i64 0, .string ⟨#[]⟩, .slice none 0 0, .string ⟨#[]⟩, .int .i64 0, .int .i64 1, .int .i64 0, .int .i64 0, .int .i64 0, .int .i64 0, .string ⟨#[]⟩, .slice none 0 0, .string ⟨#[]⟩, .int .i64 0, .int .i64 3, .int .i64 1, .int .i64 1, .int .i64 0, .int .i64 0, .string ⟨#[]⟩, .slice none 0 0, .string ⟨#[]⟩, .int .i64 0, .int .i64 2, .int .i64 1, .int .i64 1, .int .i64 0, .int .i64 0, .string ⟨#[]⟩, .slice none 0 0, .string ⟨#[]⟩, .int .i64 0] 44)) [.bool false, .slice none 0 0, .slice none 0 0, .int .i64 0, .int .i64 0, .int .i64 0, .int .i64 0, .int .i64 0, .int .i64 0, .string ⟨#[]⟩, .slice none 0 0, .int .i64 0, .int .i64 0, .int .i64 0, .int .i64 0, .string ⟨#[]⟩, .slice none 0 0, .slice none 0 0, .slice none 0 0, .slice none 0 0] 40 (B := w3.heap.size + 1) (by simp)
    have hM4 := hM3.below ((Below.refl _ _).alloc (Nat.le_refl _) (.cells #[.bool false, .slice none 0 0, .slice none 0 0, .int .i64 0, .int .i64 0, .int .i64 0, .int .i64 0, .int .i64 0, .int .i64 0, .string ⟨#[]⟩, .slice none 0 0, .int .i64 0, .int .i64 0, .int .i64 0, .int .i64 0, .string ⟨#[]⟩, .slice none 0 0, .slice none 0 0, .slice none 0 0, .slice none 0 0] 40))
    have hz4 : ((w3.alloc (.cells #[.int .i64 0, .int .i64 1, .int .i64 0, .int .i64 0, .int .i64 0, .string ⟨#[]⟩, .slice none 0 0, .string ⟨#[]⟩, .int .i64 0, .int .i64 1, .int .i64 0, .int .i64 0, .int .i64 0, .int .i64 0, .string ⟨#[]⟩, .slice none 0 0, .string ⟨#[]⟩, .int .i64 0, .int .i64 3, .int .i64 1, .int .i64 1, .int .i64 0, .int .i64 0, .string ⟨#[]⟩, .slice none 0 0, .string ⟨#[]⟩, .int .i64 0, .int .i64 2, .int .i64 1, .int .i64 1, .int .i64 0, .int .i64 0, .string ⟨#[]⟩, .slice none 0 0, .string ⟨#[]⟩, .int .i64 0] 44)).alloc (.cells #[.bool false, .slice none 0 0, .slice none 0 0, .int .i64 0, .int .i64 0, .int .i64 0, .int .i64 0, .int .i64 0, .int .i64 0, .string ⟨#[]⟩, .slice none 0 0, .int .i64 0, .int .i64 0, .int .i64 0, .int .i64 0, .string ⟨#[]⟩, .slice none 0 0, .slice none 0 0, .slice none 0 0, .slice none 0 0] 40)).heap.size = w3.heap.size + 1 + 1 := by simp
    have hone : ∀ u ∈ ([.bool false, .slice (some ⟨w.heap.size, 0, none⟩) 1 1, .slice (some ⟨w.heap.size + 1, 0, none⟩) 1 1, .int .i64 0, .int .i64 0, .int .i64 0, .int .i64 0, .int .i64 0, .int .i64 0, .string ⟨#[]⟩, .slice none 0 0, .int .i64 0, .int .i64 0, .int .i64 0, .int .i64 0, .string ⟨#[]⟩, .slice none 0 0, .slice none 0 0, .slice (some ⟨w.heap.size + 1 + 1, 0, none⟩) 1 1, .slice (some ⟨w3.heap.size, 0, none⟩) 4 4] : List Value), u.oneCell' = true := by
      intro u hu
      simp only [List.mem_cons, List.not_mem_nil, or_false] at hu
      rcases hu with rfl | rfl | rfl | rfl | rfl | rfl | rfl | rfl | rfl | rfl | rfl | rfl | rfl | rfl | rfl | rfl | rfl | rfl | rfl | rfl <;> rfl
    obtain ⟨us, hus⟩ : ∃ us : List Value, us = [.bool false, .slice (some ⟨w.heap.size, 0, none⟩) 1 1, .slice (some ⟨w.heap.size + 1, 0, none⟩) 1 1, .int .i64 0, .int .i64 0, .int .i64 0, .int .i64 0, .int .i64 0, .int .i64 0, .string ⟨#[]⟩, .slice none 0 0, .int .i64 0, .int .i64 0, .int .i64 0, .int .i64 0, .string ⟨#[]⟩, .slice none 0 0, .slice none 0 0, .slice (some ⟨w.heap.size + 1 + 1, 0, none⟩) 1 1, .slice (some ⟨w3.heap.size, 0, none⟩) 4 4] := ⟨_, rfl⟩
    have hone2 : ∀ u ∈ us, u.oneCell' = true := by rw [hus]; exact hone
    have hul : us.length = 20 := by rw [hus]; rfl
    have h19 : us[19]? = some (.slice (some ⟨w3.heap.size, 0, none⟩) 4 4) := by rw [hus]; rfl
    have HUS := hid0 hus
    have hsl := outs_lo (some ⟨w3.heap.size, 0, none⟩) 4 4 3 (by omega) (by omega) (by omega)
    have HM4 := hid0 hM4
    clear hM3 hM4 hus
    go_wp2_with (first | ((with_reducible refine wp_putB V0 hone ?_ ?_ ?_ ?_ ?_); (rfl); (exact sizePx); (rfl); (rfl); intro w5 hV5 hw5; (have hz5 : w5.heap.size = w3.heap.size + 1 + 1 := by rw [hw5.out, size_setCells]; exact hz4); (have hM5 : M15 w w.heap.size (w.heap.size + 1) (w.heap.size + 1 + 1) w3.heap.size w5 := by rw [hw5.out]; exact HM4.out.sets (by omega) (by omega) (by omega) (by omega) (by omega)); (have HM5 := hid0 hM5); (have hV5q : VarB w5 (w3.heap.size + 1) us := by rw [HUS.out]; exact hV5); (have V0b := VarB.newAt8 w5 [.bool false, .slice none 0 0, .slice none 0 0, .int .i64 0, .int .i64 0, .int .i64 0, .int .i64 0, .int .i64 0, .int .i64 0, .string ⟨#[]⟩, .slice none 0 0, .int .i64 0, .int .i64 0, .int .i64 0, .int .i64 0, .string ⟨#[]⟩, .slice none 0 0, .slice none 0 0, .slice none 0 0, .slice none 0 0] 40 (B := w3.heap.size + 1 + 1) hz5.symm); (have hV5b := hV5q.alloc (Obj.cells #[.bool false, .slice none 0 0, .slice none 0 0, .int .i64 0, .int .i64 0, .int .i64 0, .int .i64 0, .int .i64 0, .int .i64 0, .string ⟨#[]⟩, .slice none 0 0, .int .i64 0, .int .i64 0, .int .i64 0, .int .i64 0, .string ⟨#[]⟩, .slice none 0 0, .slice none 0 0, .slice none 0 0, .slice none 0 0] 40)); clear hM5 hV5 hw5 V0; simp only [Act.put]) | ((with_reducible refine wp_putB V0b hone2 ?_ ?_ ?_ ?_ ?_); (exact hul); (exact sizePx); (rfl); (rfl); intro w6 hV6 hw6; (have hV5c : VarB w6 (w3.heap.size + 1) us := by rw [hw6.out]; exact hV5b.other _ (by omega)); (have hM6 : M15 w w.heap.size (w.heap.size + 1) (w.heap.size + 1 + 1) w3.heap.size w6 := by rw [hw6.out]; exact (HM5.out.below ((Below.refl _ _).alloc (Nat.le_refl _) _)).sets (by omega) (by omega) (by omega) (by omega) (by omega)); (have HM6 := hid0 hM6); (have c19 := hV5c.cell 19 h19); (have d19 := hV6.cell 19 h19); (have f19 := hV6.frz 19 (by omega)); clear hM6 hw6 V0b; simp only [Act.put]) | ((with_reducible refine wp_getB hV5q.at_ Try.underlying40 ?_ ?_ ?_ ?_); (rfl); (rw [hul]; exact sizePx); (rfl); simp only [Act.put]) | fail)
    have hS7 : A15 w w.heap.size (w.heap.size + 1) (w.heap.size + 1 + 1) w3.heap.size (w3.heap.size + 1) (w3.heap.size + 1 + 1) us (us.set 19 (.slice (some ⟨w3.heap.size, 0, none⟩) 3 4)) (World.setCell w6 ⟨w3.heap.size + 1 + 1, 19, none⟩ (.slice (some ⟨w3.heap.size, 0, none⟩) 3 4)) := ⟨HM6.out.set (by omega) (by omega) (by omega) (by omega) (by omega), hV5c.other (o := 19) [.slice (some ⟨w3.heap.size, 0, none⟩) 3 4] (by omega), hV6.setZ (i := 19) _ (by omega)⟩
    generalize World.setCell w6 ⟨w3.heap.size + 1 + 1, 19, none⟩ (.slice (some ⟨w3.heap.size, 0, none⟩) 3 4) = w7 at hS7 ⊢
    clear hV5c hV6 HM6 HM5 hV5q hV5b c19 d19 f19 hsl h19 hone hone2 hz4 HM4 hz5
    rename_i zzQ zz5 zz6 zz7 zz8 Kq hKq
    clear F0 Q0 G0 B0 w5 w6
    revert hKq Kq zzQ hS7 w7 HUS hul us s3 w3 w2 w1 w
    exact s0.out
end Go.Proofs.Ytfdkajefcplfjaa
