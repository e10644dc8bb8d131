/- Several of my texts laid together, each as it was: D40, D41. Conditions: each names its own. -/
import Derived.Test.YtfdkajefcplfjaaGreatVJ
import Derived.Test.YtfdkajefcplfjaaGreatH2
/- The example of stage 14, plainly and as it lies in memory. Conditions: its blocks' cells. -/
namespace Go.Proofs.YtfdkajefcplfjaaGreat
open Go.RowKit

def vI14 (n : Int) : Val := ⟨1, n, ⟨#[]⟩⟩
def colX14 (a : Int) : Cx := .mk 1 a zV none 0 []
def exOld (r1 r2 m1 m2 : Nat) : List Nx := [⟨⟨#[116]⟩, some ⟨m1, 0, none⟩, 1, [⟨some ⟨r1, 0, none⟩, 1, [vI14 1], 1⟩]⟩, ⟨⟨#[117]⟩, some ⟨m2, 0, none⟩, 1, [⟨some ⟨r2, 0, none⟩, 1, [vI14 1], 1⟩]⟩]
def exCh (r3 r4 m3 : Nat) : List Nx := [⟨⟨#[116]⟩, some ⟨m3, 0, none⟩, 2, [⟨some ⟨r3, 0, none⟩, 1, [vI14 1], -1⟩, ⟨some ⟨r4, 0, none⟩, 1, [vI14 2], 1⟩]⟩]
def exQ (f q o : Nat) : Px := ⟨false, some ⟨f, 0, none⟩, 2, [⟨#[116]⟩, ⟨#[117]⟩], some ⟨q, 0, none⟩, 2, [1, 1], .mk 1 4 (colX14 1) (colX14 0) none 0 [], none, 0, [], some ⟨o, 0, none⟩, 1, [⟨0, colX14 0, ⟨#[]⟩, 0⟩]⟩
theorem inside_rise14 (F : List Int) (w : Int) : insideB (rise F) w = insideB F w := by
  unfold insideB
  rw [Bool.eq_iff_iff, List.all_eq_true, List.all_eq_true]
  exact ⟨fun h x hx => h x ((mem_rise _ _).2 hx), fun h x hx => h x ((mem_rise _ _).1 hx)⟩
theorem ex14_planB (f q o : Nat) : planB [exQ f q o] = true := by
  unfold planB partB listsB
  simp only [inside_rise14]
  rfl
theorem ex14_ready (r1 r2 m1 m2 f q o : Nat) : readyE (exOld r1 r2 m1 m2) [exQ f q o] = 0 := by
  unfold readyE
  rw [ex14_planB, if_pos rfl]
  rfl
theorem ex14_now (r1 r2 m1 m2 r3 r4 m3 f q o : Nat) : readyE (nowP (exOld r1 r2 m1 m2) (exCh r3 r4 m3) [exQ f q o]) [exQ f q o] = 0 := by
  have h : readyE (nowP (exOld r1 r2 m1 m2) (exCh r3 r4 m3) [exQ f q o]) [exQ f q o] = readyE (nowL (exOld r1 r2 m1 m2) (exCh r3 r4 m3) (exQ f q o).fs) [exQ f q o] := readyE_same (fun p hp s hs => by
    obtain rfl := List.mem_singleton.1 hp
    unfold nowP
    rw [find_now _ _ (mem_names (List.mem_singleton.2 rfl) hs), find_now _ _ hs])
  rw [h]
  unfold readyE
  rw [ex14_planB, if_pos rfl]
  rfl
theorem ex14_cost (r1 r2 m1 m2 r3 r4 m3 f q o : Nat) : costD (exOld r1 r2 m1 m2) (exCh r3 r4 m3) [exQ f q o] = 2 := by rfl
theorem ex14_net (r1 r2 m1 m2 r3 r4 m3 f q o : Nat) : netB (exOld r1 r2 m1 m2) (exCh r3 r4 m3) (exQ f q o) = [([vI14 1, vI14 1], -1), ([vI14 2, vI14 1], 1)] := by rfl
theorem ex14_rows (r1 r2 m1 m2 r3 r4 m3 f q o : Nat) : dRowsM (exOld r1 r2 m1 m2) (exCh r3 r4 m3) [exQ f q o] = ([([vI14 1], -1), ([vI14 2], 1)], 0) := by
  have e1 : dAllE (exOld r1 r2 m1 m2) (exCh r3 r4 m3) [exQ f q o] = 0 := by
    unfold dAllE
    simp only [List.map_cons, List.map_nil, ex14_net]
    rfl
  have e2 : dAllL (exOld r1 r2 m1 m2) (exCh r3 r4 m3) [exQ f q o] = [([vI14 1], -1), ([vI14 2], 1)] := by
    unfold dAllL
    simp only [List.flatMap_cons, List.flatMap_nil, List.append_nil, ex14_net]
    rfl
  unfold dRowsM
  rw [ex14_ready, ex14_now, ex14_cost, e1, e2]
  rfl
theorem two_of14 {E : List Elem} {x y : Pair} (h : E.map pr = [x, y]) : ∃ e1 e2, E = [e1, e2] ∧ pr e1 = x ∧ pr e2 = y :=
  match E, h with
  | [], h => by simp at h
  | [_], h => by simp at h
  | [e1, e2], h => by simp at h; exact ⟨e1, e2, rfl, h.1, h.2⟩
  | _ :: _ :: _ :: _, h => by simp at h
/-! ### In memory -/
theorem rowS14 {W : World} {B m : Nat} {us : List Value} (V : VarB W B us) : RowC W m (some ⟨B, 0, none⟩) [us] := ⟨fun i hi => ⟨B, 0, rfl, V.lt, by
  obtain rfl : i = 0 := by simp at hi; exact hi
  rw [Nat.zero_mul, Nat.zero_add]; exact V.at_⟩⟩
theorem rowD14 {W : World} {X m : Nat} {a b : List Value} (ha : a.length = m) (hX : VarB W X (a ++ b)) : RowC W m (some ⟨X, 0, none⟩) [a, b] := by
  refine ⟨fun i hi => ⟨X, 0, rfl, hX.lt, ?_⟩⟩
  match i, hi with
  | 0, _ =>
    intro j v hv
    have hv : a[j]? = some v := hv
    have := hX.at_ j v (by rw [List.getElem?_append_left (List.getElem?_eq_some_iff.1 hv).1]; exact hv)
    simpa using this
  | 1, _ =>
    intro j v hv
    have hv : b[j]? = some v := hv
    have h := hX.at_ (m + j) v (by rw [List.getElem?_append_right (by omega), show m + j - a.length = j by omega]; exact hv)
    rw [show 0 + 1 * m + j = 0 + (m + j) by omega]; exact h
  | i + 2, hi => exact absurd hi (by simp)
theorem rowN14 (W : World) (m : Nat) (p : Option Addr) : RowC W m p [] := ⟨fun i hi => absurd hi (by simp)⟩
theorem leaf14 {W : World} {k a : Int} (n : Nat) (hk : 0 ≤ k ∧ k ≤ 9) (ha : 0 ≤ a ∧ a ≤ 9) : CxAt W (n + 1) (.mk k a zV none 0 []) :=
  ⟨⟨inI_zV, by omega, by omega, by omega, by omega, Nat.le_refl _, by simp, rowN14 _ _ _⟩, fun x hx => absurd hx (by simp)⟩
theorem inI14 {n : Int} (h1 : -1000 ≤ n) (h2 : n ≤ 1000) : inI (vI14 n) := ⟨by show -9223372036854775808 ≤ n; omega, by show n ≤ 9223372036854775807; omega, (Nat.zero_le _ : 0 ≤ maxLen)⟩
theorem row1_at14 {W : World} {Y : Nat} {a : Int} (h : VarB W Y [.int .i64 1, .int .i64 a, .string ⟨#[]⟩]) : RowAt W (some ⟨Y, 0, none⟩) [vI14 a] := fun _ => ⟨Y, 0, rfl, fun i hi => by
  match i, hi with
  | 0, _ => exact ⟨h.cell 0 rfl, h.cell 1 rfl, h.cell 2 rfl⟩
  | i + 1, hi => exact absurd hi (by simp)⟩
/-- The example's blocks. -/
structure M14 (w : World) (r1 r2 r3 r4 m1 m2 m3 lb lc f q o pb bx : Nat) (W : World) : Prop where
  R1 : VarB W r1 [.int .i64 1, .int .i64 1, .string ⟨#[]⟩]
  R2 : VarB W r2 [.int .i64 1, .int .i64 1, .string ⟨#[]⟩]
  R3 : VarB W r3 [.int .i64 1, .int .i64 1, .string ⟨#[]⟩]
  R4 : VarB W r4 [.int .i64 1, .int .i64 2, .string ⟨#[]⟩]
  M1 : VarB W m1 [.slice (some ⟨r1, 0, none⟩) 1 1, .int .i64 1]
  M2 : VarB W m2 [.slice (some ⟨r2, 0, none⟩) 1 1, .int .i64 1]
  M3 : VarB W m3 [.slice (some ⟨r3, 0, none⟩) 1 1, .int .i64 (-1), .slice (some ⟨r4, 0, none⟩) 1 1, .int .i64 1]
  L : VarB W lb [.string ⟨#[116]⟩, .slice (some ⟨m1, 0, none⟩) 1 1, .string ⟨#[117]⟩, .slice (some ⟨m2, 0, none⟩) 1 1]
  C : VarB W lc [.string ⟨#[116]⟩, .slice (some ⟨m3, 0, none⟩) 2 2]
  F : VarB W f [.string ⟨#[116]⟩, .string ⟨#[117]⟩]
  Q : VarB W q [.int .i64 1, .int .i64 1]
  O : VarB W o [.int .i64 0, .int .i64 1, .int .i64 0, .int .i64 0, .int .i64 0, .string ⟨#[]⟩, .slice none 0 0, .string ⟨#[]⟩, .int .i64 0]
  P : VarB W pb (exQ f q o).cells
  B : VarB W bx [.slice (some ⟨pb, 0, none⟩) 1 1]
  b : Below w.heap.size w W
theorem M14.below {w : World} {r1 r2 r3 r4 m1 m2 m3 lb lc f q o pb bx : Nat} {W W' : World} (h : M14 w r1 r2 r3 r4 m1 m2 m3 lb lc f q o pb bx W) (hb : Below W.heap.size W W') : M14 w r1 r2 r3 r4 m1 m2 m3 lb lc f q o pb bx W' :=
  ⟨h.R1.below hb, h.R2.below hb, h.R3.below hb, h.R4.below hb, h.M1.below hb, h.M2.below hb, h.M3.below hb, h.L.below hb, h.C.below hb, h.F.below hb, h.Q.below hb, h.O.below hb, h.P.below hb, h.B.below hb, below_through hb h.b.size h.b⟩
theorem elems1_14 {W : World} {m r : Nat} {a n : Int} (h : VarB W m [.slice (some ⟨r, 0, none⟩) 1 1, .int .i64 n]) (hr : VarB W r [.int .i64 1, .int .i64 a, .string ⟨#[]⟩]) (ha : -1000 ≤ a ∧ a ≤ 1000) (hn : -1000 ≤ n ∧ n ≤ 1000) : ElemsI W (some ⟨m, 0, none⟩) 1 [⟨some ⟨r, 0, none⟩, 1, [vI14 a], n⟩] := by
  refine ⟨⟨fun _ => ⟨m, 0, rfl, fun i hi => ?_⟩, fun e he => ?_⟩, fun e he => ?_, by simp, by simp⟩
  · match i, hi with
    | 0, _ => exact ⟨h.cell 0 rfl, h.cell 1 rfl⟩
    | i + 1, hi => exact absurd hi (by simp)
  · obtain rfl := List.mem_singleton.1 he
    exact ⟨row1_at14 hr, by show 1 * 32 ≤ _; omega⟩
  · obtain rfl := List.mem_singleton.1 he
    exact ⟨fun x hx => by obtain rfl := List.mem_singleton.1 hx; exact inI14 ha.1 ha.2, by unfold in64; dsimp only; omega, Nat.le_refl _⟩
theorem M14.old {w : World} {r1 r2 r3 r4 m1 m2 m3 lb lc f q o pb bx : Nat} {W : World} (h : M14 w r1 r2 r3 r4 m1 m2 m3 lb lc f q o pb bx W) : NsOk W (some ⟨lb, 0, none⟩) (exOld r1 r2 m1 m2) := by
  refine ⟨rowD14 (a := [.string ⟨#[116]⟩, .slice (some ⟨m1, 0, none⟩) 1 1]) rfl h.L, fun x hx => ?_, by simp [exOld]⟩
  simp only [exOld, List.mem_cons, List.not_mem_nil, or_false] at hx
  rcases hx with rfl | rfl
  · exact ⟨elems1_14 h.M1 h.R1 (by omega) (by omega), by show (1 : Nat) ≤ maxLen; unfold maxLen; omega⟩
  · exact ⟨elems1_14 h.M2 h.R2 (by omega) (by omega), by show (1 : Nat) ≤ maxLen; unfold maxLen; omega⟩
theorem M14.ch {w : World} {r1 r2 r3 r4 m1 m2 m3 lb lc f q o pb bx : Nat} {W : World} (h : M14 w r1 r2 r3 r4 m1 m2 m3 lb lc f q o pb bx W) : NsOk W (some ⟨lc, 0, none⟩) (exCh r3 r4 m3) := by
  refine ⟨rowS14 h.C, fun x hx => ?_, by simp [exCh]⟩
  obtain rfl := List.mem_singleton.1 hx
  refine ⟨⟨⟨fun _ => ⟨m3, 0, rfl, fun i hi => ?_⟩, fun e he => ?_⟩, fun e he => ?_, by simp, by simp⟩, by show (1 : Nat) ≤ maxLen; unfold maxLen; omega⟩
  · match i, hi with
    | 0, _ => exact ⟨h.M3.cell 0 rfl, h.M3.cell 1 rfl⟩
    | 1, _ => exact ⟨h.M3.cell 2 rfl, h.M3.cell 3 rfl⟩
    | i + 2, hi => exact absurd hi (by simp)
  · simp only [List.mem_cons, List.not_mem_nil, or_false] at he
    rcases he with rfl | rfl
    · exact ⟨row1_at14 h.R3, by show 1 * 32 ≤ _; omega⟩
    · exact ⟨row1_at14 h.R4, by show 1 * 32 ≤ _; omega⟩
  · simp only [List.mem_cons, List.not_mem_nil, or_false] at he
    rcases he with rfl | rfl
    · exact ⟨fun x hx => by obtain rfl := List.mem_singleton.1 hx; exact inI14 (by omega) (by omega), by unfold in64; dsimp only; omega, Nat.le_refl _⟩
    · exact ⟨fun x hx => by obtain rfl := List.mem_singleton.1 hx; exact inI14 (by omega) (by omega), by unfold in64; dsimp only; omega, Nat.le_refl _⟩
theorem M14.plan {w : World} {r1 r2 r3 r4 m1 m2 m3 lb lc f q o pb bx : Nat} {W : World} (h : M14 w r1 r2 r3 r4 m1 m2 m3 lb lc f q o pb bx W) : PsOk W 3 (some ⟨pb, 0, none⟩) 1 [exQ f q o] := by
  refine ⟨rowS14 h.P, fun x hx => ?_, by simp, by simp⟩
  obtain rfl := List.mem_singleton.1 hx
  exact {
    fs := ⟨fun _ => ⟨f, 0, rfl, fun i hi => by
      have hi2 : i < 2 := by simpa [exQ] using hi
      match i, hi2 with
      | 0, _ => exact h.F.cell 0 rfl
      | 1, _ => exact h.F.cell 1 rfl⟩, fun s hs => by simp [exQ] at hs; rcases hs with rfl | rfl <;> (show (1 : Nat) ≤ maxLen; unfold maxLen; omega)⟩
    ws := ⟨fun _ => ⟨q, 0, rfl, fun i hi => by
      have hi2 : i < 2 := by simpa [exQ] using hi
      match i, hi2 with
      | 0, _ => exact h.Q.cell 0 rfl
      | 1, _ => exact h.Q.cell 1 rfl⟩, fun x hx => by simp [exQ] at hx; subst hx; unfold in64; omega, by simp [exQ]⟩
    wh := ⟨⟨leaf14 1 (by omega) (by omega), leaf14 1 (by omega) (by omega)⟩, ⟨Nat.le_refl _, by simp, rowN14 _ _ _⟩, fun x hx => absurd hx (by simp)⟩
    gs := ⟨fun h => absurd rfl h, fun x hx => absurd hx (by simp [exQ]), by simp [exQ]⟩
    os := rowS14 h.O
    es := fun x hx => by
      obtain rfl := List.mem_singleton.1 hx
      exact ⟨leaf14 2 (by omega) (by omega), by unfold in64; dsimp only; omega⟩
    fewF := by simp [exQ]
    fewO := by simp [exQ]
    capF := by simp [exQ]
    capW := by simp [exQ]
    capG := by simp [exQ]
    capO := by simp [exQ]
    sizeT := by simp [exQ, sizeT, sizeTL, colX14, sizeC, sizeCL]
    sizeC := fun x hx => by
      obtain rfl := List.mem_singleton.1 hx
      simp [colX14, sizeC, sizeCL] }
end Go.Proofs.YtfdkajefcplfjaaGreat

/- The example of stage 14 holds: a contract of the call, in whatever memory. Conditions: none. -/
namespace Go.Proofs.YtfdkajefcplfjaaGreat
open Go.RowKit

theorem num14_any (n : Int) (w : World) :
    Calls Tryz.prog 62 #[.int .i64 n] w fun e w' => e = .returned (.agg #[.int .i64 1, .int .i64 n, .string ⟨#[]⟩]) ∧ Below w.heap.size w w' := by
  go_enter Tryz.func62, Tryz.ntmps62
  go_wp2
  exact end_blk (VarB.new w [.int .i64 1, .int .i64 n, .string ⟨#[]⟩] 41) rfl rfl _ Tryz.underlying41 rfl infoV rfl ⟨rfl, (Below.refl _ _).alloc (Nat.le_refl _) _⟩
theorem col14_any (n : Int) (w : World) :
    Calls Tryz.prog 63 #[.int .i64 n] w fun e w' => e = .returned (.agg #[.int .i64 1, .int .i64 n, .int .i64 0, .int .i64 0, .string ⟨#[]⟩, .slice none 0 0]) ∧ Below w.heap.size w w' := by
  go_enter Tryz.func63, Tryz.ntmps63
  go_wp2
  exact end_blk (VarB.new w [.int .i64 1, .int .i64 n, .int .i64 0, .int .i64 0, .string ⟨#[]⟩, .slice none 0 0] 44) rfl rfl _ Tryz.underlying44 rfl sizeX rfl ⟨rfl, (Below.refl _ _).alloc (Nat.le_refl _) _⟩
set_option maxHeartbeats 8000000 in
set_option maxRecDepth 1000000 in
theorem awake14_any (w : World) :
    Calls Tryz.prog 30 #[] w fun e w' => e = .returned (.bool true) ∧ Below w.heap.size w w' := by
    go_enter Tryz.func30, Tryz.ntmps30
    go_wp2_with fail
    go_at_call 62
    refine (num14_any _ _).mono ?_
    rintro e w1 ⟨rfl, hbk⟩
    have hB := hbk
    clear hbk
    have R1 := ((VarB.newAt w1 [.int .i64 1, .int .i64 1, .string ⟨#[]⟩] 41 (B := w1.heap.size) (by simp)).alloc (Obj.cells #[.slice (some ⟨w1.heap.size, 0, none⟩) 1 1, .int .i64 1] 80))
    have M1 := (VarB.newAt (w1.alloc (Obj.cells #[.int .i64 1, .int .i64 1, .string ⟨#[]⟩] 41)) [.slice (some ⟨w1.heap.size, 0, none⟩) 1 1, .int .i64 1] 80 (B := w1.heap.size + 1) (by simp))
    have hbc := (((Below.refl w1.heap.size w1).alloc (by simp; try omega) (Obj.cells #[.int .i64 1, .int .i64 1, .string ⟨#[]⟩] 41)).alloc (by simp; try omega) (Obj.cells #[.slice (some ⟨w1.heap.size, 0, none⟩) 1 1, .int .i64 1] 80))
    have hB := below_through hbc hB.size hB
    clear hbc
    go_wp2_with fail
    go_at_call 62
    refine (num14_any _ _).mono ?_
    rintro e w2 ⟨rfl, hbk⟩
    have R1 := R1.below hbk
    have M1 := M1.below hbk
    have hB := below_through hbk hB.size hB
    clear hbk
    have R2 := (((VarB.newAt w2 [.int .i64 1, .int .i64 1, .string ⟨#[]⟩] 41 (B := w2.heap.size) (by simp)).alloc (Obj.cells #[.slice (some ⟨w2.heap.size, 0, none⟩) 1 1, .int .i64 1] 80)).alloc (Obj.cells #[.string ⟨#[116]⟩, .slice (some ⟨w1.heap.size + 1, 0, none⟩) 1 1, .string ⟨#[117]⟩, .slice (some ⟨w2.heap.size + 1, 0, none⟩) 1 1] 65))
    have M2 := ((VarB.newAt (w2.alloc (Obj.cells #[.int .i64 1, .int .i64 1, .string ⟨#[]⟩] 41)) [.slice (some ⟨w2.heap.size, 0, none⟩) 1 1, .int .i64 1] 80 (B := w2.heap.size + 1) (by simp)).alloc (Obj.cells #[.string ⟨#[116]⟩, .slice (some ⟨w1.heap.size + 1, 0, none⟩) 1 1, .string ⟨#[117]⟩, .slice (some ⟨w2.heap.size + 1, 0, none⟩) 1 1] 65))
    have L := (VarB.newAt ((w2.alloc (Obj.cells #[.int .i64 1, .int .i64 1, .string ⟨#[]⟩] 41)).alloc (Obj.cells #[.slice (some ⟨w2.heap.size, 0, none⟩) 1 1, .int .i64 1] 80)) [.string ⟨#[116]⟩, .slice (some ⟨w1.heap.size + 1, 0, none⟩) 1 1, .string ⟨#[117]⟩, .slice (some ⟨w2.heap.size + 1, 0, none⟩) 1 1] 65 (B := w2.heap.size + 1 + 1) (by simp))
    have hbc := ((((Below.refl w2.heap.size w2).alloc (by simp; try omega) (Obj.cells #[.int .i64 1, .int .i64 1, .string ⟨#[]⟩] 41)).alloc (by simp; try omega) (Obj.cells #[.slice (some ⟨w2.heap.size, 0, none⟩) 1 1, .int .i64 1] 80)).alloc (by simp; try omega) (Obj.cells #[.string ⟨#[116]⟩, .slice (some ⟨w1.heap.size + 1, 0, none⟩) 1 1, .string ⟨#[117]⟩, .slice (some ⟨w2.heap.size + 1, 0, none⟩) 1 1] 65))
    have R1 := R1.below hbc
    have M1 := M1.below hbc
    have hB := below_through hbc hB.size hB
    clear hbc
    go_wp2_with fail
    go_at_call 62
    refine (num14_any _ _).mono ?_
    rintro e w3 ⟨rfl, hbk⟩
    have R1 := R1.below hbk
    have M1 := M1.below hbk
    have R2 := R2.below hbk
    have M2 := M2.below hbk
    have L := L.below hbk
    have hB := below_through hbk hB.size hB
    clear hbk
    have R3 := (VarB.newAt w3 [.int .i64 1, .int .i64 1, .string ⟨#[]⟩] 41 (B := w3.heap.size) (by simp))
    have hbc := ((Below.refl w3.heap.size w3).alloc (by simp; try omega) (Obj.cells #[.int .i64 1, .int .i64 1, .string ⟨#[]⟩] 41))
    have R1 := R1.below hbc
    have M1 := M1.below hbc
    have R2 := R2.below hbc
    have M2 := M2.below hbc
    have L := L.below hbc
    have hB := below_through hbc hB.size hB
    clear hbc
    go_wp2_with fail
    go_at_call 62
    refine (num14_any _ _).mono ?_
    rintro e w4 ⟨rfl, hbk⟩
    have R1 := R1.below hbk
    have M1 := M1.below hbk
    have R2 := R2.below hbk
    have M2 := M2.below hbk
    have L := L.below hbk
    have R3 := R3.below hbk
    have hB := below_through hbk hB.size hB
    clear hbk
    have R4 := (((((VarB.newAt w4 [.int .i64 1, .int .i64 2, .string ⟨#[]⟩] 41 (B := w4.heap.size) (by simp)).alloc (Obj.cells #[.slice (some ⟨w3.heap.size, 0, none⟩) 1 1, .int .i64 (-1), .slice (some ⟨w4.heap.size, 0, none⟩) 1 1, .int .i64 1] 80)).alloc (Obj.cells #[.string ⟨#[116]⟩, .slice (some ⟨w4.heap.size + 1, 0, none⟩) 2 2] 65)).alloc (Obj.cells #[.string ⟨#[116]⟩, .string ⟨#[117]⟩] 9)).alloc (Obj.cells #[.int .i64 1, .int .i64 1] 3))
    have M3 := ((((VarB.newAt (w4.alloc (Obj.cells #[.int .i64 1, .int .i64 2, .string ⟨#[]⟩] 41)) [.slice (some ⟨w3.heap.size, 0, none⟩) 1 1, .int .i64 (-1), .slice (some ⟨w4.heap.size, 0, none⟩) 1 1, .int .i64 1] 80 (B := w4.heap.size + 1) (by simp)).alloc (Obj.cells #[.string ⟨#[116]⟩, .slice (some ⟨w4.heap.size + 1, 0, none⟩) 2 2] 65)).alloc (Obj.cells #[.string ⟨#[116]⟩, .string ⟨#[117]⟩] 9)).alloc (Obj.cells #[.int .i64 1, .int .i64 1] 3))
    have C := (((VarB.newAt ((w4.alloc (Obj.cells #[.int .i64 1, .int .i64 2, .string ⟨#[]⟩] 41)).alloc (Obj.cells #[.slice (some ⟨w3.heap.size, 0, none⟩) 1 1, .int .i64 (-1), .slice (some ⟨w4.heap.size, 0, none⟩) 1 1, .int .i64 1] 80)) [.string ⟨#[116]⟩, .slice (some ⟨w4.heap.size + 1, 0, none⟩) 2 2] 65 (B := w4.heap.size + 1 + 1) (by simp)).alloc (Obj.cells #[.string ⟨#[116]⟩, .string ⟨#[117]⟩] 9)).alloc (Obj.cells #[.int .i64 1, .int .i64 1] 3))
    have F := ((VarB.newAt (((w4.alloc (Obj.cells #[.int .i64 1, .int .i64 2, .string ⟨#[]⟩] 41)).alloc (Obj.cells #[.slice (some ⟨w3.heap.size, 0, none⟩) 1 1, .int .i64 (-1), .slice (some ⟨w4.heap.size, 0, none⟩) 1 1, .int .i64 1] 80)).alloc (Obj.cells #[.string ⟨#[116]⟩, .slice (some ⟨w4.heap.size + 1, 0, none⟩) 2 2] 65)) [.string ⟨#[116]⟩, .string ⟨#[117]⟩] 9 (B := w4.heap.size + 1 + 1 + 1) (by simp)).alloc (Obj.cells #[.int .i64 1, .int .i64 1] 3))
    have Q := (VarB.newAt ((((w4.alloc (Obj.cells #[.int .i64 1, .int .i64 2, .string ⟨#[]⟩] 41)).alloc (Obj.cells #[.slice (some ⟨w3.heap.size, 0, none⟩) 1 1, .int .i64 (-1), .slice (some ⟨w4.heap.size, 0, none⟩) 1 1, .int .i64 1] 80)).alloc (Obj.cells #[.string ⟨#[116]⟩, .slice (some ⟨w4.heap.size + 1, 0, none⟩) 2 2] 65)).alloc (Obj.cells #[.string ⟨#[116]⟩, .string ⟨#[117]⟩] 9)) [.int .i64 1, .int .i64 1] 3 (B := w4.heap.size + 1 + 1 + 1 + 1) (by simp))
    have hbc := ((((((Below.refl w4.heap.size w4).alloc (by simp; try omega) (Obj.cells #[.int .i64 1, .int .i64 2, .string ⟨#[]⟩] 41)).alloc (by simp; try omega) (Obj.cells #[.slice (some ⟨w3.heap.size, 0, none⟩) 1 1, .int .i64 (-1), .slice (some ⟨w4.heap.size, 0, none⟩) 1 1, .int .i64 1] 80)).alloc (by simp; try omega) (Obj.cells #[.string ⟨#[116]⟩, .slice (some ⟨w4.heap.size + 1, 0, none⟩) 2 2] 65)).alloc (by simp; try omega) (Obj.cells #[.string ⟨#[116]⟩, .string ⟨#[117]⟩] 9)).alloc (by simp; try omega) (Obj.cells #[.int .i64 1, .int .i64 1] 3))
    have R1 := R1.below hbc
    have M1 := M1.below hbc
    have R2 := R2.below hbc
    have M2 := M2.below hbc
    have L := L.below hbc
    have R3 := R3.below hbc
    have hB := below_through hbc hB.size hB
    clear hbc
    go_wp2_with fail
    go_at_call 63
    refine (col14_any _ _).mono ?_
    rintro e w5 ⟨rfl, hbk⟩
    have R1 := R1.below hbk
    have M1 := M1.below hbk
    have R2 := R2.below hbk
    have M2 := M2.below hbk
    have L := L.below hbk
    have R3 := R3.below hbk
    have R4 := R4.below hbk
    have M3 := M3.below hbk
    have C := C.below hbk
    have F := F.below hbk
    have Q := Q.below hbk
    have hB := below_through hbk hB.size hB
    clear hbk
    go_wp2_with fail
    go_at_call 63
    refine (col14_any _ _).mono ?_
    rintro e w6 ⟨rfl, hbk⟩
    have R1 := R1.below hbk
    have M1 := M1.below hbk
    have R2 := R2.below hbk
    have M2 := M2.below hbk
    have L := L.below hbk
    have R3 := R3.below hbk
    have R4 := R4.below hbk
    have M3 := M3.below hbk
    have C := C.below hbk
    have F := F.below hbk
    have Q := Q.below hbk
    have hB := below_through hbk hB.size hB
    clear hbk
    go_wp2_with fail
    go_at_call 63
    refine (col14_any _ _).mono ?_
    rintro e w7 ⟨rfl, hbk⟩
    have R1 := R1.below hbk
    have M1 := M1.below hbk
    have R2 := R2.below hbk
    have M2 := M2.below hbk
    have L := L.below hbk
    have R3 := R3.below hbk
    have R4 := R4.below hbk
    have M3 := M3.below hbk
    have C := C.below hbk
    have F := F.below hbk
    have Q := Q.below hbk
    have hB := below_through hbk hB.size hB
    clear hbk
    have O := (((VarB.newAt w7 [.int .i64 0, .int .i64 1, .int .i64 0, .int .i64 0, .int .i64 0, .string ⟨#[]⟩, .slice none 0 0, .string ⟨#[]⟩, .int .i64 0] 55 (B := w7.heap.size) (by simp)).alloc (Obj.cells #[.bool false, .slice (some ⟨w4.heap.size + 1 + 1 + 1, 0, none⟩) 2 2, .slice (some ⟨w4.heap.size + 1 + 1 + 1 + 1, 0, none⟩) 2 2, .int .i64 1, .int .i64 4, .int .i64 1, .int .i64 1, .int .i64 0, .int .i64 0, .string ⟨#[]⟩, .slice none 0 0, .int .i64 1, .int .i64 0, .int .i64 0, .int .i64 0, .string ⟨#[]⟩, .slice none 0 0, .slice none 0 0, .slice none 0 0, .slice (some ⟨w7.heap.size, 0, none⟩) 1 1] 50)).alloc (Obj.cells #[.slice (some ⟨w7.heap.size + 1, 0, none⟩) 1 1] 24))
    have P := ((VarB.newAt (w7.alloc (Obj.cells #[.int .i64 0, .int .i64 1, .int .i64 0, .int .i64 0, .int .i64 0, .string ⟨#[]⟩, .slice none 0 0, .string ⟨#[]⟩, .int .i64 0] 55)) [.bool false, .slice (some ⟨w4.heap.size + 1 + 1 + 1, 0, none⟩) 2 2, .slice (some ⟨w4.heap.size + 1 + 1 + 1 + 1, 0, none⟩) 2 2, .int .i64 1, .int .i64 4, .int .i64 1, .int .i64 1, .int .i64 0, .int .i64 0, .string ⟨#[]⟩, .slice none 0 0, .int .i64 1, .int .i64 0, .int .i64 0, .int .i64 0, .string ⟨#[]⟩, .slice none 0 0, .slice none 0 0, .slice none 0 0, .slice (some ⟨w7.heap.size, 0, none⟩) 1 1] 50 (B := w7.heap.size + 1) (by simp)).alloc (Obj.cells #[.slice (some ⟨w7.heap.size + 1, 0, none⟩) 1 1] 24))
    have B := (VarB.newAt ((w7.alloc (Obj.cells #[.int .i64 0, .int .i64 1, .int .i64 0, .int .i64 0, .int .i64 0, .string ⟨#[]⟩, .slice none 0 0, .string ⟨#[]⟩, .int .i64 0] 55)).alloc (Obj.cells #[.bool false, .slice (some ⟨w4.heap.size + 1 + 1 + 1, 0, none⟩) 2 2, .slice (some ⟨w4.heap.size + 1 + 1 + 1 + 1, 0, none⟩) 2 2, .int .i64 1, .int .i64 4, .int .i64 1, .int .i64 1, .int .i64 0, .int .i64 0, .string ⟨#[]⟩, .slice none 0 0, .int .i64 1, .int .i64 0, .int .i64 0, .int .i64 0, .string ⟨#[]⟩, .slice none 0 0, .slice none 0 0, .slice none 0 0, .slice (some ⟨w7.heap.size, 0, none⟩) 1 1] 50)) [.slice (some ⟨w7.heap.size + 1, 0, none⟩) 1 1] 24 (B := w7.heap.size + 1 + 1) (by simp))
    have hbc := ((((Below.refl w7.heap.size w7).alloc (by simp; try omega) (Obj.cells #[.int .i64 0, .int .i64 1, .int .i64 0, .int .i64 0, .int .i64 0, .string ⟨#[]⟩, .slice none 0 0, .string ⟨#[]⟩, .int .i64 0] 55)).alloc (by simp; try omega) (Obj.cells #[.bool false, .slice (some ⟨w4.heap.size + 1 + 1 + 1, 0, none⟩) 2 2, .slice (some ⟨w4.heap.size + 1 + 1 + 1 + 1, 0, none⟩) 2 2, .int .i64 1, .int .i64 4, .int .i64 1, .int .i64 1, .int .i64 0, .int .i64 0, .string ⟨#[]⟩, .slice none 0 0, .int .i64 1, .int .i64 0, .int .i64 0, .int .i64 0, .string ⟨#[]⟩, .slice none 0 0, .slice none 0 0, .slice none 0 0, .slice (some ⟨w7.heap.size, 0, none⟩) 1 1] 50)).alloc (by simp; try omega) (Obj.cells #[.slice (some ⟨w7.heap.size + 1, 0, none⟩) 1 1] 24))
    have R1 := R1.below hbc
    have M1 := M1.below hbc
    have R2 := R2.below hbc
    have M2 := M2.below hbc
    have L := L.below hbc
    have R3 := R3.below hbc
    have R4 := R4.below hbc
    have M3 := M3.below hbc
    have C := C.below hbc
    have F := F.below hbc
    have Q := Q.below hbc
    have hB := below_through hbc hB.size hB
    clear hbc
    have hM : M14 w (w1.heap.size) (w2.heap.size) (w3.heap.size) (w4.heap.size) (w1.heap.size + 1) (w2.heap.size + 1) (w4.heap.size + 1) (w2.heap.size + 1 + 1) (w4.heap.size + 1 + 1) (w4.heap.size + 1 + 1 + 1) (w4.heap.size + 1 + 1 + 1 + 1) (w7.heap.size) (w7.heap.size + 1) (w7.heap.size + 1 + 1) (((w7.alloc (Obj.cells #[.int .i64 0, .int .i64 1, .int .i64 0, .int .i64 0, .int .i64 0, .string ⟨#[]⟩, .slice none 0 0, .string ⟨#[]⟩, .int .i64 0] 55)).alloc (Obj.cells #[.bool false, .slice (some ⟨w4.heap.size + 1 + 1 + 1, 0, none⟩) 2 2, .slice (some ⟨w4.heap.size + 1 + 1 + 1 + 1, 0, none⟩) 2 2, .int .i64 1, .int .i64 4, .int .i64 1, .int .i64 1, .int .i64 0, .int .i64 0, .string ⟨#[]⟩, .slice none 0 0, .int .i64 1, .int .i64 0, .int .i64 0, .int .i64 0, .string ⟨#[]⟩, .slice none 0 0, .slice none 0 0, .slice none 0 0, .slice (some ⟨w7.heap.size, 0, none⟩) 1 1] 50)).alloc (Obj.cells #[.slice (some ⟨w7.heap.size + 1, 0, none⟩) 1 1] 24)) := ⟨R1, R2, R3, R4, M1, M2, M3, L, C, F, Q, O, P, B, hB⟩
    clear R1 R2 R3 R4 M1 M2 M3 L C F Q O P B hB
    have hMB0 := hM.B
    obtain ⟨W, hW⟩ : ∃ W, (((w7.alloc (Obj.cells #[.int .i64 0, .int .i64 1, .int .i64 0, .int .i64 0, .int .i64 0, .string ⟨#[]⟩, .slice none 0 0, .string ⟨#[]⟩, .int .i64 0] 55)).alloc (Obj.cells #[.bool false, .slice (some ⟨w4.heap.size + 1 + 1 + 1, 0, none⟩) 2 2, .slice (some ⟨w4.heap.size + 1 + 1 + 1 + 1, 0, none⟩) 2 2, .int .i64 1, .int .i64 4, .int .i64 1, .int .i64 1, .int .i64 0, .int .i64 0, .string ⟨#[]⟩, .slice none 0 0, .int .i64 1, .int .i64 0, .int .i64 0, .int .i64 0, .string ⟨#[]⟩, .slice none 0 0, .slice none 0 0, .slice none 0 0, .slice (some ⟨w7.heap.size, 0, none⟩) 1 1] 50)).alloc (Obj.cells #[.slice (some ⟨w7.heap.size + 1, 0, none⟩) 1 1] 24)) = W := ⟨_, rfl⟩
    rw [hW] at hM
    have HW := hid0 hW
    clear hW
    have hO := hM.old
    have hC := hM.ch
    have hP := hM.plan
    have CRw := dRows_any _ 1 _ _ 2 _ _ 1 _ W hP hO hC (fun x hx => by simp only [exOld, List.mem_cons, List.not_mem_nil, or_false] at hx; rcases hx with rfl | rfl <;> (show (1 : Nat) ≤ _; omega)) (fun x hx => by obtain rfl := List.mem_singleton.1 hx; show (2 : Nat) ≤ _; omega)
    rw [ex14_rows] at CRw
    have CRw := hid0 (show Calls Tryz.prog 27 #[.agg #[.slice (some ⟨w7.heap.size + 1, 0, none⟩) 1 1], .slice (some ⟨w2.heap.size + 1 + 1, 0, none⟩) 2 2, .slice (some ⟨w4.heap.size + 1 + 1, 0, none⟩) 1 1] W _ from CRw)
    have CCo := hid0 (fun (W2 : World) (hW : Below W.heap.size W W2) => (show Calls Tryz.prog 57 #[.agg #[.slice (some ⟨w7.heap.size + 1, 0, none⟩) 1 1], .slice (some ⟨w2.heap.size + 1 + 1, 0, none⟩) 2 2, .slice (some ⟨w4.heap.size + 1 + 1, 0, none⟩) 1 1] W2 (fun e w' => e = .returned (.int .i64 2) ∧ Below W2.heap.size W2 w') from by
      have := dCost_any _ 1 _ _ 2 _ _ 1 _ W2 (hP.later hW) (by show (2 : Nat) ≤ _; omega) (hO.later hW) (hC.later hW) (fewN_of (ex14_ready ..) (by rfl) (fun x hx => by simp only [exOld, List.mem_cons, List.not_mem_nil, or_false] at hx; rcases hx with rfl | rfl <;> (show (1 : Nat) ≤ _; omega)) (fun x hx => by obtain rfl := List.mem_singleton.1 hx; show (2 : Nat) ≤ _; omega))
      rw [ex14_cost] at this
      exact this))
    have HM := hid0 hM
    have hMB := hM.B
    clear hO hC hP hM
    go_wp2_with (first | ((with_reducible refine wp_getB hMB0.at_ Tryz.underlying24 ?_ ?_ ?_ ?_); (rfl); (exact sizePlan); (rfl); simp only [Act.put]) | (go_at_call 27; go_must (rw [HW.out]; refine CRw.out.mono ?_; rintro e w8 ⟨⟨a8, c8, E8, rfl, hc8, hE8, hm8⟩, hb8⟩; (obtain ⟨⟨a1, c1, r1, n1⟩, ⟨a2, c2, r2, n2⟩, rfl, h1, h2⟩ := two_of14 hm8); (obtain rfl : n1 = -1 := congrArg Prod.snd h1); (obtain rfl : n2 = 1 := congrArg Prod.snd h2); (obtain ⟨be, oe, rfl, hcl⟩ := hE8.1 (by simp)); (have q1 := (hcl 0 (by simp)).2); (have p1 := (hcl 1 (by simp)).2); (have hMB8 := hMB.below hb8); (have HB8 := hid0 hb8); clear hcl hE8 hm8 h1 h2 hc8 hb8)) | ((with_reducible refine wp_getG ?_ hMB8.at_ Tryz.underlying24 ?_ ?_ ?_ ?_); (rfl); (rfl); (exact sizePlan); (rfl); (try simp only [Act.put])) | (go_at_call 57; go_must (refine (CCo.out _ HB8.out).mono ?_; rintro e w9 ⟨rfl, hb9⟩)) | fail)
    go_ret
    exact ⟨rfl, below_through hb9 (below_through HB8.out HM.out.b.size HM.out.b).size (below_through HB8.out HM.out.b.size HM.out.b)⟩
end Go.Proofs.YtfdkajefcplfjaaGreat
