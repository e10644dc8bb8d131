/- The project's Eval, of an expression of any depth: a contract of the call, in whatever memory. Conditions: an expression's and a row's cells are known (what came in reads so). -/
import Derived.Test.YtolcebbpbihnoaaYb
import Derived.Test.YtolcebbpbihnoaaYv
import Derived.Test.YtolcebbpbihnoaaWt
namespace Go.Proofs.Ytolcebbpbihnoaa
open Go.RowKit

structure EvOk (n : Nat) : Prop where
  out : ∀ (x : Cx) (a : Option Addr) (cc : Nat) (row : List Val) (w : World), CxAt w n x → RowIn w a row → Calls Try.prog 8 #[x.val, .slice a row.length cc] w (EvAns (evC row x) w)
structure EvHalf (w : World) (u v : Value) (r : Val × Int) : Prop where
  out : ∀ W, Below w.heap.size w W → Calls Try.prog 8 #[u, v] W (EvAns r W)
theorem EvOk.half {n : Nat} (H : EvOk n) {x : Cx} {a : Option Addr} {cc : Nat} {row : List Val} {w : World} (hx : CxAt w n x) (hr : RowIn w a row) : EvHalf w x.val (.slice a row.length cc) (evC row x) :=
  ⟨fun W hb => H.out x a cc row W (hx.later hb) (hr.later hb)⟩
theorem ev_not2 {row : List Val} {k a : Int} {v : Val} {p : Option Addr} {c : Nat} {ys : List Cx} (hk : k = 3 ∨ k = 4 ∨ k = 5) (hl : ys.length ≠ 2) : evC row (.mk k a v p c ys) = (zV, 8) := by
  rw [evC, evL_map]; unfold evOf; rw [if_neg (by omega), if_neg (by omega), if_pos hk]
  match ys, hl with
  | [], _ => rfl
  | [_], _ => rfl
  | [_, _], h => exact absurd rfl h
  | _ :: _ :: _ :: _, _ => rfl
theorem ev_two {row : List Val} {k a : Int} {v : Val} {p : Option Addr} {c : Nat} {x y : Cx} (hk : k = 3 ∨ k = 4 ∨ k = 5) : evC row (.mk k a v p c [x, y]) = twoV k (evC row x) (evC row y) := by
  rw [evC, evL_map]; unfold evOf; rw [if_neg (by omega), if_neg (by omega), if_pos hk]; rfl
theorem ev_not1 {row : List Val} {a : Int} {v : Val} {p : Option Addr} {c : Nat} {ys : List Cx} (hl : ys.length ≠ 1) : evC row (.mk 6 a v p c ys) = (zV, 8) := by
  rw [evC, evL_map]; unfold evOf; rw [if_neg (by omega), if_neg (by omega), if_neg (by omega), if_pos rfl]
  match ys, hl with
  | [], _ => rfl
  | [_], h => exact absurd rfl h
  | _ :: _ :: _, _ => rfl
theorem ev_one {row : List Val} {a : Int} {v : Val} {p : Option Addr} {c : Nat} {x : Cx} : evC row (.mk 6 a v p c [x]) = negV (evC row x) := by
  rw [evC, evL_map]; unfold evOf; rw [if_neg (by omega), if_neg (by omega), if_neg (by omega), if_pos rfl]; rfl
theorem two_err1 {k f : Int} {x : Val} {y : Val × Int} (h : (f != 0) = true) : twoV k (x, f) y = (zV, f) := by
  unfold twoV; rw [if_pos (by simpa using h)]
theorem two_err2 {k f g : Int} {x y : Val} (h : (f != 0) = false) (h2 : (g != 0) = true) : twoV k (x, f) (y, g) = (zV, g) := by
  unfold twoV; rw [if_neg (by simpa using h), if_pos (by simpa using h2)]
theorem two_ok {k f g : Int} {x y : Val} (h : (f != 0) = false) (h2 : (g != 0) = false) : twoV k (x, f) (y, g) = (⟨cK k x.k x.n y.k y.n, cN k x.k x.n y.k y.n, ⟨#[]⟩⟩, cE k x.k x.n y.k y.n) := by
  unfold twoV; rw [if_neg (by simpa using h), if_neg (by simpa using h2)]
theorem neg_err {f : Int} {x : Val} (h : (f != 0) = true) : negV (x, f) = (zV, f) := by
  unfold negV; rw [if_pos (by simpa using h)]
theorem neg_ok {f : Int} {x : Val} (h : (f != 0) = false) : negV (x, f) = (⟨cK 4 1 0 x.k x.n, cN 4 1 0 x.k x.n, ⟨#[]⟩⟩, cE 4 1 0 x.k x.n) := by
  unfold negV; rw [if_neg (by simpa using h)]

set_option maxHeartbeats 2000000 in
theorem reckoned_step {n : Nat} (IH : EvOk n) (k q : Int) (v : Val) (p : Option Addr) (c : Nat) (ys : List Cx) (a : Option Addr) (cc : Nat) (row : List Val) (w : World) (hx : CxAt w (n + 1) (.mk k q v p c ys)) (hr : RowIn w a row) (hk : k = 3 ∨ k = 4 ∨ k = 5) :
    Calls Try.prog 23 #[.agg #[.int .i64 k, .int .i64 q, .int .i64 v.k, .int .i64 v.n, .string v.s, .slice p ys.length c], .slice a row.length cc] w (EvAns (evC row (.mk k q v p c ys)) w) := by
  obtain ⟨h0, hA⟩ := hx
  by_cases hl : ys.length = 2
  · obtain ⟨x, y, rfl⟩ : ∃ x y, ys = [x, y] := by
      match ys, hl with
      | [x, y], _ => exact ⟨x, y, rfl⟩
    have C := hid0 (ev_two (row := row) (a := q) (v := v) (p := p) (c := c) (x := x) (y := y) hk)
    have H1 := IH.half (cc := cc) (hA x (by simp)) hr
    have H2 := IH.half (cc := cc) (hA y (by simp)) hr
    have i1 := (hA x (by simp)).i hr.i
    have i2 := (hA y (by simp)).i hr.i
    obtain ⟨b, o, rfl, hb, hX⟩ := h0.arg 0 (by simp)
    obtain ⟨b', o', e, _, hY⟩ := h0.arg 1 (by simp)
    obtain ⟨rfl, rfl⟩ : b = b' ∧ o = o' := by cases e; exact ⟨rfl, rfl⟩
    clear hA e h0 IH hr
    generalize evC row x = r1 at C H1 i1
    generalize evC row y = r2 at C H2 i2
    obtain ⟨⟨k1, n1, s1⟩, f1⟩ := r1
    obtain ⟨⟨k2, n2, s2⟩, f2⟩ := r2
    obtain ⟨kx, ax, vx, px, cx, yx⟩ := x
    obtain ⟨ky, ay, vy, py, cy, yy⟩ := y
    obtain ⟨VA, VB⟩ := VarB.two (w := w) [.int .i64 k, .int .i64 q, .int .i64 v.k, .int .i64 v.n, .string v.s, .slice (some ⟨b, o, none⟩) 2 c] [.int .i64 0, .int .i64 0, .string ⟨#[]⟩] 26 23
    have x0 := rng hX 0 rfl
    have x1 := rng hX 1 rfl
    have x2 := rng hX 2 rfl
    have x3 := rng hX 3 rfl
    have x4 := rng hX 4 rfl
    have x5 := rng hX 5 rfl
    simp only [Nat.zero_mul, Nat.add_zero] at x0 x1 x2 x3 x4 x5
    replace hX := hid0 hX
    replace hY := hid0 hY
    have a0 := VA.cell 0 rfl
    have a5 := VA.cell 5 rfl
    replace VA := hid0 VA
    replace VB := hid0 VB
    have I1 := hid0 i1
    have I2 := hid0 i2
    clear i1 i2
    go_enter Try.func23, Try.ntmps23
    go_wp2_with fail
    go_at_call 8
    refine (H1.out _ (by go_grown)).mono ?_
    rintro e w1 ⟨rfl, hb1⟩
    have VA1 := VA.out.below hb1
    have VB1 := VB.out.below hb1
    have hB1 : Below w.heap.size w w1 := below_through hb1 (by simp; omega) (by go_grown)
    replace VA1 := hid0 VA1
    replace VB1 := hid0 VB1
    have a5 := VA1.out.cell 5 rfl
    have y0 := cell_later hB1 (rng hY.out 0 rfl)
    have y1 := cell_later hB1 (rng hY.out 1 rfl)
    have y2 := cell_later hB1 (rng hY.out 2 rfl)
    have y3 := cell_later hB1 (rng hY.out 3 rfl)
    have y4 := cell_later hB1 (rng hY.out 4 rfl)
    have y5 := cell_later hB1 (rng hY.out 5 rfl)
    simp only [Nat.one_mul, Nat.add_zero, Nat.add_assoc, Nat.reduceAdd] at y0 y1 y2 y3 y4 y5
    have z1 : w.heap.size + 1 < w1.heap.size := VB1.out.lt
    have z2 : w.heap.size < w1.heap.size := VA1.out.lt
    have z3 : b < w1.heap.size := by omega
    clear hb1
    cases hf1 : (f1 != 0)
    · go_wp2_with fail
      go_at_call 8
      refine (H2.out _ (by go_grown)).mono ?_
      rintro e w2 ⟨rfl, hb2⟩
      clear y0 y1 y2 y3 y4 y5 a5
      have VA2 := (VA1.out.alloc (.cells #[.int .i64 k1, .int .i64 n1, .string s1] 23)).below hb2
      have VB2 := (VB1.out.alloc (.cells #[.int .i64 k1, .int .i64 n1, .string s1] 23)).below hb2
      have VC2 := (VarB.new w1 [.int .i64 k1, .int .i64 n1, .string s1] 23).below hb2
      have hB2 : Below w.heap.size w w2 := below_through hb2 (by simp; omega) (hB1.alloc (by omega) _)
      have a0 := VA2.cell 0 rfl
      have m0 := VC2.cell 0 rfl
      have m1 := VC2.cell 1 rfl
      have m2 := VC2.cell 2 rfl
      have z4 : w.heap.size + 1 < w2.heap.size := VB2.lt
      have z5 : w.heap.size < w2.heap.size := VA2.lt
      have z6 : w1.heap.size < w2.heap.size := VC2.lt
      replace VA2 := hid0 VA2
      replace VB2 := hid0 VB2
      replace VC2 := hid0 VC2
      clear hb2
      cases hf2 : (f2 != 0)
      · have b1 := I1.out.1
        have b2 := I1.out.2.1
        have b3 := I2.out.1
        have b4 := I2.out.2.1
        go_wp2_with fail
        go_at_call 45
        refine (calc_any _ _ _ _ _ _ _ _ b1 b2 b3 b4).mono ?_
        rintro e w3 ⟨rfl, hb3⟩
        have VB3 := (VB2.out.alloc (.cells #[.int .i64 k2, .int .i64 n2, .string s2] 23)).below hb3
        have hB3 : Below w.heap.size w w3 := below_through hb3 (by simp; omega) (hB2.alloc (by omega) _)
        have r0 := VB3.cell 0 rfl
        have g0 := VB3.frz 0 (by decide)
        have r1 := VB3.cell 1 rfl
        have g1 := VB3.frz 1 (by decide)
        have r2 := VB3.cell 2 rfl
        have g2 := VB3.frz 2 (by decide)
        go_wp2
        exact end_vt (VB3.puts [.int .i64 (cK k k1 n1 k2 n2), .int .i64 (cN k k1 n1 k2 n2), .string ⟨#[]⟩] rfl) rfl rfl rfl _ Try.underlying23 rfl infoV rfl (EvAns.of (C.out.trans (two_ok hf1 hf2)) (((hB3.setCell (by simp) _).setCell (by simp) _).setCell (by simp) _))
      · have r0 := VB2.out.cell 0 rfl
        have g0 := VB2.out.frz 0 (by decide)
        have r1 := VB2.out.cell 1 rfl
        have g1 := VB2.out.frz 1 (by decide)
        have r2 := VB2.out.cell 2 rfl
        have g2 := VB2.out.frz 2 (by decide)
        go_wp2
        exact end_vt ((VB2.out.puts [.int .i64 0, .int .i64 0, .string ⟨#[]⟩] rfl).alloc _) rfl rfl rfl _ Try.underlying23 rfl infoV rfl (EvAns.of (C.out.trans (two_err2 hf1 hf2)) ((((hB2.setCell (by simp) _).setCell (by simp) _).setCell (by simp) _).alloc (by simp; omega) _))
    · have r0 := VB1.out.cell 0 rfl
      have g0 := VB1.out.frz 0 (by decide)
      have r1 := VB1.out.cell 1 rfl
      have g1 := VB1.out.frz 1 (by decide)
      have r2 := VB1.out.cell 2 rfl
      have g2 := VB1.out.frz 2 (by decide)
      go_wp2
      exact end_vt ((VB1.out.puts [.int .i64 0, .int .i64 0, .string ⟨#[]⟩] rfl).alloc _) rfl rfl rfl _ Try.underlying23 rfl infoV rfl (EvAns.of (C.out.trans (two_err1 hf1)) ((((hB1.setCell (by simp) _).setCell (by simp) _).setCell (by simp) _).alloc (by simp; omega) _))
  · have C := hid0 (ev_not2 (row := row) (a := q) (v := v) (p := p) (c := c) hk hl)
    generalize ys.length = m at *
    have hm : (((m : Nat) : Int) != 2) = true := by simp; omega
    go_enter Try.func23, Try.ntmps23
    go_wp2
    go_returns
    exact EvAns.of C.out (by go_grown)
end Go.Proofs.Ytolcebbpbihnoaa
