/- Several of my texts laid together, each as it was: Yq, Yr, Ys. Conditions: each names its own. -/
import Derived.Test.YtokkgikajammhaaGreatH2
import Derived.Test.YtokkgikajammhaaGreatH6
import Derived.Test.YtokkgikajammhaaGreatH7
/- The reference's Eval, of an expression of any depth: a contract of the call, in whatever memory. Conditions: an expression's and a row's cells are known (what came in reads so). -/
namespace Go.Proofs.YtokkgikajammhaaGreat
open Go.RowKit

structure EvOkR (n : Nat) : Prop where
  out : ∀ (x : Cx) (a : Option Addr) (cc : Nat) (row : List Val) (w : World), CxAt w n x → RowIn w a row → Calls Tryz.prog 188 #[x.val, .slice a row.length cc] w (EvAns (evC row x) w)
structure EvHalfR (w : World) (u v : Value) (r : Val × Int) : Prop where
  out : ∀ W, Below w.heap.size w W → Calls Tryz.prog 188 #[u, v] W (EvAns r W)
theorem EvOkR.half {n : Nat} (H : EvOkR n) {x : Cx} {a : Option Addr} {cc : Nat} {row : List Val} {w : World} (hx : CxAt w n x) (hr : RowIn w a row) : EvHalfR w x.val (.slice a row.length cc) (evC row x) :=
  ⟨fun W hb => H.out x a cc row W (hx.later hb) (hr.later hb)⟩
set_option maxHeartbeats 2000000 in
theorem refEval_1 (q : Int) (v : Val) (p : Option Addr) (c : Nat) (ys : List Cx) (a : Option Addr) (cc : Nat) (row : List Val) (w : World) (hr : RowIn w a row) :
    Calls Tryz.prog 188 #[.agg #[.int .i64 1, .int .i64 q, .int .i64 v.k, .int .i64 v.n, .string v.s, .slice p ys.length c], .slice a row.length cc] w (EvAns (evC row (.mk 1 q v p c ys)) w) := by
  have C := hid0 (show evC row (.mk 1 q v p c ys) = colV row q by rw [evC]; exact if_pos rfl)
  have R := hid0 hr.at_
  clear hr
  by_cases h0 : q < 0
  · have C2 := hid0 (col_neg (row := row) h0)
    go_enter Tryz.func188, Tryz.ntmps188
    go_wp2
    go_returns
    exact EvAns.of (C.out.trans C2.out) (by go_grown)
  obtain ⟨k, rfl⟩ : ∃ k : Nat, q = (k : Int) := ⟨q.toNat, by omega⟩
  by_cases h1 : k < row.length
  · have C2 := hid0 (col_in h1)
    obtain ⟨b, o, rfl, hc⟩ := R.out (by intro e; rw [e] at h1; exact absurd h1 (by simp))
    obtain ⟨x0, x1, x2⟩ := hc k h1
    have hb := World.block_lt_of_cell? w _ x0
    clear hc R
    go_enter Tryz.func188, Tryz.ntmps188
    go_wp2
    go_returns
    exact EvAns.of (C.out.trans C2.out) (by go_grown)
  · have C2 := hid0 (col_out (row := row) (k := k) (by omega))
    go_enter Tryz.func188, Tryz.ntmps188
    go_wp2
    go_returns
    exact EvAns.of (C.out.trans C2.out) (by go_grown)
set_option maxHeartbeats 2000000 in
theorem refEval_3 {n : Nat} (IH : EvOkR n) (q : Int) (v : Val) (p : Option Addr) (c : Nat) (ys : List Cx) (a : Option Addr) (cc : Nat) (row : List Val) (w : World) (hx : CxAt w (n + 1) (.mk 3 q v p c ys)) (hr : RowIn w a row) :
    Calls Tryz.prog 188 #[.agg #[.int .i64 3, .int .i64 q, .int .i64 v.k, .int .i64 v.n, .string v.s, .slice p ys.length c], .slice a row.length cc] w (EvAns (evC row (.mk 3 q v p c ys)) w) := by
  have hkk : (3 : Int) = 3 ∨ (3 : Int) = 4 ∨ (3 : Int) = 5 := by omega
  obtain ⟨h0, hA⟩ := hx
  by_cases hl : ys.length = 2
  · obtain ⟨x, y, rfl⟩ : ∃ x y, ys = [x, y] := by
      match ys, hl with
      | [x, y], _ => exact ⟨x, y, rfl⟩
    have C := hid0 (ev_two (row := row) (a := q) (v := v) (p := p) (c := c) (x := x) (y := y) hkk)
    have H1 := IH.half (cc := cc) (hA x (by simp)) hr
    have H2 := IH.half (cc := cc) (hA y (by simp)) hr
    have i1 := (hA x (by simp)).i hr.i
    have i2 := (hA y (by simp)).i hr.i
    obtain ⟨b, o, rfl, hb, hX⟩ := h0.arg 0 (by simp)
    obtain ⟨b', o', e, _, hY⟩ := h0.arg 1 (by simp)
    obtain ⟨rfl, rfl⟩ : b = b' ∧ o = o' := by cases e; exact ⟨rfl, rfl⟩
    clear hA e h0 IH hr
    generalize evC row x = r1 at C H1 i1
    generalize evC row y = r2 at C H2 i2
    obtain ⟨⟨k1, n1, s1⟩, f1⟩ := r1
    obtain ⟨⟨k2, n2, s2⟩, f2⟩ := r2
    obtain ⟨kx, ax, vx, px, cx, yx⟩ := x
    obtain ⟨ky, ay, vy, py, cy, yy⟩ := y
    obtain ⟨VA, VB⟩ := VarB.two (w := w) [.int .i64 3, .int .i64 q, .int .i64 v.k, .int .i64 v.n, .string v.s, .slice (some ⟨b, o, none⟩) 2 c] [.int .i64 0, .int .i64 0, .string ⟨#[]⟩] 38 35
    have x0 := rng hX 0 rfl
    have x1 := rng hX 1 rfl
    have x2 := rng hX 2 rfl
    have x3 := rng hX 3 rfl
    have x4 := rng hX 4 rfl
    have x5 := rng hX 5 rfl
    simp only [Nat.zero_mul, Nat.add_zero] at x0 x1 x2 x3 x4 x5
    replace hX := hid0 hX
    replace hY := hid0 hY
    have a0 := VA.cell 0 rfl
    have a5 := VA.cell 5 rfl
    replace VA := hid0 VA
    replace VB := hid0 VB
    have I1 := hid0 i1
    have I2 := hid0 i2
    clear i1 i2
    go_enter Tryz.func188, Tryz.ntmps188
    go_wp2_with fail
    go_at_call 188
    refine (H1.out _ (by go_grown)).mono ?_
    rintro e w1 ⟨rfl, hb1⟩
    have VA1 := VA.out.below hb1
    have VB1 := VB.out.below hb1
    have hB1 : Below w.heap.size w w1 := below_through hb1 (by simp; omega) (by go_grown)
    replace VA1 := hid0 VA1
    replace VB1 := hid0 VB1
    have a5 := VA1.out.cell 5 rfl
    have y0 := cell_later hB1 (rng hY.out 0 rfl)
    have y1 := cell_later hB1 (rng hY.out 1 rfl)
    have y2 := cell_later hB1 (rng hY.out 2 rfl)
    have y3 := cell_later hB1 (rng hY.out 3 rfl)
    have y4 := cell_later hB1 (rng hY.out 4 rfl)
    have y5 := cell_later hB1 (rng hY.out 5 rfl)
    simp only [Nat.one_mul, Nat.add_zero, Nat.add_assoc, Nat.reduceAdd] at y0 y1 y2 y3 y4 y5
    have z1 : w.heap.size + 1 < w1.heap.size := VB1.out.lt
    have z2 : w.heap.size < w1.heap.size := VA1.out.lt
    have z3 : b < w1.heap.size := by omega
    clear hb1
    cases hf1 : (f1 != 0)
    · go_wp2_with fail
      go_at_call 188
      refine (H2.out _ (by go_grown)).mono ?_
      rintro e w2 ⟨rfl, hb2⟩
      clear y0 y1 y2 y3 y4 y5 a5
      have VA2 := (VA1.out.alloc (.cells #[.int .i64 k1, .int .i64 n1, .string s1] 35)).below hb2
      have VB2 := (VB1.out.alloc (.cells #[.int .i64 k1, .int .i64 n1, .string s1] 35)).below hb2
      have VC2 := (VarB.new w1 [.int .i64 k1, .int .i64 n1, .string s1] 35).below hb2
      have hB2 : Below w.heap.size w w2 := below_through hb2 (by simp; omega) (hB1.alloc (by omega) _)
      have a0 := VA2.cell 0 rfl
      have m0 := VC2.cell 0 rfl
      have m1 := VC2.cell 1 rfl
      have m2 := VC2.cell 2 rfl
      have z4 : w.heap.size + 1 < w2.heap.size := VB2.lt
      have z5 : w.heap.size < w2.heap.size := VA2.lt
      have z6 : w1.heap.size < w2.heap.size := VC2.lt
      replace VA2 := hid0 VA2
      replace VB2 := hid0 VB2
      replace VC2 := hid0 VC2
      clear hb2
      cases hf2 : (f2 != 0)
      · have b1 := I1.out.1
        have b2 := I1.out.2.1
        have b3 := I2.out.1
        have b4 := I2.out.2.1
        go_wp2_with fail
        go_at_call 211
        refine (refCalc_any _ _ _ _ _ _ _ _ b1 b2 b3 b4).mono ?_
        rintro e w3 ⟨rfl, hb3⟩
        have VB3 := (VB2.out.alloc (.cells #[.int .i64 k2, .int .i64 n2, .string s2] 35)).below hb3
        have hB3 : Below w.heap.size w w3 := below_through hb3 (by simp; omega) (hB2.alloc (by omega) _)
        have r0 := VB3.cell 0 rfl
        have g0 := VB3.frz 0 (by decide)
        have r1 := VB3.cell 1 rfl
        have g1 := VB3.frz 1 (by decide)
        have r2 := VB3.cell 2 rfl
        have g2 := VB3.frz 2 (by decide)
        go_wp2
        exact end_vt (VB3.puts [.int .i64 (cK 3 k1 n1 k2 n2), .int .i64 (cN 3 k1 n1 k2 n2), .string ⟨#[]⟩] rfl) rfl rfl rfl _ Tryz.underlying35 rfl infoV rfl (EvAns.of (C.out.trans (two_ok hf1 hf2)) (((hB3.setCell (by simp) _).setCell (by simp) _).setCell (by simp) _))
      · have r0 := VB2.out.cell 0 rfl
        have g0 := VB2.out.frz 0 (by decide)
        have r1 := VB2.out.cell 1 rfl
        have g1 := VB2.out.frz 1 (by decide)
        have r2 := VB2.out.cell 2 rfl
        have g2 := VB2.out.frz 2 (by decide)
        go_wp2
        exact end_vt ((VB2.out.puts [.int .i64 0, .int .i64 0, .string ⟨#[]⟩] rfl).alloc _) rfl rfl rfl _ Tryz.underlying35 rfl infoV rfl (EvAns.of (C.out.trans (two_err2 hf1 hf2)) ((((hB2.setCell (by simp) _).setCell (by simp) _).setCell (by simp) _).alloc (by simp; omega) _))
    · have r0 := VB1.out.cell 0 rfl
      have g0 := VB1.out.frz 0 (by decide)
      have r1 := VB1.out.cell 1 rfl
      have g1 := VB1.out.frz 1 (by decide)
      have r2 := VB1.out.cell 2 rfl
      have g2 := VB1.out.frz 2 (by decide)
      go_wp2
      exact end_vt ((VB1.out.puts [.int .i64 0, .int .i64 0, .string ⟨#[]⟩] rfl).alloc _) rfl rfl rfl _ Tryz.underlying35 rfl infoV rfl (EvAns.of (C.out.trans (two_err1 hf1)) ((((hB1.setCell (by simp) _).setCell (by simp) _).setCell (by simp) _).alloc (by simp; omega) _))
  · have C := hid0 (ev_not2 (row := row) (a := q) (v := v) (p := p) (c := c) hkk hl)
    generalize ys.length = m at *
    have hm : (((m : Nat) : Int) != 2) = true := by simp; omega
    go_enter Tryz.func188, Tryz.ntmps188
    go_wp2
    go_returns
    exact EvAns.of C.out (by go_grown)
set_option maxHeartbeats 2000000 in
theorem refEval_4 {n : Nat} (IH : EvOkR n) (q : Int) (v : Val) (p : Option Addr) (c : Nat) (ys : List Cx) (a : Option Addr) (cc : Nat) (row : List Val) (w : World) (hx : CxAt w (n + 1) (.mk 4 q v p c ys)) (hr : RowIn w a row) :
    Calls Tryz.prog 188 #[.agg #[.int .i64 4, .int .i64 q, .int .i64 v.k, .int .i64 v.n, .string v.s, .slice p ys.length c], .slice a row.length cc] w (EvAns (evC row (.mk 4 q v p c ys)) w) := by
  have hkk : (4 : Int) = 3 ∨ (4 : Int) = 4 ∨ (4 : Int) = 5 := by omega
  obtain ⟨h0, hA⟩ := hx
  by_cases hl : ys.length = 2
  · obtain ⟨x, y, rfl⟩ : ∃ x y, ys = [x, y] := by
      match ys, hl with
      | [x, y], _ => exact ⟨x, y, rfl⟩
    have C := hid0 (ev_two (row := row) (a := q) (v := v) (p := p) (c := c) (x := x) (y := y) hkk)
    have H1 := IH.half (cc := cc) (hA x (by simp)) hr
    have H2 := IH.half (cc := cc) (hA y (by simp)) hr
    have i1 := (hA x (by simp)).i hr.i
    have i2 := (hA y (by simp)).i hr.i
    obtain ⟨b, o, rfl, hb, hX⟩ := h0.arg 0 (by simp)
    obtain ⟨b', o', e, _, hY⟩ := h0.arg 1 (by simp)
    obtain ⟨rfl, rfl⟩ : b = b' ∧ o = o' := by cases e; exact ⟨rfl, rfl⟩
    clear hA e h0 IH hr
    generalize evC row x = r1 at C H1 i1
    generalize evC row y = r2 at C H2 i2
    obtain ⟨⟨k1, n1, s1⟩, f1⟩ := r1
    obtain ⟨⟨k2, n2, s2⟩, f2⟩ := r2
    obtain ⟨kx, ax, vx, px, cx, yx⟩ := x
    obtain ⟨ky, ay, vy, py, cy, yy⟩ := y
    obtain ⟨VA, VB⟩ := VarB.two (w := w) [.int .i64 4, .int .i64 q, .int .i64 v.k, .int .i64 v.n, .string v.s, .slice (some ⟨b, o, none⟩) 2 c] [.int .i64 0, .int .i64 0, .string ⟨#[]⟩] 38 35
    have x0 := rng hX 0 rfl
    have x1 := rng hX 1 rfl
    have x2 := rng hX 2 rfl
    have x3 := rng hX 3 rfl
    have x4 := rng hX 4 rfl
    have x5 := rng hX 5 rfl
    simp only [Nat.zero_mul, Nat.add_zero] at x0 x1 x2 x3 x4 x5
    replace hX := hid0 hX
    replace hY := hid0 hY
    have a0 := VA.cell 0 rfl
    have a5 := VA.cell 5 rfl
    replace VA := hid0 VA
    replace VB := hid0 VB
    have I1 := hid0 i1
    have I2 := hid0 i2
    clear i1 i2
    go_enter Tryz.func188, Tryz.ntmps188
    go_wp2_with fail
    go_at_call 188
    refine (H1.out _ (by go_grown)).mono ?_
    rintro e w1 ⟨rfl, hb1⟩
    have VA1 := VA.out.below hb1
    have VB1 := VB.out.below hb1
    have hB1 : Below w.heap.size w w1 := below_through hb1 (by simp; omega) (by go_grown)
    replace VA1 := hid0 VA1
    replace VB1 := hid0 VB1
    have a5 := VA1.out.cell 5 rfl
    have y0 := cell_later hB1 (rng hY.out 0 rfl)
    have y1 := cell_later hB1 (rng hY.out 1 rfl)
    have y2 := cell_later hB1 (rng hY.out 2 rfl)
    have y3 := cell_later hB1 (rng hY.out 3 rfl)
    have y4 := cell_later hB1 (rng hY.out 4 rfl)
    have y5 := cell_later hB1 (rng hY.out 5 rfl)
    simp only [Nat.one_mul, Nat.add_zero, Nat.add_assoc, Nat.reduceAdd] at y0 y1 y2 y3 y4 y5
    have z1 : w.heap.size + 1 < w1.heap.size := VB1.out.lt
    have z2 : w.heap.size < w1.heap.size := VA1.out.lt
    have z3 : b < w1.heap.size := by omega
    clear hb1
    cases hf1 : (f1 != 0)
    · go_wp2_with fail
      go_at_call 188
      refine (H2.out _ (by go_grown)).mono ?_
      rintro e w2 ⟨rfl, hb2⟩
      clear y0 y1 y2 y3 y4 y5 a5
      have VA2 := (VA1.out.alloc (.cells #[.int .i64 k1, .int .i64 n1, .string s1] 35)).below hb2
      have VB2 := (VB1.out.alloc (.cells #[.int .i64 k1, .int .i64 n1, .string s1] 35)).below hb2
      have VC2 := (VarB.new w1 [.int .i64 k1, .int .i64 n1, .string s1] 35).below hb2
      have hB2 : Below w.heap.size w w2 := below_through hb2 (by simp; omega) (hB1.alloc (by omega) _)
      have a0 := VA2.cell 0 rfl
      have m0 := VC2.cell 0 rfl
      have m1 := VC2.cell 1 rfl
      have m2 := VC2.cell 2 rfl
      have z4 : w.heap.size + 1 < w2.heap.size := VB2.lt
      have z5 : w.heap.size < w2.heap.size := VA2.lt
      have z6 : w1.heap.size < w2.heap.size := VC2.lt
      replace VA2 := hid0 VA2
      replace VB2 := hid0 VB2
      replace VC2 := hid0 VC2
      clear hb2
      cases hf2 : (f2 != 0)
      · have b1 := I1.out.1
        have b2 := I1.out.2.1
        have b3 := I2.out.1
        have b4 := I2.out.2.1
        go_wp2_with fail
        go_at_call 211
        refine (refCalc_any _ _ _ _ _ _ _ _ b1 b2 b3 b4).mono ?_
        rintro e w3 ⟨rfl, hb3⟩
        have VB3 := (VB2.out.alloc (.cells #[.int .i64 k2, .int .i64 n2, .string s2] 35)).below hb3
        have hB3 : Below w.heap.size w w3 := below_through hb3 (by simp; omega) (hB2.alloc (by omega) _)
        have r0 := VB3.cell 0 rfl
        have g0 := VB3.frz 0 (by decide)
        have r1 := VB3.cell 1 rfl
        have g1 := VB3.frz 1 (by decide)
        have r2 := VB3.cell 2 rfl
        have g2 := VB3.frz 2 (by decide)
        go_wp2
        exact end_vt (VB3.puts [.int .i64 (cK 4 k1 n1 k2 n2), .int .i64 (cN 4 k1 n1 k2 n2), .string ⟨#[]⟩] rfl) rfl rfl rfl _ Tryz.underlying35 rfl infoV rfl (EvAns.of (C.out.trans (two_ok hf1 hf2)) (((hB3.setCell (by simp) _).setCell (by simp) _).setCell (by simp) _))
      · have r0 := VB2.out.cell 0 rfl
        have g0 := VB2.out.frz 0 (by decide)
        have r1 := VB2.out.cell 1 rfl
        have g1 := VB2.out.frz 1 (by decide)
        have r2 := VB2.out.cell 2 rfl
        have g2 := VB2.out.frz 2 (by decide)
        go_wp2
        exact end_vt ((VB2.out.puts [.int .i64 0, .int .i64 0, .string ⟨#[]⟩] rfl).alloc _) rfl rfl rfl _ Tryz.underlying35 rfl infoV rfl (EvAns.of (C.out.trans (two_err2 hf1 hf2)) ((((hB2.setCell (by simp) _).setCell (by simp) _).setCell (by simp) _).alloc (by simp; omega) _))
    · have r0 := VB1.out.cell 0 rfl
      have g0 := VB1.out.frz 0 (by decide)
      have r1 := VB1.out.cell 1 rfl
      have g1 := VB1.out.frz 1 (by decide)
      have r2 := VB1.out.cell 2 rfl
      have g2 := VB1.out.frz 2 (by decide)
      go_wp2
      exact end_vt ((VB1.out.puts [.int .i64 0, .int .i64 0, .string ⟨#[]⟩] rfl).alloc _) rfl rfl rfl _ Tryz.underlying35 rfl infoV rfl (EvAns.of (C.out.trans (two_err1 hf1)) ((((hB1.setCell (by simp) _).setCell (by simp) _).setCell (by simp) _).alloc (by simp; omega) _))
  · have C := hid0 (ev_not2 (row := row) (a := q) (v := v) (p := p) (c := c) hkk hl)
    generalize ys.length = m at *
    have hm : (((m : Nat) : Int) != 2) = true := by simp; omega
    go_enter Tryz.func188, Tryz.ntmps188
    go_wp2
    go_returns
    exact EvAns.of C.out (by go_grown)
set_option maxHeartbeats 2000000 in
theorem refEval_5 {n : Nat} (IH : EvOkR n) (q : Int) (v : Val) (p : Option Addr) (c : Nat) (ys : List Cx) (a : Option Addr) (cc : Nat) (row : List Val) (w : World) (hx : CxAt w (n + 1) (.mk 5 q v p c ys)) (hr : RowIn w a row) :
    Calls Tryz.prog 188 #[.agg #[.int .i64 5, .int .i64 q, .int .i64 v.k, .int .i64 v.n, .string v.s, .slice p ys.length c], .slice a row.length cc] w (EvAns (evC row (.mk 5 q v p c ys)) w) := by
  have hkk : (5 : Int) = 3 ∨ (5 : Int) = 4 ∨ (5 : Int) = 5 := by omega
  obtain ⟨h0, hA⟩ := hx
  by_cases hl : ys.length = 2
  · obtain ⟨x, y, rfl⟩ : ∃ x y, ys = [x, y] := by
      match ys, hl with
      | [x, y], _ => exact ⟨x, y, rfl⟩
    have C := hid0 (ev_two (row := row) (a := q) (v := v) (p := p) (c := c) (x := x) (y := y) hkk)
    have H1 := IH.half (cc := cc) (hA x (by simp)) hr
    have H2 := IH.half (cc := cc) (hA y (by simp)) hr
    have i1 := (hA x (by simp)).i hr.i
    have i2 := (hA y (by simp)).i hr.i
    obtain ⟨b, o, rfl, hb, hX⟩ := h0.arg 0 (by simp)
    obtain ⟨b', o', e, _, hY⟩ := h0.arg 1 (by simp)
    obtain ⟨rfl, rfl⟩ : b = b' ∧ o = o' := by cases e; exact ⟨rfl, rfl⟩
    clear hA e h0 IH hr
    generalize evC row x = r1 at C H1 i1
    generalize evC row y = r2 at C H2 i2
    obtain ⟨⟨k1, n1, s1⟩, f1⟩ := r1
    obtain ⟨⟨k2, n2, s2⟩, f2⟩ := r2
    obtain ⟨kx, ax, vx, px, cx, yx⟩ := x
    obtain ⟨ky, ay, vy, py, cy, yy⟩ := y
    obtain ⟨VA, VB⟩ := VarB.two (w := w) [.int .i64 5, .int .i64 q, .int .i64 v.k, .int .i64 v.n, .string v.s, .slice (some ⟨b, o, none⟩) 2 c] [.int .i64 0, .int .i64 0, .string ⟨#[]⟩] 38 35
    have x0 := rng hX 0 rfl
    have x1 := rng hX 1 rfl
    have x2 := rng hX 2 rfl
    have x3 := rng hX 3 rfl
    have x4 := rng hX 4 rfl
    have x5 := rng hX 5 rfl
    simp only [Nat.zero_mul, Nat.add_zero] at x0 x1 x2 x3 x4 x5
    replace hX := hid0 hX
    replace hY := hid0 hY
    have a0 := VA.cell 0 rfl
    have a5 := VA.cell 5 rfl
    replace VA := hid0 VA
    replace VB := hid0 VB
    have I1 := hid0 i1
    have I2 := hid0 i2
    clear i1 i2
    go_enter Tryz.func188, Tryz.ntmps188
    go_wp2_with fail
    go_at_call 188
    refine (H1.out _ (by go_grown)).mono ?_
    rintro e w1 ⟨rfl, hb1⟩
    have VA1 := VA.out.below hb1
    have VB1 := VB.out.below hb1
    have hB1 : Below w.heap.size w w1 := below_through hb1 (by simp; omega) (by go_grown)
    replace VA1 := hid0 VA1
    replace VB1 := hid0 VB1
    have a5 := VA1.out.cell 5 rfl
    have y0 := cell_later hB1 (rng hY.out 0 rfl)
    have y1 := cell_later hB1 (rng hY.out 1 rfl)
    have y2 := cell_later hB1 (rng hY.out 2 rfl)
    have y3 := cell_later hB1 (rng hY.out 3 rfl)
    have y4 := cell_later hB1 (rng hY.out 4 rfl)
    have y5 := cell_later hB1 (rng hY.out 5 rfl)
    simp only [Nat.one_mul, Nat.add_zero, Nat.add_assoc, Nat.reduceAdd] at y0 y1 y2 y3 y4 y5
    have z1 : w.heap.size + 1 < w1.heap.size := VB1.out.lt
    have z2 : w.heap.size < w1.heap.size := VA1.out.lt
    have z3 : b < w1.heap.size := by omega
    clear hb1
    cases hf1 : (f1 != 0)
    · go_wp2_with fail
      go_at_call 188
      refine (H2.out _ (by go_grown)).mono ?_
      rintro e w2 ⟨rfl, hb2⟩
      clear y0 y1 y2 y3 y4 y5 a5
      have VA2 := (VA1.out.alloc (.cells #[.int .i64 k1, .int .i64 n1, .string s1] 35)).below hb2
      have VB2 := (VB1.out.alloc (.cells #[.int .i64 k1, .int .i64 n1, .string s1] 35)).below hb2
      have VC2 := (VarB.new w1 [.int .i64 k1, .int .i64 n1, .string s1] 35).below hb2
      have hB2 : Below w.heap.size w w2 := below_through hb2 (by simp; omega) (hB1.alloc (by omega) _)
      have a0 := VA2.cell 0 rfl
      have m0 := VC2.cell 0 rfl
      have m1 := VC2.cell 1 rfl
      have m2 := VC2.cell 2 rfl
      have z4 : w.heap.size + 1 < w2.heap.size := VB2.lt
      have z5 : w.heap.size < w2.heap.size := VA2.lt
      have z6 : w1.heap.size < w2.heap.size := VC2.lt
      replace VA2 := hid0 VA2
      replace VB2 := hid0 VB2
      replace VC2 := hid0 VC2
      clear hb2
      cases hf2 : (f2 != 0)
      · have b1 := I1.out.1
        have b2 := I1.out.2.1
        have b3 := I2.out.1
        have b4 := I2.out.2.1
        go_wp2_with fail
        go_at_call 211
        refine (refCalc_any _ _ _ _ _ _ _ _ b1 b2 b3 b4).mono ?_
        rintro e w3 ⟨rfl, hb3⟩
        have VB3 := (VB2.out.alloc (.cells #[.int .i64 k2, .int .i64 n2, .string s2] 35)).below hb3
        have hB3 : Below w.heap.size w w3 := below_through hb3 (by simp; omega) (hB2.alloc (by omega) _)
        have r0 := VB3.cell 0 rfl
        have g0 := VB3.frz 0 (by decide)
        have r1 := VB3.cell 1 rfl
        have g1 := VB3.frz 1 (by decide)
        have r2 := VB3.cell 2 rfl
        have g2 := VB3.frz 2 (by decide)
        go_wp2
        exact end_vt (VB3.puts [.int .i64 (cK 5 k1 n1 k2 n2), .int .i64 (cN 5 k1 n1 k2 n2), .string ⟨#[]⟩] rfl) rfl rfl rfl _ Tryz.underlying35 rfl infoV rfl (EvAns.of (C.out.trans (two_ok hf1 hf2)) (((hB3.setCell (by simp) _).setCell (by simp) _).setCell (by simp) _))
      · have r0 := VB2.out.cell 0 rfl
        have g0 := VB2.out.frz 0 (by decide)
        have r1 := VB2.out.cell 1 rfl
        have g1 := VB2.out.frz 1 (by decide)
        have r2 := VB2.out.cell 2 rfl
        have g2 := VB2.out.frz 2 (by decide)
        go_wp2
        exact end_vt ((VB2.out.puts [.int .i64 0, .int .i64 0, .string ⟨#[]⟩] rfl).alloc _) rfl rfl rfl _ Tryz.underlying35 rfl infoV rfl (EvAns.of (C.out.trans (two_err2 hf1 hf2)) ((((hB2.setCell (by simp) _).setCell (by simp) _).setCell (by simp) _).alloc (by simp; omega) _))
    · have r0 := VB1.out.cell 0 rfl
      have g0 := VB1.out.frz 0 (by decide)
      have r1 := VB1.out.cell 1 rfl
      have g1 := VB1.out.frz 1 (by decide)
      have r2 := VB1.out.cell 2 rfl
      have g2 := VB1.out.frz 2 (by decide)
      go_wp2
      exact end_vt ((VB1.out.puts [.int .i64 0, .int .i64 0, .string ⟨#[]⟩] rfl).alloc _) rfl rfl rfl _ Tryz.underlying35 rfl infoV rfl (EvAns.of (C.out.trans (two_err1 hf1)) ((((hB1.setCell (by simp) _).setCell (by simp) _).setCell (by simp) _).alloc (by simp; omega) _))
  · have C := hid0 (ev_not2 (row := row) (a := q) (v := v) (p := p) (c := c) hkk hl)
    generalize ys.length = m at *
    have hm : (((m : Nat) : Int) != 2) = true := by simp; omega
    go_enter Tryz.func188, Tryz.ntmps188
    go_wp2
    go_returns
    exact EvAns.of C.out (by go_grown)
set_option maxHeartbeats 2000000 in
theorem refEval_6 {n : Nat} (IH : EvOkR n) (q : Int) (v : Val) (p : Option Addr) (c : Nat) (ys : List Cx) (a : Option Addr) (cc : Nat) (row : List Val) (w : World) (hx : CxAt w (n + 1) (.mk 6 q v p c ys)) (hr : RowIn w a row) :
    Calls Tryz.prog 188 #[.agg #[.int .i64 6, .int .i64 q, .int .i64 v.k, .int .i64 v.n, .string v.s, .slice p ys.length c], .slice a row.length cc] w (EvAns (evC row (.mk 6 q v p c ys)) w) := by
  obtain ⟨h0, hA⟩ := hx
  by_cases hl : ys.length = 1
  · obtain ⟨x, rfl⟩ : ∃ x, ys = [x] := by
      match ys, hl with
      | [x], _ => exact ⟨x, rfl⟩
    have C := hid0 (ev_one (row := row) (a := q) (v := v) (p := p) (c := c) (x := x))
    have H1 := IH.half (cc := cc) (hA x (by simp)) hr
    have i1 := (hA x (by simp)).i hr.i
    obtain ⟨b, o, rfl, hb, hX⟩ := h0.arg 0 (by simp)
    clear hA h0 IH hr
    generalize evC row x = r1 at C H1 i1
    obtain ⟨⟨k1, n1, s1⟩, f1⟩ := r1
    obtain ⟨kx, ax, vx, px, cx, yx⟩ := x
    obtain ⟨VA, VB⟩ := VarB.two (w := w) [.int .i64 6, .int .i64 q, .int .i64 v.k, .int .i64 v.n, .string v.s, .slice (some ⟨b, o, none⟩) 1 c] [.int .i64 0, .int .i64 0, .string ⟨#[]⟩] 38 35
    have x0 := rng hX 0 rfl
    have x1 := rng hX 1 rfl
    have x2 := rng hX 2 rfl
    have x3 := rng hX 3 rfl
    have x4 := rng hX 4 rfl
    have x5 := rng hX 5 rfl
    simp only [Nat.zero_mul, Nat.add_zero] at x0 x1 x2 x3 x4 x5
    replace hX := hid0 hX
    have a5 := VA.cell 5 rfl
    replace VA := hid0 VA
    replace VB := hid0 VB
    have I1 := hid0 i1
    clear i1
    go_enter Tryz.func188, Tryz.ntmps188
    go_wp2_with fail
    go_at_call 188
    refine (H1.out _ (by go_grown)).mono ?_
    rintro e w1 ⟨rfl, hb1⟩
    have VA1 := VA.out.below hb1
    have VB1 := VB.out.below hb1
    have hB1 : Below w.heap.size w w1 := below_through hb1 (by simp; omega) (by go_grown)
    have z1 : w.heap.size + 1 < w1.heap.size := VB1.lt
    have z2 : w.heap.size < w1.heap.size := VA1.lt
    replace VA1 := hid0 VA1
    replace VB1 := hid0 VB1
    clear hb1
    cases hf1 : (f1 != 0)
    · have b1 := I1.out.1
      have b2 := I1.out.2.1
      go_wp2_with fail
      go_at_call 212
      refine (refNeg_any _ _ _ _ b1 b2).mono ?_
      rintro e w3 ⟨rfl, hb3⟩
      have VB3 := (VB1.out.alloc (.cells #[.int .i64 k1, .int .i64 n1, .string s1] 35)).below hb3
      have hB3 : Below w.heap.size w w3 := below_through hb3 (by simp; omega) (hB1.alloc (by omega) _)
      have r0 := VB3.cell 0 rfl
      have g0 := VB3.frz 0 (by decide)
      have r1 := VB3.cell 1 rfl
      have g1 := VB3.frz 1 (by decide)
      have r2 := VB3.cell 2 rfl
      have g2 := VB3.frz 2 (by decide)
      go_wp2
      exact end_vt (VB3.puts [.int .i64 (cK 4 1 0 k1 n1), .int .i64 (cN 4 1 0 k1 n1), .string ⟨#[]⟩] rfl) rfl rfl rfl _ Tryz.underlying35 rfl infoV rfl (EvAns.of (C.out.trans (neg_ok hf1)) (((hB3.setCell (by simp) _).setCell (by simp) _).setCell (by simp) _))
    ·
      have r0 := VB1.out.cell 0 rfl
      have g0 := VB1.out.frz 0 (by decide)
      have r1 := VB1.out.cell 1 rfl
      have g1 := VB1.out.frz 1 (by decide)
      have r2 := VB1.out.cell 2 rfl
      have g2 := VB1.out.frz 2 (by decide)
      go_wp2
      exact end_vt ((VB1.out.puts [.int .i64 0, .int .i64 0, .string ⟨#[]⟩] rfl).alloc _) rfl rfl rfl _ Tryz.underlying35 rfl infoV rfl (EvAns.of (C.out.trans (neg_err hf1)) ((((hB1.setCell (by simp) _).setCell (by simp) _).setCell (by simp) _).alloc (by simp; omega) _))
  · have C := hid0 (ev_not1 (row := row) (a := q) (v := v) (p := p) (c := c) hl)
    generalize ys.length = m at *
    have hm : (((m : Nat) : Int) != 1) = true := by simp; omega
    go_enter Tryz.func188, Tryz.ntmps188
    go_wp2
    go_returns
    exact EvAns.of C.out (by go_grown)

set_option maxHeartbeats 2000000 in
theorem refEval_n (k q : Int) (v : Val) (p : Option Addr) (c : Nat) (ys : List Cx) (a : Option Addr) (cc : Nat) (row : List Val) (w : World) (h : k = 2 ∨ k < 1 ∨ 6 < k) :
    Calls Tryz.prog 188 #[.agg #[.int .i64 k, .int .i64 q, .int .i64 v.k, .int .i64 v.n, .string v.s, .slice p ys.length c], .slice a row.length cc] w (EvAns (evC row (.mk k q v p c ys)) w) := by
  by_cases h2 : k = 2
  · subst h2
    have C := hid0 (show evC row (.mk 2 q v p c ys) = (v, 0) by rw [evC]; unfold evOf; rw [if_neg (by omega), if_pos rfl])
    go_enter Tryz.func188, Tryz.ntmps188
    go_wp2
    go_returns
    exact EvAns.of C.out (by go_grown)
  · have C := hid0 (show evC row (.mk k q v p c ys) = (zV, 8) by rw [evC]; unfold evOf; rw [if_neg (by omega), if_neg (by omega), if_neg (by omega), if_neg (by omega)])
    have t1 : (k == 1) = false := by simp; omega
    have t2 : (k == 2) = false := by simp; omega
    have t3 : (k == 3) = false := by simp; omega
    have t4 : (k == 4) = false := by simp; omega
    have t5 : (k == 5) = false := by simp; omega
    have t6 : (k == 6) = false := by simp; omega
    clear h h2
    go_enter Tryz.func188, Tryz.ntmps188
    go_wp2
    go_returns
    exact EvAns.of C.out (by go_grown)
theorem refEval_all : ∀ n, EvOkR n
  | 0 => ⟨fun _ _ _ _ _ h _ => h.elim⟩
  | n + 1 => ⟨fun x a cc row w hx hr => by
    obtain ⟨k, q, v, p, c, ys⟩ := x
    by_cases h1 : k = 1
    · subst h1; exact refEval_1 q v p c ys a cc row w hr
    by_cases h3 : k = 3
    · subst h3; exact refEval_3 (refEval_all n) q v p c ys a cc row w hx hr
    by_cases h4 : k = 4
    · subst h4; exact refEval_4 (refEval_all n) q v p c ys a cc row w hx hr
    by_cases h5 : k = 5
    · subst h5; exact refEval_5 (refEval_all n) q v p c ys a cc row w hx hr
    by_cases h6 : k = 6
    · subst h6; exact refEval_6 (refEval_all n) q v p c ys a cc row w hx hr
    · exact refEval_n k q v p c ys a cc row w (by omega)⟩
theorem refEval_any {n : Nat} {x : Cx} {a : Option Addr} {row : List Val} {w : World} (cc : Nat) (hx : CxAt w n x) (hr : RowIn w a row) : Calls Tryz.prog 188 #[x.val, .slice a row.length cc] w (EvAns (evC row x) w) := (refEval_all n).out x a cc row w hx hr
end Go.Proofs.YtokkgikajammhaaGreat

/- The reference's side: a contract of the call, in whatever memory. Conditions: an expression's and a row's cells are known. -/
namespace Go.Proofs.YtokkgikajammhaaGreat
open Go.RowKit

theorem ev_leaf {row : List Val} {k a : Int} {v : Val} {p : Option Addr} {c : Nat} {ys : List Cx} (h : k = 1 ∨ k = 2) (hf : ((evC row (.mk k a v p c ys)).2 != 0) = true) : (evC row (.mk k a v p c ys)).1 = zV := by
  rcases h with rfl | rfl
  · have e : evC row (.mk 1 a v p c ys) = colV row a := by rw [evC]; exact if_pos rfl
    rw [e] at hf ⊢
    unfold colV at hf ⊢
    split
    · rfl
    · rename_i h
      rw [if_neg h] at hf
      split
      · rename_i h2; rw [h2] at hf; simp at hf
      · rfl
  · have e : evC row (.mk 2 a v p c ys) = (v, 0) := by rw [evC]; unfold evOf; rw [if_neg (by omega), if_pos rfl]
    rw [e] at hf; simp at hf
set_option maxHeartbeats 4000000 in
set_option maxRecDepth 100000 in
theorem refSide_any {n : Nat} {x : Cx} {a : Option Addr} {row : List Val} {w : World} (cc : Nat) (hx : CxAt w n x) (hr : RowIn w a row) :
    Calls Tryz.prog 206 #[x.val, .slice a row.length cc] w (SdAns (sdC row x) w) := by
  obtain ⟨k, q, v, p, c, ys⟩ := x
  show Calls Tryz.prog 206 #[.agg #[.int .i64 k, .int .i64 q, .int .i64 v.k, .int .i64 v.n, .string v.s, .slice p ys.length c], .slice a row.length cc] w (SdAns (sdC row (.mk k q v p c ys)) w)
  by_cases hk : k = 1 ∨ k = 2
  rotate_left
  · have C := hid0 (sd_no (row := row) (a := q) (v := v) (p := p) (c := c) (ys := ys) hk)
    have t1 : (k != 1) = true := by simp; omega
    have t2 : (k != 2) = true := by simp; omega
    clear hx hr hk
    go_enter Tryz.func206, Tryz.ntmps206
    go_wp2
    go_returns
    exact SdAns.of C.out (by go_grown)
  rcases hk with rfl | rfl
  · skip
    have H : EvHalfR w (.agg #[.int .i64 1, .int .i64 q, .int .i64 v.k, .int .i64 v.n, .string v.s, .slice p ys.length c]) (.slice a row.length cc) (evC row (.mk 1 q v p c ys)) := ⟨fun W hb => refEval_any cc (hx.later hb) (hr.later hb)⟩
    have C := hid0 (sd_yes (row := row) (a := q) (v := v) (p := p) (c := c) (ys := ys) (show (1 : Int) = 1 ∨ (1 : Int) = 2 by omega))
    have L := hid0 (ev_leaf (row := row) (k := 1) (a := q) (v := v) (p := p) (c := c) (ys := ys) (by omega))
    generalize evC row (.mk 1 q v p c ys) = r1 at C H L
    obtain ⟨⟨k1, n1, s1⟩, f1⟩ := r1
    clear hx hr
    obtain ⟨VA, VB⟩ := VarB.two (w := w) [.int .i64 1, .int .i64 q, .int .i64 v.k, .int .i64 v.n, .string v.s, .slice p ys.length c] [.int .i64 0, .int .i64 0, .string ⟨#[]⟩] 38 35
    have a0 := VA.cell 0 rfl
    have a1 := VA.cell 1 rfl
    have a2 := VA.cell 2 rfl
    have a3 := VA.cell 3 rfl
    have a4 := VA.cell 4 rfl
    have a5 := VA.cell 5 rfl
    replace VB := hid0 VB
    clear VA
    go_enter Tryz.func206, Tryz.ntmps206
    go_wp2_with fail
    go_at_call 188
    refine (H.out _ (by go_grown)).mono ?_
    rintro e w1 ⟨rfl, hb1⟩
    have VB1 := VB.out.below hb1
    have hB1 : Below w.heap.size w w1 := below_through hb1 (by simp; omega) (by go_grown)
    have z1 : w.heap.size + 1 < w1.heap.size := VB1.lt
    replace VB1 := hid0 VB1
    have r0 := VB1.out.cell 0 rfl
    have g0 := VB1.out.frz 0 (by decide)
    have r1 := VB1.out.cell 1 rfl
    have g1 := VB1.out.frz 1 (by decide)
    have r2 := VB1.out.cell 2 rfl
    have g2 := VB1.out.frz 2 (by decide)
    clear hb1 a0 a1 a2 a3 a4 a5
    cases hf1 : (f1 != 0)
    · go_wp2
      exact end_blk ((VB1.out.puts [.int .i64 k1, .int .i64 n1, .string s1] rfl).alloc _) rfl rfl _ Tryz.underlying35 rfl infoV rfl (SdAns.of C.out ((((hB1.setCell (by simp) _).setCell (by simp) _).setCell (by simp) _).alloc (by simp; omega) _))
    · go_wp2
      exact end_blk ((VB1.out.puts [.int .i64 0, .int .i64 0, .string ⟨#[]⟩] rfl).alloc _) rfl rfl _ Tryz.underlying35 rfl infoV rfl (SdAns.of (C.out.trans (L.out hf1)) ((((hB1.setCell (by simp) _).setCell (by simp) _).setCell (by simp) _).alloc (by simp; omega) _))
  · skip
    have H : EvHalfR w (.agg #[.int .i64 2, .int .i64 q, .int .i64 v.k, .int .i64 v.n, .string v.s, .slice p ys.length c]) (.slice a row.length cc) (evC row (.mk 2 q v p c ys)) := ⟨fun W hb => refEval_any cc (hx.later hb) (hr.later hb)⟩
    have C := hid0 (sd_yes (row := row) (a := q) (v := v) (p := p) (c := c) (ys := ys) (show (2 : Int) = 1 ∨ (2 : Int) = 2 by omega))
    have L := hid0 (ev_leaf (row := row) (k := 2) (a := q) (v := v) (p := p) (c := c) (ys := ys) (by omega))
    generalize evC row (.mk 2 q v p c ys) = r1 at C H L
    obtain ⟨⟨k1, n1, s1⟩, f1⟩ := r1
    clear hx hr
    obtain ⟨VA, VB⟩ := VarB.two (w := w) [.int .i64 2, .int .i64 q, .int .i64 v.k, .int .i64 v.n, .string v.s, .slice p ys.length c] [.int .i64 0, .int .i64 0, .string ⟨#[]⟩] 38 35
    have a0 := VA.cell 0 rfl
    have a1 := VA.cell 1 rfl
    have a2 := VA.cell 2 rfl
    have a3 := VA.cell 3 rfl
    have a4 := VA.cell 4 rfl
    have a5 := VA.cell 5 rfl
    replace VB := hid0 VB
    clear VA
    go_enter Tryz.func206, Tryz.ntmps206
    go_wp2_with fail
    go_at_call 188
    refine (H.out _ (by go_grown)).mono ?_
    rintro e w1 ⟨rfl, hb1⟩
    have VB1 := VB.out.below hb1
    have hB1 : Below w.heap.size w w1 := below_through hb1 (by simp; omega) (by go_grown)
    have z1 : w.heap.size + 1 < w1.heap.size := VB1.lt
    replace VB1 := hid0 VB1
    have r0 := VB1.out.cell 0 rfl
    have g0 := VB1.out.frz 0 (by decide)
    have r1 := VB1.out.cell 1 rfl
    have g1 := VB1.out.frz 1 (by decide)
    have r2 := VB1.out.cell 2 rfl
    have g2 := VB1.out.frz 2 (by decide)
    clear hb1 a0 a1 a2 a3 a4 a5
    cases hf1 : (f1 != 0)
    · go_wp2
      exact end_blk ((VB1.out.puts [.int .i64 k1, .int .i64 n1, .string s1] rfl).alloc _) rfl rfl _ Tryz.underlying35 rfl infoV rfl (SdAns.of C.out ((((hB1.setCell (by simp) _).setCell (by simp) _).setCell (by simp) _).alloc (by simp; omega) _))
    · go_wp2
      exact end_blk ((VB1.out.puts [.int .i64 0, .int .i64 0, .string ⟨#[]⟩] rfl).alloc _) rfl rfl _ Tryz.underlying35 rfl infoV rfl (SdAns.of (C.out.trans (L.out hf1)) ((((hB1.setCell (by simp) _).setCell (by simp) _).setCell (by simp) _).alloc (by simp; omega) _))
end Go.Proofs.YtokkgikajammhaaGreat

/- The reference's Holds, of a condition of any depth: a contract of the call, in whatever memory. Conditions: a condition's and a row's cells are known. -/
namespace Go.Proofs.YtokkgikajammhaaGreat
open Go.RowKit

structure HoOkR (n : Nat) : Prop where
  out : ∀ (t : Tx) (a : Option Addr) (cc : Nat) (row : List Val) (w : World), TxAt w n t → RowIn w a row → Calls Tryz.prog 186 #[t.val, .slice a row.length cc] w (IntAns (hoT row t) w)
theorem HoOkR.half {n : Nat} (H : HoOkR n) {t : Tx} {a : Option Addr} {cc : Nat} {row : List Val} {w : World} (ht : TxAt w n t) (hr : RowIn w a row) : IntHalf 186 w t.val (.slice a row.length cc) (hoT row t) :=
  ⟨fun W hb => H.out t a cc row W (ht.later hb) (hr.later hb)⟩
theorem nul_yes {k n : Int} {s : ByteArray} (h : (k == 0) = true) : nulV ⟨k, n, s⟩ = 2 := by unfold nulV; rw [if_pos (by simpa using h)]
theorem nul_no {k n : Int} {s : ByteArray} (h : (k == 0) = false) : nulV ⟨k, n, s⟩ = 0 := by unfold nulV; rw [if_neg (by simpa using h)]
set_option maxHeartbeats 16000000 in
set_option maxRecDepth 1000000 in
theorem refHolds_step {n : Nat} (IH : HoOkR n) (k op : Int) (kl al : Int) (vl : Val) (pl : Option Addr) (cl : Nat) (yl : List Cx) (kr ar : Int) (vr : Val) (pr : Option Addr) (cr : Nat) (yr : List Cx) (p : Option Addr) (c : Nat) (ys : List Tx) (a : Option Addr) (cc : Nat) (row : List Val) (w : World) (ht : TxAt w (n + 1) (.mk k op (.mk kl al vl pl cl yl) (.mk kr ar vr pr cr yr) p c ys)) (hr : RowIn w a row) :
    Calls Tryz.prog 186 #[.agg #[.int .i64 k, .int .i64 op, .int .i64 kl, .int .i64 al, .int .i64 vl.k, .int .i64 vl.n, .string vl.s, .slice pl yl.length cl, .int .i64 kr, .int .i64 ar, .int .i64 vr.k, .int .i64 vr.n, .string vr.s, .slice pr yr.length cr, .slice p ys.length c], .slice a row.length cc] w (IntAns (hoT row (.mk k op (.mk kl al vl pl cl yl) (.mk kr ar vr pr cr yr) p c ys)) w) := by
  obtain ⟨⟨hl, hrr⟩, hk, hA⟩ := ht
  obtain ⟨i0, hi, hz0, hz1, hz2⟩ := info_parts infoI
  have H : ∀ j (hj : j < ys.length), IntHalf 186 w (ys[j]).val (.slice a row.length cc) (hoT row ys[j]) := fun j hj => IH.half (hA _ (List.getElem_mem hj)) hr
  have HSL : SdHalf 206 w (.agg #[.int .i64 kl, .int .i64 al, .int .i64 vl.k, .int .i64 vl.n, .string vl.s, .slice pl yl.length cl]) (.slice a row.length cc) (sdC row (.mk kl al vl pl cl yl)) := ⟨fun W hb => refSide_any cc (hl.later hb) (hr.later hb)⟩
  have HSR : SdHalf 206 w (.agg #[.int .i64 kr, .int .i64 ar, .int .i64 vr.k, .int .i64 vr.n, .string vr.s, .slice pr yr.length cr]) (.slice a row.length cc) (sdC row (.mk kr ar vr pr cr yr)) := ⟨fun W hb => refSide_any cc (hrr.later hb) (hr.later hb)⟩
  have HV := hid0 (show hoT row (.mk k op (.mk kl al vl pl cl yl) (.mk kr ar vr pr cr yr) p c ys) = hoOf k op (sdC row (.mk kl al vl pl cl yl)) (sdC row (.mk kr ar vr pr cr yr)) (hoL row ys) by rw [hoT])
  generalize sdC row (.mk kl al vl pl cl yl) = xl at HSL HV
  generalize sdC row (.mk kr ar vr pr cr yr) = xr at HSR HV
  obtain ⟨k1, n1, s1⟩ := xl
  obtain ⟨k2, n2, s2⟩ := xr
  have HH := hid0 H
  have HK := hid0 hk
  have hroom := hk.room
  have fl : ∀ W : World, (Instr.field 35 (.agg #[.int .i64 k1, .int .i64 n1, .string s1]) 0).run Tryz.prog W = .ok (.int .i64 k1) W := fun W => rfl
  have fl := hid0 fl
  clear IH hA hr H hk hl hrr
  have V := VarB.new w [.int .i64 k, .int .i64 op, .int .i64 kl, .int .i64 al, .int .i64 vl.k, .int .i64 vl.n, .string vl.s, .slice pl yl.length cl, .int .i64 kr, .int .i64 ar, .int .i64 vr.k, .int .i64 vr.n, .string vr.s, .slice pr yr.length cr, .slice p ys.length c] 41
  have hB0 : Below w.heap.size w (w.alloc (.cells #[.int .i64 k, .int .i64 op, .int .i64 kl, .int .i64 al, .int .i64 vl.k, .int .i64 vl.n, .string vl.s, .slice pl yl.length cl, .int .i64 kr, .int .i64 ar, .int .i64 vr.k, .int .i64 vr.n, .string vr.s, .slice pr yr.length cr, .slice p ys.length c] 41)) := (Below.refl _ _).alloc (Nat.le_refl _) _
  have a14 := V.cell 14 rfl
  have V := hid0 V
  have hB0 := hid0 hB0
  go_enter Tryz.func186, Tryz.ntmps186
  go_wp2_with fail
  clear a14
  go_loopw [5, 6] (fun v i wr => ∃ j : Nat, j ≤ ys.length ∧ i = .int .i64 j ∧ wr.ownsRow w.heap.size 3 1 v j (ints (hoL row (ys.take j))) ∧ Below w.heap.size w wr ∧ VarB wr w.heap.size [.int .i64 k, .int .i64 op, .int .i64 kl, .int .i64 al, .int .i64 vl.k, .int .i64 vl.n, .string vl.s, .slice pl yl.length cl, .int .i64 kr, .int .i64 ar, .int .i64 vr.k, .int .i64 vr.n, .string vr.s, .slice pr yr.length cr, .slice p ys.length c] ∧ (∀ g, v.ownBlock = some g → g ≠ w.heap.size)) (fun _ i _ => ys.length - (intOf i).toNat)
  case atStart => exact ⟨0, Nat.zero_le _, rfl, World.ownsRow_nil _ _ _ _, hB0.out, V.out, fun g h => by cases h⟩
  case round =>
    obtain ⟨j, hj, rfl, hown, hnx, hV, hne⟩ := hrel
    have hsz := hnx.size
    have a14 := hV.cell 14 rfl
    have hVl := hV.lt
    have hV := hid0 hV
    have hne := hid0 hne
    by_cases hlt : j < ys.length
    · have H := HH.out j hlt
      have HT := hid0 (hoL_take row ys j hlt)
      obtain ⟨b, o, rfl, hb, hX⟩ := HK.out.arg j hlt
      generalize hy : ys[j] = t at H hX HT
      clear hy
      generalize hoT row t = x at H HT
      obtain ⟨kt, ot, ⟨kf, af, vf, pf, cf, yf⟩, ⟨kg, ag, vg, pg, cg, yg⟩, pt, ct, yt⟩ := t
      have hb' : b < wr.heap.size := by omega
      have q0 := cell_later hnx (rng hX 0 rfl)
      have q1 := cell_later hnx (rng hX 1 rfl)
      have q2 := cell_later hnx (rng hX 2 rfl)
      have q3 := cell_later hnx (rng hX 3 rfl)
      have q4 := cell_later hnx (rng hX 4 rfl)
      have q5 := cell_later hnx (rng hX 5 rfl)
      have q6 := cell_later hnx (rng hX 6 rfl)
      have q7 := cell_later hnx (rng hX 7 rfl)
      have q8 := cell_later hnx (rng hX 8 rfl)
      have q9 := cell_later hnx (rng hX 9 rfl)
      have q10 := cell_later hnx (rng hX 10 rfl)
      have q11 := cell_later hnx (rng hX 11 rfl)
      have q12 := cell_later hnx (rng hX 12 rfl)
      have q13 := cell_later hnx (rng hX 13 rfl)
      have q14 := cell_later hnx (rng hX 14 rfl)
      simp only [Nat.add_zero] at q0
      clear hX
      have hO := hid0 hown
      have hnx := hid0 hnx
      clear hown
      go_wp2_with fail
      go_at_call 186
      refine (H.out _ hnx.out).mono ?_
      rintro e w3 ⟨rfl, hb3⟩
      have hown := own_belowY hO.out hb3
      have hnx3 : Below w.heap.size w w3 := below_through hb3 hnx.out.size hnx.out
      have hV3 := hid0 (hV.out.below hb3)
      have hs3 := hnx3.size
      have hs4 := hV3.out.lt
      clear hb3 a14 q0 q1 q2 q3 q4 q5 q6 q7 q8 q9 q10 q11 q12 q13 q14
      go_wp2_with (at_builtin; refine wpList_append_own_at _ rfl _ _ 33 rfl w.heap.size 3 i0 (.int .i64 0) 1 8 Tryz.underlying33 hi hz0 hz1 hz2 rfl (by decide) _ _ _ rfl (hown.alloc _) ⟨w3.heap.size, 0, none⟩ 1 1 [.int .i64 x] rfl rfl ?c1 ?c2 ?c3 ?c4 ?c5 ?_)
      case c1 =>
        intro j u hj
        match j, hj with
        | 0, hj => simp at hj; subst hj; simp [Addr.add]
      case c2 => intro u hu; simp at hu; subst hu; rfl
      case c3 => unfold maxLen; omega
      case c4 => omega
      case c5 => simp; omega
      intro v' w4 hown' hgrow _ hat
      have R := own_next hnx3 hown hown' hgrow
      rw [← ints_snoc, ← HT.out] at R
      have hV4 : VarB w4 w.heap.size _ := (hV3.out.alloc (.cells #[.int .i64 x] 3)).keep (hgrow.block _ (by simp; omega) (fun e => hne.out _ e.symm rfl)) hgrow.size
      have hne4 : ∀ g, v'.ownBlock = some g → g ≠ w.heap.size := fun g hg => by
        rcases hat with e | e
        · exact hne.out g (by rw [← e]; exact hg)
        · rw [hg] at e; cases e; simp; omega
      have R1 := hid0 R.1
      have R2 := R.2
      have R3 := hid0 hV4
      have R4 := hid0 hne4
      clear R hown' hgrow hown hnx3 hnx hO hat hV4 hne4 hV3
      go_wp2_with fail
      exact ⟨⟨j + 1, by omega, by go_num, R1.out, R2, R3.out, R4.out⟩, by simp [intOf]; omega⟩
    · obtain rfl : j = ys.length := by omega
      rw [List.take_length] at hown
      obtain ⟨a', c', rfl, hc', hR⟩ := ints_owned hown (hoL_len row ys)
      have hLl := hoL_len row ys
      generalize hoL row ys = L at hR HV hLl hc'
      have hR := hid0 hR
      have hLm : L.length ≤ maxLen := by rw [hLl]; unfold maxLen; omega
      have hLm := hid0 hLm
      clear hLl
      have hnx := hid0 hnx
      have b2 := hV.out.cell 2 rfl
      have b3 := hV.out.cell 3 rfl
      have b4 := hV.out.cell 4 rfl
      have b5 := hV.out.cell 5 rfl
      have b6 := hV.out.cell 6 rfl
      have b7 := hV.out.cell 7 rfl
      clear hown hlt hne HH HK
      go_wp2_with fail
      go_at_call 206
      refine (HSL.out _ hnx.out).mono ?_
      rintro e w3 ⟨rfl, hb3⟩
      have hV3 := hV.out.below hb3
      have hB3 := below_through hb3 hnx.out.size hnx.out
      have hI3 := hid0 (hR.out.later hb3)
      have d0 := hV3.cell 0 rfl
      have d1 := hV3.cell 1 rfl
      have hV3 := hid0 hV3
      have hB3 := hid0 hB3
      have fl := fl.out
      clear hb3 hR b2 b3 b4 b5 b6 b7 a14 hV hnx
      by_cases h0 : k = 0
      · subst h0
        have C : hoT row (.mk 0 op (.mk kl al vl pl cl yl) (.mk kr ar vr pr cr yr) p c ys) = 2 := HV.out.trans (by unfold hoOf; rw [if_pos rfl])
        have C := hid0 C
        go_wp2
        go_ret
        exact IntAns.of C.out hB3.out
      by_cases h1 : k = 1
      · subst h1
        have C := hid0 (HV.out.trans (show hoOf 1 op ⟨k1, n1, s1⟩ ⟨k2, n2, s2⟩ L = cmpO op k1 n1 s1 k2 n2 s2 by unfold hoOf; rw [if_neg (by omega), if_pos rfl]))
        have t0 : ((1 : Int) == 0) = false := by decide
        go_wp2_with fail
        have hS : BoxS w w.heap.size [.int .i64 1, .int .i64 op, .int .i64 kl, .int .i64 al, .int .i64 vl.k, .int .i64 vl.n, .string vl.s, .slice pl yl.length cl, .int .i64 kr, .int .i64 ar, .int .i64 vr.k, .int .i64 vr.n, .string vr.s, .slice pr yr.length cr, .slice p ys.length c] _ := ⟨hV3.out, hB3.out⟩
        replace hS := hS.drew
        clear d0 d1 hV3 hB3 fl
        refine wp_region_held_drew (S := BoxS w w.heap.size [.int .i64 1, .int .i64 op, .int .i64 kl, .int .i64 al, .int .i64 vl.k, .int .i64 vl.n, .string vl.s, .slice pl yl.length cl, .int .i64 kr, .int .i64 ar, .int .i64 vr.k, .int .i64 vr.n, .string vr.s, .slice pr yr.length cr, .slice p ys.length c]) (by kernel_rfl) hS (fun hHeld => ?_)
        refine wpAnyH_take (i := 0) (v := ?_) rfl (by kernel_rfl) (by kernel_rfl) (by kernel_rfl) (fun _ _ _ h => h) (Or.inl ⟨by rfl, ?_⟩) (by assumption) ?_
        rotate_left
        · (intro wx hSw; have q1 := hSw.a.cell 1 rfl; go_simp; (try with_reducible rfl); (try omega))
        (try simp only [Act.put, List.setIfInBounds_toArray, List.set_cons_zero, List.set_cons_succ, List.getElem_toArray, List.getElem_cons_zero])
        refine wpAnyH_take (i := 1) (v := ?_) rfl (by kernel_rfl) (by kernel_rfl) (by kernel_rfl) (fun _ _ _ h => h) (Or.inl ⟨by rfl, ?_⟩) (by assumption) ?_
        rotate_left
        · (intro wx hSw; have q1 := hSw.a.cell 1 rfl; go_simp; (try with_reducible rfl); (try omega))
        (try simp only [Act.put, List.setIfInBounds_toArray, List.set_cons_zero, List.set_cons_succ, List.getElem_toArray, List.getElem_cons_zero, List.getElem_cons_succ])
        refine wpAnyH_take (i := 2) (v := ?_) rfl (by kernel_rfl) (by kernel_rfl) (by kernel_rfl) (fun _ _ _ h => h) (Or.inl ⟨by rfl, ?_⟩) (by assumption) ?_
        rotate_left
        · (intro wx hSw; have q1 := hSw.a.cell 1 rfl; go_simp; (try with_reducible rfl); (try omega))
        (try simp only [Act.put, List.setIfInBounds_toArray, List.set_cons_zero, List.set_cons_succ, List.getElem_toArray, List.getElem_cons_zero, List.getElem_cons_succ])
        refine wpAnyH_take (i := 3) (v := .agg [.int .i64 kl, .int .i64 al, .int .i64 vl.k, .int .i64 vl.n, .string vl.s, .slice pl yl.length cl].toArray) rfl (by kernel_rfl) (by kernel_rfl) (by kernel_rfl) (fun _ _ _ h => h) (yieldsIf_load_mid rfl 38 _ rfl w.heap.size (2) rfl [.int .i64 kl, .int .i64 al, .int .i64 vl.k, .int .i64 vl.n, .string vl.s, .slice pl yl.length cl] _ (fun w h => range_mid (xs := [.int .i64 1, .int .i64 op]) (ys := [.int .i64 kl, .int .i64 al, .int .i64 vl.k, .int .i64 vl.n, .string vl.s, .slice pl yl.length cl]) (zs := [.int .i64 kr, .int .i64 ar, .int .i64 vr.k, .int .i64 vr.n, .string vr.s, .slice pr yr.length cr, .slice p ys.length c]) h.a.at_) Tryz.underlying38 rfl (sizeX)) (by assumption) ?_
        (try simp only [Act.put, List.setIfInBounds_toArray, List.set_cons_zero, List.set_cons_succ, List.getElem_toArray, List.getElem_cons_zero, List.getElem_cons_succ])
        refine wpAnyH_take (i := 4) (v := ?_) rfl (by kernel_rfl) (by kernel_rfl) (by kernel_rfl) (fun _ _ _ h => h) (Or.inl ⟨by rfl, ?_⟩) (by assumption) ?_
        rotate_left
        · (intro wx hSw; have q1 := hSw.a.cell 1 rfl; go_simp; (try with_reducible rfl); (try omega))
        (try simp only [Act.put, List.setIfInBounds_toArray, List.set_cons_zero, List.set_cons_succ, List.getElem_toArray, List.getElem_cons_zero, List.getElem_cons_succ])
        refine wpAnyH_take (i := 6) (v := ?_) rfl (by kernel_rfl) (by kernel_rfl) (by kernel_rfl) (fun _ _ _ h => h) (Or.inl ⟨by rfl, ?_⟩) (by assumption) ?_
        rotate_left
        · (intro wx hSw; have q1 := hSw.a.cell 1 rfl; go_simp; (try with_reducible rfl); (try omega))
        (try simp only [Act.put, List.setIfInBounds_toArray, List.set_cons_zero, List.set_cons_succ, List.getElem_toArray, List.getElem_cons_zero, List.getElem_cons_succ])
        refine wpAnyH_take (i := 7) (v := .agg [.int .i64 kr, .int .i64 ar, .int .i64 vr.k, .int .i64 vr.n, .string vr.s, .slice pr yr.length cr].toArray) rfl (by kernel_rfl) (by kernel_rfl) (by kernel_rfl) (fun _ _ _ h => h) (yieldsIf_load_mid rfl 38 _ rfl w.heap.size (8) rfl [.int .i64 kr, .int .i64 ar, .int .i64 vr.k, .int .i64 vr.n, .string vr.s, .slice pr yr.length cr] _ (fun w h => range_mid (xs := [.int .i64 1, .int .i64 op, .int .i64 kl, .int .i64 al, .int .i64 vl.k, .int .i64 vl.n, .string vl.s, .slice pl yl.length cl]) (ys := [.int .i64 kr, .int .i64 ar, .int .i64 vr.k, .int .i64 vr.n, .string vr.s, .slice pr yr.length cr]) (zs := [.slice p ys.length c]) h.a.at_) Tryz.underlying38 rfl (sizeX)) (by assumption) ?_
        (try simp only [Act.put, List.setIfInBounds_toArray, List.set_cons_zero, List.set_cons_succ, List.getElem_toArray, List.getElem_cons_zero, List.getElem_cons_succ])
        refine wpAnyH_take (i := 8) (v := ?_) rfl (by kernel_rfl) (by kernel_rfl) (by kernel_rfl) (fun _ _ _ h => h) (Or.inl ⟨by rfl, ?_⟩) (by assumption) ?_
        rotate_left
        · (intro wx hSw; have q1 := hSw.a.cell 1 rfl; go_simp; (try with_reducible rfl); (try omega))
        (try simp only [Act.put, List.setIfInBounds_toArray, List.set_cons_zero, List.set_cons_succ, List.getElem_toArray, List.getElem_cons_zero, List.getElem_cons_succ])
        refine wpAnyH_ready (rs := [5]) (by kernel_rfl) (by simp) ?_
        refine AllReadyH.cons rfl (fun K hK => ?_) AllReadyH.nil
        go_simp
        refine (HSL.out _ hS.b).mono ?_
        rintro e w5 ⟨rfl, hb5⟩
        have hS3 := hS.below hb5
        refine hK.out _ _ hS3 (fun hHeld => ?_)
        clear hK K
        (try simp only [])
        refine wpAnyH_ready (rs := [9]) (by kernel_rfl) (by simp) ?_
        refine AllReadyH.cons rfl (fun K hK => ?_) AllReadyH.nil
        go_simp
        refine (HSR.out _ hS3.b).mono ?_
        rintro e w6 ⟨rfl, hb6⟩
        have hS4 := hS3.below hb6
        refine hK.out _ _ hS4 (fun hHeld => ?_)
        clear hK K
        (try simp only [])
        refine wpAnyH_ready (rs := [10]) (by kernel_rfl) (by simp) ?_
        refine AllReadyH.cons rfl (fun K hK => ?_) AllReadyH.nil
        go_simp
        refine (refCompare_any _ _ _ _ _ _ _ _).mono ?_
        rintro e w7 ⟨rfl, hb7⟩
        have hS5 := hS4.below hb7
        refine hK.out _ _ hS5 (fun hHeld => ?_)
        clear hK K
        (try simp only [Act.put, List.setIfInBounds_toArray, List.set_cons_zero, List.set_cons_succ, List.getElem_toArray, List.getElem_cons_zero, List.getElem_cons_succ])
        refine wpAnyH_take (i := 11) (v := ?_) rfl (by kernel_rfl) (by kernel_rfl) (by kernel_rfl) (fun _ _ _ h => h) (Or.inl ⟨by rfl, ?_⟩) (by assumption) ?_
        rotate_left
        · (intro wx hSw; have q1 := hSw.a.cell 1 rfl; go_simp; (try with_reducible rfl); (try omega))
        (try simp only [Act.put, List.setIfInBounds_toArray, List.set_cons_zero, List.set_cons_succ, List.getElem_toArray, List.getElem_cons_zero, List.getElem_cons_succ])
        refine wpAnyH_done (by kernel_rfl) ?_ _
        go_wp2_with fail
        go_ret
        exact IntAns.of C.out hS5.b
      by_cases h2 : k = 2
      · subst h2
        have C := hid0 (HV.out.trans (show hoOf 2 op ⟨k1, n1, s1⟩ ⟨k2, n2, s2⟩ L = nulV ⟨k1, n1, s1⟩ by unfold hoOf; rw [if_neg (by omega), if_neg (by omega), if_pos rfl]))
        cases hn : (k1 == 0)
        · go_wp2
          go_ret
          exact IntAns.of (C.out.trans (nul_no hn)) hB3.out
        · go_wp2
          go_ret
          exact IntAns.of (C.out.trans (nul_yes hn)) hB3.out
      by_cases h3 : k = 3
      · subst h3
        have C := hid0 (HV.out.trans (show hoOf 3 op ⟨k1, n1, s1⟩ ⟨k2, n2, s2⟩ L = 2 - nulV ⟨k1, n1, s1⟩ by unfold hoOf; rw [if_neg (by omega), if_neg (by omega), if_neg (by omega), if_pos rfl]))
        cases hn : (k1 == 0)
        · go_wp2
          go_ret
          exact IntAns.of (C.out.trans (by rw [nul_no hn]; rfl)) hB3.out
        · go_wp2
          go_ret
          exact IntAns.of (C.out.trans (by rw [nul_yes hn]; rfl)) hB3.out
      by_cases h4 : k = 4
      · subst h4
        have C := hid0 (HV.out.trans (show hoOf 4 op ⟨k1, n1, s1⟩ ⟨k2, n2, s2⟩ L = andV L by unfold hoOf; rw [if_neg (by omega), if_neg (by omega), if_neg (by omega), if_neg (by omega), if_pos rfl]))
        go_wp2_with (go_at_call 208; refine (refAnd_any _ _ _ _ hI3.out hLm.out).mono ?_; rintro e w5 ⟨rfl, rfl⟩)
        go_ret
        exact IntAns.of C.out hB3.out
      by_cases h5 : k = 5
      · subst h5
        have C := hid0 (HV.out.trans (show hoOf 5 op ⟨k1, n1, s1⟩ ⟨k2, n2, s2⟩ L = orV L by unfold hoOf; rw [if_neg (by omega), if_neg (by omega), if_neg (by omega), if_neg (by omega), if_neg (by omega), if_pos rfl]))
        go_wp2_with (go_at_call 209; refine (refOr_any _ _ _ _ hI3.out hLm.out).mono ?_; rintro e w5 ⟨rfl, rfl⟩)
        go_ret
        exact IntAns.of C.out hB3.out
      by_cases h6 : k = 6
      · subst h6
        by_cases hl1 : L.length = 1
        · obtain ⟨x, rfl⟩ : ∃ x, L = [x] := by
            match L, hl1 with
            | [x], _ => exact ⟨x, rfl⟩
          have C := hid0 (HV.out.trans (show hoOf 6 op ⟨k1, n1, s1⟩ ⟨k2, n2, s2⟩ [x] = notV x by unfold hoOf; rw [if_neg (by omega), if_neg (by omega), if_neg (by omega), if_neg (by omega), if_neg (by omega), if_neg (by omega), if_pos rfl]))
          obtain ⟨b, off, rfl, hc⟩ := hI3.out (by simp)
          have hc0 := hc 0 (by simp)
          rw [Nat.add_zero] at hc0
          have hc0' : w3.cell? ⟨b, off, none⟩ = some (.int .i64 x) := hc0
          have hcl := World.block_lt_of_cell? w3 _ hc0'
          clear hc hc0 hI3
          go_wp2_with (go_at_call 210; refine (refNot_any _ _).mono ?_; rintro e w5 ⟨rfl, rfl⟩)
          go_ret
          exact IntAns.of C.out hB3.out
        · have C := hid0 (HV.out.trans (ho_6n (op := op) (l := ⟨k1, n1, s1⟩) (r := ⟨k2, n2, s2⟩) hl1))
          have hne1 : (((L.length : Nat) : Int) == 1) = false := by simp; omega
          generalize L.length = m at *
          go_wp2
          go_ret
          exact IntAns.of C.out hB3.out
      · have C := hid0 (HV.out.trans (show hoOf k op ⟨k1, n1, s1⟩ ⟨k2, n2, s2⟩ L = 1 by unfold hoOf; rw [if_neg h0, if_neg h1, if_neg h2, if_neg h3, if_neg h4, if_neg h5, if_neg h6]))
        have t0 : (k == 0) = false := by simp; omega
        have t1 : (k == 1) = false := by simp; omega
        have t2 : (k == 2) = false := by simp; omega
        have t3 : (k == 3) = false := by simp; omega
        have t4 : (k == 4) = false := by simp; omega
        have t5 : (k == 5) = false := by simp; omega
        have t6 : (k == 6) = false := by simp; omega
        go_wp2
        go_ret
        exact IntAns.of C.out hB3.out
theorem refHolds_all : ∀ n, HoOkR n
  | 0 => ⟨fun _ _ _ _ _ h _ => h.elim⟩
  | n + 1 => ⟨fun t a cc row w ht hr => by
    obtain ⟨k, op, ⟨kl, al, vl, pl, cl, yl⟩, ⟨kr, ar, vr, pr, cr, yr⟩, p, c, ys⟩ := t
    exact refHolds_step (refHolds_all n) k op kl al vl pl cl yl kr ar vr pr cr yr p c ys a cc row w ht hr⟩
theorem refHolds_any {n : Nat} {t : Tx} {a : Option Addr} {row : List Val} {w : World} (cc : Nat) (ht : TxAt w n t) (hr : RowIn w a row) : Calls Tryz.prog 186 #[t.val, .slice a row.length cc] w (IntAns (hoT row t) w) := (refHolds_all n).out t a cc row w ht hr
end Go.Proofs.YtokkgikajammhaaGreat
