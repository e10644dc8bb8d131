/- The project's Eval, of an expression of any depth: a contract of the call, in whatever memory. Conditions: an expression's and a row's cells are known (what came in reads so). -/
import Derived.Test.YtolcebbpbihnoaaYc
import Derived.Test.YtolcebbpbihnoaaWv
namespace Go.Proofs.Ytolcebbpbihnoaa
open Go.RowKit

/-- A call that tells a value and an error, whenever it is made behind w. -/
structure StHalf (f : Nat) (w : World) (u v : Value) (r : Val × Int) : Prop where
  out : ∀ W, Below w.heap.size w W → Calls Try.prog f #[u, v] W (EvAns r W)
structure ColHalf (w : World) (u : Value) (q : Int) (r : Val × Int) : Prop where
  out : ∀ W, Below w.heap.size w W → Calls Try.prog 22 #[u, .int .i64 q] W (EvAns r W)
theorem ColHalf.mk' {w : World} {a : Option Addr} {cc : Nat} {row : List Val} {q : Int} (hr : RowIn w a row) : ColHalf w (.slice a row.length cc) q (colV row q) := ⟨fun W hb => column_any a cc row q W (hr.at_.later hb)⟩
set_option maxHeartbeats 2000000 in
theorem opposite_step {n : Nat} (IH : EvOk n) (q : Int) (v : Val) (p : Option Addr) (c : Nat) (ys : List Cx) (a : Option Addr) (cc : Nat) (row : List Val) (w : World) (hx : CxAt w (n + 1) (.mk 6 q v p c ys)) (hr : RowIn w a row) :
    Calls Try.prog 24 #[.agg #[.int .i64 6, .int .i64 q, .int .i64 v.k, .int .i64 v.n, .string v.s, .slice p ys.length c], .slice a row.length cc] w (EvAns (evC row (.mk 6 q v p c ys)) w) := by
  obtain ⟨h0, hA⟩ := hx
  by_cases hl : ys.length = 1
  · obtain ⟨x, rfl⟩ : ∃ x, ys = [x] := by
      match ys, hl with
      | [x], _ => exact ⟨x, rfl⟩
    have C := hid0 (ev_one (row := row) (a := q) (v := v) (p := p) (c := c) (x := x))
    have H1 := IH.half (cc := cc) (hA x (by simp)) hr
    have i1 := (hA x (by simp)).i hr.i
    obtain ⟨b, o, rfl, hb, hX⟩ := h0.arg 0 (by simp)
    clear hA h0 IH hr
    generalize evC row x = r1 at C H1 i1
    obtain ⟨⟨k1, n1, s1⟩, f1⟩ := r1
    obtain ⟨kx, ax, vx, px, cx, yx⟩ := x
    obtain ⟨VA, VB⟩ := VarB.two (w := w) [.int .i64 6, .int .i64 q, .int .i64 v.k, .int .i64 v.n, .string v.s, .slice (some ⟨b, o, none⟩) 1 c] [.int .i64 0, .int .i64 0, .string ⟨#[]⟩] 26 23
    have x0 := rng hX 0 rfl
    have x1 := rng hX 1 rfl
    have x2 := rng hX 2 rfl
    have x3 := rng hX 3 rfl
    have x4 := rng hX 4 rfl
    have x5 := rng hX 5 rfl
    simp only [Nat.zero_mul, Nat.add_zero] at x0 x1 x2 x3 x4 x5
    replace hX := hid0 hX
    have a5 := VA.cell 5 rfl
    replace VA := hid0 VA
    replace VB := hid0 VB
    have I1 := hid0 i1
    clear i1
    go_enter Try.func24, Try.ntmps24
    go_wp2_with fail
    go_at_call 8
    refine (H1.out _ (by go_grown)).mono ?_
    rintro e w1 ⟨rfl, hb1⟩
    have VA1 := VA.out.below hb1
    have VB1 := VB.out.below hb1
    have hB1 : Below w.heap.size w w1 := below_through hb1 (by simp; omega) (by go_grown)
    have z1 : w.heap.size + 1 < w1.heap.size := VB1.lt
    have z2 : w.heap.size < w1.heap.size := VA1.lt
    replace VA1 := hid0 VA1
    replace VB1 := hid0 VB1
    clear hb1
    cases hf1 : (f1 != 0)
    · have b1 := I1.out.1
      have b2 := I1.out.2.1
      go_wp2_with fail
      go_at_call 46
      refine (neg_any _ _ _ _ b1 b2).mono ?_
      rintro e w3 ⟨rfl, hb3⟩
      have VB3 := (VB1.out.alloc (.cells #[.int .i64 k1, .int .i64 n1, .string s1] 23)).below hb3
      have hB3 : Below w.heap.size w w3 := below_through hb3 (by simp; omega) (hB1.alloc (by omega) _)
      have r0 := VB3.cell 0 rfl
      have g0 := VB3.frz 0 (by decide)
      have r1 := VB3.cell 1 rfl
      have g1 := VB3.frz 1 (by decide)
      have r2 := VB3.cell 2 rfl
      have g2 := VB3.frz 2 (by decide)
      go_wp2
      exact end_vt (VB3.puts [.int .i64 (cK 4 1 0 k1 n1), .int .i64 (cN 4 1 0 k1 n1), .string ⟨#[]⟩] rfl) rfl rfl rfl _ Try.underlying23 rfl infoV rfl (EvAns.of (C.out.trans (neg_ok hf1)) (((hB3.setCell (by simp) _).setCell (by simp) _).setCell (by simp) _))
    ·
      have r0 := VB1.out.cell 0 rfl
      have g0 := VB1.out.frz 0 (by decide)
      have r1 := VB1.out.cell 1 rfl
      have g1 := VB1.out.frz 1 (by decide)
      have r2 := VB1.out.cell 2 rfl
      have g2 := VB1.out.frz 2 (by decide)
      go_wp2
      exact end_vt ((VB1.out.puts [.int .i64 0, .int .i64 0, .string ⟨#[]⟩] rfl).alloc _) rfl rfl rfl _ Try.underlying23 rfl infoV rfl (EvAns.of (C.out.trans (neg_err hf1)) ((((hB1.setCell (by simp) _).setCell (by simp) _).setCell (by simp) _).alloc (by simp; omega) _))
  · have C := hid0 (ev_not1 (row := row) (a := q) (v := v) (p := p) (c := c) hl)
    generalize ys.length = m at *
    have hm : (((m : Nat) : Int) != 1) = true := by simp; omega
    go_enter Try.func24, Try.ntmps24
    go_wp2
    go_returns
    exact EvAns.of C.out (by go_grown)

set_option maxHeartbeats 2000000 in
theorem eval_step {n : Nat} (IH : EvOk n) (k q : Int) (v : Val) (p : Option Addr) (c : Nat) (ys : List Cx) (a : Option Addr) (cc : Nat) (row : List Val) (w : World) (hx : CxAt w (n + 1) (.mk k q v p c ys)) (hr : RowIn w a row) :
    Calls Try.prog 8 #[.agg #[.int .i64 k, .int .i64 q, .int .i64 v.k, .int .i64 v.n, .string v.s, .slice p ys.length c], .slice a row.length cc] w (EvAns (evC row (.mk k q v p c ys)) w) := by
  by_cases h1 : k = 1
  · subst h1
    have C := hid0 (show evC row (.mk 1 q v p c ys) = colV row q by rw [evC]; exact if_pos rfl)
    have H := ColHalf.mk' (w := w) (cc := cc) (q := q) hr
    generalize colV row q = r1 at C H
    obtain ⟨⟨k1, n1, s1⟩, f1⟩ := r1
    clear IH hx hr
    obtain ⟨VA, VB⟩ := VarB.two (w := w) [.int .i64 1, .int .i64 q, .int .i64 v.k, .int .i64 v.n, .string v.s, .slice p ys.length c] [.int .i64 0, .int .i64 0, .string ⟨#[]⟩] 26 23
    have a0 := VA.cell 0 rfl
    have a1 := VA.cell 1 rfl
    have a2 := VA.cell 2 rfl
    have a3 := VA.cell 3 rfl
    have a4 := VA.cell 4 rfl
    have a5 := VA.cell 5 rfl
    replace VB := hid0 VB
    clear VA
    go_enter Try.func8, Try.ntmps8
    go_wp2_with fail
    go_at_call 22
    refine (H.out _ (by go_grown)).mono ?_
    rintro e w1 ⟨rfl, hb1⟩
    have VB1 := VB.out.below hb1
    have hB1 : Below w.heap.size w w1 := below_through hb1 (by simp; omega) (by go_grown)
    replace VB1 := hid0 VB1
    have r0 := VB1.out.cell 0 rfl
    have g0 := VB1.out.frz 0 (by decide)
    have r1 := VB1.out.cell 1 rfl
    have g1 := VB1.out.frz 1 (by decide)
    have r2 := VB1.out.cell 2 rfl
    have g2 := VB1.out.frz 2 (by decide)
    clear hb1 a0 a1 a2 a3 a4 a5
    go_wp2
    exact end_vt (VB1.out.puts [.int .i64 k1, .int .i64 n1, .string s1] rfl) rfl rfl rfl _ Try.underlying23 rfl infoV rfl (EvAns.of C.out (((hB1.setCell (by simp) _).setCell (by simp) _).setCell (by simp) _))
  by_cases h2 : k = 2
  · subst h2
    have C := hid0 (show evC row (.mk 2 q v p c ys) = (v, 0) by rw [evC]; unfold evOf; rw [if_neg (by omega), if_pos rfl])
    clear IH hx hr
    go_enter Try.func8, Try.ntmps8
    go_wp2
    go_returns
    exact EvAns.of C.out (by go_grown)
  by_cases h3 : k = 3 ∨ k = 4 ∨ k = 5
  · have H : StHalf 23 w (.agg #[.int .i64 k, .int .i64 q, .int .i64 v.k, .int .i64 v.n, .string v.s, .slice p ys.length c]) (.slice a row.length cc) (evC row (.mk k q v p c ys)) := ⟨fun W hW => reckoned_step IH k q v p c ys a cc row W (hx.later hW) (hr.later hW) h3⟩
    have C := hid0 (rfl : evC row (.mk k q v p c ys) = evC row (.mk k q v p c ys))
    generalize hg : evC row (.mk k q v p c ys) = r1 at C H
    obtain ⟨⟨k1, n1, s1⟩, f1⟩ := r1
    clear IH hx hr hg
    rcases h3 with rfl | rfl | rfl
    · skip
      obtain ⟨VA, VB⟩ := VarB.two (w := w) [.int .i64 3, .int .i64 q, .int .i64 v.k, .int .i64 v.n, .string v.s, .slice p ys.length c] [.int .i64 0, .int .i64 0, .string ⟨#[]⟩] 26 23
      have a0 := VA.cell 0 rfl
      have a1 := VA.cell 1 rfl
      have a2 := VA.cell 2 rfl
      have a3 := VA.cell 3 rfl
      have a4 := VA.cell 4 rfl
      have a5 := VA.cell 5 rfl
      replace VB := hid0 VB
      clear VA
      go_enter Try.func8, Try.ntmps8
      go_wp2_with fail
      go_at_call 23
      refine (H.out _ (by go_grown)).mono ?_
      rintro e w1 ⟨rfl, hb1⟩
      have VB1 := VB.out.below hb1
      have hB1 : Below w.heap.size w w1 := below_through hb1 (by simp; omega) (by go_grown)
      replace VB1 := hid0 VB1
      have r0 := VB1.out.cell 0 rfl
      have g0 := VB1.out.frz 0 (by decide)
      have r1 := VB1.out.cell 1 rfl
      have g1 := VB1.out.frz 1 (by decide)
      have r2 := VB1.out.cell 2 rfl
      have g2 := VB1.out.frz 2 (by decide)
      clear hb1 a0 a1 a2 a3 a4 a5
      go_wp2
      exact end_vt (VB1.out.puts [.int .i64 k1, .int .i64 n1, .string s1] rfl) rfl rfl rfl _ Try.underlying23 rfl infoV rfl (EvAns.of rfl (((hB1.setCell (by simp) _).setCell (by simp) _).setCell (by simp) _))
    · skip
      obtain ⟨VA, VB⟩ := VarB.two (w := w) [.int .i64 4, .int .i64 q, .int .i64 v.k, .int .i64 v.n, .string v.s, .slice p ys.length c] [.int .i64 0, .int .i64 0, .string ⟨#[]⟩] 26 23
      have a0 := VA.cell 0 rfl
      have a1 := VA.cell 1 rfl
      have a2 := VA.cell 2 rfl
      have a3 := VA.cell 3 rfl
      have a4 := VA.cell 4 rfl
      have a5 := VA.cell 5 rfl
      replace VB := hid0 VB
      clear VA
      go_enter Try.func8, Try.ntmps8
      go_wp2_with fail
      go_at_call 23
      refine (H.out _ (by go_grown)).mono ?_
      rintro e w1 ⟨rfl, hb1⟩
      have VB1 := VB.out.below hb1
      have hB1 : Below w.heap.size w w1 := below_through hb1 (by simp; omega) (by go_grown)
      replace VB1 := hid0 VB1
      have r0 := VB1.out.cell 0 rfl
      have g0 := VB1.out.frz 0 (by decide)
      have r1 := VB1.out.cell 1 rfl
      have g1 := VB1.out.frz 1 (by decide)
      have r2 := VB1.out.cell 2 rfl
      have g2 := VB1.out.frz 2 (by decide)
      clear hb1 a0 a1 a2 a3 a4 a5
      go_wp2
      exact end_vt (VB1.out.puts [.int .i64 k1, .int .i64 n1, .string s1] rfl) rfl rfl rfl _ Try.underlying23 rfl infoV rfl (EvAns.of rfl (((hB1.setCell (by simp) _).setCell (by simp) _).setCell (by simp) _))
    · skip
      obtain ⟨VA, VB⟩ := VarB.two (w := w) [.int .i64 5, .int .i64 q, .int .i64 v.k, .int .i64 v.n, .string v.s, .slice p ys.length c] [.int .i64 0, .int .i64 0, .string ⟨#[]⟩] 26 23
      have a0 := VA.cell 0 rfl
      have a1 := VA.cell 1 rfl
      have a2 := VA.cell 2 rfl
      have a3 := VA.cell 3 rfl
      have a4 := VA.cell 4 rfl
      have a5 := VA.cell 5 rfl
      replace VB := hid0 VB
      clear VA
      go_enter Try.func8, Try.ntmps8
      go_wp2_with fail
      go_at_call 23
      refine (H.out _ (by go_grown)).mono ?_
      rintro e w1 ⟨rfl, hb1⟩
      have VB1 := VB.out.below hb1
      have hB1 : Below w.heap.size w w1 := below_through hb1 (by simp; omega) (by go_grown)
      replace VB1 := hid0 VB1
      have r0 := VB1.out.cell 0 rfl
      have g0 := VB1.out.frz 0 (by decide)
      have r1 := VB1.out.cell 1 rfl
      have g1 := VB1.out.frz 1 (by decide)
      have r2 := VB1.out.cell 2 rfl
      have g2 := VB1.out.frz 2 (by decide)
      clear hb1 a0 a1 a2 a3 a4 a5
      go_wp2
      exact end_vt (VB1.out.puts [.int .i64 k1, .int .i64 n1, .string s1] rfl) rfl rfl rfl _ Try.underlying23 rfl infoV rfl (EvAns.of rfl (((hB1.setCell (by simp) _).setCell (by simp) _).setCell (by simp) _))
  by_cases h6 : k = 6
  · subst h6
    have H : StHalf 24 w (.agg #[.int .i64 6, .int .i64 q, .int .i64 v.k, .int .i64 v.n, .string v.s, .slice p ys.length c]) (.slice a row.length cc) (evC row (.mk 6 q v p c ys)) := ⟨fun W hW => opposite_step IH q v p c ys a cc row W (hx.later hW) (hr.later hW)⟩
    generalize evC row (.mk 6 q v p c ys) = r1 at H
    obtain ⟨⟨k1, n1, s1⟩, f1⟩ := r1
    clear IH hx hr
    obtain ⟨VA, VB⟩ := VarB.two (w := w) [.int .i64 6, .int .i64 q, .int .i64 v.k, .int .i64 v.n, .string v.s, .slice p ys.length c] [.int .i64 0, .int .i64 0, .string ⟨#[]⟩] 26 23
    have a0 := VA.cell 0 rfl
    have a1 := VA.cell 1 rfl
    have a2 := VA.cell 2 rfl
    have a3 := VA.cell 3 rfl
    have a4 := VA.cell 4 rfl
    have a5 := VA.cell 5 rfl
    replace VB := hid0 VB
    clear VA
    go_enter Try.func8, Try.ntmps8
    go_wp2_with fail
    go_at_call 24
    refine (H.out _ (by go_grown)).mono ?_
    rintro e w1 ⟨rfl, hb1⟩
    have VB1 := VB.out.below hb1
    have hB1 : Below w.heap.size w w1 := below_through hb1 (by simp; omega) (by go_grown)
    replace VB1 := hid0 VB1
    have r0 := VB1.out.cell 0 rfl
    have g0 := VB1.out.frz 0 (by decide)
    have r1 := VB1.out.cell 1 rfl
    have g1 := VB1.out.frz 1 (by decide)
    have r2 := VB1.out.cell 2 rfl
    have g2 := VB1.out.frz 2 (by decide)
    clear hb1 a0 a1 a2 a3 a4 a5
    go_wp2
    exact end_vt (VB1.out.puts [.int .i64 k1, .int .i64 n1, .string s1] rfl) rfl rfl rfl _ Try.underlying23 rfl infoV rfl (EvAns.of rfl (((hB1.setCell (by simp) _).setCell (by simp) _).setCell (by simp) _))
  · have C := hid0 (show evC row (.mk k q v p c ys) = (zV, 8) by rw [evC]; unfold evOf; rw [if_neg h1, if_neg h2, if_neg h3, if_neg h6])
    clear IH hx hr
    have t1 : (k == 1) = false := by simp; omega
    have t2 : (k == 2) = false := by simp; omega
    have t3 : (k == 3) = false := by simp; omega
    have t4 : (k == 4) = false := by simp; omega
    have t5 : (k == 5) = false := by simp; omega
    have t6 : (k == 6) = false := by simp; omega
    go_enter Try.func8, Try.ntmps8
    go_wp2
    go_returns
    exact EvAns.of C.out (by go_grown)
theorem eval_all : ∀ n, EvOk n
  | 0 => ⟨fun _ _ _ _ _ h _ => h.elim⟩
  | n + 1 => ⟨fun x a cc row w hx hr => by
    obtain ⟨k, q, v, p, c, ys⟩ := x
    exact eval_step (eval_all n) k q v p c ys a cc row w hx hr⟩
theorem eval_any {n : Nat} {x : Cx} {a : Option Addr} {row : List Val} {w : World} (cc : Nat) (hx : CxAt w n x) (hr : RowIn w a row) : Calls Try.prog 8 #[x.val, .slice a row.length cc] w (EvAns (evC row x) w) := (eval_all n).out x a cc row w hx hr
end Go.Proofs.Ytolcebbpbihnoaa
