/- The project's side and empty: contracts of the calls, in whatever memory. Conditions: an expression's and a row's cells are known. -/
import Derived.Test.YtolcebbpbihnoaaYe
namespace Go.Proofs.Ytolcebbpbihnoaa
open Go.RowKit

/-- What a call answers that tells a value; a number. -/
def SdAns (v : Val) (w : World) (e : Ending) (w' : World) : Prop := e = .returned (.agg #[.int .i64 v.k, .int .i64 v.n, .string v.s]) ∧ Below w.heap.size w w'
theorem SdAns.of {r : Val} {k n : Int} {s : ByteArray} {w w' : World} (h : r = ⟨k, n, s⟩) (hb : Below w.heap.size w w') : SdAns r w (.returned (.agg #[.int .i64 k, .int .i64 n, .string s])) w' := by
  subst h; exact ⟨rfl, hb⟩
def IntAns (x : Int) (w : World) (e : Ending) (w' : World) : Prop := e = .returned (.int .i64 x) ∧ Below w.heap.size w w'
theorem IntAns.of {x y : Int} {w w' : World} (h : x = y) (hb : Below w.heap.size w w') : IntAns x w (.returned (.int .i64 y)) w' := by subst h; exact ⟨rfl, hb⟩
theorem sd_yes {row : List Val} {k a : Int} {v : Val} {p : Option Addr} {c : Nat} {ys : List Cx} (h : k = 1 ∨ k = 2) : sdC row (.mk k a v p c ys) = (evC row (.mk k a v p c ys)).1 := by rw [sdC, if_pos h]
theorem sd_no {row : List Val} {k a : Int} {v : Val} {p : Option Addr} {c : Nat} {ys : List Cx} (h : ¬ (k = 1 ∨ k = 2)) : sdC row (.mk k a v p c ys) = zV := by rw [sdC, if_neg h]
structure SdHalf (f : Nat) (w : World) (u v : Value) (r : Val) : Prop where
  out : ∀ W, Below w.heap.size w W → Calls Try.prog f #[u, v] W (SdAns r W)
set_option maxHeartbeats 4000000 in
set_option maxRecDepth 100000 in
theorem side_any {n : Nat} {x : Cx} {a : Option Addr} {row : List Val} {w : World} (cc : Nat) (hx : CxAt w n x) (hr : RowIn w a row) :
    Calls Try.prog 31 #[x.val, .slice a row.length cc] w (SdAns (sdC row x) w) := by
  obtain ⟨k, q, v, p, c, ys⟩ := x
  show Calls Try.prog 31 #[.agg #[.int .i64 k, .int .i64 q, .int .i64 v.k, .int .i64 v.n, .string v.s, .slice p ys.length c], .slice a row.length cc] w (SdAns (sdC row (.mk k q v p c ys)) w)
  by_cases hk : k = 1 ∨ k = 2
  rotate_left
  · have C := hid0 (sd_no (row := row) (a := q) (v := v) (p := p) (c := c) (ys := ys) hk)
    have t1 : (k != 1) = true := by simp; omega
    have t2 : (k != 2) = true := by simp; omega
    clear hx hr hk
    go_enter Try.func31, Try.ntmps31
    go_wp2
    go_returns
    exact SdAns.of C.out (by go_grown)
  rcases hk with rfl | rfl
  · skip
    have H : EvHalf w (.agg #[.int .i64 1, .int .i64 q, .int .i64 v.k, .int .i64 v.n, .string v.s, .slice p ys.length c]) (.slice a row.length cc) (evC row (.mk 1 q v p c ys)) := ⟨fun W hb => eval_any cc (hx.later hb) (hr.later hb)⟩
    have C := hid0 (sd_yes (row := row) (a := q) (v := v) (p := p) (c := c) (ys := ys) (show (1 : Int) = 1 ∨ (1 : Int) = 2 by omega))
    generalize evC row (.mk 1 q v p c ys) = r1 at C H
    obtain ⟨⟨k1, n1, s1⟩, f1⟩ := r1
    clear hx hr
    obtain ⟨VA, VB⟩ := VarB.two (w := w) [.int .i64 1, .int .i64 q, .int .i64 v.k, .int .i64 v.n, .string v.s, .slice p ys.length c] [.int .i64 0, .int .i64 0, .string ⟨#[]⟩] 26 23
    have a0 := VA.cell 0 rfl
    have a1 := VA.cell 1 rfl
    have a2 := VA.cell 2 rfl
    have a3 := VA.cell 3 rfl
    have a4 := VA.cell 4 rfl
    have a5 := VA.cell 5 rfl
    replace VB := hid0 VB
    clear VA
    go_enter Try.func31, Try.ntmps31
    go_wp2_with fail
    go_at_call 8
    refine (H.out _ (by go_grown)).mono ?_
    rintro e w1 ⟨rfl, hb1⟩
    have VB1 := VB.out.below hb1
    have hB1 : Below w.heap.size w w1 := below_through hb1 (by simp; omega) (by go_grown)
    have z1 : w.heap.size + 1 < w1.heap.size := VB1.lt
    replace VB1 := hid0 VB1
    have r0 := VB1.out.cell 0 rfl
    have g0 := VB1.out.frz 0 (by decide)
    have r1 := VB1.out.cell 1 rfl
    have g1 := VB1.out.frz 1 (by decide)
    have r2 := VB1.out.cell 2 rfl
    have g2 := VB1.out.frz 2 (by decide)
    clear hb1 a0 a1 a2 a3 a4 a5
    go_wp2
    exact end_blk ((VB1.out.puts [.int .i64 k1, .int .i64 n1, .string s1] rfl).alloc _) rfl rfl _ Try.underlying23 rfl infoV rfl (SdAns.of C.out ((((hB1.setCell (by simp) _).setCell (by simp) _).setCell (by simp) _).alloc (by simp; omega) _))
  · skip
    have H : EvHalf w (.agg #[.int .i64 2, .int .i64 q, .int .i64 v.k, .int .i64 v.n, .string v.s, .slice p ys.length c]) (.slice a row.length cc) (evC row (.mk 2 q v p c ys)) := ⟨fun W hb => eval_any cc (hx.later hb) (hr.later hb)⟩
    have C := hid0 (sd_yes (row := row) (a := q) (v := v) (p := p) (c := c) (ys := ys) (show (2 : Int) = 1 ∨ (2 : Int) = 2 by omega))
    generalize evC row (.mk 2 q v p c ys) = r1 at C H
    obtain ⟨⟨k1, n1, s1⟩, f1⟩ := r1
    clear hx hr
    obtain ⟨VA, VB⟩ := VarB.two (w := w) [.int .i64 2, .int .i64 q, .int .i64 v.k, .int .i64 v.n, .string v.s, .slice p ys.length c] [.int .i64 0, .int .i64 0, .string ⟨#[]⟩] 26 23
    have a0 := VA.cell 0 rfl
    have a1 := VA.cell 1 rfl
    have a2 := VA.cell 2 rfl
    have a3 := VA.cell 3 rfl
    have a4 := VA.cell 4 rfl
    have a5 := VA.cell 5 rfl
    replace VB := hid0 VB
    clear VA
    go_enter Try.func31, Try.ntmps31
    go_wp2_with fail
    go_at_call 8
    refine (H.out _ (by go_grown)).mono ?_
    rintro e w1 ⟨rfl, hb1⟩
    have VB1 := VB.out.below hb1
    have hB1 : Below w.heap.size w w1 := below_through hb1 (by simp; omega) (by go_grown)
    have z1 : w.heap.size + 1 < w1.heap.size := VB1.lt
    replace VB1 := hid0 VB1
    have r0 := VB1.out.cell 0 rfl
    have g0 := VB1.out.frz 0 (by decide)
    have r1 := VB1.out.cell 1 rfl
    have g1 := VB1.out.frz 1 (by decide)
    have r2 := VB1.out.cell 2 rfl
    have g2 := VB1.out.frz 2 (by decide)
    clear hb1 a0 a1 a2 a3 a4 a5
    go_wp2
    exact end_blk ((VB1.out.puts [.int .i64 k1, .int .i64 n1, .string s1] rfl).alloc _) rfl rfl _ Try.underlying23 rfl infoV rfl (SdAns.of C.out ((((hB1.setCell (by simp) _).setCell (by simp) _).setCell (by simp) _).alloc (by simp; omega) _))
set_option maxHeartbeats 4000000 in
set_option maxRecDepth 100000 in
theorem empty_any {n : Nat} {x : Cx} {a : Option Addr} {row : List Val} {w : World} (cc : Nat) (hx : CxAt w n x) (hr : RowIn w a row) :
    Calls Try.prog 32 #[x.val, .slice a row.length cc] w (IntAns (nulV (sdC row x)) w) := by
  obtain ⟨k, q, v, p, c, ys⟩ := x
  show Calls Try.prog 32 #[.agg #[.int .i64 k, .int .i64 q, .int .i64 v.k, .int .i64 v.n, .string v.s, .slice p ys.length c], .slice a row.length cc] w (IntAns (nulV (sdC row (.mk k q v p c ys))) w)
  have H : SdHalf 31 w (.agg #[.int .i64 k, .int .i64 q, .int .i64 v.k, .int .i64 v.n, .string v.s, .slice p ys.length c]) (.slice a row.length cc) (sdC row (.mk k q v p c ys)) := ⟨fun W hb => side_any cc (hx.later hb) (hr.later hb)⟩
  generalize sdC row (.mk k q v p c ys) = r1 at H
  obtain ⟨k1, n1, s1⟩ := r1
  clear hx hr
  cases hk : (k1 == 0)
  all_goals
    have C := hid0 hk
    have fl : ∀ W : World, (Instr.field 23 (.agg #[.int .i64 k1, .int .i64 n1, .string s1]) 0).run Try.prog W = .ok (.int .i64 k1) W := fun W => rfl
    go_enter Try.func32, Try.ntmps32
    go_wp2_with (go_at_call 31; refine (H.out _ (by go_grown)).mono ?_; rintro e w1 ⟨rfl, hb1⟩)
    have hB1 : Below w.heap.size w w1 := below_through hb1 (by simp) (by go_grown)
    go_ret
  · exact IntAns.of (by unfold nulV; rw [if_neg (by simpa using C.out)]) hB1
  · exact IntAns.of (by unfold nulV; rw [if_pos (by simpa using C.out)]) hB1
end Go.Proofs.Ytolcebbpbihnoaa
