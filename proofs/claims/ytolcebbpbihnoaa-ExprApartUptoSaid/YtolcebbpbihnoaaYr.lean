/- The reference's side: a contract of the call, in whatever memory. Conditions: an expression's and a row's cells are known. -/
import Derived.Test.YtolcebbpbihnoaaYq
import Derived.Test.YtolcebbpbihnoaaYf
namespace Go.Proofs.Ytolcebbpbihnoaa
open Go.RowKit

theorem ev_leaf {row : List Val} {k a : Int} {v : Val} {p : Option Addr} {c : Nat} {ys : List Cx} (h : k = 1 ∨ k = 2) (hf : ((evC row (.mk k a v p c ys)).2 != 0) = true) : (evC row (.mk k a v p c ys)).1 = zV := by
  rcases h with rfl | rfl
  · have e : evC row (.mk 1 a v p c ys) = colV row a := by rw [evC]; exact if_pos rfl
    rw [e] at hf ⊢
    unfold colV at hf ⊢
    split
    · rfl
    · rename_i h
      rw [if_neg h] at hf
      split
      · rename_i h2; rw [h2] at hf; simp at hf
      · rfl
  · have e : evC row (.mk 2 a v p c ys) = (v, 0) := by rw [evC]; unfold evOf; rw [if_neg (by omega), if_pos rfl]
    rw [e] at hf; simp at hf
set_option maxHeartbeats 4000000 in
set_option maxRecDepth 100000 in
theorem refSide_any {n : Nat} {x : Cx} {a : Option Addr} {row : List Val} {w : World} (cc : Nat) (hx : CxAt w n x) (hr : RowIn w a row) :
    Calls Try.prog 37 #[x.val, .slice a row.length cc] w (SdAns (sdC row x) w) := by
  obtain ⟨k, q, v, p, c, ys⟩ := x
  show Calls Try.prog 37 #[.agg #[.int .i64 k, .int .i64 q, .int .i64 v.k, .int .i64 v.n, .string v.s, .slice p ys.length c], .slice a row.length cc] w (SdAns (sdC row (.mk k q v p c ys)) w)
  by_cases hk : k = 1 ∨ k = 2
  rotate_left
  · have C := hid0 (sd_no (row := row) (a := q) (v := v) (p := p) (c := c) (ys := ys) hk)
    have t1 : (k != 1) = true := by simp; omega
    have t2 : (k != 2) = true := by simp; omega
    clear hx hr hk
    go_enter Try.func37, Try.ntmps37
    go_wp2
    go_returns
    exact SdAns.of C.out (by go_grown)
  rcases hk with rfl | rfl
  · skip
    have H : EvHalfR w (.agg #[.int .i64 1, .int .i64 q, .int .i64 v.k, .int .i64 v.n, .string v.s, .slice p ys.length c]) (.slice a row.length cc) (evC row (.mk 1 q v p c ys)) := ⟨fun W hb => refEval_any cc (hx.later hb) (hr.later hb)⟩
    have C := hid0 (sd_yes (row := row) (a := q) (v := v) (p := p) (c := c) (ys := ys) (show (1 : Int) = 1 ∨ (1 : Int) = 2 by omega))
    have L := hid0 (ev_leaf (row := row) (k := 1) (a := q) (v := v) (p := p) (c := c) (ys := ys) (by omega))
    generalize evC row (.mk 1 q v p c ys) = r1 at C H L
    obtain ⟨⟨k1, n1, s1⟩, f1⟩ := r1
    clear hx hr
    obtain ⟨VA, VB⟩ := VarB.two (w := w) [.int .i64 1, .int .i64 q, .int .i64 v.k, .int .i64 v.n, .string v.s, .slice p ys.length c] [.int .i64 0, .int .i64 0, .string ⟨#[]⟩] 26 23
    have a0 := VA.cell 0 rfl
    have a1 := VA.cell 1 rfl
    have a2 := VA.cell 2 rfl
    have a3 := VA.cell 3 rfl
    have a4 := VA.cell 4 rfl
    have a5 := VA.cell 5 rfl
    replace VB := hid0 VB
    clear VA
    go_enter Try.func37, Try.ntmps37
    go_wp2_with fail
    go_at_call 9
    refine (H.out _ (by go_grown)).mono ?_
    rintro e w1 ⟨rfl, hb1⟩
    have VB1 := VB.out.below hb1
    have hB1 : Below w.heap.size w w1 := below_through hb1 (by simp; omega) (by go_grown)
    have z1 : w.heap.size + 1 < w1.heap.size := VB1.lt
    replace VB1 := hid0 VB1
    have r0 := VB1.out.cell 0 rfl
    have g0 := VB1.out.frz 0 (by decide)
    have r1 := VB1.out.cell 1 rfl
    have g1 := VB1.out.frz 1 (by decide)
    have r2 := VB1.out.cell 2 rfl
    have g2 := VB1.out.frz 2 (by decide)
    clear hb1 a0 a1 a2 a3 a4 a5
    cases hf1 : (f1 != 0)
    · go_wp2
      exact end_blk ((VB1.out.puts [.int .i64 k1, .int .i64 n1, .string s1] rfl).alloc _) rfl rfl _ Try.underlying23 rfl infoV rfl (SdAns.of C.out ((((hB1.setCell (by simp) _).setCell (by simp) _).setCell (by simp) _).alloc (by simp; omega) _))
    · go_wp2
      exact end_blk ((VB1.out.puts [.int .i64 0, .int .i64 0, .string ⟨#[]⟩] rfl).alloc _) rfl rfl _ Try.underlying23 rfl infoV rfl (SdAns.of (C.out.trans (L.out hf1)) ((((hB1.setCell (by simp) _).setCell (by simp) _).setCell (by simp) _).alloc (by simp; omega) _))
  · skip
    have H : EvHalfR w (.agg #[.int .i64 2, .int .i64 q, .int .i64 v.k, .int .i64 v.n, .string v.s, .slice p ys.length c]) (.slice a row.length cc) (evC row (.mk 2 q v p c ys)) := ⟨fun W hb => refEval_any cc (hx.later hb) (hr.later hb)⟩
    have C := hid0 (sd_yes (row := row) (a := q) (v := v) (p := p) (c := c) (ys := ys) (show (2 : Int) = 1 ∨ (2 : Int) = 2 by omega))
    have L := hid0 (ev_leaf (row := row) (k := 2) (a := q) (v := v) (p := p) (c := c) (ys := ys) (by omega))
    generalize evC row (.mk 2 q v p c ys) = r1 at C H L
    obtain ⟨⟨k1, n1, s1⟩, f1⟩ := r1
    clear hx hr
    obtain ⟨VA, VB⟩ := VarB.two (w := w) [.int .i64 2, .int .i64 q, .int .i64 v.k, .int .i64 v.n, .string v.s, .slice p ys.length c] [.int .i64 0, .int .i64 0, .string ⟨#[]⟩] 26 23
    have a0 := VA.cell 0 rfl
    have a1 := VA.cell 1 rfl
    have a2 := VA.cell 2 rfl
    have a3 := VA.cell 3 rfl
    have a4 := VA.cell 4 rfl
    have a5 := VA.cell 5 rfl
    replace VB := hid0 VB
    clear VA
    go_enter Try.func37, Try.ntmps37
    go_wp2_with fail
    go_at_call 9
    refine (H.out _ (by go_grown)).mono ?_
    rintro e w1 ⟨rfl, hb1⟩
    have VB1 := VB.out.below hb1
    have hB1 : Below w.heap.size w w1 := below_through hb1 (by simp; omega) (by go_grown)
    have z1 : w.heap.size + 1 < w1.heap.size := VB1.lt
    replace VB1 := hid0 VB1
    have r0 := VB1.out.cell 0 rfl
    have g0 := VB1.out.frz 0 (by decide)
    have r1 := VB1.out.cell 1 rfl
    have g1 := VB1.out.frz 1 (by decide)
    have r2 := VB1.out.cell 2 rfl
    have g2 := VB1.out.frz 2 (by decide)
    clear hb1 a0 a1 a2 a3 a4 a5
    cases hf1 : (f1 != 0)
    · go_wp2
      exact end_blk ((VB1.out.puts [.int .i64 k1, .int .i64 n1, .string s1] rfl).alloc _) rfl rfl _ Try.underlying23 rfl infoV rfl (SdAns.of C.out ((((hB1.setCell (by simp) _).setCell (by simp) _).setCell (by simp) _).alloc (by simp; omega) _))
    · go_wp2
      exact end_blk ((VB1.out.puts [.int .i64 0, .int .i64 0, .string ⟨#[]⟩] rfl).alloc _) rfl rfl _ Try.underlying23 rfl infoV rfl (SdAns.of (C.out.trans (L.out hf1)) ((((hB1.setCell (by simp) _).setCell (by simp) _).setCell (by simp) _).alloc (by simp; omega) _))
end Go.Proofs.Ytolcebbpbihnoaa
