/- The walk of the law ExprNot: it returns true, and below the heap's end memory is as it was. Conditions: a condition's and a row's cells are known (what came in reads so). -/
import Derived.Test.YtolcebbpbihnoaaYm
namespace Go.Proofs.Ytolcebbpbihnoaa
open Go.RowKit

theorem cx_zero (W : World) : ∀ {n : Nat}, 0 < n → CxAt W n zCx
  | 0, h => absurd h (by omega)
  | _ + 1, _ => cx_leaf _ inI_zV
theorem TxAt.pos {W : World} : ∀ {n : Nat} {t : Tx}, TxAt W n t → 0 < n
  | 0, _, h => h.elim
  | _ + 1, _, _ => Nat.succ_pos _
theorem tx_one {W : World} {n : Nat} {t : Tx} {B : Nat} (k : Int) (ht : TxAt W n t) (hB : VarB W B t.cells) : TxAt W (n + 1) (.mk k 0 zCx zCx (some ⟨B, 0, none⟩) 1 [t]) := by
  refine ⟨⟨cx_zero W ht.pos, cx_zero W ht.pos⟩, ⟨Nat.le_refl _, by simp, ⟨fun i hi => ⟨B, 0, rfl, hB.lt, ?_⟩⟩⟩, fun x hx => ?_⟩
  · match i, hi with
    | 0, _ =>
      intro j v hv
      have := hB.at_ j v hv
      simpa using this
    | i + 1, hi => exact absurd hi (by simp)
  · simp at hx; subst hx; exact ht
theorem tx_two {W : World} {n : Nat} {t : Tx} {B : Nat} (k : Int) (ht : TxAt W n t) (hB : VarB W B (t.cells ++ t.cells)) : TxAt W (n + 1) (.mk k 0 zCx zCx (some ⟨B, 0, none⟩) 2 [t, t]) := by
  refine ⟨⟨cx_zero W ht.pos, cx_zero W ht.pos⟩, ⟨Nat.le_refl _, by simp, ⟨fun i hi => ⟨B, 0, rfl, hB.lt, ?_⟩⟩⟩, fun x hx => ?_⟩
  · match i, hi with
    | 0, _ =>
      intro j v hv
      have hv : t.cells[j]? = some v := hv
      have := hB.at_ j v (by rw [List.getElem?_append_left (List.getElem?_eq_some_iff.1 hv).1]; exact hv)
      simpa using this
    | 1, _ =>
      intro j v hv
      have hv : t.cells[j]? = some v := hv
      have h := hB.at_ (15 + j) v (by rw [List.getElem?_append_right (by rw [Tx.cells_len]; omega), Tx.cells_len, show 15 + j - 15 = j by omega]; exact hv)
      rw [show 0 + 1 * 15 + j = 0 + (15 + j) by omega]; exact h
    | i + 2, hi => exact absurd hi (by simp)
  · simp at hx; subst hx; exact ht
theorem ho_not (row : List Val) (t : Tx) (p : Option Addr) (c : Nat) : hoT row (.mk 6 0 zCx zCx p c [t]) = 2 - hoT row t := by
  rw [hoT, hoL_map]; exact not_ho row t
theorem ho_notnot (row : List Val) (t : Tx) (p p' : Option Addr) (c c' : Nat) : hoT row (.mk 6 0 zCx zCx p c [.mk 6 0 zCx zCx p' c' [t]]) = hoT row t := by
  rw [ho_not, ho_not]; omega
theorem ho_and (row : List Val) (t : Tx) (p : Option Addr) (c : Nat) : hoT row (.mk 4 0 zCx zCx p c [t, t]) = hoT row t := by
  rw [hoT, hoL_map]
  show andV [hoT row t, hoT row t] = _
  rcases hoT_cases row t with h | h | h <;> rw [h] <;> rfl
theorem ho_or (row : List Val) (t : Tx) (p : Option Addr) (c : Nat) : hoT row (.mk 5 0 zCx zCx p c [t, t]) = hoT row t := by
  rw [hoT, hoL_map]
  show orV [hoT row t, hoT row t] = _
  rcases hoT_cases row t with h | h | h <;> rw [h] <;> rfl
set_option maxHeartbeats 16000000 in
set_option maxRecDepth 1000000 in
theorem lawExprNot {n : Nat} {t : Tx} {a : Option Addr} {row : List Val} {w : World} (cc : Nat) (ht : TxAt w n t) (hr : RowIn w a row) :
    Calls Try.prog 7 #[t.val, .slice a row.length cc] w fun e w' => e = .returned (.bool true) ∧ Below w.heap.size w w' := by
  have C0 : ∀ W, Below w.heap.size w W → Calls Try.prog 14 #[t.val, .slice a row.length cc] W (IntAns (hoT row t) W) := fun W hb => holds_any cc (ht.later hb) (hr.later hb)
  have C1 : ∀ W b, Below w.heap.size w W → VarB W b t.cells → Calls Try.prog 14 #[(Tx.mk 6 0 zCx zCx (some ⟨b, 0, none⟩) 1 [t]).val, .slice a row.length cc] W (IntAns (2 - hoT row t) W) := fun W b hb hV => by
    have h := holds_any cc (tx_one 6 (ht.later hb) hV) (hr.later hb); rw [ho_not] at h; exact h
  have C2 : ∀ W b b', Below w.heap.size w W → VarB W b t.cells → VarB W b' (Tx.mk 6 0 zCx zCx (some ⟨b, 0, none⟩) 1 [t]).cells → Calls Try.prog 14 #[(Tx.mk 6 0 zCx zCx (some ⟨b', 0, none⟩) 1 [Tx.mk 6 0 zCx zCx (some ⟨b, 0, none⟩) 1 [t]]).val, .slice a row.length cc] W (IntAns (hoT row t) W) := fun W b b' hb hV hV' => by
    have h := holds_any cc (tx_one 6 (tx_one 6 (ht.later hb) hV) hV') (hr.later hb); rw [ho_notnot] at h; exact h
  have C3 : ∀ W b, Below w.heap.size w W → VarB W b (t.cells ++ t.cells) → Calls Try.prog 14 #[(Tx.mk 4 0 zCx zCx (some ⟨b, 0, none⟩) 2 [t, t]).val, .slice a row.length cc] W (IntAns (hoT row t) W) := fun W b hb hV => by
    have h := holds_any cc (tx_two 4 (ht.later hb) hV) (hr.later hb); rw [ho_and] at h; exact h
  have C4 : ∀ W b, Below w.heap.size w W → VarB W b (t.cells ++ t.cells) → Calls Try.prog 14 #[(Tx.mk 5 0 zCx zCx (some ⟨b, 0, none⟩) 2 [t, t]).val, .slice a row.length cc] W (IntAns (hoT row t) W) := fun W b hb hV => by
    have h := holds_any cc (tx_two 5 (ht.later hb) hV) (hr.later hb); rw [ho_or] at h; exact h
  have hx := hoT_cases row t
  generalize hoT row t = x at C0 C1 C2 C3 C4 hx
  have x0 : 0 ≤ x := by omega
  have x2 : x ≤ 2 := by omega
  clear hx ht hr
  obtain ⟨k, op, ⟨kl, al, vl, pl, cl, yl⟩, ⟨kr, ar, vr, pr, cr, yr⟩, p, c, ys⟩ := t
  have H0 := hid0 C0
  have H1 := hid0 C1
  have H2 := hid0 C2
  have H3 := hid0 C3
  have H4 := hid0 C4
  clear C0 C1 C2 C3 C4
  show Calls Try.prog 7 #[.agg #[.int .i64 k, .int .i64 op, .int .i64 kl, .int .i64 al, .int .i64 vl.k, .int .i64 vl.n, .string vl.s, .slice pl yl.length cl, .int .i64 kr, .int .i64 ar, .int .i64 vr.k, .int .i64 vr.n, .string vr.s, .slice pr yr.length cr, .slice p ys.length c], .slice a row.length cc] w _
  go_enter Try.func7, Try.ntmps7
  go_wp2_with fail
  have A : VarB (((w.alloc (.cells #[.int .i64 k, .int .i64 op, .int .i64 kl, .int .i64 al, .int .i64 vl.k, .int .i64 vl.n, .string vl.s, .slice pl yl.length cl, .int .i64 kr, .int .i64 ar, .int .i64 vr.k, .int .i64 vr.n, .string vr.s, .slice pr yr.length cr, .slice p ys.length c] 38)).alloc (.cells #[.int .i64 k, .int .i64 op, .int .i64 kl, .int .i64 al, .int .i64 vl.k, .int .i64 vl.n, .string vl.s, .slice pl yl.length cl, .int .i64 kr, .int .i64 ar, .int .i64 vr.k, .int .i64 vr.n, .string vr.s, .slice pr yr.length cr, .slice p ys.length c] 38)).alloc (.cells #[.int .i64 6, .int .i64 0, .int .i64 0, .int .i64 0, .int .i64 0, .int .i64 0, .string ⟨#[]⟩, .slice none 0 0, .int .i64 0, .int .i64 0, .int .i64 0, .int .i64 0, .string ⟨#[]⟩, .slice none 0 0, .slice (some ⟨w.heap.size + 1, 0, none⟩) 1 1] 38)) w.heap.size [.int .i64 k, .int .i64 op, .int .i64 kl, .int .i64 al, .int .i64 vl.k, .int .i64 vl.n, .string vl.s, .slice pl yl.length cl, .int .i64 kr, .int .i64 ar, .int .i64 vr.k, .int .i64 vr.n, .string vr.s, .slice pr yr.length cr, .slice p ys.length c] := ((VarB.new w [.int .i64 k, .int .i64 op, .int .i64 kl, .int .i64 al, .int .i64 vl.k, .int .i64 vl.n, .string vl.s, .slice pl yl.length cl, .int .i64 kr, .int .i64 ar, .int .i64 vr.k, .int .i64 vr.n, .string vr.s, .slice pr yr.length cr, .slice p ys.length c] _).alloc _).alloc _
  have Bb : VarB (((w.alloc (.cells #[.int .i64 k, .int .i64 op, .int .i64 kl, .int .i64 al, .int .i64 vl.k, .int .i64 vl.n, .string vl.s, .slice pl yl.length cl, .int .i64 kr, .int .i64 ar, .int .i64 vr.k, .int .i64 vr.n, .string vr.s, .slice pr yr.length cr, .slice p ys.length c] 38)).alloc (.cells #[.int .i64 k, .int .i64 op, .int .i64 kl, .int .i64 al, .int .i64 vl.k, .int .i64 vl.n, .string vl.s, .slice pl yl.length cl, .int .i64 kr, .int .i64 ar, .int .i64 vr.k, .int .i64 vr.n, .string vr.s, .slice pr yr.length cr, .slice p ys.length c] 38)).alloc (.cells #[.int .i64 6, .int .i64 0, .int .i64 0, .int .i64 0, .int .i64 0, .int .i64 0, .string ⟨#[]⟩, .slice none 0 0, .int .i64 0, .int .i64 0, .int .i64 0, .int .i64 0, .string ⟨#[]⟩, .slice none 0 0, .slice (some ⟨w.heap.size + 1, 0, none⟩) 1 1] 38)) (w.heap.size + 1) [.int .i64 k, .int .i64 op, .int .i64 kl, .int .i64 al, .int .i64 vl.k, .int .i64 vl.n, .string vl.s, .slice pl yl.length cl, .int .i64 kr, .int .i64 ar, .int .i64 vr.k, .int .i64 vr.n, .string vr.s, .slice pr yr.length cr, .slice p ys.length c] := by
    have h := (VarB.new (w.alloc (.cells #[.int .i64 k, .int .i64 op, .int .i64 kl, .int .i64 al, .int .i64 vl.k, .int .i64 vl.n, .string vl.s, .slice pl yl.length cl, .int .i64 kr, .int .i64 ar, .int .i64 vr.k, .int .i64 vr.n, .string vr.s, .slice pr yr.length cr, .slice p ys.length c] 38)) [.int .i64 k, .int .i64 op, .int .i64 kl, .int .i64 al, .int .i64 vl.k, .int .i64 vl.n, .string vl.s, .slice pl yl.length cl, .int .i64 kr, .int .i64 ar, .int .i64 vr.k, .int .i64 vr.n, .string vr.s, .slice pr yr.length cr, .slice p ys.length c] 38).alloc (.cells #[.int .i64 6, .int .i64 0, .int .i64 0, .int .i64 0, .int .i64 0, .int .i64 0, .string ⟨#[]⟩, .slice none 0 0, .int .i64 0, .int .i64 0, .int .i64 0, .int .i64 0, .string ⟨#[]⟩, .slice none 0 0, .slice (some ⟨w.heap.size + 1, 0, none⟩) 1 1] 38)
    rwa [World.size_alloc] at h
  have Cc : VarB (((w.alloc (.cells #[.int .i64 k, .int .i64 op, .int .i64 kl, .int .i64 al, .int .i64 vl.k, .int .i64 vl.n, .string vl.s, .slice pl yl.length cl, .int .i64 kr, .int .i64 ar, .int .i64 vr.k, .int .i64 vr.n, .string vr.s, .slice pr yr.length cr, .slice p ys.length c] 38)).alloc (.cells #[.int .i64 k, .int .i64 op, .int .i64 kl, .int .i64 al, .int .i64 vl.k, .int .i64 vl.n, .string vl.s, .slice pl yl.length cl, .int .i64 kr, .int .i64 ar, .int .i64 vr.k, .int .i64 vr.n, .string vr.s, .slice pr yr.length cr, .slice p ys.length c] 38)).alloc (.cells #[.int .i64 6, .int .i64 0, .int .i64 0, .int .i64 0, .int .i64 0, .int .i64 0, .string ⟨#[]⟩, .slice none 0 0, .int .i64 0, .int .i64 0, .int .i64 0, .int .i64 0, .string ⟨#[]⟩, .slice none 0 0, .slice (some ⟨w.heap.size + 1, 0, none⟩) 1 1] 38)) (w.heap.size + 1 + 1) [.int .i64 6, .int .i64 0, .int .i64 0, .int .i64 0, .int .i64 0, .int .i64 0, .string ⟨#[]⟩, .slice none 0 0, .int .i64 0, .int .i64 0, .int .i64 0, .int .i64 0, .string ⟨#[]⟩, .slice none 0 0, .slice (some ⟨w.heap.size + 1, 0, none⟩) 1 1] := by
    have h := VarB.new ((w.alloc (.cells #[.int .i64 k, .int .i64 op, .int .i64 kl, .int .i64 al, .int .i64 vl.k, .int .i64 vl.n, .string vl.s, .slice pl yl.length cl, .int .i64 kr, .int .i64 ar, .int .i64 vr.k, .int .i64 vr.n, .string vr.s, .slice pr yr.length cr, .slice p ys.length c] 38)).alloc (.cells #[.int .i64 k, .int .i64 op, .int .i64 kl, .int .i64 al, .int .i64 vl.k, .int .i64 vl.n, .string vl.s, .slice pl yl.length cl, .int .i64 kr, .int .i64 ar, .int .i64 vr.k, .int .i64 vr.n, .string vr.s, .slice pr yr.length cr, .slice p ys.length c] 38)) [.int .i64 6, .int .i64 0, .int .i64 0, .int .i64 0, .int .i64 0, .int .i64 0, .string ⟨#[]⟩, .slice none 0 0, .int .i64 0, .int .i64 0, .int .i64 0, .int .i64 0, .string ⟨#[]⟩, .slice none 0 0, .slice (some ⟨w.heap.size + 1, 0, none⟩) 1 1] 38
    rwa [World.size_alloc, World.size_alloc] at h
  have hB : Below w.heap.size w (((w.alloc (.cells #[.int .i64 k, .int .i64 op, .int .i64 kl, .int .i64 al, .int .i64 vl.k, .int .i64 vl.n, .string vl.s, .slice pl yl.length cl, .int .i64 kr, .int .i64 ar, .int .i64 vr.k, .int .i64 vr.n, .string vr.s, .slice pr yr.length cr, .slice p ys.length c] 38)).alloc (.cells #[.int .i64 k, .int .i64 op, .int .i64 kl, .int .i64 al, .int .i64 vl.k, .int .i64 vl.n, .string vl.s, .slice pl yl.length cl, .int .i64 kr, .int .i64 ar, .int .i64 vr.k, .int .i64 vr.n, .string vr.s, .slice pr yr.length cr, .slice p ys.length c] 38)).alloc (.cells #[.int .i64 6, .int .i64 0, .int .i64 0, .int .i64 0, .int .i64 0, .int .i64 0, .string ⟨#[]⟩, .slice none 0 0, .int .i64 0, .int .i64 0, .int .i64 0, .int .i64 0, .string ⟨#[]⟩, .slice none 0 0, .slice (some ⟨w.heap.size + 1, 0, none⟩) 1 1] 38)) := (((Below.refl _ _).alloc (Nat.le_refl _) _).alloc (by simp) _).alloc (by simp; omega) _
  have A := hid0 A
  have Bb := hid0 Bb
  have Cc := hid0 Cc
  have hB := hid0 hB
  go_at_call 14
  refine (H0.out _ hB.out).mono ?_
  rintro e w1 ⟨rfl, hb⟩
  have A := hid0 (A.out.below hb)
  have Bb := hid0 (Bb.out.below hb)
  have Cc := hid0 (Cc.out.below hb)
  have hB := hid0 (below_through hb hB.out.size hB.out)
  have z1 := hb.size
  clear hb
  go_wp2_with fail
  go_at_call 10
  refine (awake11_any _).mono ?_
  rintro e w2 ⟨rfl, hb⟩
  have A := hid0 (A.out.below hb)
  have Bb := hid0 (Bb.out.below hb)
  have Cc := hid0 (Cc.out.below hb)
  have hB := hid0 (below_through hb hB.out.size hB.out)
  have z2 := hb.size
  clear hb
  have c0 := Cc.out.cell 0 rfl
  have c1 := Cc.out.cell 1 rfl
  have c2 := Cc.out.cell 2 rfl
  have c3 := Cc.out.cell 3 rfl
  have c4 := Cc.out.cell 4 rfl
  have c5 := Cc.out.cell 5 rfl
  have c6 := Cc.out.cell 6 rfl
  have c7 := Cc.out.cell 7 rfl
  have c8 := Cc.out.cell 8 rfl
  have c9 := Cc.out.cell 9 rfl
  have c10 := Cc.out.cell 10 rfl
  have c11 := Cc.out.cell 11 rfl
  have c12 := Cc.out.cell 12 rfl
  have c13 := Cc.out.cell 13 rfl
  have c14 := Cc.out.cell 14 rfl
  have lc := Cc.out.lt
  go_wp2_with fail
  clear c0 c1 c2 c3 c4 c5 c6 c7 c8 c9 c10 c11 c12 c13 c14 lc
  go_at_call 14
  refine (H1.out _ _ hB.out Bb.out).mono ?_
  rintro e w3 ⟨rfl, hb⟩
  have A := hid0 (A.out.below hb)
  have Bb := hid0 (Bb.out.below hb)
  have Cc := hid0 (Cc.out.below hb)
  have hB := hid0 (below_through hb hB.out.size hB.out)
  have z3 := hb.size
  clear hb
  have c0 := Cc.out.cell 0 rfl
  have c1 := Cc.out.cell 1 rfl
  have c2 := Cc.out.cell 2 rfl
  have c3 := Cc.out.cell 3 rfl
  have c4 := Cc.out.cell 4 rfl
  have c5 := Cc.out.cell 5 rfl
  have c6 := Cc.out.cell 6 rfl
  have c7 := Cc.out.cell 7 rfl
  have c8 := Cc.out.cell 8 rfl
  have c9 := Cc.out.cell 9 rfl
  have c10 := Cc.out.cell 10 rfl
  have c11 := Cc.out.cell 11 rfl
  have c12 := Cc.out.cell 12 rfl
  have c13 := Cc.out.cell 13 rfl
  have c14 := Cc.out.cell 14 rfl
  have lc := Cc.out.lt
  go_wp2_with fail
  clear c0 c1 c2 c3 c4 c5 c6 c7 c8 c9 c10 c11 c12 c13 c14 lc
  have Dd := hid0 (VarB.new w3 [.int .i64 6, .int .i64 0, .int .i64 0, .int .i64 0, .int .i64 0, .int .i64 0, .string ⟨#[]⟩, .slice none 0 0, .int .i64 0, .int .i64 0, .int .i64 0, .int .i64 0, .string ⟨#[]⟩, .slice none 0 0, .slice (some ⟨w.heap.size + 1, 0, none⟩) 1 1] 38)
  have A := hid0 (A.out.alloc (.cells #[.int .i64 6, .int .i64 0, .int .i64 0, .int .i64 0, .int .i64 0, .int .i64 0, .string ⟨#[]⟩, .slice none 0 0, .int .i64 0, .int .i64 0, .int .i64 0, .int .i64 0, .string ⟨#[]⟩, .slice none 0 0, .slice (some ⟨w.heap.size + 1, 0, none⟩) 1 1] 38))
  have Bb := hid0 (Bb.out.alloc (.cells #[.int .i64 6, .int .i64 0, .int .i64 0, .int .i64 0, .int .i64 0, .int .i64 0, .string ⟨#[]⟩, .slice none 0 0, .int .i64 0, .int .i64 0, .int .i64 0, .int .i64 0, .string ⟨#[]⟩, .slice none 0 0, .slice (some ⟨w.heap.size + 1, 0, none⟩) 1 1] 38))
  have Cc := hid0 (Cc.out.alloc (.cells #[.int .i64 6, .int .i64 0, .int .i64 0, .int .i64 0, .int .i64 0, .int .i64 0, .string ⟨#[]⟩, .slice none 0 0, .int .i64 0, .int .i64 0, .int .i64 0, .int .i64 0, .string ⟨#[]⟩, .slice none 0 0, .slice (some ⟨w.heap.size + 1, 0, none⟩) 1 1] 38))
  have hB := hid0 (hB.out.alloc hB.out.size (.cells #[.int .i64 6, .int .i64 0, .int .i64 0, .int .i64 0, .int .i64 0, .int .i64 0, .string ⟨#[]⟩, .slice none 0 0, .int .i64 0, .int .i64 0, .int .i64 0, .int .i64 0, .string ⟨#[]⟩, .slice none 0 0, .slice (some ⟨w.heap.size + 1, 0, none⟩) 1 1] 38))
  go_at_call 14
  refine (H2.out _ _ _ hB.out Bb.out Dd.out).mono ?_
  rintro e w4 ⟨rfl, hb⟩
  have A := hid0 (A.out.below hb)
  have Bb := hid0 (Bb.out.below hb)
  have Cc := hid0 (Cc.out.below hb)
  have Dd := hid0 (Dd.out.below hb)
  have hB := hid0 (below_through hb hB.out.size hB.out)
  have z4 := hb.size
  clear hb
  have c0 := A.out.cell 0 rfl
  have c1 := A.out.cell 1 rfl
  have c2 := A.out.cell 2 rfl
  have c3 := A.out.cell 3 rfl
  have c4 := A.out.cell 4 rfl
  have c5 := A.out.cell 5 rfl
  have c6 := A.out.cell 6 rfl
  have c7 := A.out.cell 7 rfl
  have c8 := A.out.cell 8 rfl
  have c9 := A.out.cell 9 rfl
  have c10 := A.out.cell 10 rfl
  have c11 := A.out.cell 11 rfl
  have c12 := A.out.cell 12 rfl
  have c13 := A.out.cell 13 rfl
  have c14 := A.out.cell 14 rfl
  have lc := A.out.lt
  go_wp2_with fail
  clear c0 c1 c2 c3 c4 c5 c6 c7 c8 c9 c10 c11 c12 c13 c14 lc
  have Ee := hid0 (VarB.new w4 [.int .i64 k, .int .i64 op, .int .i64 kl, .int .i64 al, .int .i64 vl.k, .int .i64 vl.n, .string vl.s, .slice pl yl.length cl, .int .i64 kr, .int .i64 ar, .int .i64 vr.k, .int .i64 vr.n, .string vr.s, .slice pr yr.length cr, .slice p ys.length c, .int .i64 k, .int .i64 op, .int .i64 kl, .int .i64 al, .int .i64 vl.k, .int .i64 vl.n, .string vl.s, .slice pl yl.length cl, .int .i64 kr, .int .i64 ar, .int .i64 vr.k, .int .i64 vr.n, .string vr.s, .slice pr yr.length cr, .slice p ys.length c] 38)
  have A := hid0 (A.out.alloc (.cells #[.int .i64 k, .int .i64 op, .int .i64 kl, .int .i64 al, .int .i64 vl.k, .int .i64 vl.n, .string vl.s, .slice pl yl.length cl, .int .i64 kr, .int .i64 ar, .int .i64 vr.k, .int .i64 vr.n, .string vr.s, .slice pr yr.length cr, .slice p ys.length c, .int .i64 k, .int .i64 op, .int .i64 kl, .int .i64 al, .int .i64 vl.k, .int .i64 vl.n, .string vl.s, .slice pl yl.length cl, .int .i64 kr, .int .i64 ar, .int .i64 vr.k, .int .i64 vr.n, .string vr.s, .slice pr yr.length cr, .slice p ys.length c] 38))
  have Bb := hid0 (Bb.out.alloc (.cells #[.int .i64 k, .int .i64 op, .int .i64 kl, .int .i64 al, .int .i64 vl.k, .int .i64 vl.n, .string vl.s, .slice pl yl.length cl, .int .i64 kr, .int .i64 ar, .int .i64 vr.k, .int .i64 vr.n, .string vr.s, .slice pr yr.length cr, .slice p ys.length c, .int .i64 k, .int .i64 op, .int .i64 kl, .int .i64 al, .int .i64 vl.k, .int .i64 vl.n, .string vl.s, .slice pl yl.length cl, .int .i64 kr, .int .i64 ar, .int .i64 vr.k, .int .i64 vr.n, .string vr.s, .slice pr yr.length cr, .slice p ys.length c] 38))
  have Cc := hid0 (Cc.out.alloc (.cells #[.int .i64 k, .int .i64 op, .int .i64 kl, .int .i64 al, .int .i64 vl.k, .int .i64 vl.n, .string vl.s, .slice pl yl.length cl, .int .i64 kr, .int .i64 ar, .int .i64 vr.k, .int .i64 vr.n, .string vr.s, .slice pr yr.length cr, .slice p ys.length c, .int .i64 k, .int .i64 op, .int .i64 kl, .int .i64 al, .int .i64 vl.k, .int .i64 vl.n, .string vl.s, .slice pl yl.length cl, .int .i64 kr, .int .i64 ar, .int .i64 vr.k, .int .i64 vr.n, .string vr.s, .slice pr yr.length cr, .slice p ys.length c] 38))
  have Dd := hid0 (Dd.out.alloc (.cells #[.int .i64 k, .int .i64 op, .int .i64 kl, .int .i64 al, .int .i64 vl.k, .int .i64 vl.n, .string vl.s, .slice pl yl.length cl, .int .i64 kr, .int .i64 ar, .int .i64 vr.k, .int .i64 vr.n, .string vr.s, .slice pr yr.length cr, .slice p ys.length c, .int .i64 k, .int .i64 op, .int .i64 kl, .int .i64 al, .int .i64 vl.k, .int .i64 vl.n, .string vl.s, .slice pl yl.length cl, .int .i64 kr, .int .i64 ar, .int .i64 vr.k, .int .i64 vr.n, .string vr.s, .slice pr yr.length cr, .slice p ys.length c] 38))
  have hB := hid0 (hB.out.alloc hB.out.size (.cells #[.int .i64 k, .int .i64 op, .int .i64 kl, .int .i64 al, .int .i64 vl.k, .int .i64 vl.n, .string vl.s, .slice pl yl.length cl, .int .i64 kr, .int .i64 ar, .int .i64 vr.k, .int .i64 vr.n, .string vr.s, .slice pr yr.length cr, .slice p ys.length c, .int .i64 k, .int .i64 op, .int .i64 kl, .int .i64 al, .int .i64 vl.k, .int .i64 vl.n, .string vl.s, .slice pl yl.length cl, .int .i64 kr, .int .i64 ar, .int .i64 vr.k, .int .i64 vr.n, .string vr.s, .slice pr yr.length cr, .slice p ys.length c] 38))
  go_at_call 14
  refine (H3.out _ _ hB.out Ee.out).mono ?_
  rintro e w5 ⟨rfl, hb⟩
  have A := hid0 (A.out.below hb)
  have Bb := hid0 (Bb.out.below hb)
  have Cc := hid0 (Cc.out.below hb)
  have Dd := hid0 (Dd.out.below hb)
  have Ee := hid0 (Ee.out.below hb)
  have hB := hid0 (below_through hb hB.out.size hB.out)
  have z5 := hb.size
  clear hb
  have c0 := A.out.cell 0 rfl
  have c1 := A.out.cell 1 rfl
  have c2 := A.out.cell 2 rfl
  have c3 := A.out.cell 3 rfl
  have c4 := A.out.cell 4 rfl
  have c5 := A.out.cell 5 rfl
  have c6 := A.out.cell 6 rfl
  have c7 := A.out.cell 7 rfl
  have c8 := A.out.cell 8 rfl
  have c9 := A.out.cell 9 rfl
  have c10 := A.out.cell 10 rfl
  have c11 := A.out.cell 11 rfl
  have c12 := A.out.cell 12 rfl
  have c13 := A.out.cell 13 rfl
  have c14 := A.out.cell 14 rfl
  have lc := A.out.lt
  go_wp2_with fail
  clear c0 c1 c2 c3 c4 c5 c6 c7 c8 c9 c10 c11 c12 c13 c14 lc
  have Ff := hid0 (VarB.new w5 [.int .i64 k, .int .i64 op, .int .i64 kl, .int .i64 al, .int .i64 vl.k, .int .i64 vl.n, .string vl.s, .slice pl yl.length cl, .int .i64 kr, .int .i64 ar, .int .i64 vr.k, .int .i64 vr.n, .string vr.s, .slice pr yr.length cr, .slice p ys.length c, .int .i64 k, .int .i64 op, .int .i64 kl, .int .i64 al, .int .i64 vl.k, .int .i64 vl.n, .string vl.s, .slice pl yl.length cl, .int .i64 kr, .int .i64 ar, .int .i64 vr.k, .int .i64 vr.n, .string vr.s, .slice pr yr.length cr, .slice p ys.length c] 38)
  have A := hid0 (A.out.alloc (.cells #[.int .i64 k, .int .i64 op, .int .i64 kl, .int .i64 al, .int .i64 vl.k, .int .i64 vl.n, .string vl.s, .slice pl yl.length cl, .int .i64 kr, .int .i64 ar, .int .i64 vr.k, .int .i64 vr.n, .string vr.s, .slice pr yr.length cr, .slice p ys.length c, .int .i64 k, .int .i64 op, .int .i64 kl, .int .i64 al, .int .i64 vl.k, .int .i64 vl.n, .string vl.s, .slice pl yl.length cl, .int .i64 kr, .int .i64 ar, .int .i64 vr.k, .int .i64 vr.n, .string vr.s, .slice pr yr.length cr, .slice p ys.length c] 38))
  have Bb := hid0 (Bb.out.alloc (.cells #[.int .i64 k, .int .i64 op, .int .i64 kl, .int .i64 al, .int .i64 vl.k, .int .i64 vl.n, .string vl.s, .slice pl yl.length cl, .int .i64 kr, .int .i64 ar, .int .i64 vr.k, .int .i64 vr.n, .string vr.s, .slice pr yr.length cr, .slice p ys.length c, .int .i64 k, .int .i64 op, .int .i64 kl, .int .i64 al, .int .i64 vl.k, .int .i64 vl.n, .string vl.s, .slice pl yl.length cl, .int .i64 kr, .int .i64 ar, .int .i64 vr.k, .int .i64 vr.n, .string vr.s, .slice pr yr.length cr, .slice p ys.length c] 38))
  have Cc := hid0 (Cc.out.alloc (.cells #[.int .i64 k, .int .i64 op, .int .i64 kl, .int .i64 al, .int .i64 vl.k, .int .i64 vl.n, .string vl.s, .slice pl yl.length cl, .int .i64 kr, .int .i64 ar, .int .i64 vr.k, .int .i64 vr.n, .string vr.s, .slice pr yr.length cr, .slice p ys.length c, .int .i64 k, .int .i64 op, .int .i64 kl, .int .i64 al, .int .i64 vl.k, .int .i64 vl.n, .string vl.s, .slice pl yl.length cl, .int .i64 kr, .int .i64 ar, .int .i64 vr.k, .int .i64 vr.n, .string vr.s, .slice pr yr.length cr, .slice p ys.length c] 38))
  have Dd := hid0 (Dd.out.alloc (.cells #[.int .i64 k, .int .i64 op, .int .i64 kl, .int .i64 al, .int .i64 vl.k, .int .i64 vl.n, .string vl.s, .slice pl yl.length cl, .int .i64 kr, .int .i64 ar, .int .i64 vr.k, .int .i64 vr.n, .string vr.s, .slice pr yr.length cr, .slice p ys.length c, .int .i64 k, .int .i64 op, .int .i64 kl, .int .i64 al, .int .i64 vl.k, .int .i64 vl.n, .string vl.s, .slice pl yl.length cl, .int .i64 kr, .int .i64 ar, .int .i64 vr.k, .int .i64 vr.n, .string vr.s, .slice pr yr.length cr, .slice p ys.length c] 38))
  have Ee := hid0 (Ee.out.alloc (.cells #[.int .i64 k, .int .i64 op, .int .i64 kl, .int .i64 al, .int .i64 vl.k, .int .i64 vl.n, .string vl.s, .slice pl yl.length cl, .int .i64 kr, .int .i64 ar, .int .i64 vr.k, .int .i64 vr.n, .string vr.s, .slice pr yr.length cr, .slice p ys.length c, .int .i64 k, .int .i64 op, .int .i64 kl, .int .i64 al, .int .i64 vl.k, .int .i64 vl.n, .string vl.s, .slice pl yl.length cl, .int .i64 kr, .int .i64 ar, .int .i64 vr.k, .int .i64 vr.n, .string vr.s, .slice pr yr.length cr, .slice p ys.length c] 38))
  have hB := hid0 (hB.out.alloc hB.out.size (.cells #[.int .i64 k, .int .i64 op, .int .i64 kl, .int .i64 al, .int .i64 vl.k, .int .i64 vl.n, .string vl.s, .slice pl yl.length cl, .int .i64 kr, .int .i64 ar, .int .i64 vr.k, .int .i64 vr.n, .string vr.s, .slice pr yr.length cr, .slice p ys.length c, .int .i64 k, .int .i64 op, .int .i64 kl, .int .i64 al, .int .i64 vl.k, .int .i64 vl.n, .string vl.s, .slice pl yl.length cl, .int .i64 kr, .int .i64 ar, .int .i64 vr.k, .int .i64 vr.n, .string vr.s, .slice pr yr.length cr, .slice p ys.length c] 38))
  go_at_call 14
  refine (H4.out _ _ hB.out Ff.out).mono ?_
  rintro e w6 ⟨rfl, hb⟩
  have A := hid0 (A.out.below hb)
  have Bb := hid0 (Bb.out.below hb)
  have Cc := hid0 (Cc.out.below hb)
  have Dd := hid0 (Dd.out.below hb)
  have Ee := hid0 (Ee.out.below hb)
  have Ff := hid0 (Ff.out.below hb)
  have hB := hid0 (below_through hb hB.out.size hB.out)
  have z6 := hb.size
  clear hb
  go_wp2_with fail
  go_ret
  exact ⟨rfl, hB.out⟩
end Go.Proofs.Ytolcebbpbihnoaa
