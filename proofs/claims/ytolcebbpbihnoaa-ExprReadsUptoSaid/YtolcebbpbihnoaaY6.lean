/- The walk of the law ExprReads: it returns true, and below the heap's end memory is as it was. Conditions: what comes in lies somewhere and is not too great. -/
import Derived.Test.YtolcebbpbihnoaaY5
import Derived.Test.YtolcebbpbihnoaaY1
import Derived.Test.YtolcebbpbihnoaaYo
namespace Go.Proofs.Ytolcebbpbihnoaa
open Go.RowKit

theorem bulk_len {H : Type} : ∀ l : List (DataW H), l.length ≤ Rows.uptoBulkAll l
  | [] => Nat.zero_le _
  | d :: l => by
    have := bulk_one d
    have := bulk_len l
    simp only [Rows.uptoBulkAll, List.length_cons]
    omega
def sevV : Val := ⟨1, 7, ⟨#[]⟩⟩
/-- What becomes of a row's values that aren't read. -/
def tgtV (L : List Int) (j : Nat) (v : Val) : Val := if (j : Int) ∈ L then v else sevV
theorem sevI : inI sevV := by
  unfold sevV inI
  constructor <;> decide
structure RdI (w0 : World) (B1 B2 : Nat) (us vs : List Value) (N : Nat) (ao al : Option Addr) (row : List Val) (L : List Int) (i : Nat) (wr : World) : Prop where
  s : AwS w0 B1 B2 us vs wr
  l : IntsAt wr al L
  o : ∃ O : List Val, O.length = N ∧ (∀ j (h : j < O.length) (h' : j < row.length), O[j] = if j < i then tgtV L j row[j] else row[j]) ∧ (N = 0 ∨ ∃ g, ao = some ⟨g, 0, none⟩ ∧ B1 < g ∧ B2 < g ∧ w0.heap.size ≤ g ∧ (∀ b off, al = some ⟨b, off, none⟩ → g < b) ∧ OwnV wr g O)
theorem OwnV.below {w w' : World} {g : Nat} {O : List Val} (h : OwnV w g O) (hb : Below w.heap.size w w') : OwnV w' g O := ⟨h.out.below hb⟩
theorem RdI.below {w0 w w' : World} {B1 B2 N i : Nat} {us vs : List Value} {ao al : Option Addr} {row : List Val} {L : List Int} (h : RdI w0 B1 B2 us vs N ao al row L i w) (hb : Below w.heap.size w w') : RdI w0 B1 B2 us vs N ao al row L i w' := by
  obtain ⟨O, h1, h2, h3⟩ := h.o
  refine ⟨h.s.below hb, h.l.later hb, O, h1, h2, h3.imp_right fun ⟨g, e, g1, g2, g3, g4, g5⟩ => ⟨g, e, g1, g2, g3, g4, g5.below hb⟩⟩
theorem IntsAt.other {w : World} {al : Option Addr} {L : List Int} (h : IntsAt w al L) {g o : Nat} (vs : List Value) (hg : ∀ b off, al = some ⟨b, off, none⟩ → g < b) : IntsAt (w.setCells g o vs) al L := fun hne => by
  obtain ⟨b, off, e, hc⟩ := h hne
  have := hg b off e
  exact ⟨b, off, e, fun i hi => (World.cell?_of_block (a := ⟨b, off + i, none⟩) (heap_setCells g vs o w b (by omega))).trans (hc i hi)⟩
theorem AwS.other {w0 w : World} {B1 B2 g o : Nat} {us vs : List Value} (h : AwS w0 B1 B2 us vs w) (xs : List Value) (h1 : B1 < g) (h2 : B2 < g) (h3 : w0.heap.size ≤ g) : AwS w0 B1 B2 us vs (w.setCells g o xs) :=
  ⟨h.t.other xs (by omega), h.u.other xs (by omega), below_setCells xs o h.b h3⟩
theorem RdI.skip {w0 w : World} {B1 B2 N i : Nat} {us vs : List Value} {ao al : Option Addr} {row : List Val} {L : List Int} (h : RdI w0 B1 B2 us vs N ao al row L i w) (_hi : i < N) (hm : (i : Int) ∈ L) : RdI w0 B1 B2 us vs N ao al row L (i + 1) w := by
  obtain ⟨O, h1, h2, h3⟩ := h.o
  refine ⟨h.s, h.l, O, h1, fun j a b => ?_, h3⟩
  rw [h2 j a b]
  rcases Nat.lt_trichotomy j i with hl | rfl | hl
  · rw [if_pos hl, if_pos (by omega)]
  · rw [if_neg (by omega), if_pos (by omega), tgtV, if_pos hm]
  · rw [if_neg (by omega), if_neg (by omega)]
theorem RdI.own {w0 w : World} {B1 B2 N i : Nat} {us vs : List Value} {ao al : Option Addr} {row : List Val} {L : List Int} (h : RdI w0 B1 B2 us vs N ao al row L i w) (hN : 0 < N) : ∃ O : List Val, O.length = N ∧ (∀ j (h : j < O.length) (h' : j < row.length), O[j] = if j < i then tgtV L j row[j] else row[j]) ∧ ∃ g, ao = some ⟨g, 0, none⟩ ∧ B1 < g ∧ B2 < g ∧ w0.heap.size ≤ g ∧ (∀ b off, al = some ⟨b, off, none⟩ → g < b) ∧ OwnV w g O := by
  obtain ⟨O, h1, h2, h3⟩ := h.o
  exact ⟨O, h1, h2, h3.resolve_left (by omega)⟩
theorem RdI.put {w0 w : World} {B1 B2 N i g : Nat} {us vs : List Value} {al : Option Addr} {row O : List Val} {L : List Int} (hs : AwS w0 B1 B2 us vs w) (hl : IntsAt w al L) (h1 : O.length = N) (h2 : ∀ j (h : j < O.length) (h' : j < row.length), O[j] = if j < i then tgtV L j row[j] else row[j]) (g1 : B1 < g) (g2 : B2 < g) (g3 : w0.heap.size ≤ g) (g4 : ∀ b off, al = some ⟨b, off, none⟩ → g < b) (g5 : OwnV w g O) (hi : i < N) (hm : ¬ (i : Int) ∈ L) :
    RdI w0 B1 B2 us vs N (some ⟨g, 0, none⟩) al row L (i + 1) (w.setCells g (i * 3) [.int .i64 1, .int .i64 7, .string ⟨#[]⟩]) := by
  refine ⟨hs.other _ g1 g2 g3, hl.other _ g4, O.set i sevV, by rw [List.length_set, h1], fun j a b => ?_, .inr ⟨g, rfl, g1, g2, g3, g4, g5.set (by omega) sevV⟩⟩
  rw [List.getElem_set]
  rcases Nat.lt_trichotomy j i with hlt | rfl | hgt
  · rw [if_neg (by omega), if_pos (by omega), h2 j (by simpa using a) b, if_pos hlt]
  · rw [if_pos rfl, if_pos (by omega), tgtV, if_neg hm]
  · rw [if_neg (by omega), if_neg (by omega), h2 j (by simpa using a) b, if_neg (by omega)]
theorem RdI.last {w0 w : World} {B1 B2 N : Nat} {us vs : List Value} {ao al : Option Addr} {row : List Val} {L : List Int} (h : RdI w0 B1 B2 us vs N ao al row L N w) (hN : row.length = N) {W : World} {a : Option Addr} (hr : RowIn W a row) : ∃ O : List Val, O.length = N ∧ RowIn w ao O ∧ Agree L row O := by
  obtain ⟨O, h1, h2, h3⟩ := h.o
  have hv : ∀ j (hj : j < O.length) (hj' : j < row.length), O[j] = tgtV L j row[j] := fun j a b => by rw [h2 j a b, if_pos (by omega)]
  refine ⟨O, h1, ⟨?_, fun x hx => ?_, by rw [h1, ← hN]; exact hr.len⟩, by rw [h1, hN], fun j hj => ?_⟩
  · rcases h3 with e | ⟨g, e, _, _, _, _, g5⟩
    · intro hne
      exact absurd (List.eq_nil_of_length_eq_zero (by omega)) hne
    · rw [e]; exact g5.row
  · obtain ⟨j, hj, rfl⟩ := List.mem_iff_getElem.1 hx
    rw [hv j hj (by omega)]
    unfold tgtV
    split
    · exact hr.i _ (List.getElem_mem _)
    · exact sevI
  · rcases Nat.lt_or_ge j N with hl | hl
    · rw [List.getElem?_eq_getElem (by omega), List.getElem?_eq_getElem (by omega), hv j (by omega) (by omega), tgtV, if_pos hj]
    · rw [List.getElem?_eq_none (by omega), List.getElem?_eq_none (by omega)]
theorem OwnV.there3 {w : World} {g : Nat} {O : List Val} (h : OwnV w g O) {i : Nat} (hi : i < O.length) : w.there g (i * 3) 3 := fun j hj => by
  have hl := rowCells_ln O
  have := h.out.there (i * 3 + j) (by omega)
  rwa [Nat.zero_add] at this
/-- A struct goes into one of a row's places. -/
theorem wp_putO {P : Program} {ops : Array Oper} {rest : List Oper} {a : Act} {w : World} {Q : Exit → Act → World → Prop} {B o n : Nat} {vs : List Value} {ty tt : TypeId} {x y : Operand} {pos : String} {af : Array Edge} (ht : w.there B o n) (hl : vs.length = n) (h1 : ∀ v ∈ vs, v.oneCell' = true)
    (hi : (P.info? ty).map (·.size) = some n) (hx : a.eval x = .pointer (some ⟨B, o, none⟩)) (hy : a.eval y = .agg vs.toArray)
    (h : wpList P ops Q rest (a.put none undef) (w.setCells B o vs)) : wpList P ops Q (⟨none, .store ty x y, tt, pos, af, none⟩ :: rest) a w :=
  wpList_store_mid rfl ty x y rfl B o vs.toArray hx hy (by simpa [hl] using ht) (by simpa [hl] using hi) (all_oneCell_toArray h1) (by simpa using h)
theorem mem_take_snoc {L : List Int} {k : Nat} (h : k < L.length) (x : Int) : (x ∈ L.take (k + 1)) ↔ (x ∈ L.take k ∨ L[k] = x) := by
  rw [List.take_succ_eq_append_getElem h, List.mem_append, List.mem_singleton]
  exact ⟨fun h => h.imp_right Eq.symm, fun h => h.imp_right Eq.symm⟩
set_option maxHeartbeats 16000000 in
set_option maxRecDepth 1000000 in
theorem lawExprReads {n m : Nat} {x : Cx} {t : Tx} {a : Option Addr} {row : List Val} {w : World} (cc : Nat) (hx : CxAt w n x) (ht : TxAt w m t) (hr : RowIn w a row) (hs : sizeC x ≤ 2000000) (hs' : sizeT t ≤ 2000000) (hN : row.length ≤ 2000000) :
    Calls Try.prog 6 #[x.val, t.val, .slice a row.length cc] w fun e w' => e = .returned (.bool true) ∧ Below w.heap.size w w' := by
  have H0 : EvHalf w x.val (.slice a row.length cc) (evC row x) := ⟨fun W hb => eval_any cc (hx.later hb) (hr.later hb)⟩
  have H1 : ∀ (wL : World) (ao : Option Addr) (co : Nat) (O : List Val), Below w.heap.size w wL → RowIn wL ao O → EvHalf wL x.val (.slice ao O.length co) (evC O x) := fun wL ao co O hb hO => ⟨fun W hb2 => eval_any co (hx.later (hb.trans (hb2.mono hb.size))) (hO.later hb2)⟩
  have H2 : ListHalf 12 w x.val (rise (rdC x)) := ⟨fun W hb => reads_any (hx.later hb) (by omega)⟩
  have H3 : ListHalf 16 w t.val (rise (asT t)) := ⟨fun W hb => asks_any (ht.later hb) (by omega)⟩
  have H4 : IntHalf 14 w t.val (.slice a row.length cc) (hoT row t) := ⟨fun W hb => holds_any cc (ht.later hb) (hr.later hb)⟩
  have H5 : ∀ (wL : World) (ao : Option Addr) (co : Nat) (O : List Val), Below w.heap.size w wL → RowIn wL ao O → IntHalf 14 wL t.val (.slice ao O.length co) (hoT O t) := fun wL ao co O hb hO => ⟨fun W hb2 => holds_any co (ht.later (hb.trans (hb2.mono hb.size))) (hO.later hb2)⟩
  have hAg : ∀ O : List Val, Agree (rise (rdC x) ++ rise (asT t)) row O → evC O x = evC row x ∧ hoT O t = hoT row t := fun O hA => ⟨(ev_agree x (hA.sub (fun y hy => List.mem_append.2 (.inl ((mem_rise _ y).2 hy))))).symm, (ho_agree t (hA.sub (fun y hy => List.mem_append.2 (.inr ((mem_rise _ y).2 hy))))).symm⟩
  have hq1 : (rise (rdC x)).length ≤ 2000000 := by have := rise_len (rdC x); have := rdC_len x; omega
  have hq2 : (rise (asT t)).length ≤ 2000000 := by have := rise_len (asT t); have := asT_len t; omega
  generalize rise (rdC x) = Q1 at H2 hAg hq1
  generalize rise (asT t) = Q2 at H3 hAg hq2
  have HAg := hid0 hAg
  have HR := hid0 hr
  obtain ⟨N, hNe⟩ : ∃ N, row.length = N := ⟨_, rfl⟩
  rw [hNe] at H0 H4 hN ⊢
  have HN := hid0 hNe
  have H1 := hid0 H1
  have H5 := hid0 H5
  clear hx ht hr hs hs' hAg hNe
  obtain ⟨ke, ae, ve, pe, ce, ye⟩ := x
  obtain ⟨k, op, ⟨kl, al, vl, pl, cl, yl⟩, ⟨kr, ar, vr, pr, cr, yr⟩, p, c, ys⟩ := t
  obtain ⟨V1, V2⟩ := VarB.two (w := w) [.int .i64 ke, .int .i64 ae, .int .i64 ve.k, .int .i64 ve.n, .string ve.s, .slice pe ye.length ce] [.int .i64 k, .int .i64 op, .int .i64 kl, .int .i64 al, .int .i64 vl.k, .int .i64 vl.n, .string vl.s, .slice pl yl.length cl, .int .i64 kr, .int .i64 ar, .int .i64 vr.k, .int .i64 vr.n, .string vr.s, .slice pr yr.length cr, .slice p ys.length c] 26 38
  have hB : Below w.heap.size w ((w.alloc (.cells #[.int .i64 ke, .int .i64 ae, .int .i64 ve.k, .int .i64 ve.n, .string ve.s, .slice pe ye.length ce] 26)).alloc (.cells #[.int .i64 k, .int .i64 op, .int .i64 kl, .int .i64 al, .int .i64 vl.k, .int .i64 vl.n, .string vl.s, .slice pl yl.length cl, .int .i64 kr, .int .i64 ar, .int .i64 vr.k, .int .i64 vr.n, .string vr.s, .slice pr yr.length cr, .slice p ys.length c] 38)) := ((Below.refl _ _).alloc (Nat.le_refl _) _).alloc (by simp) _
  have hS0 : AwS w w.heap.size (w.heap.size + 1) [.int .i64 ke, .int .i64 ae, .int .i64 ve.k, .int .i64 ve.n, .string ve.s, .slice pe ye.length ce] [.int .i64 k, .int .i64 op, .int .i64 kl, .int .i64 al, .int .i64 vl.k, .int .i64 vl.n, .string vl.s, .slice pl yl.length cl, .int .i64 kr, .int .i64 ar, .int .i64 vr.k, .int .i64 vr.n, .string vr.s, .slice pr yr.length cr, .slice p ys.length c] ((w.alloc (.cells #[.int .i64 ke, .int .i64 ae, .int .i64 ve.k, .int .i64 ve.n, .string ve.s, .slice pe ye.length ce] 26)).alloc (.cells #[.int .i64 k, .int .i64 op, .int .i64 kl, .int .i64 al, .int .i64 vl.k, .int .i64 vl.n, .string vl.s, .slice pl yl.length cl, .int .i64 kr, .int .i64 ar, .int .i64 vr.k, .int .i64 vr.n, .string vr.s, .slice pr yr.length cr, .slice p ys.length c] 38)) := ⟨V1, V2, hB⟩
  have M0 : (((w.alloc (.cells #[.int .i64 ke, .int .i64 ae, .int .i64 ve.k, .int .i64 ve.n, .string ve.s, .slice pe ye.length ce] 26)).alloc (.cells #[.int .i64 k, .int .i64 op, .int .i64 kl, .int .i64 al, .int .i64 vl.k, .int .i64 vl.n, .string vl.s, .slice pl yl.length cl, .int .i64 kr, .int .i64 ar, .int .i64 vr.k, .int .i64 vr.n, .string vr.s, .slice pr yr.length cr, .slice p ys.length c] 38)).alloc (.cells #[] 23)).ownsRow (w.heap.size + 1 + 1) 23 3 (.slice (some ⟨w.heap.size + 1 + 1, 0, none⟩) 0 0) 0 [] := by
    have h := World.ownsRow_made (e := 23) (size := 3) (base := w.heap.size + 1 + 1) ((w.alloc (.cells #[.int .i64 ke, .int .i64 ae, .int .i64 ve.k, .int .i64 ve.n, .string ve.s, .slice pe ye.length ce] 26)).alloc (.cells #[.int .i64 k, .int .i64 op, .int .i64 kl, .int .i64 al, .int .i64 vl.k, .int .i64 vl.n, .string vl.s, .slice pl yl.length cl, .int .i64 kr, .int .i64 ar, .int .i64 vr.k, .int .i64 vr.n, .string vr.s, .slice pr yr.length cr, .slice p ys.length c] 38)) #[] 0 (by simp) (by unfold maxLen; omega) rfl
    simpa using h
  have hR0 := HR.out.at_.later (hB.alloc hB.size (.cells #[] 23))
  have hS0 := hid0 hS0
  have M0 := hid0 M0
  have hR0 := hid0 hR0
  clear V1 V2 hB
  show Calls Try.prog 6 #[.agg #[.int .i64 ke, .int .i64 ae, .int .i64 ve.k, .int .i64 ve.n, .string ve.s, .slice pe ye.length ce], .agg #[.int .i64 k, .int .i64 op, .int .i64 kl, .int .i64 al, .int .i64 vl.k, .int .i64 vl.n, .string vl.s, .slice pl yl.length cl, .int .i64 kr, .int .i64 ar, .int .i64 vr.k, .int .i64 vr.n, .string vr.s, .slice pr yr.length cr, .slice p ys.length c], .slice a N cc] w _
  go_enter Try.func6, Try.ntmps6
  go_wp2_with (at_builtin; refine app_row rfl _ _ rfl rfl (w.heap.size + 1 + 1) M0.out a N cc rfl row HN.out hR0.out (by omega) (by simp) ?_)
  intro v1 w1 hO1 hg1
  have hS1 : AwS w w.heap.size (w.heap.size + 1) [.int .i64 ke, .int .i64 ae, .int .i64 ve.k, .int .i64 ve.n, .string ve.s, .slice pe ye.length ce] [.int .i64 k, .int .i64 op, .int .i64 kl, .int .i64 al, .int .i64 vl.k, .int .i64 vl.n, .string vl.s, .slice pl yl.length cl, .int .i64 kr, .int .i64 ar, .int .i64 vr.k, .int .i64 vr.n, .string vr.s, .slice pr yr.length cr, .slice p ys.length c] w1 := by
    have h := hS0.out.alloc (.cells #[] 23)
    refine ⟨h.t.keep (hg1.block _ (by simp; omega) (by simp [Value.ownBlock]; omega)) hg1.size, h.u.keep (hg1.block _ (by simp) (by simp [Value.ownBlock])) hg1.size, h.b.grown hg1 h.b.size (fun k hk => by simp [Value.ownBlock] at hk; omega)⟩
  obtain ⟨ao, co, ev, _⟩ := own_shape11 hO1
  subst ev
  have hOv : N = 0 ∨ ∃ g, ao = some ⟨g, 0, none⟩ ∧ w.heap.size + 1 + 1 ≤ g ∧ OwnV w1 g row := by
    rcases hO1.2 with ⟨e, h0⟩ | ⟨g, cap, cur, e, hg, hrest⟩
    · exact .inl h0
    · have ea : ao = some ⟨g, 0, none⟩ := (Value.slice.inj e).1
      subst ea
      exact .inr ⟨g, rfl, hg, ⟨varB_own hO1 rfl⟩⟩
  have HOv := hid0 hOv
  have hS1 := hid0 hS1
  clear hO1 hg1 M0 hR0 hS0 hOv
  go_wp2_with fail
  go_cut [8] from 19 (fun lv wr => ∃ (al : Option Addr) (cl : Nat), lv = .slice al (Q1 ++ Q2).length cl ∧ IntsAt wr al (Q1 ++ Q2) ∧ Below w1.heap.size w1 wr ∧ (∀ b off, al = some ⟨b, off, none⟩ → w1.heap.size ≤ b))
  case first =>
    have hS := hS1.out.drew
    clear HOv H0 H1 H4 H5 HAg HR
    refine wp_region_held_drew (S := AwS w w.heap.size (w.heap.size + 1) [.int .i64 ke, .int .i64 ae, .int .i64 ve.k, .int .i64 ve.n, .string ve.s, .slice pe ye.length ce] [.int .i64 k, .int .i64 op, .int .i64 kl, .int .i64 al, .int .i64 vl.k, .int .i64 vl.n, .string vl.s, .slice pl yl.length cl, .int .i64 kr, .int .i64 ar, .int .i64 vr.k, .int .i64 vr.n, .string vr.s, .slice pr yr.length cr, .slice p ys.length c]) (by kernel_rfl) hS (fun hHeld => ?_)
    have hW0 : Below w1.heap.size w1 w1.drew := Below.drew (Below.refl _ _)
    generalize w1.drew = W0 at hS hW0 hHeld ⊢
    have hW0 := hid0 hW0
    have hT0 := hS.t
    have hU0 := hS.u
    have hB : Below W0.heap.size W0 W0 := Below.refl _ _
    refine wpAnyH_take (i := 1) (v := .agg [.int .i64 ke, .int .i64 ae, .int .i64 ve.k, .int .i64 ve.n, .string ve.s, .slice pe ye.length ce].toArray) rfl (by kernel_rfl) (by kernel_rfl) (by kernel_rfl) (fun _ _ _ h => h) (yieldsIf_load_mid rfl 26 _ rfl w.heap.size (0) rfl [.int .i64 ke, .int .i64 ae, .int .i64 ve.k, .int .i64 ve.n, .string ve.s, .slice pe ye.length ce] _ (fun w h => h.t.at_) Try.underlying26 rfl (sizeX)) (by assumption) ?_
    (try simp only [Act.put, List.setIfInBounds_toArray, List.set_cons_zero, List.set_cons_succ, List.getElem_toArray, List.getElem_cons_zero, List.getElem_cons_succ])
    refine wpAnyH_take (i := 4) (v := .agg [.int .i64 k, .int .i64 op, .int .i64 kl, .int .i64 al, .int .i64 vl.k, .int .i64 vl.n, .string vl.s, .slice pl yl.length cl, .int .i64 kr, .int .i64 ar, .int .i64 vr.k, .int .i64 vr.n, .string vr.s, .slice pr yr.length cr, .slice p ys.length c].toArray) rfl (by kernel_rfl) (by kernel_rfl) (by kernel_rfl) (fun _ _ _ h => h) (yieldsIf_load_mid rfl 38 _ rfl (w.heap.size + 1) (0) rfl [.int .i64 k, .int .i64 op, .int .i64 kl, .int .i64 al, .int .i64 vl.k, .int .i64 vl.n, .string vl.s, .slice pl yl.length cl, .int .i64 kr, .int .i64 ar, .int .i64 vr.k, .int .i64 vr.n, .string vr.s, .slice pr yr.length cr, .slice p ys.length c] _ (fun w h => h.u.at_) Try.underlying38 rfl (sizeTT)) (by assumption) ?_
    (try simp only [Act.put, List.setIfInBounds_toArray, List.set_cons_zero, List.set_cons_succ, List.getElem_toArray, List.getElem_cons_zero, List.getElem_cons_succ])
    refine wpAnyH_ready (rs := [0, 2]) (by kernel_rfl) (by simp) ?_
    refine AllReadyH.cons rfl (fun K hK => ?_) ?_
    · (try simp only [Act.put, List.setIfInBounds_toArray, List.set_cons_zero, List.set_cons_succ, List.getElem_toArray, List.getElem_cons_zero])
      go_simp
      obtain ⟨W1, hW1⟩ : ∃ W', W0.alloc (.cells #[] 3) = W' := ⟨_, rfl⟩
      have hO := made11 W0 W0.heap.size hB.size; rw [hW1] at hO
      have hB := hB.alloc hB.size (.cells #[] 3); rw [hW1] at hB
      have hS := hS.alloc (.cells #[] 3); rw [hW1] at hS
      rw [hW1]
      refine hK.out _ _ hS (fun hHeld => ?_)
      clear hW1
      clear hK K
      (try simp only [Act.put, List.setIfInBounds_toArray, List.set_cons_zero, List.set_cons_succ, List.getElem_toArray, List.getElem_cons_zero, List.getElem_cons_succ])
      refine wpAnyH_ready (rs := [2]) (by kernel_rfl) (by simp) ?_
      refine AllReadyH.cons rfl (fun K hK => ?_) ?_
      · (try simp only [Act.put, List.setIfInBounds_toArray, List.set_cons_zero, List.set_cons_succ, List.getElem_toArray, List.getElem_cons_zero, List.getElem_cons_succ])
        go_simp
        refine (H2.out _ hS.b).mono ?_
        rintro e W2 ⟨⟨a3, c3, rfl, hI3⟩, hb⟩
        have hB := below_through hb hB.size hB
        have hS := hS.below hb
        have hO := own_below hO hb
        clear hb
        refine hK.out _ _ hS (fun hHeld => ?_)
        clear hK K
        (try simp only [Act.put, List.setIfInBounds_toArray, List.set_cons_zero, List.set_cons_succ, List.getElem_toArray, List.getElem_cons_zero, List.getElem_cons_succ])
        refine wpAnyH_ready (rs := [3]) (by kernel_rfl) (by simp) ?_
        refine AllReadyH.cons rfl (fun K hK => ?_) ?_
        · refine app_if (by rfl) _ _ (by rfl) (by rfl) W0.heap.size (0) (ints []) hO a3 (Q1.length) c3 (by rfl) Q1 rfl hI3 (by omega) hB.size ?_
          intro v3 W3 hO2 hg2 hat2
          rw [Nat.zero_add] at hO2
          have hB' := hB.grown hg2 hB.size (fun k hk => (hO.lt k hk).1)
          have hS : AwS w w.heap.size (w.heap.size + 1) [.int .i64 ke, .int .i64 ae, .int .i64 ve.k, .int .i64 ve.n, .string ve.s, .slice pe ye.length ce] [.int .i64 k, .int .i64 op, .int .i64 kl, .int .i64 al, .int .i64 vl.k, .int .i64 vl.n, .string vl.s, .slice pl yl.length cl, .int .i64 kr, .int .i64 ar, .int .i64 vr.k, .int .i64 vr.n, .string vr.s, .slice pr yr.length cr, .slice p ys.length c] W3 := ⟨hS.t.keep (hg2.block _ hS.t.lt (fun e => by have := (hO.lt _ e.symm).1; have := hT0.lt; omega)) hg2.size, hS.u.keep (hg2.block _ hS.u.lt (fun e => by have := (hO.lt _ e.symm).1; have := hU0.lt; omega)) hg2.size, hS.b.grown hg2 hS.b.size (fun k hk => by have := (hO.lt k hk).1; have := hT0.lt; omega)⟩
          have hB := hB'; clear hB' hO
          have hO := hO2
          clear hO2 hg2 hat2
          refine hK.out _ _ hS (fun hHeld => ?_)
          clear hK K
          (try simp only [Act.put, List.setIfInBounds_toArray, List.set_cons_zero, List.set_cons_succ, List.getElem_toArray, List.getElem_cons_zero, List.getElem_cons_succ])
          refine wpAnyH_ready (rs := [5]) (by kernel_rfl) (by simp) ?_
          refine AllReadyH.cons rfl (fun K hK => ?_) ?_
          · (try simp only [Act.put, List.setIfInBounds_toArray, List.set_cons_zero, List.set_cons_succ, List.getElem_toArray, List.getElem_cons_zero, List.getElem_cons_succ])
            go_simp
            refine (H3.out _ hS.b).mono ?_
            rintro e W4 ⟨⟨a5, c5, rfl, hI5⟩, hb⟩
            have hB := below_through hb hB.size hB
            have hS := hS.below hb
            have hO := own_below hO hb
            clear hb
            refine hK.out _ _ hS (fun hHeld => ?_)
            clear hK K
            (try simp only [Act.put, List.setIfInBounds_toArray, List.set_cons_zero, List.set_cons_succ, List.getElem_toArray, List.getElem_cons_zero, List.getElem_cons_succ])
            refine wpAnyH_ready (rs := [6]) (by kernel_rfl) (by simp) ?_
            refine AllReadyH.cons rfl (fun K hK => ?_) ?_
            · refine app_if (by rfl) _ _ (by rfl) (by rfl) W0.heap.size (Q1.length) (ints [] ++ ints Q1) hO a5 (Q2.length) c5 (by rfl) Q2 rfl hI5 (by omega) hB.size ?_
              intro v6 W5 hO2 hg2 hat2
              have hB' := hB.grown hg2 hB.size (fun k hk => (hO.lt k hk).1)
              have hS : AwS w w.heap.size (w.heap.size + 1) [.int .i64 ke, .int .i64 ae, .int .i64 ve.k, .int .i64 ve.n, .string ve.s, .slice pe ye.length ce] [.int .i64 k, .int .i64 op, .int .i64 kl, .int .i64 al, .int .i64 vl.k, .int .i64 vl.n, .string vl.s, .slice pl yl.length cl, .int .i64 kr, .int .i64 ar, .int .i64 vr.k, .int .i64 vr.n, .string vr.s, .slice pr yr.length cr, .slice p ys.length c] W5 := ⟨hS.t.keep (hg2.block _ hS.t.lt (fun e => by have := (hO.lt _ e.symm).1; have := hT0.lt; omega)) hg2.size, hS.u.keep (hg2.block _ hS.u.lt (fun e => by have := (hO.lt _ e.symm).1; have := hU0.lt; omega)) hg2.size, hS.b.grown hg2 hS.b.size (fun k hk => by have := (hO.lt k hk).1; have := hT0.lt; omega)⟩
              have hB := hB'; clear hB' hO
              have hO := hO2
              clear hO2 hg2 hat2
              refine hK.out _ _ hS (fun hHeld => ?_)
              clear hK K
              (try simp only [Act.put, List.setIfInBounds_toArray, List.set_cons_zero, List.set_cons_succ, List.getElem_toArray, List.getElem_cons_zero, List.getElem_cons_succ])
              refine wpAnyH_take (i := 7) (v := ?_) rfl (by kernel_rfl) (by kernel_rfl) (by kernel_rfl) (fun _ _ _ h => h) (Or.inl ⟨by rfl, ?_⟩) (by assumption) ?_
              rotate_left
              · (intro wx hSw; go_simp; (try with_reducible rfl); (try omega))
              (try simp only [Act.put, List.setIfInBounds_toArray, List.set_cons_zero, List.set_cons_succ, List.getElem_toArray, List.getElem_cons_zero, List.getElem_cons_succ])
              refine wpAnyH_done (by kernel_rfl) ?_ _
              have hO : W5.ownsRow W0.heap.size 3 1 v6 (Q1.length + Q2.length) (ints (Q1 ++ Q2)) := by have h := hO; simpa [ints] using h
              obtain ⟨al, cl, ev, _, hI⟩ := ints_owned hO (by simp)
              subst ev
              have hfar : ∀ b off, al = some ⟨b, off, none⟩ → W0.heap.size ≤ b := fun b off e => (hO.lt b (by rw [e]; rfl)).1
              have hB := hid0 hB
              have hI := hid0 hI
              have hfar := hid0 hfar
              go_wp2_with fail
              go_meet
              case rel => exact ⟨al, cl, rfl, hI.out, hW0.out.trans (hB.out.mono hW0.out.size), fun b off e => by have := hfar.out b off e; have := hW0.out.size; omega⟩
            exact AllReadyH.nil
          exact AllReadyH.nil
        exact AllReadyH.nil
      exact AllReadyH.nil
    refine AllReadyH.cons rfl (fun K hK => ?_) ?_
    · (try simp only [Act.put, List.setIfInBounds_toArray, List.set_cons_zero, List.set_cons_succ, List.getElem_toArray, List.getElem_cons_zero, List.getElem_cons_succ])
      go_simp
      refine (H2.out _ hS.b).mono ?_
      rintro e W1 ⟨⟨a3, c3, rfl, hI3⟩, hb⟩
      have hB := below_through hb hB.size hB
      have hS := hS.below hb
      clear hb
      refine hK.out _ _ hS (fun hHeld => ?_)
      clear hK K
      (try simp only [Act.put, List.setIfInBounds_toArray, List.set_cons_zero, List.set_cons_succ, List.getElem_toArray, List.getElem_cons_zero, List.getElem_cons_succ])
      refine wpAnyH_ready (rs := [0]) (by kernel_rfl) (by simp) ?_
      refine AllReadyH.cons rfl (fun K hK => ?_) ?_
      · (try simp only [Act.put, List.setIfInBounds_toArray, List.set_cons_zero, List.set_cons_succ, List.getElem_toArray, List.getElem_cons_zero])
        go_simp
        obtain ⟨W2, hW2⟩ : ∃ W', W1.alloc (.cells #[] 3) = W' := ⟨_, rfl⟩
        have hO := made11 W1 W0.heap.size hB.size; rw [hW2] at hO
        have hB := hB.alloc hB.size (.cells #[] 3); rw [hW2] at hB
        have hS := hS.alloc (.cells #[] 3); rw [hW2] at hS
        have hI3 := hI3.later ((Below.refl _ _).alloc (Nat.le_refl _) (.cells #[] 3)); rw [hW2] at hI3
        rw [hW2]
        refine hK.out _ _ hS (fun hHeld => ?_)
        clear hW2
        clear hK K
        (try simp only [Act.put, List.setIfInBounds_toArray, List.set_cons_zero, List.set_cons_succ, List.getElem_toArray, List.getElem_cons_zero, List.getElem_cons_succ])
        refine wpAnyH_ready (rs := [3]) (by kernel_rfl) (by simp) ?_
        refine AllReadyH.cons rfl (fun K hK => ?_) ?_
        · refine app_if (by rfl) _ _ (by rfl) (by rfl) W0.heap.size (0) (ints []) hO a3 (Q1.length) c3 (by rfl) Q1 rfl hI3 (by omega) hB.size ?_
          intro v3 W3 hO2 hg2 hat2
          rw [Nat.zero_add] at hO2
          have hB' := hB.grown hg2 hB.size (fun k hk => (hO.lt k hk).1)
          have hS : AwS w w.heap.size (w.heap.size + 1) [.int .i64 ke, .int .i64 ae, .int .i64 ve.k, .int .i64 ve.n, .string ve.s, .slice pe ye.length ce] [.int .i64 k, .int .i64 op, .int .i64 kl, .int .i64 al, .int .i64 vl.k, .int .i64 vl.n, .string vl.s, .slice pl yl.length cl, .int .i64 kr, .int .i64 ar, .int .i64 vr.k, .int .i64 vr.n, .string vr.s, .slice pr yr.length cr, .slice p ys.length c] W3 := ⟨hS.t.keep (hg2.block _ hS.t.lt (fun e => by have := (hO.lt _ e.symm).1; have := hT0.lt; omega)) hg2.size, hS.u.keep (hg2.block _ hS.u.lt (fun e => by have := (hO.lt _ e.symm).1; have := hU0.lt; omega)) hg2.size, hS.b.grown hg2 hS.b.size (fun k hk => by have := (hO.lt k hk).1; have := hT0.lt; omega)⟩
          have hB := hB'; clear hB' hO
          have hO := hO2
          clear hO2 hg2 hat2
          refine hK.out _ _ hS (fun hHeld => ?_)
          clear hK K
          (try simp only [Act.put, List.setIfInBounds_toArray, List.set_cons_zero, List.set_cons_succ, List.getElem_toArray, List.getElem_cons_zero, List.getElem_cons_succ])
          refine wpAnyH_ready (rs := [5]) (by kernel_rfl) (by simp) ?_
          refine AllReadyH.cons rfl (fun K hK => ?_) ?_
          · (try simp only [Act.put, List.setIfInBounds_toArray, List.set_cons_zero, List.set_cons_succ, List.getElem_toArray, List.getElem_cons_zero, List.getElem_cons_succ])
            go_simp
            refine (H3.out _ hS.b).mono ?_
            rintro e W4 ⟨⟨a5, c5, rfl, hI5⟩, hb⟩
            have hB := below_through hb hB.size hB
            have hS := hS.below hb
            have hO := own_below hO hb
            clear hb
            refine hK.out _ _ hS (fun hHeld => ?_)
            clear hK K
            (try simp only [Act.put, List.setIfInBounds_toArray, List.set_cons_zero, List.set_cons_succ, List.getElem_toArray, List.getElem_cons_zero, List.getElem_cons_succ])
            refine wpAnyH_ready (rs := [6]) (by kernel_rfl) (by simp) ?_
            refine AllReadyH.cons rfl (fun K hK => ?_) ?_
            · refine app_if (by rfl) _ _ (by rfl) (by rfl) W0.heap.size (Q1.length) (ints [] ++ ints Q1) hO a5 (Q2.length) c5 (by rfl) Q2 rfl hI5 (by omega) hB.size ?_
              intro v6 W5 hO2 hg2 hat2
              have hB' := hB.grown hg2 hB.size (fun k hk => (hO.lt k hk).1)
              have hS : AwS w w.heap.size (w.heap.size + 1) [.int .i64 ke, .int .i64 ae, .int .i64 ve.k, .int .i64 ve.n, .string ve.s, .slice pe ye.length ce] [.int .i64 k, .int .i64 op, .int .i64 kl, .int .i64 al, .int .i64 vl.k, .int .i64 vl.n, .string vl.s, .slice pl yl.length cl, .int .i64 kr, .int .i64 ar, .int .i64 vr.k, .int .i64 vr.n, .string vr.s, .slice pr yr.length cr, .slice p ys.length c] W5 := ⟨hS.t.keep (hg2.block _ hS.t.lt (fun e => by have := (hO.lt _ e.symm).1; have := hT0.lt; omega)) hg2.size, hS.u.keep (hg2.block _ hS.u.lt (fun e => by have := (hO.lt _ e.symm).1; have := hU0.lt; omega)) hg2.size, hS.b.grown hg2 hS.b.size (fun k hk => by have := (hO.lt k hk).1; have := hT0.lt; omega)⟩
              have hB := hB'; clear hB' hO
              have hO := hO2
              clear hO2 hg2 hat2
              refine hK.out _ _ hS (fun hHeld => ?_)
              clear hK K
              (try simp only [Act.put, List.setIfInBounds_toArray, List.set_cons_zero, List.set_cons_succ, List.getElem_toArray, List.getElem_cons_zero, List.getElem_cons_succ])
              refine wpAnyH_take (i := 7) (v := ?_) rfl (by kernel_rfl) (by kernel_rfl) (by kernel_rfl) (fun _ _ _ h => h) (Or.inl ⟨by rfl, ?_⟩) (by assumption) ?_
              rotate_left
              · (intro wx hSw; go_simp; (try with_reducible rfl); (try omega))
              (try simp only [Act.put, List.setIfInBounds_toArray, List.set_cons_zero, List.set_cons_succ, List.getElem_toArray, List.getElem_cons_zero, List.getElem_cons_succ])
              refine wpAnyH_done (by kernel_rfl) ?_ _
              have hO : W5.ownsRow W0.heap.size 3 1 v6 (Q1.length + Q2.length) (ints (Q1 ++ Q2)) := by have h := hO; simpa [ints] using h
              obtain ⟨al, cl, ev, _, hI⟩ := ints_owned hO (by simp)
              subst ev
              have hfar : ∀ b off, al = some ⟨b, off, none⟩ → W0.heap.size ≤ b := fun b off e => (hO.lt b (by rw [e]; rfl)).1
              have hB := hid0 hB
              have hI := hid0 hI
              have hfar := hid0 hfar
              go_wp2_with fail
              go_meet
              case rel => exact ⟨al, cl, rfl, hI.out, hW0.out.trans (hB.out.mono hW0.out.size), fun b off e => by have := hfar.out b off e; have := hW0.out.size; omega⟩
            exact AllReadyH.nil
          exact AllReadyH.nil
        exact AllReadyH.nil
      exact AllReadyH.nil
    exact AllReadyH.nil
  case rest =>
    obtain ⟨aL, cL, rfl, hI, hB2, hfar⟩ := hcut
    generalize wc = w2 at hI hB2 ⊢
    have hRI : RdI w w.heap.size (w.heap.size + 1) [.int .i64 ke, .int .i64 ae, .int .i64 ve.k, .int .i64 ve.n, .string ve.s, .slice pe ye.length ce] [.int .i64 k, .int .i64 op, .int .i64 kl, .int .i64 al, .int .i64 vl.k, .int .i64 vl.n, .string vl.s, .slice pl yl.length cl, .int .i64 kr, .int .i64 ar, .int .i64 vr.k, .int .i64 vr.n, .string vr.s, .slice pr yr.length cr, .slice p ys.length c] N ao aL row (Q1 ++ Q2) 0 w2 := by
      refine ⟨hS1.out.below hB2, hI, row, HN.out, fun j h h' => by rw [if_neg (by omega)], HOv.out.imp_right fun ⟨g, e, hg, hO⟩ => ⟨g, e, by omega, by omega, by omega, fun b off e2 => ?_, hO.below hB2⟩⟩
      have := hfar b off e2
      have := hO.out.lt
      omega
    have hLl : (Q1 ++ Q2).length ≤ 4000000 := by rw [List.length_append]; omega
    generalize Q1 ++ Q2 = L at hI hLl HAg hRI ⊢
    obtain ⟨M, hM⟩ : ∃ M, L.length = M := ⟨_, rfl⟩
    rw [hM] at hLl ⊢
    have HM := hid0 hM
    have HRI := hid0 hRI
    clear hI hB2 hfar hM hS1 HOv hRI
    go_wp2_with fail
    go_loopw [9] (fun iv wr => ∃ i : Nat, i ≤ N ∧ iv = .int .i64 i ∧ RdI w w.heap.size (w.heap.size + 1) [.int .i64 ke, .int .i64 ae, .int .i64 ve.k, .int .i64 ve.n, .string ve.s, .slice pe ye.length ce] [.int .i64 k, .int .i64 op, .int .i64 kl, .int .i64 al, .int .i64 vl.k, .int .i64 vl.n, .string vl.s, .slice pl yl.length cl, .int .i64 kr, .int .i64 ar, .int .i64 vr.k, .int .i64 vr.n, .string vr.s, .slice pr yr.length cr, .slice p ys.length c] N ao aL row L i wr) (fun iv _ => N - (intOf iv).toNat)
    case atStart => exact ⟨0, Nat.zero_le _, rfl, HRI.out⟩
    case round =>
      obtain ⟨i, hi, rfl, hR⟩ := hrel
      have HRr := hid0 hR
      clear hR
      by_cases hlt : i < N
      · go_wp2_with fail
        go_loopw [10, 11] (fun rb kv wr2 => ∃ q : Nat, q ≤ M ∧ kv = .int .i64 q ∧ rb = .bool (decide ((i : Int) ∈ L.take q)) ∧ Below wr.heap.size wr wr2) (fun _ kv _ => M - (intOf kv).toNat)
        case atStart => exact ⟨0, Nat.zero_le _, rfl, by simp, Below.refl _ _⟩
        case round =>
          obtain ⟨q, hq, rfl, rfl, hB3⟩ := hrel
          have HR3 := hid0 (HRr.out.below hB3)
          by_cases hqM : q < M
          · have g0 : decide ((q : Int) < (M : Int)) = true := by simpa using hqM
            have hqL : q < L.length := by rw [HM.out]; exact hqM
            obtain ⟨bl, ol, rfl, hcL⟩ := HR3.out.l (fun e => by rw [e] at hqL; exact absurd hqL (by simp))
            have hxq := hcL q hqL
            have hT := hid0 (mem_take_snoc hqL i)
            generalize L[q] = y at hxq hT
            clear hcL hqL
            by_cases hin : (i : Int) ∈ L.take q
            · have HIN := hid0 (hT.out.2 (.inl hin))
              rw [decide_eq_true hin]
              clear hin hT
              go_wp2_with fail
              exact ⟨⟨q + 1, by omega, by go_num, by rw [decide_eq_true HIN.out], hB3⟩, by simp [intOf]; omega⟩
            · rw [decide_eq_false hin]
              by_cases hyi : y = i
              · have g1 : (y == (i : Int)) = true := by simpa using hyi
                have HIN := hid0 (hT.out.2 (.inr hyi))
                clear hin hT hyi
                go_wp2_with fail
                exact ⟨⟨q + 1, by omega, by go_num, by rw [decide_eq_true HIN.out], hB3⟩, by simp [intOf]; omega⟩
              · have g1 : (y == (i : Int)) = false := by simpa using hyi
                have HIN := hid0 (show ¬ (i : Int) ∈ L.take (q + 1) from fun h => (hT.out.1 h).elim hin hyi)
                clear hin hT hyi
                go_wp2_with fail
                exact ⟨⟨q + 1, by omega, by go_num, by rw [decide_eq_false HIN.out], hB3⟩, by simp [intOf]; omega⟩
          · have g0 : decide ((q : Int) < (M : Int)) = false := by simpa using hqM
            rw [List.take_of_length_le (by rw [HM.out]; omega)]
            by_cases hin : (i : Int) ∈ L
            · rw [decide_eq_true hin]
              have HR4 := hid0 (HR3.out.skip hlt hin)
              clear hin
              go_wp2_with fail
              exact ⟨⟨i + 1, by omega, by go_num, HR4.out⟩, by simp [intOf]; omega⟩
            · rw [decide_eq_false hin]
              obtain ⟨O, hO1, hO2, g, rfl, hg1, hg2, hg3, hg4, hO3⟩ := HR3.out.own (by omega)
              go_wp2_with fail
              refine (num11_any 7 _).mono ?_
              rintro e wn ⟨rfl, hbn⟩
              have hi2 : i < O.length := by omega
              have HP := hid0 (RdI.put (HR3.out.s.below hbn) (HR3.out.l.later hbn) hO1 hO2 hg1 hg2 hg3 hg4 (hO3.below hbn) hlt hin)
              have ht3 := (hO3.below hbn).there3 hi2
              clear hO3 hO2 hbn hin HR3 hg1 hg2 hg3 hg4
              go_wp2_with ((with_reducible refine wp_putO (vs := [.int .i64 1, .int .i64 7, .string ⟨#[]⟩]) ht3 ?_ ?_ ?_ ?_ ?_ ?_); (rfl); (intro v hv; simp at hv; rcases hv with rfl | rfl | rfl <;> rfl); (exact infoV); (rfl); (rfl); simp only [Act.put])
              exact ⟨⟨i + 1, by omega, by go_num, HP.out⟩, by simp [intOf]; omega⟩
      · have g0 : decide ((i : Int) < (N : Int)) = false := by simpa using hlt
        have HRn : RdI w w.heap.size (w.heap.size + 1) [.int .i64 ke, .int .i64 ae, .int .i64 ve.k, .int .i64 ve.n, .string ve.s, .slice pe ye.length ce] [.int .i64 k, .int .i64 op, .int .i64 kl, .int .i64 al, .int .i64 vl.k, .int .i64 vl.n, .string vl.s, .slice pl yl.length cl, .int .i64 kr, .int .i64 ar, .int .i64 vr.k, .int .i64 vr.n, .string vr.s, .slice pr yr.length cr, .slice p ys.length c] N ao aL row L N wr := by
          have h := HRr.out
          rw [show i = N by omega] at h
          exact h
        obtain ⟨O, hOl, hOr, hAgr⟩ := HRn.last HN.out HR.out
        obtain ⟨hev, hho⟩ := HAg.out O hAgr
        have hb0 := HRn.s.b
        have E1 := H1.out wr ao co O hb0 hOr
        rw [hOl, hev] at E1
        have E5 := H5.out wr ao co O hb0 hOr
        rw [hOl, hho] at E5
        have T0 := HRn.s.t
        have U := hid0 HRn.s.u
        have hW := hid0 hb0
        clear hev hho hAgr hOr HAg HRn HRr hb0 HR H2 H3 hOl O HM HN HRI hq1 hq2 hLl
        generalize evC row _ = r at H0 E1
        generalize hoT row _ = ho at H4 E5
        obtain ⟨⟨k1, n1, s1⟩, f1⟩ := r
        have a0 := T0.cell 0 rfl
        have a1 := T0.cell 1 rfl
        have a2 := T0.cell 2 rfl
        have a3 := T0.cell 3 rfl
        have a4 := T0.cell 4 rfl
        have a5 := T0.cell 5 rfl
        have T0 := hid0 T0
        go_wp2_with fail
        go_at_call 8
        refine (H0.out _ hW.out).mono ?_
        rintro e wa ⟨rfl, hb⟩
        clear a0 a1 a2 a3 a4 a5
        have hB := hid0 ((show Below wr.heap.size wr wa from hb).alloc hb.size (.cells #[.int .i64 k1, .int .i64 n1, .string s1] 23))
        have hW := hid0 ((below_through hb hW.out.size hW.out).alloc (below_through hb hW.out.size hW.out).size (.cells #[.int .i64 k1, .int .i64 n1, .string s1] 23))
        have T0 := hid0 ((T0.out.below hb).alloc (.cells #[.int .i64 k1, .int .i64 n1, .string s1] 23))
        have U := hid0 ((U.out.below hb).alloc (.cells #[.int .i64 k1, .int .i64 n1, .string s1] 23))
        have X := hid0 (VarB.new wa [.int .i64 k1, .int .i64 n1, .string s1] 23)
        clear hb
        have a0 := T0.out.cell 0 rfl
        have a1 := T0.out.cell 1 rfl
        have a2 := T0.out.cell 2 rfl
        have a3 := T0.out.cell 3 rfl
        have a4 := T0.out.cell 4 rfl
        have a5 := T0.out.cell 5 rfl
        go_wp2_with fail
        go_at_call 8
        refine (E1.out _ hB.out).mono ?_
        rintro e wb ⟨rfl, hb⟩
        clear a0 a1 a2 a3 a4 a5 T0
        have hB := hid0 ((below_through hb hB.out.size hB.out).alloc (below_through hb hB.out.size hB.out).size (.cells #[.int .i64 k1, .int .i64 n1, .string s1] 23))
        have hW := hid0 ((below_through hb hW.out.size hW.out).alloc (below_through hb hW.out.size hW.out).size (.cells #[.int .i64 k1, .int .i64 n1, .string s1] 23))
        have U := hid0 ((U.out.below hb).alloc (.cells #[.int .i64 k1, .int .i64 n1, .string s1] 23))
        have X := hid0 ((X.out.below hb).alloc (.cells #[.int .i64 k1, .int .i64 n1, .string s1] 23))
        have Y := hid0 (VarB.new wb [.int .i64 k1, .int .i64 n1, .string s1] 23)
        clear hb
        go_wp2_with fail
        have hS : EvS w (w.heap.size + 1) wa.heap.size wb.heap.size [.int .i64 k, .int .i64 op, .int .i64 kl, .int .i64 al, .int .i64 vl.k, .int .i64 vl.n, .string vl.s, .slice pl yl.length cl, .int .i64 kr, .int .i64 ar, .int .i64 vr.k, .int .i64 vr.n, .string vr.s, .slice pr yr.length cr, .slice p ys.length c] [.int .i64 k1, .int .i64 n1, .string s1] [.int .i64 k1, .int .i64 n1, .string s1] (wb.alloc (.cells #[.int .i64 k1, .int .i64 n1, .string s1] 23)).drew := (⟨U.out, X.out, Y.out, hW.out⟩ : EvS w (w.heap.size + 1) wa.heap.size wb.heap.size [.int .i64 k, .int .i64 op, .int .i64 kl, .int .i64 al, .int .i64 vl.k, .int .i64 vl.n, .string vl.s, .slice pl yl.length cl, .int .i64 kr, .int .i64 ar, .int .i64 vr.k, .int .i64 vr.n, .string vr.s, .slice pr yr.length cr, .slice p ys.length c] [.int .i64 k1, .int .i64 n1, .string s1] [.int .i64 k1, .int .i64 n1, .string s1] (wb.alloc (.cells #[.int .i64 k1, .int .i64 n1, .string s1] 23))).drew
        have hL := Below.drew hB.out
        clear hB hW U X Y
        refine wp_region_held_drew (S := EvS w (w.heap.size + 1) wa.heap.size wb.heap.size [.int .i64 k, .int .i64 op, .int .i64 kl, .int .i64 al, .int .i64 vl.k, .int .i64 vl.n, .string vl.s, .slice pl yl.length cl, .int .i64 kr, .int .i64 ar, .int .i64 vr.k, .int .i64 vr.n, .string vr.s, .slice pr yr.length cr, .slice p ys.length c] [.int .i64 k1, .int .i64 n1, .string s1] [.int .i64 k1, .int .i64 n1, .string s1]) (by kernel_rfl) hS (fun hHeld => ?_)
        refine wpAnyH_ready (rs := [0]) (by kernel_rfl) (by simp) ?_
        refine AllReadyH.cons rfl (fun K hK => ?_) ?_
        · (try simp only [Act.put, List.setIfInBounds_toArray, List.set_cons_zero, List.set_cons_succ, List.getElem_toArray, List.getElem_cons_zero])
          go_simp
          refine (awake11_any _).mono ?_
          rintro e W1 ⟨rfl, hb⟩
          have hS := hS.below hb
          have hL := below_through hb hL.size hL
          clear hb
          refine hK.out _ _ hS (fun hHeld => ?_)
          clear hK K
          (try simp only [Act.put, List.setIfInBounds_toArray, List.set_cons_zero, List.set_cons_succ, List.getElem_toArray, List.getElem_cons_zero, List.getElem_cons_succ])
          refine wpAnyH_take (i := 1) (v := ?_) rfl (by kernel_rfl) (by kernel_rfl) (by kernel_rfl) (fun _ _ _ h => h) (Or.inl ⟨by rfl, ?_⟩) (by assumption) ?_
          rotate_left
          · (intro wx hSw; go_simp; (try with_reducible rfl); (try omega))
          (try simp only [Act.put, List.setIfInBounds_toArray, List.set_cons_zero, List.set_cons_succ, List.getElem_toArray, List.getElem_cons_zero, List.getElem_cons_succ])
          refine wpAnyH_take (i := 2) (v := .agg [.int .i64 k1, .int .i64 n1, .string s1].toArray) rfl (by kernel_rfl) (by kernel_rfl) (by kernel_rfl) (fun _ _ _ h => h) (yieldsIf_load_mid rfl 23 _ rfl wa.heap.size (0) rfl [.int .i64 k1, .int .i64 n1, .string s1] _ (fun w h => h.u.at_) Try.underlying23 rfl (infoV)) (by assumption) ?_
          (try simp only [Act.put, List.setIfInBounds_toArray, List.set_cons_zero, List.set_cons_succ, List.getElem_toArray, List.getElem_cons_zero, List.getElem_cons_succ])
          refine wpAnyH_take (i := 3) (v := .agg [.int .i64 k1, .int .i64 n1, .string s1].toArray) rfl (by kernel_rfl) (by kernel_rfl) (by kernel_rfl) (fun _ _ _ h => h) (yieldsIf_load_mid rfl 23 _ rfl wb.heap.size (0) rfl [.int .i64 k1, .int .i64 n1, .string s1] _ (fun w h => h.v.at_) Try.underlying23 rfl (infoV)) (by assumption) ?_
          (try simp only [Act.put, List.setIfInBounds_toArray, List.set_cons_zero, List.set_cons_succ, List.getElem_toArray, List.getElem_cons_zero, List.getElem_cons_succ])
          refine wpAnyH_take (i := 4) (v := ?_) rfl (by kernel_rfl) (by kernel_rfl) (by kernel_rfl) (fun _ _ _ h => h) (Or.inl ⟨by rfl, ?_⟩) (by assumption) ?_
          rotate_left
          · (intro wx hSw; have q9 := eqRefl k1 n1 s1 wx; go_simp; (try with_reducible rfl); (try omega))
          (try simp only [Act.put, List.setIfInBounds_toArray, List.set_cons_zero, List.set_cons_succ, List.getElem_toArray, List.getElem_cons_zero, List.getElem_cons_succ])
          refine wpAnyH_take (i := 5) (v := ?_) rfl (by kernel_rfl) (by kernel_rfl) (by kernel_rfl) (fun _ _ _ h => h) (Or.inl ⟨by rfl, ?_⟩) (by assumption) ?_
          rotate_left
          · (intro wx hSw; go_simp; (try with_reducible rfl); (try omega))
          (try simp only [Act.put, List.setIfInBounds_toArray, List.set_cons_zero, List.set_cons_succ, List.getElem_toArray, List.getElem_cons_zero, List.getElem_cons_succ])
          refine wpAnyH_take (i := 6) (v := ?_) rfl (by kernel_rfl) (by kernel_rfl) (by kernel_rfl) (fun _ _ _ h => h) (Or.inl ⟨by rfl, ?_⟩) (by assumption) ?_
          rotate_left
          · (intro wx hSw; go_simp; (try with_reducible rfl); (try omega))
          (try simp only [Act.put, List.setIfInBounds_toArray, List.set_cons_zero, List.set_cons_succ, List.getElem_toArray, List.getElem_cons_zero, List.getElem_cons_succ])
          refine wpAnyH_take (i := 7) (v := ?_) rfl (by kernel_rfl) (by kernel_rfl) (by kernel_rfl) (fun _ _ _ h => h) (Or.inl ⟨by rfl, ?_⟩) (by assumption) ?_
          rotate_left
          · (intro wx hSw; go_simp; (try with_reducible rfl); (try omega))
          (try simp only [Act.put, List.setIfInBounds_toArray, List.set_cons_zero, List.set_cons_succ, List.getElem_toArray, List.getElem_cons_zero, List.getElem_cons_succ])
          refine wpAnyH_take (i := 8) (v := ?_) rfl (by kernel_rfl) (by kernel_rfl) (by kernel_rfl) (fun _ _ _ h => h) (Or.inl ⟨by rfl, ?_⟩) (by assumption) ?_
          rotate_left
          · (intro wx hSw; go_simp; (try with_reducible rfl); (try omega))
          (try simp only [Act.put, List.setIfInBounds_toArray, List.set_cons_zero, List.set_cons_succ, List.getElem_toArray, List.getElem_cons_zero, List.getElem_cons_succ])
          refine wpAnyH_take (i := 9) (v := ?_) rfl (by kernel_rfl) (by kernel_rfl) (by kernel_rfl) (fun _ _ _ h => h) (Or.inl ⟨by rfl, ?_⟩) (by assumption) ?_
          rotate_left
          · (intro wx hSw; go_simp; (try with_reducible rfl); (try omega))
          (try simp only [Act.put, List.setIfInBounds_toArray, List.set_cons_zero, List.set_cons_succ, List.getElem_toArray, List.getElem_cons_zero, List.getElem_cons_succ])
          refine wpAnyH_take (i := 10) (v := ?_) rfl (by kernel_rfl) (by kernel_rfl) (by kernel_rfl) (fun _ _ _ h => h) (Or.inl ⟨by rfl, ?_⟩) (by assumption) ?_
          rotate_left
          · (intro wx hSw; go_simp; (try with_reducible rfl); (try omega))
          (try simp only [Act.put, List.setIfInBounds_toArray, List.set_cons_zero, List.set_cons_succ, List.getElem_toArray, List.getElem_cons_zero, List.getElem_cons_succ])
          refine wpAnyH_take (i := 11) (v := ?_) rfl (by kernel_rfl) (by kernel_rfl) (by kernel_rfl) (fun _ _ _ h => h) (Or.inl ⟨by rfl, ?_⟩) (by assumption) ?_
          rotate_left
          · (intro wx hSw; go_simp; (try with_reducible rfl); (try omega))
          (try simp only [Act.put, List.setIfInBounds_toArray, List.set_cons_zero, List.set_cons_succ, List.getElem_toArray, List.getElem_cons_zero, List.getElem_cons_succ])
          refine wpAnyH_take (i := 12) (v := .agg [.int .i64 k, .int .i64 op, .int .i64 kl, .int .i64 al, .int .i64 vl.k, .int .i64 vl.n, .string vl.s, .slice pl yl.length cl, .int .i64 kr, .int .i64 ar, .int .i64 vr.k, .int .i64 vr.n, .string vr.s, .slice pr yr.length cr, .slice p ys.length c].toArray) rfl (by kernel_rfl) (by kernel_rfl) (by kernel_rfl) (fun _ _ _ h => h) (yieldsIf_load_mid rfl 38 _ rfl (w.heap.size + 1) (0) rfl [.int .i64 k, .int .i64 op, .int .i64 kl, .int .i64 al, .int .i64 vl.k, .int .i64 vl.n, .string vl.s, .slice pl yl.length cl, .int .i64 kr, .int .i64 ar, .int .i64 vr.k, .int .i64 vr.n, .string vr.s, .slice pr yr.length cr, .slice p ys.length c] _ (fun w h => h.a.at_) Try.underlying38 rfl (sizeTT)) (by assumption) ?_
          (try simp only [Act.put, List.setIfInBounds_toArray, List.set_cons_zero, List.set_cons_succ, List.getElem_toArray, List.getElem_cons_zero, List.getElem_cons_succ])
          refine wpAnyH_take (i := 13) (v := ?_) rfl (by kernel_rfl) (by kernel_rfl) (by kernel_rfl) (fun _ _ _ h => h) (Or.inl ⟨by rfl, ?_⟩) (by assumption) ?_
          rotate_left
          · (intro wx hSw; go_simp; (try with_reducible rfl); (try omega))
          (try simp only [Act.put, List.setIfInBounds_toArray, List.set_cons_zero, List.set_cons_succ, List.getElem_toArray, List.getElem_cons_zero, List.getElem_cons_succ])
          refine wpAnyH_take (i := 15) (v := .agg [.int .i64 k, .int .i64 op, .int .i64 kl, .int .i64 al, .int .i64 vl.k, .int .i64 vl.n, .string vl.s, .slice pl yl.length cl, .int .i64 kr, .int .i64 ar, .int .i64 vr.k, .int .i64 vr.n, .string vr.s, .slice pr yr.length cr, .slice p ys.length c].toArray) rfl (by kernel_rfl) (by kernel_rfl) (by kernel_rfl) (fun _ _ _ h => h) (yieldsIf_load_mid rfl 38 _ rfl (w.heap.size + 1) (0) rfl [.int .i64 k, .int .i64 op, .int .i64 kl, .int .i64 al, .int .i64 vl.k, .int .i64 vl.n, .string vl.s, .slice pl yl.length cl, .int .i64 kr, .int .i64 ar, .int .i64 vr.k, .int .i64 vr.n, .string vr.s, .slice pr yr.length cr, .slice p ys.length c] _ (fun w h => h.a.at_) Try.underlying38 rfl (sizeTT)) (by assumption) ?_
          (try simp only [Act.put, List.setIfInBounds_toArray, List.set_cons_zero, List.set_cons_succ, List.getElem_toArray, List.getElem_cons_zero, List.getElem_cons_succ])
          refine wpAnyH_take (i := 16) (v := ?_) rfl (by kernel_rfl) (by kernel_rfl) (by kernel_rfl) (fun _ _ _ h => h) (Or.inl ⟨by rfl, ?_⟩) (by assumption) ?_
          rotate_left
          · (intro wx hSw; go_simp; (try with_reducible rfl); (try omega))
          (try simp only [Act.put, List.setIfInBounds_toArray, List.set_cons_zero, List.set_cons_succ, List.getElem_toArray, List.getElem_cons_zero, List.getElem_cons_succ])
          refine wpAnyH_ready (rs := [14]) (by kernel_rfl) (by simp) ?_
          refine AllReadyH.cons rfl (fun K hK => ?_) ?_
          · (try simp only [Act.put, List.setIfInBounds_toArray, List.set_cons_zero, List.set_cons_succ, List.getElem_toArray, List.getElem_cons_zero, List.getElem_cons_succ])
            go_simp
            refine (H4.out _ hS.b).mono ?_
            rintro e W2 ⟨rfl, hb⟩
            have hS := hS.below hb
            have hL := below_through hb hL.size hL
            clear hb
            refine hK.out _ _ hS (fun hHeld => ?_)
            clear hK K
            (try simp only [Act.put, List.setIfInBounds_toArray, List.set_cons_zero, List.set_cons_succ, List.getElem_toArray, List.getElem_cons_zero, List.getElem_cons_succ])
            refine wpAnyH_ready (rs := [17]) (by kernel_rfl) (by simp) ?_
            refine AllReadyH.cons rfl (fun K hK => ?_) ?_
            · (try simp only [Act.put, List.setIfInBounds_toArray, List.set_cons_zero, List.set_cons_succ, List.getElem_toArray, List.getElem_cons_zero, List.getElem_cons_succ])
              go_simp
              refine (E5.out _ hL).mono ?_
              rintro e W3 ⟨rfl, hb⟩
              have hS := hS.below hb
              have hL := below_through hb hL.size hL
              clear hb
              refine hK.out _ _ hS (fun hHeld => ?_)
              clear hK K
              (try simp only [Act.put, List.setIfInBounds_toArray, List.set_cons_zero, List.set_cons_succ, List.getElem_toArray, List.getElem_cons_zero, List.getElem_cons_succ])
              refine wpAnyH_take (i := 18) (v := ?_) rfl (by kernel_rfl) (by kernel_rfl) (by kernel_rfl) (fun _ _ _ h => h) (Or.inl ⟨by rfl, ?_⟩) (by assumption) ?_
              rotate_left
              · (intro wx hSw; go_simp; (try with_reducible rfl); (try omega))
              (try simp only [Act.put, List.setIfInBounds_toArray, List.set_cons_zero, List.set_cons_succ, List.getElem_toArray, List.getElem_cons_zero, List.getElem_cons_succ])
              refine wpAnyH_take (i := 19) (v := ?_) rfl (by kernel_rfl) (by kernel_rfl) (by kernel_rfl) (fun _ _ _ h => h) (Or.inl ⟨by rfl, ?_⟩) (by assumption) ?_
              rotate_left
              · (intro wx hSw; go_simp; (try with_reducible rfl); (try omega))
              (try simp only [Act.put, List.setIfInBounds_toArray, List.set_cons_zero, List.set_cons_succ, List.getElem_toArray, List.getElem_cons_zero, List.getElem_cons_succ])
              refine wpAnyH_take (i := 20) (v := ?_) rfl (by kernel_rfl) (by kernel_rfl) (by kernel_rfl) (fun _ _ _ h => h) (Or.inl ⟨by rfl, ?_⟩) (by assumption) ?_
              rotate_left
              · (intro wx hSw; go_simp; (try with_reducible rfl); (try omega))
              (try simp only [Act.put, List.setIfInBounds_toArray, List.set_cons_zero, List.set_cons_succ, List.getElem_toArray, List.getElem_cons_zero, List.getElem_cons_succ])
              refine wpAnyH_done (by kernel_rfl) ?_ _
              go_wp2_with fail
              go_ret
              exact ⟨rfl, hS.b⟩
            exact AllReadyH.nil
          exact AllReadyH.nil
        exact AllReadyH.nil
end Go.Proofs.Ytolcebbpbihnoaa
