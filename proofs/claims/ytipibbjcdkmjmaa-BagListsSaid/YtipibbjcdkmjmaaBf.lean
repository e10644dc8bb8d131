/- The reference of layer 4: the bag of rows, each once; the rows of a bag: contracts of the calls, in whatever memory. Conditions: the rows' cells are known; they are not too many. -/
import Derived.Test.YtipibbjcdkmjmaaBe
namespace Go.Proofs.Ytipibbjcdkmjmaa
open Go.RowKit

def onceE (e : Line) : Elem := ⟨e.a, e.c, e.r, 1⟩
theorem once_pr (Ls : List Line) : (Ls.map onceE).map pr = onesB (Ls.map (·.r)) := by simp [onesB, onceE, pr, Function.comp_def]
theorem once_in {w : World} {Ls : List Line} (h : LinesIn w Ls) : RowsIn w (Ls.map onceE) := fun e he => by
  obtain ⟨x, hx, rfl⟩ := List.mem_map.1 he
  exact h x hx

set_option maxHeartbeats 2000000 in
theorem refList_any (a : Option Addr) (c : Nat) (Ls : List Line) (w : World) (h : LinesAt w a Ls) (hl : Ls.length ≤ 1000) :
    Calls Try.prog 8 #[.slice a Ls.length c] w (OfAns w (onesB (Ls.map (·.r)))) := by
  have A := hid0 h
  clear h
  go_enter Try.func8, Try.ntmps8
  go_wp2
  go_loopw [3, 4] (fun ov iv wr => ∃ i : Nat, i ≤ Ls.length ∧ iv = .int .i64 i ∧ OwnB wr w.heap.size ov ((Ls.map onceE).take i) ∧ Below w.heap.size w wr) (fun _ iv _ => Ls.length - (intOf iv).toNat)
  case atStart => exact ⟨0, Nat.zero_le _, rfl, OwnB.nil _ _, Below.refl _ _⟩
  case round =>
    obtain ⟨i, hi, rfl, hown, hB⟩ := hrel
    have hsz := hB.size
    by_cases hlt : i < Ls.length
    · obtain ⟨b1, o1, rfl, hc1⟩ := (A.out.1.later hB) (by intro e; rw [e] at hlt; exact absurd hlt (by simp))
      have q0 := hc1 i hlt
      clear hc1
      have ho1 := fun o => hown.alloc o
      have hlen : ((Ls.map onceE).take i).length = i := by rw [List.length_take, List.length_map]; omega
      go_wp2_with (at_builtin; go_must (refine wp_bag1 rfl _ _ rfl rfl (ho1 _) (onceE Ls[i]) wr.heap.size rfl (elem_new _ _ _ _).1 (elem_new _ _ _ _).2 ?hl ?hb ?_))
      case hl => omega
      case hb => simp; omega
      intro v1 w1 hown1 hK1
      have hB1 := (Below.alloc hB hsz _).trans hK1.below
      have e1 : (Ls.map onceE).take i ++ [onceE Ls[i]] = (Ls.map onceE).take (i + 1) := by rw [List.take_succ_eq_append_getElem (by simpa using hlt)]; simp
      rw [e1] at hown1
      clear hown ho1 hK1 q0 e1
      go_wp2
      exact ⟨⟨i + 1, by omega, by go_num, hown1, hB1⟩, by simp [intOf]; omega⟩
    · rw [List.take_of_length_le (by simp; omega)] at hown
      obtain ⟨a', c', rfl, hcap, _, hcl⟩ := elems_owned hown.out
      have hE : ElemsAt wr a' (Ls.map onceE) := ⟨hcl, once_in (A.out.2.later hB)⟩
      have hlen : (Ls.map onceE).length = Ls.length := List.length_map _
      have hC := refOf_any a' c' (Ls.map onceE) wr hE hcap (by omega) (by rw [once_pr, absS_ones, List.length_map]; omega)
      rw [once_pr, hlen] at hC
      rw [hlen]
      have HC := hid0 hC
      clear hown hcl hE hC hcap hlen
      have hie : ¬ (i : Int) < Ls.length := by omega
      go_wp2_with (go_at_call 18; refine HC.out.mono ?_; rintro e w1 ⟨⟨a2, c2, E2, rfl, h1, h2, h3⟩, hb⟩)
      go_ret
      exact ⟨⟨a2, c2, E2, rfl, h1, h2, h3⟩, below_through hb hsz hB⟩

/-! ### The rows of a bag -/
theorem info33 : (Try.prog.info? 33).map (fun i => (i.zero, i.size, i.bytes)) = some (some (.slice none 0 0), 1, 24) := by kernel_rfl
/-- A row in memory of its own. -/
structure Copied (w : World) (a : Option Addr) (r : List Val) : Prop where
  row : RowAt w a r
  blk : r ≠ [] → ∃ b cs fz, a = some ⟨b, 0, none⟩ ∧ w.heap[b]? = some (Obj.cells cs 39 fz)
theorem Copied.later {w w' : World} {a : Option Addr} {r : List Val} (h : Copied w a r) (hb : Below w.heap.size w w') : Copied w' a r :=
  ⟨h.row.later hb, fun hn => by
    obtain ⟨b, cs, fz, e, hh⟩ := h.blk hn
    exact ⟨b, cs, fz, e, (hb.block b (Array.getElem?_eq_some_iff.1 hh).1).trans hh⟩⟩
theorem Copied.keptT {w w' : World} {a : Option Addr} {r : List Val} {base : Nat} (h : Copied w a r) (hK : KeptT 33 base w w') : Copied w' a r := by
  by_cases hn : r = []
  · subst hn; exact ⟨fun h => absurd rfl h, fun h => absurd rfl h⟩
  obtain ⟨b, cs, fz, e, hh⟩ := h.blk hn
  have hh' := hK.other b cs fz 39 (by decide) hh
  refine ⟨fun hn => ?_, fun _ => ⟨b, cs, fz, e, hh'⟩⟩
  obtain ⟨b', off, e', hc⟩ := h.row hn
  rw [e] at e'
  obtain ⟨rfl, rfl⟩ : b = b' ∧ 0 = off := by simpa using e'
  have hcell : ∀ o, w'.cell? ⟨b, o, none⟩ = w.cell? ⟨b, o, none⟩ := fun o => World.cell?_of_block (by rw [hh', hh])
  exact ⟨b, 0, e, fun i hi => by rw [hcell, hcell, hcell]; exact hc i hi⟩
def CopiesIn (w : World) (Ls : List Line) : Prop := ∀ e ∈ Ls, Copied w e.a e.r ∧ rowOK e.r
theorem CopiesIn.later {w w' : World} {Ls : List Line} (h : CopiesIn w Ls) (hb : Below w.heap.size w w') : CopiesIn w' Ls := fun e he => ⟨(h e he).1.later hb, (h e he).2⟩
theorem CopiesIn.keptT {w w' : World} {Ls : List Line} {base : Nat} (h : CopiesIn w Ls) (hK : KeptT 33 base w w') : CopiesIn w' Ls := fun e he => ⟨(h e he).1.keptT hK, (h e he).2⟩
theorem copies_snoc {w : World} {Ls : List Line} {e : Line} (h : CopiesIn w Ls) (he : Copied w e.a e.r ∧ rowOK e.r) : CopiesIn w (Ls ++ [e]) := fun x hx => by
  rcases List.mem_append.1 hx with hx | hx
  · exact h x hx
  · obtain rfl := List.mem_singleton.1 hx; exact he
/-- The rows Ls, in a block of its own from base on, or nil. -/
structure OwnL (w : World) (base : Nat) (v : Value) (Ls : List Line) : Prop where
  out : w.ownsRow base 33 1 v Ls.length (cellsL Ls)
theorem OwnL.nil (w : World) (base : Nat) : OwnL w base (.slice none 0 0) [] := ⟨World.ownsRow_nil _ _ _ _⟩
theorem OwnL.alloc {w : World} {base : Nat} {v : Value} {E : List Line} (h : OwnL w base v E) (o : Obj) : OwnL (w.alloc o) base v E := ⟨World.ownsRow.alloc h.out o⟩
theorem OwnL.drew {w : World} {base : Nat} {v : Value} {E : List Line} (h : OwnL w base v E) : OwnL w.drew base v E := ⟨h.out⟩
theorem OwnL.kept {w w' : World} {base : Nat} {v : Value} {E : List Line} (h : OwnL w base v E) (hb : Below w.heap.size w w') : OwnL w' base v E := ⟨own_below h.out hb⟩
/-- An append of one row, laid in a block of its own first. -/
theorem wp_line1 {w : World} {ops : Array Oper} {rest : List Oper} {o : Oper} {a : Act} {Q : Exit → Act → World → Prop} (hgd : o.guard = none) (s x : Operand)
    (ho : o.op = .call { callee := .builtin .append, args := #[s, x], argTypes := #[22, 22] })
    {base : Nat} {v : Value} {E : List Line} (hs : a.eval s = v) (hown : OwnL w base v E)
    (e : Line) (B : Nat) (hx : a.eval x = .slice (some ⟨B, 0, none⟩) 1 1) (h0 : w.cell? ⟨B, 0, none⟩ = some (.slice e.a e.r.length e.c))
    (hlen : (E.length + 1) * 24 ≤ 140737488355328) (hbase : base ≤ w.heap.size)
    (h : ∀ v' w', OwnL w' base v' (E ++ [e]) → KeptT 33 base w w' → wpList Try.prog ops Q rest (a.put o.dst v') w') : wpList Try.prog ops Q (o :: rest) a w := by
  obtain ⟨i0, hi, hz0, hz1, hz2⟩ := info_parts info33
  refine wpList_append_own w hgd s x 22 ho base 33 i0 (.slice none 0 0) 1 24 Try.underlying22 hi hz0 hz1 hz2 rfl (by decide) v E.length (cellsL E) hs hown.out ⟨B, 0, none⟩ 1 1 [.slice e.a e.r.length e.c] hx rfl ?_ ?_ (by unfold maxLen; omega) hlen hbase ?_
  · intro j u hj
    match j, hj with
    | 0, hj => simp at hj; subst hj; rw [WideShapes.add_plain]; exact h0
    | j + 1, hj => simp at hj
  · intro u hu; simp at hu; subst hu; rfl
  · intro v' w' hown' hgrow _
    refine h v' w' ⟨?_⟩ (keptT_grown hown.out hbase hgrow)
    rw [cellsL_snoc, List.length_append]
    exact hown'
theorem line_new (w : World) (u : Value) (t : TypeId) : (w.alloc (Obj.cells #[u] t)).cell? ⟨w.heap.size, 0, none⟩ = some u := by go_cell
theorem rowsB_append : ∀ A B : List Pair, rowsB (A ++ B) = rowsB A ++ rowsB B
  | [], B => rfl
  | x :: A, B => by rw [List.cons_append, rowsB, rowsB_append A B, rowsB, List.append_assoc]
/-- i of the bag's elements, and k of the next one's rows, have been told. -/
def RowsTo (E : List Elem) (Ls : List Line) (i k : Nat) : Prop := ∃ r, Ls.map (·.r) = rowsB ((E.map pr).take i) ++ List.replicate k r ∧ (0 < k → ∃ h : i < E.length, r = E[i].r)
theorem rowsTo_next {E : List Elem} {Ls : List Line} {i k : Nat} (h : RowsTo E Ls i k) (hi : i < E.length) (a : Option Addr) (c : Nat) : RowsTo E (Ls ++ [⟨a, c, E[i].r⟩]) i (k + 1) := by
  obtain ⟨r, h1, h2⟩ := h
  refine ⟨E[i].r, ?_, fun _ => ⟨hi, rfl⟩⟩
  rw [List.map_append, h1, List.replicate_succ', ← List.append_assoc]
  by_cases hk : 0 < k
  · obtain ⟨_, rfl⟩ := h2 hk; rfl
  · obtain rfl : k = 0 := by omega
    rfl
theorem rowsTo_turn {E : List Elem} {Ls : List Line} {i k : Nat} (h : RowsTo E Ls i k) (hi : i < E.length) (hk : (k : Int) ≤ E[i].n ∨ k = 0) (hk' : ¬ (k : Int) < E[i].n) : RowsTo E Ls (i + 1) 0 := by
  obtain ⟨r, h1, h2⟩ := h
  refine ⟨[], ?_, fun h => absurd h (by omega)⟩
  have e : (E.map pr).take (i + 1) = (E.map pr).take i ++ [pr E[i]] := by rw [List.take_succ_eq_append_getElem (by simpa using hi)]; simp
  rw [h1, e, rowsB_append]
  show _ = (rowsB _ ++ (List.replicate (E[i].n).toNat E[i].r ++ [])) ++ []
  rw [List.append_nil, List.append_nil]
  by_cases hk0 : 0 < k
  · obtain ⟨_, rfl⟩ := h2 hk0
    rw [show k = (E[i].n).toNat by omega]
  · rw [show k = 0 by omega, show (E[i].n).toNat = 0 by omega]; rfl
theorem rowsTo_few {E : List Elem} {Ls : List Line} {i k : Nat} (h : RowsTo E Ls i k) (hi : i < E.length) (hk : (k : Int) < E[i].n) : Ls.length < (rowsB (E.map pr)).length := by
  obtain ⟨r, h1, _⟩ := h
  have e := congrArg List.length h1
  rw [List.length_map, List.length_append, List.length_replicate] at e
  have e2 : rowsB (E.map pr) = rowsB ((E.map pr).take i) ++ rowsB ((E.map pr).drop i) := by rw [← rowsB_append, List.take_append_drop]
  have e3 : (E.map pr).drop i = pr E[i] :: (E.map pr).drop (i + 1) := map_drop_cons hi
  rw [e2, e3, List.length_append]
  show _ < _ + (List.replicate (E[i].n).toNat E[i].r ++ rowsB ((E.map pr).drop (i + 1))).length
  rw [List.length_append, List.length_replicate]
  omega
theorem rowsTo_all {E : List Elem} {Ls : List Line} {i : Nat} (h : RowsTo E Ls i 0) (hi : ¬ i < E.length) : Ls.map (·.r) = rowsB (E.map pr) := by
  obtain ⟨r, h1, _⟩ := h
  rw [h1, List.take_of_length_le (by simp; omega)]; simp

/-- What Rows must answer. -/
def RowsAns (w : World) (R : List (List Val)) (e : Ending) (w' : World) : Prop :=
  (∃ a c Ls, e = .returned (.slice a Ls.length c) ∧ Ls.length ≤ c ∧ LinesAt w' a Ls ∧ Ls.map (·.r) = R) ∧ Below w.heap.size w w'

set_option maxHeartbeats 4000000 in
theorem refBagRows_any (a : Option Addr) (c : Nat) (E : List Elem) (w : World) (h : ElemsAt w a E) (hle : E.length ≤ 1000000) (hl : (rowsB (E.map pr)).length ≤ 1000000) (hn : ∀ e ∈ E, e.n ≤ 1000000) :
    Calls Try.prog 10 #[.slice a E.length c] w (RowsAns w (rowsB (E.map pr))) := by
  have A := hid0 h
  have HN := hid0 hn
  clear h hn
  go_enter Try.func10, Try.ntmps10
  go_wp2
  go_loopw [3, 4] (fun ov iv wr => ∃ (i : Nat) (Ls : List Line), i ≤ E.length ∧ iv = .int .i64 i ∧ OwnL wr w.heap.size ov Ls ∧ Hid (CopiesIn wr Ls) ∧ Hid (RowsTo E Ls i 0) ∧ Below w.heap.size w wr) (fun _ iv _ => E.length - (intOf iv).toNat)
  case atStart => exact ⟨0, [], Nat.zero_le _, rfl, OwnL.nil _ _, hid0 (fun e he => absurd he (by simp)), hid0 ⟨[], by simp [rowsB], fun h => absurd h (by omega)⟩, Below.refl _ _⟩
  case round =>
    obtain ⟨i, Ls, hi, rfl, hown, hR, hT, hB⟩ := hrel
    have hsz := hB.size
    by_cases hlt : i < E.length
    · have hne : E ≠ [] := by intro e; rw [e] at hlt; exact absurd hlt (by simp)
      obtain ⟨b1, o1, rfl, _⟩ := A.out.1 hne
      have hr := hid0 (A.out.2 _ (List.getElem_mem hlt))
      have hnn := HN.out _ (List.getElem_mem hlt)
      go_wp2
      go_loopw [3, 5] (fun ov kv w2 => ∃ (k : Nat) (L2 : List Line), ((k : Int) ≤ E[i].n ∨ k = 0) ∧ kv = .int .i64 k ∧ OwnL w2 w.heap.size ov L2 ∧ Hid (CopiesIn w2 L2) ∧ Hid (RowsTo E L2 i k) ∧ Below w.heap.size w w2) (fun _ kv _ => (E[i].n - intOf kv).toNat)
      case atStart => exact ⟨0, Ls, .inr rfl, rfl, hown, hR, hT, hB⟩
      case round =>
        obtain ⟨k, L2, hk, rfl, hown2, hR2, hT2, hB2⟩ := hrel
        have hz2 := hB2.size
        obtain ⟨b', o', e', hc⟩ := (A.out.1.later hB2) hne
        obtain ⟨rfl, rfl⟩ : b1 = b' ∧ o1 = o' := by simpa using e'
        obtain ⟨q0, q1⟩ := hc i hlt
        clear hc e'
        by_cases hkn : (k : Int) < E[i].n
        · have hfew := rowsTo_few hT2.out hlt hkn
          go_wp2_with (first
            | (go_at_call 19; go_must (refine (refCopied_any _ _ _ _ (hr.out.1.later hB2) hr.out.2).mono ?_; rintro e wn ⟨⟨a', c', rfl, hrow, hblk⟩, hbn⟩; have HCP := hid0 (Copied.mk hrow hblk); have hown3 := hown2.kept hbn; have ho3 := fun o => hown3.alloc o; have hB3 := below_through hbn hz2 hB2; have hz3 := hB3.size; clear hrow hblk))
            | (at_builtin; go_must (refine wp_line1 rfl _ _ rfl rfl (ho3 _) ⟨a', c', E[i].r⟩ wn.heap.size rfl (line_new _ _ _) ?hl ?hb ?_)))
          case hl => omega
          case hb => simp; omega
          intro v1 w1 hown4 hK1
          have hB4 := (Below.alloc hB3 hz3 _).trans hK1.below
          have HR4 := hid0 (copies_snoc (e := ⟨a', c', E[i].r⟩) (((hR2.out.later hbn).later ((Below.refl _ _).alloc (Nat.le_refl _) _)).keptT hK1) ⟨(HCP.out.later ((Below.refl _ _).alloc (Nat.le_refl _) _)).keptT hK1, hr.out.2⟩)
          clear hown2 hown3 ho3 hK1 q0 q1 hbn
          go_wp2
          exact ⟨⟨k + 1, L2 ++ [⟨a', c', E[i].r⟩], .inl (by omega), by go_num, hown4, HR4, hid0 (rowsTo_next hT2.out hlt a' c'), hB4⟩, by simp [intOf]; omega⟩
        · go_wp2
          exact ⟨⟨i + 1, L2, by omega, by go_num, hown2, hR2, hid0 (rowsTo_turn hT2.out hlt hk hkn), hB2⟩, by simp [intOf]; omega⟩
    · obtain ⟨a', c', rfl, hcap, _, hcl⟩ := lines_owned hown.out
      have HC := hid0 hcl
      clear hown hcl
      have hie : ¬ (i : Int) < E.length := by omega
      go_wp2
      go_ret
      exact ⟨⟨a', c', Ls, rfl, hcap, ⟨HC.out, fun e he => ⟨(hR.out e he).1.row, (hR.out e he).2⟩⟩, rowsTo_all hT.out hlt⟩, hB⟩
end Go.Proofs.Ytipibbjcdkmjmaa
