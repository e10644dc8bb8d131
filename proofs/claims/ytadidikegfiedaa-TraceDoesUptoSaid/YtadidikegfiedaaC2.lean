/- Several of my texts laid together, each as it was: Wx, Bl, Bm. Conditions: each names its own. -/
import Derived.Test.YtadidikegfiedaaC1
import Derived.Test.YtadidikegfiedaaB1
import Derived.Lib.SliceRun
/- How any two rows stand to each other: what the project's Rows answers, in whatever memory. Conditions: each row is a slice whose elements' cells are known (what came in reads so). -/
namespace Go.Proofs.Ytadidikegfiedaa
open Go.RowKit

set_option maxHeartbeats 1000000 in
theorem compareFunc_any (a1 a2 : Option Addr) (c1 c2 : Nat) (l1 l2 : List Val) (w : World) (h1 : RowAt w a1 l1) (h2 : RowAt w a2 l2) (m1 : l1.length ≤ maxLen) :
    Calls Try.prog 49 #[.slice a1 l1.length c1, .slice a2 l2.length c2, .func (.func 50) #[] #[]] w fun e w' => e = .returned (.int .i64 (rowsV l1 l2)) ∧ Below w.heap.size w w' := by
  unfold maxLen at m1
  have R1 := hid0 h1
  have R2 := hid0 h2
  clear h1 h2
  go_enter Try.func49, Try.ntmps49
  go_wp2
  go_loopw [13] (fun i wr => ∃ k : Nat, k ≤ l1.length ∧ k ≤ l2.length ∧ i = .int .i64 k ∧ Below w.heap.size w wr ∧ Hid (rowsV l1 l2 = rowsV (l1.drop k) (l2.drop k))) (fun i _ => l1.length - (intOf i).toNat)
  case atStart => exact ⟨0, Nat.zero_le _, Nat.zero_le _, rfl, Below.refl _ _, rfl⟩
  case round =>
    obtain ⟨k, hk1, hk2, rfl, hB, hR⟩ := hrel
    by_cases hlt : k < l1.length
    · by_cases hlt2 : k < l2.length
      · obtain ⟨b1, o1, rfl, hc1⟩ := (R1.out.later hB) (by intro e; rw [e] at hlt; exact absurd hlt (by simp))
        obtain ⟨b2, o2, rfl, hc2⟩ := (R2.out.later hB) (by intro e; rw [e] at hlt2; exact absurd hlt2 (by simp))
        obtain ⟨p0, p1, p2⟩ := hc1 k hlt
        obtain ⟨q0, q1, q2⟩ := hc2 k hlt2
        have q0a := fun o => cell_later ((Below.refl wr.heap.size wr).alloc (Nat.le_refl _) o) q0
        have q1a := fun o => cell_later ((Below.refl wr.heap.size wr).alloc (Nat.le_refl _) o) q1
        have q2a := fun o => cell_later ((Below.refl wr.heap.size wr).alloc (Nat.le_refl _) o) q2
        clear hc1 hc2 q0 q1 q2
        go_wp2_with (go_at_call 50; refine (cmp_any _ _ _ _ _ _ _).mono ?_; rintro e wn ⟨rfl, hbn⟩)
        · go_ret
          exact ⟨ret_i64 (rows_stop hlt hlt2 ‹_› hR), below_through hbn (by have := hB.size; simp; omega) (Below.alloc (Below.alloc hB (by have := hB.size; omega) _) (by have := hB.size; simp; omega) _)⟩
        · exact ⟨⟨k + 1, by omega, by omega, by go_num, below_through hbn (by have := hB.size; simp; omega) (Below.alloc (Below.alloc hB (by have := hB.size; omega) _) (by have := hB.size; simp; omega) _), rows_go hlt hlt2 ‹_› hR⟩, by simp [intOf]; omega⟩
      · obtain ⟨b1, o1, rfl, hc1⟩ := (R1.out.later hB) (by intro e; rw [e] at hlt; exact absurd hlt (by simp))
        obtain ⟨p0, p1, p2⟩ := hc1 k hlt
        clear hc1
        go_wp2
        go_ret
        exact ⟨ret_i64 (by rw [show rowsV l1 l2 = _ from hR, rows_more l1 l2 k hlt (by omega)]), Below.alloc hB (by have := hB.size; omega) _⟩
    · go_wp2
      · go_ret
        exact ⟨ret_i64 (by rw [show rowsV l1 l2 = _ from hR, rows_less l1 l2 k (by omega) (by omega)]), hB⟩
      · go_ret
        exact ⟨ret_i64 (by rw [show rowsV l1 l2 = _ from hR, rows_end l1 l2 k (by omega) (by omega)]), hB⟩

set_option maxHeartbeats 1000000 in
theorem rows_any (a1 a2 : Option Addr) (c1 c2 : Nat) (l1 l2 : List Val) (w : World) (h1 : RowAt w a1 l1) (h2 : RowAt w a2 l2) (m1 : l1.length ≤ maxLen) :
    Calls Try.prog 39 #[.slice a1 l1.length c1, .slice a2 l2.length c2] w fun e w' => e = .returned (.int .i64 (rowsV l1 l2)) ∧ Below w.heap.size w w' := by
  have R1 := hid0 h1
  have R2 := hid0 h2
  clear h1 h2
  go_enter Try.func39, Try.ntmps39
  go_wp2_with (go_at_call 49; refine (compareFunc_any _ _ _ _ _ _ _ R1.out R2.out m1).mono ?_; rintro e w' ⟨rfl, hb⟩)
  go_ret
  exact ⟨rfl, hb⟩

end Go.Proofs.Ytadidikegfiedaa

/- What slices.Clone makes of a row: the same row in new memory, or nil: a contract of the call, in whatever memory. Conditions: the row's cells are known. -/
namespace Go.Proofs.Ytadidikegfiedaa
open Go.RowKit

set_option maxHeartbeats 1000000 in
theorem clone_any (a : Option Addr) (c : Nat) (r : List Val) (w : World) (h : RowAt w a r) (hr : rowOK r) :
    Calls Try.prog 38 #[.slice a r.length c] w fun e w' => (∃ a' c', e = .returned (.slice a' r.length c') ∧ RowAt w' a' r ∧ (r ≠ [] → ∃ b cs fz, a' = some ⟨b, 0, none⟩ ∧ w'.heap[b]? = some (Obj.cells cs 62 fz))) ∧ Below w.heap.size w w' := by
  obtain ⟨i0, hi, hz0, hz1, hz2⟩ := info_parts info41
  unfold rowOK at hr
  have hown : (w.alloc (Obj.cells #[] 62)).ownsRow w.heap.size 62 3 (.slice (some ⟨w.heap.size, 0, none⟩) 0 0) 0 [] := World.ownsRow_made w #[] 0 (Nat.le_refl _) (by unfold maxLen; omega) rfl
  have hB0 : Below w.heap.size w (w.alloc (Obj.cells #[] 62)) := (Below.refl _ _).alloc (Nat.le_refl _) _
  by_cases hne : r = []
  · subst hne
    have fin : ∀ (w' : World) (a' : Option Addr) (c' : Nat), Below w.heap.size w w' → (∃ a'' c'', Ending.returned (.slice a' 0 c') = .returned (.slice a'' ([] : List Val).length c'') ∧ RowAt w' a'' [] ∧ (([] : List Val) ≠ [] → ∃ b cs fz, a'' = some ⟨b, 0, none⟩ ∧ w'.heap[b]? = some (Obj.cells cs 62 fz))) ∧ Below w.heap.size w w' := fun w' a' c' hb => ⟨⟨a', c', rfl, fun h => absurd rfl h, fun h => absurd rfl h⟩, hb⟩
    cases a with
    | none =>
      have hq : ∀ W : World, (binOp .eql 44 (.slice none 0 c) (.slice none 0 0)).run Try.prog W = .ok (.bool true) W := fun W => (Lib.run_eql_slice_nil W _ _ none 0 c 0 0 Try.underlying44)
      go_enter Try.func38, Try.ntmps38
      go_wp2
      go_ret
      exact fin _ _ 0 (Below.refl _ _)
    | some ad =>
      have hq : ∀ W : World, (binOp .eql 44 (.slice (some ad) 0 c) (.slice none 0 0)).run Try.prog W = .ok (.bool false) W := fun W => (Lib.run_eql_slice_nil W _ _ (some ad) 0 c 0 0 Try.underlying44)
      go_enter Try.func38, Try.ntmps38
      go_wp2_with (at_builtin; go_must (refine wpList_append_own _ rfl _ _ 44 rfl w.heap.size 62 i0 (.agg #[.int .i64 0, .int .i64 0, .string ⟨#[]⟩]) 3 32 Try.underlying44 hi hz0 hz1 hz2 rfl (by decide) _ _ _ rfl hown ad 0 c [] rfl rfl (fun j u h => by simp at h) (fun u h => by simp at h) ?c3 ?c4 ?c5 ?_))
      case c3 => unfold maxLen; omega
      case c4 => omega
      case c5 => simp
      intro v' w1 hown' hgrow _
      have hB1 : Below w.heap.size w w1 := hB0.grown hgrow (by simp) (fun k hk => (hown.lt k hk).1)
      obtain ⟨a', c', rfl, _, _, _⟩ := row_owned (vs := []) hown'
      go_wp2
      go_ret
      exact fin _ a' c' hB1
  · obtain ⟨b, off, rfl, hc⟩ := h hne
    have h' : RowAt (w.alloc (Obj.cells #[] 62)) (some ⟨b, off, none⟩) r := RowAt.later (fun _ => ⟨b, off, rfl, hc⟩) ((Below.refl _ _).alloc (Nat.le_refl _) _)
    have HN := hid0 (rowCells_of h')
    clear hc h h'
    have hq : ∀ W : World, (binOp .eql 44 (.slice (some ⟨b, off, none⟩) r.length c) (.slice none 0 0)).run Try.prog W = .ok (.bool false) W := fun W => (Lib.run_eql_slice_nil W _ _ (some ⟨b, off, none⟩) r.length c 0 0 Try.underlying44)
    go_enter Try.func38, Try.ntmps38
    go_wp2_with (at_builtin; go_loud (refine wpList_append_own _ rfl _ _ 44 rfl w.heap.size 62 i0 (.agg #[.int .i64 0, .int .i64 0, .string ⟨#[]⟩]) 3 32 Try.underlying44 hi hz0 hz1 hz2 rfl (by decide) _ _ _ rfl hown ⟨b, off, none⟩ r.length c (rowCells r) rfl (rowCells_len r) HN.out (rowCells_one r) ?c3 ?c4 ?c5 ?_))
    case c3 => unfold maxLen; omega
    case c4 => omega
    case c5 => simp
    intro v' w1 hown' hgrow _
    have hB1 : Below w.heap.size w w1 := hB0.grown hgrow (by simp) (fun k hk => (hown.lt k hk).1)
    obtain ⟨a', c', rfl, _, _, hrow⟩ := row_owned hown'
    have hbl : ∃ b cs fz, a' = some ⟨b, 0, none⟩ ∧ w1.heap[b]? = some (Obj.cells cs 62 fz) := by
      rcases hown'.2 with ⟨e, hl⟩ | ⟨g, cap', cur, e, hg, hh, _⟩
      · exact absurd (List.length_eq_zero_iff.1 hl) hne
      · obtain ⟨rfl, -, -⟩ := Value.slice.inj e
        exact ⟨g, cur, (0, 0), rfl, hh⟩
    clear hown' hgrow hown
    go_wp2
    go_ret
    exact ⟨⟨a', c', rfl, hrow, fun _ => hbl⟩, hB1⟩
end Go.Proofs.Ytadidikegfiedaa

/- The project's merge of two bags (belvedere/bag.merge): a contract of the call, in whatever memory. Conditions: the bags' cells are known; their numbers are so small that no sum passes the ends. -/
namespace Go.Proofs.Ytadidikegfiedaa
open Go.RowKit

/-- Of the two bags E1, E2 there are F1 and F2 left; Eo is what has been merged. -/
def MergeTo (E1 E2 F1 F2 Eo : List Elem) : Prop :=
  joinB (E1.map pr) (E2.map pr) = Eo.map pr ++ joinB (F1.map pr) (F2.map pr) ∧ Eo.length + F1.length + F2.length ≤ E1.length + E2.length ∧ (∀ x ∈ F1, x ∈ E1) ∧ (∀ x ∈ F2, x ∈ E2)
theorem merge_start (E1 E2 : List Elem) : MergeTo E1 E2 E1 E2 [] := ⟨by simp, by simp, fun _ h => h, fun _ h => h⟩
theorem merge_less {E1 E2 F1 F2 Eo : List Elem} {x y : Elem} (h : MergeTo E1 E2 (x :: F1) (y :: F2) Eo) (hc : rowsV x.r y.r < 0) : MergeTo E1 E2 F1 (y :: F2) (Eo ++ [x]) := by
  refine ⟨?_, by have := h.2.1; simp at this ⊢; omega, fun z hz => h.2.2.1 z (by simp [hz]), h.2.2.2⟩
  rw [h.1]
  show _ ++ joinB (pr x :: F1.map pr) (pr y :: F2.map pr) = _
  rw [joinB_less (x := pr x) (y := pr y) _ _ hc]; simp
theorem merge_more {E1 E2 F1 F2 Eo : List Elem} {x y : Elem} (h : MergeTo E1 E2 (x :: F1) (y :: F2) Eo) (hc : 0 < rowsV x.r y.r) : MergeTo E1 E2 (x :: F1) F2 (Eo ++ [y]) := by
  refine ⟨?_, by have := h.2.1; simp at this ⊢; omega, h.2.2.1, fun z hz => h.2.2.2 z (by simp [hz])⟩
  rw [h.1]
  show _ ++ joinB (pr x :: F1.map pr) (pr y :: F2.map pr) = _
  rw [joinB_more (x := pr x) (y := pr y) _ _ hc]; simp
theorem merge_none {E1 E2 F1 F2 Eo : List Elem} {x y : Elem} (h : MergeTo E1 E2 (x :: F1) (y :: F2) Eo) (hc : rowsV x.r y.r = 0) (h0 : x.n + y.n = 0) : MergeTo E1 E2 F1 F2 Eo := by
  refine ⟨?_, by have := h.2.1; simp at this ⊢; omega, fun z hz => h.2.2.1 z (by simp [hz]), fun z hz => h.2.2.2 z (by simp [hz])⟩
  rw [h.1]
  show _ ++ joinB (pr x :: F1.map pr) (pr y :: F2.map pr) = _
  rw [joinB_none (x := pr x) (y := pr y) _ _ hc h0]
theorem merge_both {E1 E2 F1 F2 Eo : List Elem} {x y : Elem} (h : MergeTo E1 E2 (x :: F1) (y :: F2) Eo) (hc : rowsV x.r y.r = 0) (h0 : x.n + y.n ≠ 0) : MergeTo E1 E2 F1 F2 (Eo ++ [⟨x.a, x.c, x.r, x.n + y.n⟩]) := by
  refine ⟨?_, by have := h.2.1; simp at this ⊢; omega, fun z hz => h.2.2.1 z (by simp [hz]), fun z hz => h.2.2.2 z (by simp [hz])⟩
  rw [h.1]
  show _ ++ joinB (pr x :: F1.map pr) (pr y :: F2.map pr) = _
  rw [joinB_both (x := pr x) (y := pr y) _ _ hc h0]; simp [pr]
theorem merge_end {E1 E2 F1 F2 Eo : List Elem} (h : MergeTo E1 E2 F1 F2 Eo) (he : F1 = [] ∨ F2 = []) : (Eo ++ (F1 ++ F2)).map pr = joinB (E1.map pr) (E2.map pr) := by
  rw [h.1]
  rcases he with rfl | rfl
  · rw [List.map_nil, nil_joinB]; simp
  · rw [List.map_nil, joinB_nil]; simp

/-- The cells of a list of elements, from its first one on. -/
theorem cellsE_of {w : World} {ad : Addr} {F : List Elem} (h : CellsAt w (some ad) F) : ∀ j u, (cellsE F)[j]? = some u → w.cell? (ad.add j) = some u := by
  intro j u hj
  have hlt : j < F.length * 2 := by
    have := (List.getElem?_eq_some_iff.1 hj).1
    rwa [cellsE_len] at this
  have hne : F ≠ [] := fun e => by subst e; simp at hlt
  obtain ⟨b, off, e, hc⟩ := h hne
  obtain rfl : ad = ⟨b, off, none⟩ := by simpa using e
  have hi : j / 2 < F.length := by omega
  obtain ⟨c0, c1⟩ := hc (j / 2) hi
  obtain ⟨r0, r1⟩ := cellsE_at F (j / 2) hi
  rw [WideShapes.add_plain]
  rcases (by omega : j % 2 = 0 ∨ j % 2 = 1) with e | e
  · rw [show j = j / 2 * 2 by omega] at hj ⊢
    rw [r0] at hj; rw [← hj]; simpa using c0
  · rw [show j = j / 2 * 2 + 1 by omega] at hj ⊢
    have hd : (j / 2 * 2 + 1) / 2 = j / 2 := by omega
    rw [r1] at hj; rw [← hj, ← Nat.add_assoc]; exact c1
theorem cellsE_one (F : List Elem) : ∀ u ∈ cellsE F, u.oneCell' = true := by
  intro u hu
  obtain ⟨v, _, hu⟩ := List.mem_flatMap.1 hu
  simp [cellsOne] at hu
  rcases hu with rfl | rfl <;> rfl
theorem cellsE_append (A B : List Elem) : cellsE (A ++ B) = cellsE A ++ cellsE B := by simp [cellsE]

/-- An append of a list of elements. -/
theorem wp_bags {w : World} {ops : Array Oper} {rest : List Oper} {o : Oper} {a : Act} {Q : Exit → Act → World → Prop} (hgd : o.guard = none) (s x : Operand)
    (ho : o.op = .call { callee := .builtin .append, args := #[s, x], argTypes := #[25, 25] })
    {base : Nat} {v : Value} {E : List Elem} (hs : a.eval s = v) (hown : OwnB w base v E)
    (F : List Elem) (m : Nat) (hm : F.length = m) (a2 : Option Addr) (c2 : Nat) (hx : a.eval x = .slice a2 m c2) (hF : CellsAt w a2 F)
    (hlen : (E.length + F.length) * 32 ≤ 140737488355328) (hbase : base ≤ w.heap.size)
    (h : ∀ v' w', OwnB w' base v' (E ++ F) → KeptT 46 base w w' → wpList Try.prog ops Q rest (a.put o.dst v') w') : wpList Try.prog ops Q (o :: rest) a w := by
  subst hm
  obtain ⟨i0, hi, hz0, hz1, hz2⟩ := info_parts info36
  cases a2 with
  | none =>
    obtain rfl : F = [] := by
      by_cases hn : F = []
      · exact hn
      · obtain ⟨b, off, e, _⟩ := hF hn; simp at e
    refine wpList_plain hgd fun K hK => ?_
    obtain ⟨av, cv, hv, hcv, _, _⟩ := elems_owned hown.out
    have hrun := run_append_none (P := Try.prog) w 25 o.type 46 i0 Try.underlying25 hi av E.length cv c2 hcv
    subst hv
    unfold Oper.wp
    simp only [List.length_nil] at hx
    simp [execOp, ho, resolve, invoke, builtin, hs, hx, hrun, Result.andThen]
    refine hK _ _ (h _ w (by rw [List.append_nil]; exact hown) ⟨Below.refl _ _, fun _ _ _ _ _ hB => hB⟩)
  | some ad =>
    refine wpList_append_own w hgd s x 25 ho base 46 i0 (.agg #[.slice none 0 0, .int .i64 0]) 2 32 Try.underlying25 hi hz0 hz1 hz2 rfl (by decide) v E.length (cellsE E) hs hown.out ad F.length c2 (cellsE F) hx (cellsE_len F) (cellsE_of hF) (cellsE_one F) (by unfold maxLen; omega) hlen hbase ?_
    intro v' w' hown' hgrow _
    refine h v' w' ⟨?_⟩ (keptT_grown hown.out hbase hgrow)
    rw [cellsE_append, List.length_append]
    exact hown'
set_option maxRecDepth 1000000 in
theorem elems_next (a : Option Addr) (x : Elem) (F : List Elem) (c : Nat) (hc : (x :: F).length ≤ c) :
    ∃ a1 c1, F.length ≤ c1 ∧ (∀ W : World, (Instr.slice 25 (.slice a (x :: F).length c) (some (.int .i64 1)) none none).run Try.prog W = .ok (.slice a1 F.length c1) W) ∧ ∀ W, ElemsAt W a (x :: F) → ElemsAt W a1 F := by
  refine ⟨if c = 1 then a else a.map (·.add 2), c - 1, by simp at hc; omega, fun W => ?_, fun W h => ?_⟩
  · have h := run_slice_l (P := Try.prog) W 25 a (x :: F).length c Try.underlying25 .i64 ((1 : Nat) : Int) (by simp) (by simp; omega)
    rw [show ((1 : Nat) : Int) = 1 from rfl] at h
    rw [h]
    simp [go_sem, Result.andThen, sliced]
  · split
    · rename_i h1
      obtain rfl : F = [] := by simp at hc; exact List.length_eq_zero_iff.1 (by omega)
      exact ElemsAt.nil _ _
    · obtain ⟨b, off, rfl, hcl⟩ := h.1 (by simp)
      simp only [Option.map_some, WideShapes.add_plain]
      exact h.drop 1
def lenV : Value → Nat
  | .slice _ n _ => n
  | _ => 0

set_option maxHeartbeats 4000000 in
set_option maxRecDepth 1000000 in
theorem merge_any (a1 a2 : Option Addr) (c1 c2 : Nat) (E1 E2 : List Elem) (w : World) (h1 : ElemsAt w a1 E1) (h2 : ElemsAt w a2 E2) (k1 : E1.length ≤ c1) (k2 : E2.length ≤ c2) (hl : E1.length + E2.length ≤ 1000000)
    (hs : ∀ x ∈ E1, ∀ y ∈ E2, -4611686018427387904 ≤ x.n + y.n ∧ x.n + y.n ≤ 4611686018427387904) :
    Calls Try.prog 51 #[.slice a1 E1.length c1, .slice a2 E2.length c2] w fun e w' => (∃ a c E, e = .returned (.slice a E.length c) ∧ E.length ≤ c ∧ ElemsAt w' a E ∧ E.map pr = joinB (E1.map pr) (E2.map pr)) ∧ Below w.heap.size w w' := by
  have A1 := hid0 h1
  have A2 := hid0 h2
  have HS := hid0 hs
  clear h1 h2 hs
  obtain ⟨i0, hi, hz0, hz1, hz2⟩ := info_parts info36
  have hw : IntKind.i64.wrap ((E1.length : Int) + E2.length) = ((E1.length + E2.length : Nat) : Int) := by rw [IntWalk.i64_in _ (by omega)]; omega
  go_enter Try.func51, Try.ntmps51
  go_wp2_with (at_make; go_must (refine wpList_make_own _ rfl _ _ 25 rfl w.heap.size 46 i0 (.agg #[.slice none 0 0, .int .i64 0]) 2 Try.underlying25 hi hz0 hz1 _ _ _ (E1.length + E2.length) rfl rfl ?b1 ?b2 ?b3 (Nat.le_refl _) ?_))
  case b1 => first | rfl | exact hw | omega
  case b2 => rw [hz2]; omega
  case b3 => unfold maxLen; omega
  intro w1 hown1 hg1
  have hB1 : Below w.heap.size w w1 := (Below.refl _ _).grown hg1 (Nat.le_refl _) (fun k hk => by cases hk)
  have hO1 : OwnB w1 w.heap.size (.slice (some ⟨w.heap.size, 0, none⟩) 0 (E1.length + E2.length)) [] := ⟨hown1⟩
  clear hown1 hg1 hw hz0 hz1 hz2 hi
  go_wp2_with fail
  go_loopw [0, 1, 5] (fun av bv ov wr => ∃ (a1 a2 : Option Addr) (c1 c2 : Nat) (F1 F2 Eo : List Elem), av = .slice a1 F1.length c1 ∧ bv = .slice a2 F2.length c2 ∧ F1.length ≤ c1 ∧ F2.length ≤ c2 ∧ Hid (ElemsAt w a1 F1) ∧ Hid (ElemsAt w a2 F2) ∧ OwnB wr w.heap.size ov Eo ∧ Hid (RowsIn w Eo) ∧ Hid (MergeTo E1 E2 F1 F2 Eo) ∧ Below w.heap.size w wr)
    (fun av bv _ _ => lenV av + lenV bv)
  case atStart => exact ⟨a1, a2, c1, c2, E1, E2, [], rfl, rfl, k1, k2, A1, A2, hO1, hid0 (fun e he => absurd he (by simp)), hid0 (merge_start E1 E2), hB1⟩
  case round =>
    obtain ⟨a1', a2', c1', c2', F1, F2, Eo, rfl, rfl, m1, m2, B1, B2, hown, hR, hM, hB⟩ := hrel
    have hsz := hB.size
    clear A1 A2 hO1 hB1
    have hlen := hM.out.2.1
    obtain ⟨n1, hn1⟩ : ∃ n1, F1.length = n1 := ⟨_, rfl⟩
    obtain ⟨n2, hn2⟩ : ∃ n2, F2.length = n2 := ⟨_, rfl⟩
    have HN1 := hid0 hn1
    have HN2 := hid0 hn2
    have hlen0 := hlen
    rw [hn1, hn2] at hlen
    clear hlen0
    by_cases e1 : F1 = []
    · have f1 : ¬ (0 : Int) < (n1 : Int) := by rw [← hn1, e1]; simp
      have HE := hid0 (Or.inl (b := F2 = []) e1)
      rw [hn1, hn2]
      clear e1 hn1 hn2
      go_wp2_with (at_builtin; go_must (refine wp_bags rfl _ _ rfl rfl hown F1 n1 HN1.out a1' c1' rfl (B1.out.1.later hB) (by have := HN1.out; omega) hsz ?_))
      intro v1 w2 hown2 hK2
      have hB2 := hB.trans hK2.below
      have hsz2 := hB2.size
      clear hown hK2
      go_wp2_with (at_builtin; go_must (refine wp_bags rfl _ _ rfl rfl hown2 F2 n2 HN2.out a2' c2' rfl (B2.out.1.later hB2) (by have := HN1.out; have := HN2.out; rw [List.length_append]; omega) hsz2 ?_))
      intro v2 w3 hown3 hK3
      have hB3 := hB2.trans hK3.below
      obtain ⟨a, c, rfl, hcap, _, hcl⟩ := elems_owned hown3.out
      have HC := hid0 hcl
      clear hown2 hK3 hown3 hcl
      go_wp2
      go_ret
      refine ⟨⟨a, c, Eo ++ (F1 ++ F2), rfl, hcap, ⟨HC.out, fun e he => ?_⟩, merge_end hM.out HE.out⟩, hB3⟩
      rcases List.mem_append.1 he with he | he
      · exact (hR.out.later hB3) e he
      · rcases List.mem_append.1 he with he | he
        · exact (B1.out.2.later hB3) e he
        · exact (B2.out.2.later hB3) e he
    by_cases e2 : F2 = []
    · have f1 : (0 : Int) < (n1 : Int) := by
        have : F1.length ≠ 0 := fun h => e1 (List.length_eq_zero_iff.1 h)
        omega
      have f2 : ¬ (0 : Int) < (n2 : Int) := by rw [← hn2, e2]; simp
      have HE := hid0 (Or.inr (a := F1 = []) e2)
      rw [hn1, hn2]
      clear e1 e2 hn1 hn2
      go_wp2_with (at_builtin; go_must (refine wp_bags rfl _ _ rfl rfl hown F1 n1 HN1.out a1' c1' rfl (B1.out.1.later hB) (by have := HN1.out; omega) hsz ?_))
      intro v1 w2 hown2 hK2
      have hB2 := hB.trans hK2.below
      have hsz2 := hB2.size
      clear hown hK2
      go_wp2_with (at_builtin; go_must (refine wp_bags rfl _ _ rfl rfl hown2 F2 n2 HN2.out a2' c2' rfl (B2.out.1.later hB2) (by have := HN1.out; have := HN2.out; rw [List.length_append]; omega) hsz2 ?_))
      intro v2 w3 hown3 hK3
      have hB3 := hB2.trans hK3.below
      obtain ⟨a, c, rfl, hcap, _, hcl⟩ := elems_owned hown3.out
      have HC := hid0 hcl
      clear hown2 hK3 hown3 hcl
      go_wp2
      go_ret
      refine ⟨⟨a, c, Eo ++ (F1 ++ F2), rfl, hcap, ⟨HC.out, fun e he => ?_⟩, merge_end hM.out HE.out⟩, hB3⟩
      rcases List.mem_append.1 he with he | he
      · exact (hR.out.later hB3) e he
      · rcases List.mem_append.1 he with he | he
        · exact (B1.out.2.later hB3) e he
        · exact (B2.out.2.later hB3) e he
    obtain ⟨x, F1, rfl⟩ : ∃ x G, F1 = x :: G := by
      cases F1 with
      | nil => exact absurd rfl e1
      | cons x G => exact ⟨x, G, rfl⟩
    obtain ⟨y, F2, rfl⟩ : ∃ y G, F2 = y :: G := by
      cases F2 with
      | nil => exact absurd rfl e2
      | cons y G => exact ⟨y, G, rfl⟩
    obtain ⟨b1, o1, rfl, hc1⟩ := B1.out.1 (by simp)
    have hlb1 : b1 < w.heap.size := World.block_lt_of_cell? _ _ (hc1 0 (by simp)).1
    have hc1' := (hc1 0 (by simp))
    simp only [Nat.zero_mul, Nat.add_zero, List.getElem_cons_zero] at hc1'
    have q0 := cell_later hB hc1'.1
    have q1 := cell_later hB hc1'.2
    obtain ⟨b2, o2, rfl, hc2⟩ := B2.out.1 (by simp)
    have hlb2 : b2 < w.heap.size := World.block_lt_of_cell? _ _ (hc2 0 (by simp)).1
    have hc2' := (hc2 0 (by simp))
    simp only [Nat.zero_mul, Nat.add_zero, List.getElem_cons_zero] at hc2'
    have p0 := cell_later hB hc2'.1
    have p1 := cell_later hB hc2'.2
    clear hc1 hc2 hc1' hc2' e1 e2
    have r1 := B1.out.2 x (by simp)
    have r2 := B2.out.2 y (by simp)
    obtain ⟨a1n, c1n, l1n, hs1, hat1⟩ := elems_next (some ⟨b1, o1, none⟩) x F1 c1' m1
    obtain ⟨a2n, c2n, l2n, hs2, hat2⟩ := elems_next (some ⟨b2, o2, none⟩) y F2 c2' m2
    have N1 := hid0 (hat1 _ B1.out)
    have N2 := hid0 (hat2 _ B2.out)
    have g1 : n1 = F1.length + 1 := by rw [← hn1]; simp
    have g2 : n2 = F2.length + 1 := by rw [← hn2]; simp
    rw [hn1] at hs1 ⊢
    rw [hn2] at hs2 ⊢
    clear HN1 HN2
    have d1 : (0 : Int) < (n1 : Int) := by omega
    have d2 : (0 : Int) < (n2 : Int) := by omega
    have hx1 : x ∈ E1 := hM.out.2.2.1 x (by simp)
    have hy2 : y ∈ E2 := hM.out.2.2.2 y (by simp)
    obtain ⟨hs3, hs4⟩ := HS.out _ hx1 _ hy2
    have hw0 : IntKind.i64.wrap (x.n + y.n) = x.n + y.n := IntWalk.i64_in _ (by omega)
    have G1 := hid0 g1
    have G2 := hid0 g2
    clear hn1 hn2 hat1 hat2 hx1 hy2
    obtain ⟨cv, hcv⟩ : ∃ cv, rowsV x.r y.r = cv := ⟨_, rfl⟩
    have CR : ∀ W, Below w.heap.size w W → Calls Try.prog 39 #[.slice x.a x.r.length x.c, .slice y.a y.r.length y.c] W fun e w' => e = .returned (.int .i64 cv) ∧ Below W.heap.size W w' := fun W hb => by
      have h := rows_any x.a y.a x.c y.c x.r y.r W (r1.1.later hb) (r2.1.later hb) (by have := r1.2; unfold rowOK at this; unfold maxLen; omega)
      rwa [hcv] at h
    have HR := hid0 (And.intro r1 r2)
    have HC := hid0 hcv
    have m1b : F1.length + 1 ≤ c1' := by simpa using m1
    have m2b : F2.length + 1 ≤ c2' := by simpa using m2
    clear r1 r2 hcv m1 m2 g1 g2
    by_cases hneg : cv < 0
    · go_wp2_with fail
      go_region_held3 (fun w' => w'.cell? ⟨b1, o1, none⟩ = some (.slice x.a x.r.length x.c) ∧ w'.cell? ⟨b1, o1 + 1, none⟩ = some (.int .i64 x.n) ∧ w'.cell? ⟨b2, o2, none⟩ = some (.slice y.a y.r.length y.c) ∧ w'.cell? ⟨b2, o2 + 1, none⟩ = some (.int .i64 y.n) ∧ OwnB w' w.heap.size u5 Eo ∧ Below w.heap.size w w')
        ((go_split_ands; (try dsimp only); (repeat' apply And.intro); all_goals (first
          | assumption
          | exact cell_later hbn ‹_›
          | exact OwnB.kept ‹_› hbn
          | exact below_through hbn (Below.size ‹Below w.heap.size w _›) ‹_›
          | exact Below.drew hB
          | exact hown.drew
          | go_keep)))
        (first
          | (go_at_call 39; (try go_split_ands); refine (CR _ (by assumption)).mono ?_; rintro e wn ⟨rfl, hbn⟩))
      obtain ⟨f0, f1, g0, g1, hown0, hB0⟩ := ‹wn.cell? ⟨b1, o1, none⟩ = some (.slice x.a x.r.length x.c) ∧ _›
      clear q0 q1 p0 p1 hown hB hbn CR
      have hsz0 := hB0.size
      go_wp2_with fail
      have ho2 := fun o => (hown0.drew).alloc o
      go_region_held3 (fun w' => w'.cell? ⟨b1, o1, none⟩ = some (.slice x.a x.r.length x.c) ∧ w'.cell? ⟨b1, o1 + 1, none⟩ = some (.int .i64 x.n))
        (first
          | go_keep
          | (go_split_ands; (try dsimp only); (repeat' apply And.intro); all_goals (first
            | assumption
            | exact (hK1.below.cell (p := ⟨b1, _, none⟩) hlb1).trans ‹_›
            | go_keep)))
        ((refine step_bag1 (by rfl) _ _ (by rfl) (by rfl) (ho2 _) x wn.heap.size (by rfl) (elem_new _ _ _ _).1 (elem_new _ _ _ _).2 (by omega) (by simp; omega) ?_; intro v1 w1 hown1 hK1))
      have hB1 : Below w.heap.size w w1 := (Below.drew (Below.alloc hB0 hsz0 _)).trans hK1.below
      clear hown0 hB0 ho2 hK1 f0 f1 g0 g1
      go_wp2
      exact ⟨⟨a1n, some ⟨b2, o2, none⟩, c1n, c2', F1, y :: F2, Eo ++ [x], rfl, by rw [List.length_cons, G2.out], l1n, m2b, N1, B2, hown1, hid0 (rowsIn_snoc hR.out HR.out.1), hid0 (merge_less hM.out (by rw [HC.out]; exact hneg)), hB1⟩, by have := G1.out; have := G2.out; simp [lenV]; omega⟩
    by_cases hpos : 0 < cv
    · go_wp2_with fail
      go_region_held3 (fun w' => w'.cell? ⟨b1, o1, none⟩ = some (.slice x.a x.r.length x.c) ∧ w'.cell? ⟨b1, o1 + 1, none⟩ = some (.int .i64 x.n) ∧ w'.cell? ⟨b2, o2, none⟩ = some (.slice y.a y.r.length y.c) ∧ w'.cell? ⟨b2, o2 + 1, none⟩ = some (.int .i64 y.n) ∧ OwnB w' w.heap.size u5 Eo ∧ Below w.heap.size w w')
        ((go_split_ands; (try dsimp only); (repeat' apply And.intro); all_goals (first
          | assumption
          | exact cell_later hbn ‹_›
          | exact OwnB.kept ‹_› hbn
          | exact below_through hbn (Below.size ‹Below w.heap.size w _›) ‹_›
          | exact Below.drew hB
          | exact hown.drew
          | go_keep)))
        (first
          | (go_at_call 39; (try go_split_ands); refine (CR _ (by assumption)).mono ?_; rintro e wn ⟨rfl, hbn⟩))
      obtain ⟨f0, f1, g0, g1, hown0, hB0⟩ := ‹wn.cell? ⟨b1, o1, none⟩ = some (.slice x.a x.r.length x.c) ∧ _›
      clear q0 q1 p0 p1 hown hB hbn CR
      have hsz0 := hB0.size
      go_wp2_with fail
      have ho2 := fun o => (hown0.drew).alloc o
      go_region_held3 (fun w' => w'.cell? ⟨b2, o2, none⟩ = some (.slice y.a y.r.length y.c) ∧ w'.cell? ⟨b2, o2 + 1, none⟩ = some (.int .i64 y.n))
        (first
          | go_keep
          | (go_split_ands; (try dsimp only); (repeat' apply And.intro); all_goals (first
            | assumption
            | exact (hK1.below.cell (p := ⟨b2, _, none⟩) hlb2).trans ‹_›
            | go_keep)))
        ((refine step_bag1 (by rfl) _ _ (by rfl) (by rfl) (ho2 _) y wn.heap.size (by rfl) (elem_new _ _ _ _).1 (elem_new _ _ _ _).2 (by omega) (by simp; omega) ?_; intro v1 w1 hown1 hK1))
      have hB1 : Below w.heap.size w w1 := (Below.drew (Below.alloc hB0 hsz0 _)).trans hK1.below
      clear hown0 hB0 ho2 hK1 f0 f1 g0 g1
      go_wp2
      exact ⟨⟨some ⟨b1, o1, none⟩, a2n, c1', c2n, x :: F1, F2, Eo ++ [y], by rw [List.length_cons, G1.out], rfl, m1b, l2n, B1, N2, hown1, hid0 (rowsIn_snoc hR.out HR.out.2), hid0 (merge_more hM.out (by rw [HC.out]; exact hpos)), hB1⟩, by have := G1.out; have := G2.out; simp [lenV]; omega⟩
    obtain rfl : cv = 0 := by omega
    clear hneg hpos
    by_cases h0 : x.n + y.n = 0
    · go_wp2_with fail
      go_region_held3 (fun w' => w'.cell? ⟨b1, o1, none⟩ = some (.slice x.a x.r.length x.c) ∧ w'.cell? ⟨b1, o1 + 1, none⟩ = some (.int .i64 x.n) ∧ w'.cell? ⟨b2, o2, none⟩ = some (.slice y.a y.r.length y.c) ∧ w'.cell? ⟨b2, o2 + 1, none⟩ = some (.int .i64 y.n) ∧ OwnB w' w.heap.size u5 Eo ∧ Below w.heap.size w w')
        ((go_split_ands; (try dsimp only); (repeat' apply And.intro); all_goals (first
          | assumption
          | exact cell_later hbn ‹_›
          | exact OwnB.kept ‹_› hbn
          | exact below_through hbn (Below.size ‹Below w.heap.size w _›) ‹_›
          | exact Below.drew hB
          | exact hown.drew
          | go_keep)))
        (first
          | (go_at_call 39; (try go_split_ands); refine (CR _ (by assumption)).mono ?_; rintro e wn ⟨rfl, hbn⟩))
      obtain ⟨f0, f1, g0, g1, hown0, hB0⟩ := ‹wn.cell? ⟨b1, o1, none⟩ = some (.slice x.a x.r.length x.c) ∧ _›
      clear q0 q1 p0 p1 hown hB hbn CR
      have hsz0 := hB0.size
      go_wp2_with fail
      go_region
      go_wp2_with fail
      go_region
      go_wp2
      exact ⟨⟨a1n, a2n, c1n, c2n, F1, F2, Eo, rfl, rfl, l1n, l2n, N1, N2, hown0.drew.drew, hR, hid0 (merge_none hM.out HC.out h0), hB0.drew.drew⟩, by have := G1.out; have := G2.out; simp [lenV]; omega⟩
    · go_wp2_with fail
      go_region_held3 (fun w' => w'.cell? ⟨b1, o1, none⟩ = some (.slice x.a x.r.length x.c) ∧ w'.cell? ⟨b1, o1 + 1, none⟩ = some (.int .i64 x.n) ∧ w'.cell? ⟨b2, o2, none⟩ = some (.slice y.a y.r.length y.c) ∧ w'.cell? ⟨b2, o2 + 1, none⟩ = some (.int .i64 y.n) ∧ OwnB w' w.heap.size u5 Eo ∧ Below w.heap.size w w')
        ((go_split_ands; (try dsimp only); (repeat' apply And.intro); all_goals (first
          | assumption
          | exact cell_later hbn ‹_›
          | exact OwnB.kept ‹_› hbn
          | exact below_through hbn (Below.size ‹Below w.heap.size w _›) ‹_›
          | exact Below.drew hB
          | exact hown.drew
          | go_keep)))
        (first
          | (go_at_call 39; (try go_split_ands); refine (CR _ (by assumption)).mono ?_; rintro e wn ⟨rfl, hbn⟩))
      obtain ⟨f0, f1, g0, g1, hown0, hB0⟩ := ‹wn.cell? ⟨b1, o1, none⟩ = some (.slice x.a x.r.length x.c) ∧ _›
      clear q0 q1 p0 p1 hown hB hbn CR
      have hsz0 := hB0.size
      go_wp2_with fail
      go_region
      have f0' : wn.drew.cell? ⟨b1, o1, none⟩ = some (.slice x.a x.r.length x.c) := f0
      have hown2 := hown0.drew
      have hB2 := hB0.drew
      clear hown0 hB0 f0 f1 g0 g1
      generalize wn.drew = W2 at f0' hown2 hB2 ⊢
      have ho2 := fun o => hown2.alloc o
      have hz2 := hB2.size
      go_wp2_with (at_builtin; go_must (refine wp_bag1 rfl _ _ rfl rfl (ho2 _) ⟨x.a, x.c, x.r, x.n + y.n⟩ W2.heap.size rfl (elem_new _ _ _ _).1 (elem_new _ _ _ _).2 (by omega) (by simp; omega) ?_))
      intro v1 w1 hown1 hK1
      have hB1 : Below w.heap.size w w1 := (Below.alloc hB2 hz2 _).trans hK1.below
      clear hown2 hB2 ho2 hK1 f0'
      go_wp2_with fail
      go_region
      go_wp2
      exact ⟨⟨a1n, a2n, c1n, c2n, F1, F2, Eo ++ [⟨x.a, x.c, x.r, x.n + y.n⟩], rfl, rfl, l1n, l2n, N1, N2, hown1.drew, hid0 (rowsIn_snoc hR.out HR.out.1), hid0 (merge_both hM.out HC.out h0), hB1.drew⟩, by have := G1.out; have := G2.out; simp [lenV]; omega⟩
end Go.Proofs.Ytadidikegfiedaa
