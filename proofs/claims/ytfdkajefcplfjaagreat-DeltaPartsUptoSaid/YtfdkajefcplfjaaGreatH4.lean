/- Several of my texts laid together, each as it was: Bd. Conditions: each names its own. -/
import Derived.Test.YtfdkajefcplfjaaGreatH3
import Derived.Deep.RegionHeldLaw
import Derived.Deep.AppendLies
/- The reference of layer 4: two bags merged: a contract of the call, in whatever memory. Conditions: the bags' cells are known; their numbers are so small that no sum passes the ends. -/
namespace Go.Proofs.YtfdkajefcplfjaaGreat
open Go.RowKit

theorem info36 : (Tryz.prog.info? 80).map (fun i => (i.zero, i.size, i.bytes)) = some (some (.agg #[.slice none 0 0, .int .i64 0]), 2, 32) := by kernel_rfl

/-- i of the one and k of the other have been merged: Eo. -/
def JoinTo (E1 E2 Eo : List Elem) (i k : Nat) : Prop :=
  joinB (E1.map pr) (E2.map pr) = Eo.map pr ++ joinB ((E1.map pr).drop i) ((E2.map pr).drop k) ∧ Eo.length ≤ i + k ∧ i ≤ E1.length ∧ k ≤ E2.length
theorem join_start (E1 E2 : List Elem) : JoinTo E1 E2 [] 0 0 := ⟨by simp, Nat.le_refl _, Nat.zero_le _, Nat.zero_le _⟩
theorem map_drop_cons {E : List Elem} {i : Nat} (h : i < E.length) : (E.map pr).drop i = pr E[i] :: (E.map pr).drop (i + 1) := by
  rw [List.drop_eq_getElem_cons (by simpa using h)]; simp
theorem map_drop_end {E : List Elem} {i : Nat} (h : ¬ i < E.length) : (E.map pr).drop i = [] := List.drop_eq_nil_of_le (by simp; omega)
theorem join_end {E1 E2 Eo : List Elem} {i k : Nat} (h : JoinTo E1 E2 Eo i k) (h1 : ¬ i < E1.length) (h2 : ¬ k < E2.length) : Eo.map pr = joinB (E1.map pr) (E2.map pr) := by
  rw [h.1, map_drop_end h1, map_drop_end h2, nil_joinB, List.append_nil]
theorem join_left {E1 E2 Eo : List Elem} {i k : Nat} (h : JoinTo E1 E2 Eo i k) (h1 : i < E1.length) (h2 : ¬ k < E2.length) : JoinTo E1 E2 (Eo ++ [E1[i]]) (i + 1) k := by
  refine ⟨?_, by have := h.2.1; simp; omega, by omega, h.2.2.2⟩
  rw [h.1, map_drop_end h2, joinB_nil, joinB_nil, map_drop_cons h1]; simp
theorem join_right {E1 E2 Eo : List Elem} {i k : Nat} (h : JoinTo E1 E2 Eo i k) (h1 : ¬ i < E1.length) (h2 : k < E2.length) : JoinTo E1 E2 (Eo ++ [E2[k]]) i (k + 1) := by
  refine ⟨?_, by have := h.2.1; simp; omega, h.2.2.1, by omega⟩
  rw [h.1, map_drop_end h1, nil_joinB, nil_joinB, map_drop_cons h2]; simp
theorem join_less {E1 E2 Eo : List Elem} {i k : Nat} (h : JoinTo E1 E2 Eo i k) (h1 : i < E1.length) (h2 : k < E2.length) (hc : rowsV E1[i].r E2[k].r < 0) : JoinTo E1 E2 (Eo ++ [E1[i]]) (i + 1) k := by
  refine ⟨?_, by have := h.2.1; simp; omega, by omega, h.2.2.2⟩
  rw [h.1, map_drop_cons h1, map_drop_cons h2, joinB_less _ _ hc]; simp
theorem join_more {E1 E2 Eo : List Elem} {i k : Nat} (h : JoinTo E1 E2 Eo i k) (h1 : i < E1.length) (h2 : k < E2.length) (hc : 0 < rowsV E1[i].r E2[k].r) : JoinTo E1 E2 (Eo ++ [E2[k]]) i (k + 1) := by
  refine ⟨?_, by have := h.2.1; simp; omega, h.2.2.1, by omega⟩
  rw [h.1, map_drop_cons h1, map_drop_cons h2, joinB_more _ _ hc]; simp
theorem join_none {E1 E2 Eo : List Elem} {i k : Nat} (h : JoinTo E1 E2 Eo i k) (h1 : i < E1.length) (h2 : k < E2.length) (hc : rowsV E1[i].r E2[k].r = 0) (h0 : E1[i].n + E2[k].n = 0) : JoinTo E1 E2 Eo (i + 1) (k + 1) := by
  refine ⟨?_, by have := h.2.1; omega, by omega, by omega⟩
  rw [h.1, map_drop_cons h1, map_drop_cons h2, joinB_none _ _ hc h0]
theorem join_both {E1 E2 Eo : List Elem} {i k : Nat} (h : JoinTo E1 E2 Eo i k) (h1 : i < E1.length) (h2 : k < E2.length) (hc : rowsV E1[i].r E2[k].r = 0) (h0 : E1[i].n + E2[k].n ≠ 0) :
    JoinTo E1 E2 (Eo ++ [⟨E1[i].a, E1[i].c, E1[i].r, E1[i].n + E2[k].n⟩]) (i + 1) (k + 1) := by
  refine ⟨?_, by have := h.2.1; simp; omega, by omega, by omega⟩
  rw [h.1, map_drop_cons h1, map_drop_cons h2, joinB_both _ _ hc h0]
  simp [pr]

theorem rowsIn_snoc {w : World} {E : List Elem} {e : Elem} (h : RowsIn w E) (he : RowAt w e.a e.r ∧ rowOK e.r) : RowsIn w (E ++ [e]) := fun x hx => by
  rcases List.mem_append.1 hx with hx | hx
  · exact h x hx
  · obtain rfl := List.mem_singleton.1 hx; exact he

/-- The elements E, in a block of its own from base on, or nil. -/
structure OwnB (w : World) (base : Nat) (v : Value) (E : List Elem) : Prop where
  out : w.ownsRow base 80 2 v E.length (cellsE E)
theorem OwnB.nil (w : World) (base : Nat) : OwnB w base (.slice none 0 0) [] := ⟨World.ownsRow_nil _ _ _ _⟩
theorem OwnB.alloc {w : World} {base : Nat} {v : Value} {E : List Elem} (h : OwnB w base v E) (o : Obj) : OwnB (w.alloc o) base v E := ⟨World.ownsRow.alloc h.out o⟩
theorem OwnB.drew {w : World} {base : Nat} {v : Value} {E : List Elem} (h : OwnB w base v E) : OwnB w.drew base v E := ⟨h.out⟩
theorem OwnB.kept {w w' : World} {base : Nat} {v : Value} {E : List Elem} (h : OwnB w base v E) (hb : Below w.heap.size w w') : OwnB w' base v E := ⟨own_below h.out hb⟩
/-- An append of one element, laid in a block of its own first. -/
theorem wp_bag1 {w : World} {ops : Array Oper} {rest : List Oper} {o : Oper} {a : Act} {Q : Exit → Act → World → Prop} (hgd : o.guard = none) (s x : Operand)
    (ho : o.op = .call { callee := .builtin .append, args := #[s, x], argTypes := #[57, 57] })
    {base : Nat} {v : Value} {E : List Elem} (hs : a.eval s = v) (hown : OwnB w base v E)
    (e : Elem) (B : Nat) (hx : a.eval x = .slice (some ⟨B, 0, none⟩) 1 1) (h0 : w.cell? ⟨B, 0, none⟩ = some (.slice e.a e.r.length e.c)) (h1 : w.cell? ⟨B, 1, none⟩ = some (.int .i64 e.n))
    (hlen : (E.length + 1) * 32 ≤ 140737488355328) (hbase : base ≤ w.heap.size)
    (h : ∀ v' w', OwnB w' base v' (E ++ [e]) → KeptT 80 base w w' → wpList Tryz.prog ops Q rest (a.put o.dst v') w') : wpList Tryz.prog ops Q (o :: rest) a w := by
  obtain ⟨i0, hi, hz0, hz1, hz2⟩ := info_parts info36
  refine wpList_append_own w hgd s x 57 ho base 80 i0 (.agg #[.slice none 0 0, .int .i64 0]) 2 32 Tryz.underlying57 hi hz0 hz1 hz2 rfl (by decide) v E.length (cellsE E) hs hown.out ⟨B, 0, none⟩ 1 1 [.slice e.a e.r.length e.c, .int .i64 e.n] hx rfl ?_ ?_ (by unfold maxLen; omega) hlen hbase ?_
  · intro j u hj
    match j, hj with
    | 0, hj => simp at hj; subst hj; rw [WideShapes.add_plain]; exact h0
    | 1, hj => simp at hj; subst hj; rw [WideShapes.add_plain]; exact h1
    | j + 2, hj => simp at hj
  · intro u hu; simp at hu; rcases hu with rfl | rfl <;> rfl
  · intro v' w' hown' hgrow _
    refine h v' w' ?_ (keptT_grown hown.out hbase hgrow)
    refine ⟨?_⟩
    rw [cellsE_snoc, List.length_append]
    exact hown'
/-- The same at a step of a region that draws its order. -/
theorem step_bag1 {w : World} {ops : Array Oper} {o : Oper} {a : Act} {K : Act → World → Prop} {Q : Exit → Act → World → Prop} {X : Prop} (hgd : o.guard = none) (s x : Operand)
    (ho : o.op = .call { callee := .builtin .append, args := #[s, x], argTypes := #[57, 57] })
    {base : Nat} {v : Value} {E : List Elem} (hs : a.eval s = v) (hown : OwnB w base v E)
    (e : Elem) (B : Nat) (hx : a.eval x = .slice (some ⟨B, 0, none⟩) 1 1) (h0 : w.cell? ⟨B, 0, none⟩ = some (.slice e.a e.r.length e.c)) (h1 : w.cell? ⟨B, 1, none⟩ = some (.int .i64 e.n))
    (hlen : (E.length + 1) * 32 ≤ 140737488355328) (hbase : base ≤ w.heap.size)
    (h : ∀ v' w', OwnB w' base v' (E ++ [e]) → KeptT 80 base w w' → K (a.put o.dst v') w') :
    if Region.wanted o (yielded ops a.tmps) = true then Oper.wp Tryz.prog o a w K Q else X := by
  have hw : Region.wanted o (yielded ops a.tmps) = true := by simp [Region.wanted, hgd]
  rw [if_pos hw]
  obtain ⟨i0, hi, hz0, hz1, hz2⟩ := info_parts info36
  refine wp_append_own w s x 57 ho base 80 i0 (.agg #[.slice none 0 0, .int .i64 0]) 2 32 Tryz.underlying57 hi hz0 hz1 hz2 rfl (by decide) v E.length (cellsE E) hs hown.out ⟨B, 0, none⟩ 1 1 [.slice e.a e.r.length e.c, .int .i64 e.n] hx rfl ?_ ?_ (by unfold maxLen; omega) hlen hbase ?_
  · intro j u hj
    match j, hj with
    | 0, hj => simp at hj; subst hj; rw [WideShapes.add_plain]; exact h0
    | 1, hj => simp at hj; subst hj; rw [WideShapes.add_plain]; exact h1
    | j + 2, hj => simp at hj
  · intro u hu; simp at hu; rcases hu with rfl | rfl <;> rfl
  · intro v' w' hown' hgrow _
    refine h v' w' ⟨?_⟩ (keptT_grown hown.out hbase hgrow)
    rw [cellsE_snoc, List.length_append]
    exact hown'
theorem elem_new (w : World) (u v : Value) (t : TypeId) : (w.alloc (Obj.cells #[u, v] t)).cell? ⟨w.heap.size, 0, none⟩ = some u ∧ (w.alloc (Obj.cells #[u, v] t)).cell? ⟨w.heap.size, 1, none⟩ = some v := ⟨by go_cell, by go_cell⟩

set_option maxHeartbeats 4000000 in
set_option maxRecDepth 1000000 in
theorem refJoined_any (a1 a2 : Option Addr) (c1 c2 : Nat) (E1 E2 : List Elem) (w : World) (h1 : ElemsAt w a1 E1) (h2 : ElemsAt w a2 E2) (hl : E1.length + E2.length ≤ 1000000)
    (hs : ∀ x ∈ E1, ∀ y ∈ E2, -4611686018427387904 ≤ x.n + y.n ∧ x.n + y.n ≤ 4611686018427387904) :
    Calls Tryz.prog 86 #[.slice a1 E1.length c1, .slice a2 E2.length c2] w fun e w' => (∃ a c E, e = .returned (.slice a E.length c) ∧ E.length ≤ c ∧ ElemsAt w' a E ∧ E.map pr = joinB (E1.map pr) (E2.map pr)) ∧ Below w.heap.size w w' := by
  have A1 := hid0 h1
  have A2 := hid0 h2
  have HS := hid0 hs
  clear h1 h2 hs
  go_enter Tryz.func86, Tryz.ntmps86
  go_wp2
  go_loopw [5, 6, 7] (fun ov iv kv wr => ∃ (i k : Nat) (Eo : List Elem), iv = .int .i64 i ∧ kv = .int .i64 k ∧ OwnB wr w.heap.size ov Eo ∧ Hid (RowsIn w Eo) ∧ Hid (JoinTo E1 E2 Eo i k) ∧ Below w.heap.size w wr)
    (fun _ iv kv _ => (E1.length - (intOf iv).toNat) + (E2.length - (intOf kv).toNat))
  case atStart => exact ⟨0, 0, [], rfl, rfl, OwnB.nil _ _, hid0 (fun e he => absurd he (by simp)), hid0 (join_start E1 E2), Below.refl _ _⟩
  case round =>
    obtain ⟨i, k, Eo, rfl, rfl, hown, hR, hJ, hB⟩ := hrel
    have hsz := hB.size
    have hil := hJ.out.2.2.1
    have hkl := hJ.out.2.2.2
    have hol := hJ.out.2.1
    by_cases hi : i < E1.length
    · obtain ⟨b1, o1, rfl, hc1⟩ := (A1.out.1.later hB) (by intro e; rw [e] at hi; exact absurd hi (by simp))
      obtain ⟨q0, q1⟩ := hc1 i hi
      clear hc1
      by_cases hk : k < E2.length
      · obtain ⟨b2, o2, rfl, hc2⟩ := (A2.out.1.later hB) (by intro e; rw [e] at hk; exact absurd hk (by simp))
        obtain ⟨p0, p1⟩ := hc2 k hk
        clear hc2
        have hie : ¬ (i : Int) = E1.length := by omega
        have r1 := A1.out.2 _ (List.getElem_mem hi)
        have r2 := A2.out.2 _ (List.getElem_mem hk)
        obtain ⟨cv, hcv⟩ : ∃ cv, rowsV E1[i].r E2[k].r = cv := ⟨_, rfl⟩
        have C17 : ∀ W, Below w.heap.size w W → Calls Tryz.prog 15 #[.slice E1[i].a E1[i].r.length E1[i].c, .slice E2[k].a E2[k].r.length E2[k].c] W fun e w' => e = .returned (.int .i64 cv) ∧ Below W.heap.size W w' := fun W hb => by
          have h := refRows_any E1[i].a E2[k].a E1[i].c E2[k].c E1[i].r E2[k].r W (r1.1.later hb) (r2.1.later hb) (by have := r1.2; unfold rowOK at this; unfold maxLen; omega)
          rwa [hcv] at h
        have HR := hid0 (And.intro r1 r2)
        have HC := hid0 hcv
        clear r1 r2 hcv
        have hlb1 : b1 < w.heap.size := by
          obtain ⟨b, o, e, hc⟩ := A1.out.1 (by intro e; rw [e] at hi; exact absurd hi (by simp))
          obtain ⟨rfl, rfl⟩ : b1 = b ∧ o1 = o := by simpa using e
          exact World.block_lt_of_cell? _ _ (hc i hi).1
        have hlb2 : b2 < w.heap.size := by
          obtain ⟨b, o, e, hc⟩ := A2.out.1 (by intro e; rw [e] at hk; exact absurd hk (by simp))
          obtain ⟨rfl, rfl⟩ : b2 = b ∧ o2 = o := by simpa using e
          exact World.block_lt_of_cell? _ _ (hc k hk).1
        by_cases hneg : cv < 0
        · go_wp2_with fail
          go_region_held3 (fun w' => w'.cell? ⟨b1, o1 + i * 2, none⟩ = some (.slice E1[i].a E1[i].r.length E1[i].c) ∧ w'.cell? ⟨b1, o1 + i * 2 + 1, none⟩ = some (.int .i64 E1[i].n) ∧ w'.cell? ⟨b2, o2 + k * 2, none⟩ = some (.slice E2[k].a E2[k].r.length E2[k].c) ∧ w'.cell? ⟨b2, o2 + k * 2 + 1, none⟩ = some (.int .i64 E2[k].n) ∧ OwnB w' w.heap.size u5 Eo ∧ Below w.heap.size w w')
            ((go_split_ands; (try dsimp only); (repeat' apply And.intro); all_goals (first
              | assumption
              | exact cell_later hbn ‹_›
              | exact OwnB.kept ‹_› hbn
              | exact below_through hbn (Below.size ‹Below w.heap.size w _›) ‹_›
              | exact Below.drew hB
              | exact hown.drew
              | go_keep)))
            (first
              | (go_at_call 15; (try go_split_ands); refine (C17 _ (by assumption)).mono ?_; rintro e wn ⟨rfl, hbn⟩))
          obtain ⟨f0, f1, g0, g1, hown0, hB0⟩ := ‹wn.cell? ⟨b1, o1 + i * 2, none⟩ = some (.slice E1[i].a E1[i].r.length E1[i].c) ∧ _›
          clear q0 q1 p0 p1 hown hB hbn C17
          have hsz0 := hB0.size
          have ho1 := fun o => hown0.alloc o
          go_wp2_with (at_builtin; go_must (refine wp_bag1 rfl _ _ rfl rfl (ho1 _) E1[i] wn.heap.size rfl (elem_new _ _ _ _).1 (elem_new _ _ _ _).2 ?hl ?hb ?_))
          case hl => omega
          case hb => simp; omega
          intro v1 w1 hown1 hK1
          have hB1 := (Below.alloc hB0 hsz0 _).trans hK1.below
          clear hown0 ho1 hK1 f0 f1 g0 g1
          go_wp2
          exact ⟨⟨i + 1, k, Eo ++ [E1[i]], by go_num, rfl, hown1, hid0 (rowsIn_snoc hR.out HR.out.1), hid0 (join_less hJ.out hi hk (by rw [HC.out]; exact hneg)), hB1⟩, by simp [intOf]; omega⟩
        by_cases hpos : 0 < cv
        · go_wp2_with fail
          go_region_held3 (fun w' => w'.cell? ⟨b1, o1 + i * 2, none⟩ = some (.slice E1[i].a E1[i].r.length E1[i].c) ∧ w'.cell? ⟨b1, o1 + i * 2 + 1, none⟩ = some (.int .i64 E1[i].n) ∧ w'.cell? ⟨b2, o2 + k * 2, none⟩ = some (.slice E2[k].a E2[k].r.length E2[k].c) ∧ w'.cell? ⟨b2, o2 + k * 2 + 1, none⟩ = some (.int .i64 E2[k].n) ∧ OwnB w' w.heap.size u5 Eo ∧ Below w.heap.size w w')
            ((go_split_ands; (try dsimp only); (repeat' apply And.intro); all_goals (first
              | assumption
              | exact cell_later hbn ‹_›
              | exact OwnB.kept ‹_› hbn
              | exact below_through hbn (Below.size ‹Below w.heap.size w _›) ‹_›
              | exact Below.drew hB
              | exact hown.drew
              | go_keep)))
            (first
              | (go_at_call 15; (try go_split_ands); refine (C17 _ (by assumption)).mono ?_; rintro e wn ⟨rfl, hbn⟩))
          obtain ⟨f0, f1, g0, g1, hown0, hB0⟩ := ‹wn.cell? ⟨b1, o1 + i * 2, none⟩ = some (.slice E1[i].a E1[i].r.length E1[i].c) ∧ _›
          clear q0 q1 p0 p1 hown hB hbn C17
          have hsz0 := hB0.size
          have ho1 := fun o => hown0.alloc o
          go_wp2_with (at_builtin; go_must (refine wp_bag1 rfl _ _ rfl rfl (ho1 _) E2[k] wn.heap.size rfl (elem_new _ _ _ _).1 (elem_new _ _ _ _).2 ?hl ?hb ?_))
          case hl => omega
          case hb => simp; omega
          intro v1 w1 hown1 hK1
          have hB1 := (Below.alloc hB0 hsz0 _).trans hK1.below
          clear hown0 ho1 hK1 f0 f1 g0 g1
          go_wp2
          exact ⟨⟨i, k + 1, Eo ++ [E2[k]], rfl, by go_num, hown1, hid0 (rowsIn_snoc hR.out HR.out.2), hid0 (join_more hJ.out hi hk (by rw [HC.out]; exact hpos)), hB1⟩, by simp [intOf]; omega⟩
        obtain rfl : cv = 0 := by omega
        clear hneg hpos
        obtain ⟨hs1, hs2⟩ := HS.out _ (List.getElem_mem hi) _ (List.getElem_mem hk)
        have hw0 : IntKind.i64.wrap (E1[i].n + E2[k].n) = E1[i].n + E2[k].n := IntWalk.i64_in _ (by omega)
        by_cases h0 : E1[i].n + E2[k].n = 0
        · go_wp2_with fail
          go_region_held3 (fun w' => w'.cell? ⟨b1, o1 + i * 2, none⟩ = some (.slice E1[i].a E1[i].r.length E1[i].c) ∧ w'.cell? ⟨b1, o1 + i * 2 + 1, none⟩ = some (.int .i64 E1[i].n) ∧ w'.cell? ⟨b2, o2 + k * 2, none⟩ = some (.slice E2[k].a E2[k].r.length E2[k].c) ∧ w'.cell? ⟨b2, o2 + k * 2 + 1, none⟩ = some (.int .i64 E2[k].n) ∧ OwnB w' w.heap.size u5 Eo ∧ Below w.heap.size w w')
            ((go_split_ands; (try dsimp only); (repeat' apply And.intro); all_goals (first
              | assumption
              | exact cell_later hbn ‹_›
              | exact OwnB.kept ‹_› hbn
              | exact below_through hbn (Below.size ‹Below w.heap.size w _›) ‹_›
              | exact Below.drew hB
              | exact hown.drew
              | go_keep)))
            (first
              | (go_at_call 15; (try go_split_ands); refine (C17 _ (by assumption)).mono ?_; rintro e wn ⟨rfl, hbn⟩))
          obtain ⟨f0, f1, g0, g1, hown0, hB0⟩ := ‹wn.cell? ⟨b1, o1 + i * 2, none⟩ = some (.slice E1[i].a E1[i].r.length E1[i].c) ∧ _›
          clear q0 q1 p0 p1 hown hB hbn C17
          have hsz0 := hB0.size
          have ho1 := fun o => hown0.alloc o
          go_wp2_with fail
          go_region
          go_wp2
          exact ⟨⟨i + 1, k + 1, Eo, by go_num, by go_num, hown0.drew, hR, hid0 (join_none hJ.out hi hk HC.out h0), hB0.drew⟩, by simp [intOf]; omega⟩
        · go_wp2_with fail
          go_region_held3 (fun w' => w'.cell? ⟨b1, o1 + i * 2, none⟩ = some (.slice E1[i].a E1[i].r.length E1[i].c) ∧ w'.cell? ⟨b1, o1 + i * 2 + 1, none⟩ = some (.int .i64 E1[i].n) ∧ w'.cell? ⟨b2, o2 + k * 2, none⟩ = some (.slice E2[k].a E2[k].r.length E2[k].c) ∧ w'.cell? ⟨b2, o2 + k * 2 + 1, none⟩ = some (.int .i64 E2[k].n) ∧ OwnB w' w.heap.size u5 Eo ∧ Below w.heap.size w w')
            ((go_split_ands; (try dsimp only); (repeat' apply And.intro); all_goals (first
              | assumption
              | exact cell_later hbn ‹_›
              | exact OwnB.kept ‹_› hbn
              | exact below_through hbn (Below.size ‹Below w.heap.size w _›) ‹_›
              | exact Below.drew hB
              | exact hown.drew
              | go_keep)))
            (first
              | (go_at_call 15; (try go_split_ands); refine (C17 _ (by assumption)).mono ?_; rintro e wn ⟨rfl, hbn⟩))
          obtain ⟨f0, f1, g0, g1, hown0, hB0⟩ := ‹wn.cell? ⟨b1, o1 + i * 2, none⟩ = some (.slice E1[i].a E1[i].r.length E1[i].c) ∧ _›
          clear q0 q1 p0 p1 hown hB hbn C17
          have hsz0 := hB0.size
          have ho1 := fun o => hown0.alloc o
          go_wp2_with fail
          go_region
          go_wp2_with fail
          have hown2 := hown0.drew
          have hB2 := hB0.drew
          have f0' : wn.drew.cell? ⟨b1, o1 + i * 2, none⟩ = some (.slice E1[i].a E1[i].r.length E1[i].c) := f0
          have f1' : wn.drew.cell? ⟨b1, o1 + i * 2 + 1, none⟩ = some (.int .i64 E1[i].n) := f1
          have g1' : wn.drew.cell? ⟨b2, o2 + k * 2 + 1, none⟩ = some (.int .i64 E2[k].n) := g1
          clear hown0 hB0 ho1 f0 f1 g0 g1
          generalize wn.drew = W2 at f0' f1' g1' hown2 hB2 ⊢
          have ho2 := fun o => (hown2.drew).alloc o
          have hz2 := hB2.size
          go_region_held_law (fun w' => w'.cell? ⟨b1, o1 + i * 2, none⟩ = some (.slice E1[i].a E1[i].r.length E1[i].c) ∧ w'.cell? ⟨b1, o1 + i * 2 + 1, none⟩ = some (.int .i64 E1[i].n) ∧ w'.cell? ⟨b2, o2 + k * 2 + 1, none⟩ = some (.int .i64 E2[k].n))
            (first
              | go_keep
              | (go_split_ands; (try dsimp only); (repeat' apply And.intro); all_goals (first
                | assumption
                | exact (hK1.below.cell (p := ⟨b1, _, none⟩) hlb1).trans ‹_›
                | exact (hK1.below.cell (p := ⟨b2, _, none⟩) hlb2).trans ‹_›
                | go_keep)))
            ((refine step_bag1 (by rfl) _ _ (by rfl) (by rfl) (ho2 _) ⟨E1[i].a, E1[i].c, E1[i].r, E1[i].n + E2[k].n⟩ W2.heap.size (by rfl) (elem_new _ _ _ _).1 (elem_new _ _ _ _).2 (by omega) (by simp; omega) ?_; intro v1 w1 hown1 hK1))
          have hB1 : Below w.heap.size w w1 := (Below.drew (Below.alloc hB2 hz2 _)).trans hK1.below
          clear hown2 hB2 ho2 hK1 f0' f1' g1'
          go_wp2
          exact ⟨⟨i + 1, k + 1, Eo ++ [⟨E1[i].a, E1[i].c, E1[i].r, E1[i].n + E2[k].n⟩], by go_num, by go_num, hown1, hid0 (rowsIn_snoc hR.out HR.out.1), hid0 (join_both hJ.out hi hk HC.out h0), hB1⟩, by simp [intOf]; omega⟩
      · have hke : (k : Int) = E2.length := by omega
        have hie : ¬ (i : Int) = E1.length := by omega
        have ho1 := fun o => hown.alloc o
        go_wp2_with (at_builtin; go_loud (refine wp_bag1 rfl _ _ rfl rfl (ho1 _) E1[i] wr.heap.size rfl (elem_new _ _ _ _).1 (elem_new _ _ _ _).2 ?hl ?hb ?_))
        case hl => omega
        case hb => simp; omega
        intro v1 w1 hown1 hK1
        have hB1 := (Below.alloc hB hsz _).trans hK1.below
        clear hown ho1 hK1 q0 q1
        go_wp2
        exact ⟨⟨i + 1, k, Eo ++ [E1[i]], by go_num, congrArg _ (by omega), hown1, hid0 (rowsIn_snoc hR.out (A1.out.2 _ (List.getElem_mem hi))), hid0 (join_left hJ.out hi hk), hB1⟩, by simp [intOf]; omega⟩
    · by_cases hk : k < E2.length
      · obtain ⟨b2, o2, rfl, hc2⟩ := (A2.out.1.later hB) (by intro e; rw [e] at hk; exact absurd hk (by simp))
        obtain ⟨p0, p1⟩ := hc2 k hk
        clear hc2
        have hie : (i : Int) = E1.length := by omega
        have ho1 := fun o => hown.alloc o
        go_wp2_with (at_builtin; go_must (refine wp_bag1 rfl _ _ rfl rfl (ho1 _) E2[k] wr.heap.size rfl (elem_new _ _ _ _).1 (elem_new _ _ _ _).2 ?hl ?hb ?_))
        case hl => omega
        case hb => simp; omega
        intro v1 w1 hown1 hK1
        have hB1 := (Below.alloc hB hsz _).trans hK1.below
        clear hown ho1 hK1 p0 p1
        go_wp2
        exact ⟨⟨i, k + 1, Eo ++ [E2[k]], congrArg _ (by omega), by go_num, hown1, hid0 (rowsIn_snoc hR.out (A2.out.2 _ (List.getElem_mem hk))), hid0 (join_right hJ.out hi hk), hB1⟩, by simp [intOf]; omega⟩
      · obtain ⟨a, c, rfl, hcap, _, hcl⟩ := elems_owned hown.out
        have HC := hid0 hcl
        clear hown hcl
        have hie : ¬ (i : Int) < E1.length := by omega
        have hke : ¬ (k : Int) < E2.length := by omega
        go_wp2
        go_ret
        exact ⟨⟨a, c, Eo, rfl, hcap, ⟨HC.out, hR.out.later hB⟩, join_end hJ.out hi hk⟩, hB⟩
end Go.Proofs.YtfdkajefcplfjaaGreat
