/- Several of my texts laid together, each as it was: Rr, Bd, Bc, Be, Bf. Conditions: each names its own. -/
import Derived.Test.YtadidikegfiedaaB1
import Derived.Deep.RegionHeld3
import Derived.Test.YtadidikegfiedaaB2
import Derived.Deep.RegionHeldLaw
import Derived.Deep.AppendLies
/- How any two rows stand to each other: what the reference's Rows answers, in whatever memory. Conditions: each row is a slice whose elements' cells are known (what came in reads so). -/
namespace Go.Proofs.Ytadidikegfiedaa
open Go.RowKit

theorem rows_here (l1 l2 : List Val) (k : Nat) (h1 : k < l1.length) (h2 : k < l2.length) : rowsV (l1.drop k) (l2.drop k) = if cmpT l1[k] l2[k] = 0 then rowsV (l1.drop (k + 1)) (l2.drop (k + 1)) else cmpT l1[k] l2[k] := by
  rw [List.drop_eq_getElem_cons h1, List.drop_eq_getElem_cons h2, rowsV]
theorem rows_more (l1 l2 : List Val) (k : Nat) (h1 : k < l1.length) (h2 : l2.length ≤ k) : rowsV (l1.drop k) (l2.drop k) = 1 := by
  rw [List.drop_eq_getElem_cons h1, List.drop_eq_nil_of_le h2, rowsV]
theorem rows_less (l1 l2 : List Val) (k : Nat) (h1 : l1.length ≤ k) (h2 : k < l2.length) : rowsV (l1.drop k) (l2.drop k) = -1 := by
  rw [List.drop_eq_nil_of_le h1, List.drop_eq_getElem_cons h2, rowsV]
theorem rows_end (l1 l2 : List Val) (k : Nat) (h1 : l1.length ≤ k) (h2 : l2.length ≤ k) : rowsV (l1.drop k) (l2.drop k) = 0 := by
  rw [List.drop_eq_nil_of_le h1, List.drop_eq_nil_of_le h2, rowsV]
theorem rows_go {l1 l2 : List Val} {k : Nat} (h1 : k < l1.length) (h2 : k < l2.length) (h : (cmpV l1[k].k l1[k].n l1[k].s l2[k].k l2[k].n l2[k].s != 0) = false) (hR : rowsV l1 l2 = rowsV (l1.drop k) (l2.drop k)) : rowsV l1 l2 = rowsV (l1.drop (k + 1)) (l2.drop (k + 1)) := by
  rw [hR, rows_here l1 l2 k h1 h2, if_pos (by simpa [cmpT] using h)]
theorem rows_stop {l1 l2 : List Val} {k : Nat} (h1 : k < l1.length) (h2 : k < l2.length) (h : (cmpV l1[k].k l1[k].n l1[k].s l2[k].k l2[k].n l2[k].s != 0) = true) (hR : rowsV l1 l2 = rowsV (l1.drop k) (l2.drop k)) : cmpV l1[k].k l1[k].n l1[k].s l2[k].k l2[k].n l2[k].s = rowsV l1 l2 := by
  rw [hR, rows_here l1 l2 k h1 h2, if_neg (by simpa [cmpT] using h)]; rfl

set_option maxHeartbeats 1000000 in
theorem refRows_any (a1 a2 : Option Addr) (c1 c2 : Nat) (l1 l2 : List Val) (w : World) (h1 : RowAt w a1 l1) (h2 : RowAt w a2 l2) (m1 : l1.length ≤ maxLen) :
    Calls Try.prog 32 #[.slice a1 l1.length c1, .slice a2 l2.length c2] w fun e w' => e = .returned (.int .i64 (rowsV l1 l2)) ∧ Below w.heap.size w w' := by
  unfold maxLen at m1
  have R1 := hid0 h1
  have R2 := hid0 h2
  clear h1 h2
  go_enter Try.func32, Try.ntmps32
  go_wp2
  go_loopw [5] (fun i wr => ∃ k : Nat, k ≤ l1.length ∧ k ≤ l2.length ∧ i = .int .i64 k ∧ Below w.heap.size w wr ∧ Hid (rowsV l1 l2 = rowsV (l1.drop k) (l2.drop k))) (fun i _ => l1.length - (intOf i).toNat)
  case atStart => exact ⟨0, Nat.zero_le _, Nat.zero_le _, rfl, Below.refl _ _, rfl⟩
  case round =>
    obtain ⟨k, hk1, hk2, rfl, hB, hR⟩ := hrel
    have hsz := hB.size
    by_cases hlt : k < l1.length
    · by_cases hlt2 : k < l2.length
      · obtain ⟨b1, o1, rfl, hc1⟩ := (R1.out.later hB) (by intro e; rw [e] at hlt; exact absurd hlt (by simp))
        obtain ⟨b2, o2, rfl, hc2⟩ := (R2.out.later hB) (by intro e; rw [e] at hlt2; exact absurd hlt2 (by simp))
        obtain ⟨p0, p1, p2⟩ := hc1 k hlt
        obtain ⟨q0, q1, q2⟩ := hc2 k hlt2
        have k0 : (0 : Int) ≤ (k : Int) := Int.natCast_nonneg _
        have k1 : (k : Int) < (l1.length : Int) := by omega
        have k2 : (k : Int) < (l2.length : Int) := by omega
        clear hc1 hc2
        go_wp2_with fail
        go_region_held3 (fun w' => w'.cell? ⟨b1, o1 + k * 3, none⟩ = some (.int .i64 (l1[k]).k) ∧ w'.cell? ⟨b1, o1 + k * 3 + 1, none⟩ = some (.int .i64 (l1[k]).n) ∧ w'.cell? ⟨b1, o1 + k * 3 + 2, none⟩ = some (.string (l1[k]).s) ∧
            w'.cell? ⟨b2, o2 + k * 3, none⟩ = some (.int .i64 (l2[k]).k) ∧ w'.cell? ⟨b2, o2 + k * 3 + 1, none⟩ = some (.int .i64 (l2[k]).n) ∧ w'.cell? ⟨b2, o2 + k * 3 + 2, none⟩ = some (.string (l2[k]).s) ∧ Below w.heap.size w w')
          ((go_split_ands; (try dsimp only); (repeat' apply And.intro); all_goals (first
            | assumption
            | exact cell_later hbn ‹_›
            | exact below_through hbn (Below.size ‹Below w.heap.size w _›) ‹_›
            | exact Below.drew hB
            | go_keep)))
          (first
            | (go_at_call 46; refine (refCmp_any _ _ _ _ _ _ _).mono ?_; rintro e wn ⟨rfl, hbn⟩))
        obtain ⟨_, _, _, _, _, _, hBn⟩ := ‹wn.cell? ⟨b1, o1 + k * 3, none⟩ = some (.int .i64 (l1[k]).k) ∧ _›
        go_wp2
        · go_ret
          exact ⟨ret_i64 (rows_stop hlt hlt2 ‹_› hR), hBn⟩
        · exact ⟨⟨k + 1, by omega, by omega, by go_num, hBn, rows_go hlt hlt2 ‹_› hR⟩, by simp [intOf]; omega⟩
      · go_wp2
        go_ret
        exact ⟨ret_i64 (by rw [show rowsV l1 l2 = _ from hR, rows_more l1 l2 k hlt (by omega)]), hB⟩
    · go_wp2
      · go_ret
        exact ⟨ret_i64 (by rw [show rowsV l1 l2 = _ from hR, rows_less l1 l2 k (by omega) (by omega)]), hB⟩
      · go_ret
        exact ⟨ret_i64 (by rw [show rowsV l1 l2 = _ from hR, rows_end l1 l2 k (by omega) (by omega)]), hB⟩

end Go.Proofs.Ytadidikegfiedaa

/- The reference of layer 4: two bags merged: a contract of the call, in whatever memory. Conditions: the bags' cells are known; their numbers are so small that no sum passes the ends. -/
namespace Go.Proofs.Ytadidikegfiedaa
open Go.RowKit

theorem info36 : (Try.prog.info? 46).map (fun i => (i.zero, i.size, i.bytes)) = some (some (.agg #[.slice none 0 0, .int .i64 0]), 2, 32) := by kernel_rfl

/-- i of the one and k of the other have been merged: Eo. -/
def JoinTo (E1 E2 Eo : List Elem) (i k : Nat) : Prop :=
  joinB (E1.map pr) (E2.map pr) = Eo.map pr ++ joinB ((E1.map pr).drop i) ((E2.map pr).drop k) ∧ Eo.length ≤ i + k ∧ i ≤ E1.length ∧ k ≤ E2.length
theorem join_start (E1 E2 : List Elem) : JoinTo E1 E2 [] 0 0 := ⟨by simp, Nat.le_refl _, Nat.zero_le _, Nat.zero_le _⟩
theorem map_drop_cons {E : List Elem} {i : Nat} (h : i < E.length) : (E.map pr).drop i = pr E[i] :: (E.map pr).drop (i + 1) := by
  rw [List.drop_eq_getElem_cons (by simpa using h)]; simp
theorem map_drop_end {E : List Elem} {i : Nat} (h : ¬ i < E.length) : (E.map pr).drop i = [] := List.drop_eq_nil_of_le (by simp; omega)
theorem join_end {E1 E2 Eo : List Elem} {i k : Nat} (h : JoinTo E1 E2 Eo i k) (h1 : ¬ i < E1.length) (h2 : ¬ k < E2.length) : Eo.map pr = joinB (E1.map pr) (E2.map pr) := by
  rw [h.1, map_drop_end h1, map_drop_end h2, nil_joinB, List.append_nil]
theorem join_left {E1 E2 Eo : List Elem} {i k : Nat} (h : JoinTo E1 E2 Eo i k) (h1 : i < E1.length) (h2 : ¬ k < E2.length) : JoinTo E1 E2 (Eo ++ [E1[i]]) (i + 1) k := by
  refine ⟨?_, by have := h.2.1; simp; omega, by omega, h.2.2.2⟩
  rw [h.1, map_drop_end h2, joinB_nil, joinB_nil, map_drop_cons h1]; simp
theorem join_right {E1 E2 Eo : List Elem} {i k : Nat} (h : JoinTo E1 E2 Eo i k) (h1 : ¬ i < E1.length) (h2 : k < E2.length) : JoinTo E1 E2 (Eo ++ [E2[k]]) i (k + 1) := by
  refine ⟨?_, by have := h.2.1; simp; omega, h.2.2.1, by omega⟩
  rw [h.1, map_drop_end h1, nil_joinB, nil_joinB, map_drop_cons h2]; simp
theorem join_less {E1 E2 Eo : List Elem} {i k : Nat} (h : JoinTo E1 E2 Eo i k) (h1 : i < E1.length) (h2 : k < E2.length) (hc : rowsV E1[i].r E2[k].r < 0) : JoinTo E1 E2 (Eo ++ [E1[i]]) (i + 1) k := by
  refine ⟨?_, by have := h.2.1; simp; omega, by omega, h.2.2.2⟩
  rw [h.1, map_drop_cons h1, map_drop_cons h2, joinB_less _ _ hc]; simp
theorem join_more {E1 E2 Eo : List Elem} {i k : Nat} (h : JoinTo E1 E2 Eo i k) (h1 : i < E1.length) (h2 : k < E2.length) (hc : 0 < rowsV E1[i].r E2[k].r) : JoinTo E1 E2 (Eo ++ [E2[k]]) i (k + 1) := by
  refine ⟨?_, by have := h.2.1; simp; omega, h.2.2.1, by omega⟩
  rw [h.1, map_drop_cons h1, map_drop_cons h2, joinB_more _ _ hc]; simp
theorem join_none {E1 E2 Eo : List Elem} {i k : Nat} (h : JoinTo E1 E2 Eo i k) (h1 : i < E1.length) (h2 : k < E2.length) (hc : rowsV E1[i].r E2[k].r = 0) (h0 : E1[i].n + E2[k].n = 0) : JoinTo E1 E2 Eo (i + 1) (k + 1) := by
  refine ⟨?_, by have := h.2.1; omega, by omega, by omega⟩
  rw [h.1, map_drop_cons h1, map_drop_cons h2, joinB_none _ _ hc h0]
theorem join_both {E1 E2 Eo : List Elem} {i k : Nat} (h : JoinTo E1 E2 Eo i k) (h1 : i < E1.length) (h2 : k < E2.length) (hc : rowsV E1[i].r E2[k].r = 0) (h0 : E1[i].n + E2[k].n ≠ 0) :
    JoinTo E1 E2 (Eo ++ [⟨E1[i].a, E1[i].c, E1[i].r, E1[i].n + E2[k].n⟩]) (i + 1) (k + 1) := by
  refine ⟨?_, by have := h.2.1; simp; omega, by omega, by omega⟩
  rw [h.1, map_drop_cons h1, map_drop_cons h2, joinB_both _ _ hc h0]
  simp [pr]

theorem rowsIn_snoc {w : World} {E : List Elem} {e : Elem} (h : RowsIn w E) (he : RowAt w e.a e.r ∧ rowOK e.r) : RowsIn w (E ++ [e]) := fun x hx => by
  rcases List.mem_append.1 hx with hx | hx
  · exact h x hx
  · obtain rfl := List.mem_singleton.1 hx; exact he

/-- The elements E, in a block of its own from base on, or nil. -/
structure OwnB (w : World) (base : Nat) (v : Value) (E : List Elem) : Prop where
  out : w.ownsRow base 46 2 v E.length (cellsE E)
theorem OwnB.nil (w : World) (base : Nat) : OwnB w base (.slice none 0 0) [] := ⟨World.ownsRow_nil _ _ _ _⟩
theorem OwnB.alloc {w : World} {base : Nat} {v : Value} {E : List Elem} (h : OwnB w base v E) (o : Obj) : OwnB (w.alloc o) base v E := ⟨World.ownsRow.alloc h.out o⟩
theorem OwnB.drew {w : World} {base : Nat} {v : Value} {E : List Elem} (h : OwnB w base v E) : OwnB w.drew base v E := ⟨h.out⟩
theorem OwnB.kept {w w' : World} {base : Nat} {v : Value} {E : List Elem} (h : OwnB w base v E) (hb : Below w.heap.size w w') : OwnB w' base v E := ⟨own_below h.out hb⟩
/-- An append of one element, laid in a block of its own first. -/
theorem wp_bag1 {w : World} {ops : Array Oper} {rest : List Oper} {o : Oper} {a : Act} {Q : Exit → Act → World → Prop} (hgd : o.guard = none) (s x : Operand)
    (ho : o.op = .call { callee := .builtin .append, args := #[s, x], argTypes := #[25, 25] })
    {base : Nat} {v : Value} {E : List Elem} (hs : a.eval s = v) (hown : OwnB w base v E)
    (e : Elem) (B : Nat) (hx : a.eval x = .slice (some ⟨B, 0, none⟩) 1 1) (h0 : w.cell? ⟨B, 0, none⟩ = some (.slice e.a e.r.length e.c)) (h1 : w.cell? ⟨B, 1, none⟩ = some (.int .i64 e.n))
    (hlen : (E.length + 1) * 32 ≤ 140737488355328) (hbase : base ≤ w.heap.size)
    (h : ∀ v' w', OwnB w' base v' (E ++ [e]) → KeptT 46 base w w' → wpList Try.prog ops Q rest (a.put o.dst v') w') : wpList Try.prog ops Q (o :: rest) a w := by
  obtain ⟨i0, hi, hz0, hz1, hz2⟩ := info_parts info36
  refine wpList_append_own w hgd s x 25 ho base 46 i0 (.agg #[.slice none 0 0, .int .i64 0]) 2 32 Try.underlying25 hi hz0 hz1 hz2 rfl (by decide) v E.length (cellsE E) hs hown.out ⟨B, 0, none⟩ 1 1 [.slice e.a e.r.length e.c, .int .i64 e.n] hx rfl ?_ ?_ (by unfold maxLen; omega) hlen hbase ?_
  · intro j u hj
    match j, hj with
    | 0, hj => simp at hj; subst hj; rw [WideShapes.add_plain]; exact h0
    | 1, hj => simp at hj; subst hj; rw [WideShapes.add_plain]; exact h1
    | j + 2, hj => simp at hj
  · intro u hu; simp at hu; rcases hu with rfl | rfl <;> rfl
  · intro v' w' hown' hgrow _
    refine h v' w' ?_ (keptT_grown hown.out hbase hgrow)
    refine ⟨?_⟩
    rw [cellsE_snoc, List.length_append]
    exact hown'
/-- The same at a step of a region that draws its order. -/
theorem step_bag1 {w : World} {ops : Array Oper} {o : Oper} {a : Act} {K : Act → World → Prop} {Q : Exit → Act → World → Prop} {X : Prop} (hgd : o.guard = none) (s x : Operand)
    (ho : o.op = .call { callee := .builtin .append, args := #[s, x], argTypes := #[25, 25] })
    {base : Nat} {v : Value} {E : List Elem} (hs : a.eval s = v) (hown : OwnB w base v E)
    (e : Elem) (B : Nat) (hx : a.eval x = .slice (some ⟨B, 0, none⟩) 1 1) (h0 : w.cell? ⟨B, 0, none⟩ = some (.slice e.a e.r.length e.c)) (h1 : w.cell? ⟨B, 1, none⟩ = some (.int .i64 e.n))
    (hlen : (E.length + 1) * 32 ≤ 140737488355328) (hbase : base ≤ w.heap.size)
    (h : ∀ v' w', OwnB w' base v' (E ++ [e]) → KeptT 46 base w w' → K (a.put o.dst v') w') :
    if Region.wanted o (yielded ops a.tmps) = true then Oper.wp Try.prog o a w K Q else X := by
  have hw : Region.wanted o (yielded ops a.tmps) = true := by simp [Region.wanted, hgd]
  rw [if_pos hw]
  obtain ⟨i0, hi, hz0, hz1, hz2⟩ := info_parts info36
  refine wp_append_own w s x 25 ho base 46 i0 (.agg #[.slice none 0 0, .int .i64 0]) 2 32 Try.underlying25 hi hz0 hz1 hz2 rfl (by decide) v E.length (cellsE E) hs hown.out ⟨B, 0, none⟩ 1 1 [.slice e.a e.r.length e.c, .int .i64 e.n] hx rfl ?_ ?_ (by unfold maxLen; omega) hlen hbase ?_
  · intro j u hj
    match j, hj with
    | 0, hj => simp at hj; subst hj; rw [WideShapes.add_plain]; exact h0
    | 1, hj => simp at hj; subst hj; rw [WideShapes.add_plain]; exact h1
    | j + 2, hj => simp at hj
  · intro u hu; simp at hu; rcases hu with rfl | rfl <;> rfl
  · intro v' w' hown' hgrow _
    refine h v' w' ⟨?_⟩ (keptT_grown hown.out hbase hgrow)
    rw [cellsE_snoc, List.length_append]
    exact hown'
theorem elem_new (w : World) (u v : Value) (t : TypeId) : (w.alloc (Obj.cells #[u, v] t)).cell? ⟨w.heap.size, 0, none⟩ = some u ∧ (w.alloc (Obj.cells #[u, v] t)).cell? ⟨w.heap.size, 1, none⟩ = some v := ⟨by go_cell, by go_cell⟩

set_option maxHeartbeats 4000000 in
set_option maxRecDepth 1000000 in
theorem refJoined_any (a1 a2 : Option Addr) (c1 c2 : Nat) (E1 E2 : List Elem) (w : World) (h1 : ElemsAt w a1 E1) (h2 : ElemsAt w a2 E2) (hl : E1.length + E2.length ≤ 1000000)
    (hs : ∀ x ∈ E1, ∀ y ∈ E2, -4611686018427387904 ≤ x.n + y.n ∧ x.n + y.n ≤ 4611686018427387904) :
    Calls Try.prog 45 #[.slice a1 E1.length c1, .slice a2 E2.length c2] w fun e w' => (∃ a c E, e = .returned (.slice a E.length c) ∧ E.length ≤ c ∧ ElemsAt w' a E ∧ E.map pr = joinB (E1.map pr) (E2.map pr)) ∧ Below w.heap.size w w' := by
  have A1 := hid0 h1
  have A2 := hid0 h2
  have HS := hid0 hs
  clear h1 h2 hs
  go_enter Try.func45, Try.ntmps45
  go_wp2
  go_loopw [5, 6, 7] (fun ov iv kv wr => ∃ (i k : Nat) (Eo : List Elem), iv = .int .i64 i ∧ kv = .int .i64 k ∧ OwnB wr w.heap.size ov Eo ∧ Hid (RowsIn w Eo) ∧ Hid (JoinTo E1 E2 Eo i k) ∧ Below w.heap.size w wr)
    (fun _ iv kv _ => (E1.length - (intOf iv).toNat) + (E2.length - (intOf kv).toNat))
  case atStart => exact ⟨0, 0, [], rfl, rfl, OwnB.nil _ _, hid0 (fun e he => absurd he (by simp)), hid0 (join_start E1 E2), Below.refl _ _⟩
  case round =>
    obtain ⟨i, k, Eo, rfl, rfl, hown, hR, hJ, hB⟩ := hrel
    have hsz := hB.size
    have hil := hJ.out.2.2.1
    have hkl := hJ.out.2.2.2
    have hol := hJ.out.2.1
    by_cases hi : i < E1.length
    · obtain ⟨b1, o1, rfl, hc1⟩ := (A1.out.1.later hB) (by intro e; rw [e] at hi; exact absurd hi (by simp))
      obtain ⟨q0, q1⟩ := hc1 i hi
      clear hc1
      by_cases hk : k < E2.length
      · obtain ⟨b2, o2, rfl, hc2⟩ := (A2.out.1.later hB) (by intro e; rw [e] at hk; exact absurd hk (by simp))
        obtain ⟨p0, p1⟩ := hc2 k hk
        clear hc2
        have hie : ¬ (i : Int) = E1.length := by omega
        have r1 := A1.out.2 _ (List.getElem_mem hi)
        have r2 := A2.out.2 _ (List.getElem_mem hk)
        obtain ⟨cv, hcv⟩ : ∃ cv, rowsV E1[i].r E2[k].r = cv := ⟨_, rfl⟩
        have C17 : ∀ W, Below w.heap.size w W → Calls Try.prog 32 #[.slice E1[i].a E1[i].r.length E1[i].c, .slice E2[k].a E2[k].r.length E2[k].c] W fun e w' => e = .returned (.int .i64 cv) ∧ Below W.heap.size W w' := fun W hb => by
          have h := refRows_any E1[i].a E2[k].a E1[i].c E2[k].c E1[i].r E2[k].r W (r1.1.later hb) (r2.1.later hb) (by have := r1.2; unfold rowOK at this; unfold maxLen; omega)
          rwa [hcv] at h
        have HR := hid0 (And.intro r1 r2)
        have HC := hid0 hcv
        clear r1 r2 hcv
        have hlb1 : b1 < w.heap.size := by
          obtain ⟨b, o, e, hc⟩ := A1.out.1 (by intro e; rw [e] at hi; exact absurd hi (by simp))
          obtain ⟨rfl, rfl⟩ : b1 = b ∧ o1 = o := by simpa using e
          exact World.block_lt_of_cell? _ _ (hc i hi).1
        have hlb2 : b2 < w.heap.size := by
          obtain ⟨b, o, e, hc⟩ := A2.out.1 (by intro e; rw [e] at hk; exact absurd hk (by simp))
          obtain ⟨rfl, rfl⟩ : b2 = b ∧ o2 = o := by simpa using e
          exact World.block_lt_of_cell? _ _ (hc k hk).1
        by_cases hneg : cv < 0
        · go_wp2_with fail
          go_region_held3 (fun w' => w'.cell? ⟨b1, o1 + i * 2, none⟩ = some (.slice E1[i].a E1[i].r.length E1[i].c) ∧ w'.cell? ⟨b1, o1 + i * 2 + 1, none⟩ = some (.int .i64 E1[i].n) ∧ w'.cell? ⟨b2, o2 + k * 2, none⟩ = some (.slice E2[k].a E2[k].r.length E2[k].c) ∧ w'.cell? ⟨b2, o2 + k * 2 + 1, none⟩ = some (.int .i64 E2[k].n) ∧ OwnB w' w.heap.size u5 Eo ∧ Below w.heap.size w w')
            ((go_split_ands; (try dsimp only); (repeat' apply And.intro); all_goals (first
              | assumption
              | exact cell_later hbn ‹_›
              | exact OwnB.kept ‹_› hbn
              | exact below_through hbn (Below.size ‹Below w.heap.size w _›) ‹_›
              | exact Below.drew hB
              | exact hown.drew
              | go_keep)))
            (first
              | (go_at_call 32; (try go_split_ands); refine (C17 _ (by assumption)).mono ?_; rintro e wn ⟨rfl, hbn⟩))
          obtain ⟨f0, f1, g0, g1, hown0, hB0⟩ := ‹wn.cell? ⟨b1, o1 + i * 2, none⟩ = some (.slice E1[i].a E1[i].r.length E1[i].c) ∧ _›
          clear q0 q1 p0 p1 hown hB hbn C17
          have hsz0 := hB0.size
          have ho1 := fun o => hown0.alloc o
          go_wp2_with (at_builtin; go_must (refine wp_bag1 rfl _ _ rfl rfl (ho1 _) E1[i] wn.heap.size rfl (elem_new _ _ _ _).1 (elem_new _ _ _ _).2 ?hl ?hb ?_))
          case hl => omega
          case hb => simp; omega
          intro v1 w1 hown1 hK1
          have hB1 := (Below.alloc hB0 hsz0 _).trans hK1.below
          clear hown0 ho1 hK1 f0 f1 g0 g1
          go_wp2
          exact ⟨⟨i + 1, k, Eo ++ [E1[i]], by go_num, rfl, hown1, hid0 (rowsIn_snoc hR.out HR.out.1), hid0 (join_less hJ.out hi hk (by rw [HC.out]; exact hneg)), hB1⟩, by simp [intOf]; omega⟩
        by_cases hpos : 0 < cv
        · go_wp2_with fail
          go_region_held3 (fun w' => w'.cell? ⟨b1, o1 + i * 2, none⟩ = some (.slice E1[i].a E1[i].r.length E1[i].c) ∧ w'.cell? ⟨b1, o1 + i * 2 + 1, none⟩ = some (.int .i64 E1[i].n) ∧ w'.cell? ⟨b2, o2 + k * 2, none⟩ = some (.slice E2[k].a E2[k].r.length E2[k].c) ∧ w'.cell? ⟨b2, o2 + k * 2 + 1, none⟩ = some (.int .i64 E2[k].n) ∧ OwnB w' w.heap.size u5 Eo ∧ Below w.heap.size w w')
            ((go_split_ands; (try dsimp only); (repeat' apply And.intro); all_goals (first
              | assumption
              | exact cell_later hbn ‹_›
              | exact OwnB.kept ‹_› hbn
              | exact below_through hbn (Below.size ‹Below w.heap.size w _›) ‹_›
              | exact Below.drew hB
              | exact hown.drew
              | go_keep)))
            (first
              | (go_at_call 32; (try go_split_ands); refine (C17 _ (by assumption)).mono ?_; rintro e wn ⟨rfl, hbn⟩))
          obtain ⟨f0, f1, g0, g1, hown0, hB0⟩ := ‹wn.cell? ⟨b1, o1 + i * 2, none⟩ = some (.slice E1[i].a E1[i].r.length E1[i].c) ∧ _›
          clear q0 q1 p0 p1 hown hB hbn C17
          have hsz0 := hB0.size
          have ho1 := fun o => hown0.alloc o
          go_wp2_with (at_builtin; go_must (refine wp_bag1 rfl _ _ rfl rfl (ho1 _) E2[k] wn.heap.size rfl (elem_new _ _ _ _).1 (elem_new _ _ _ _).2 ?hl ?hb ?_))
          case hl => omega
          case hb => simp; omega
          intro v1 w1 hown1 hK1
          have hB1 := (Below.alloc hB0 hsz0 _).trans hK1.below
          clear hown0 ho1 hK1 f0 f1 g0 g1
          go_wp2
          exact ⟨⟨i, k + 1, Eo ++ [E2[k]], rfl, by go_num, hown1, hid0 (rowsIn_snoc hR.out HR.out.2), hid0 (join_more hJ.out hi hk (by rw [HC.out]; exact hpos)), hB1⟩, by simp [intOf]; omega⟩
        obtain rfl : cv = 0 := by omega
        clear hneg hpos
        obtain ⟨hs1, hs2⟩ := HS.out _ (List.getElem_mem hi) _ (List.getElem_mem hk)
        have hw0 : IntKind.i64.wrap (E1[i].n + E2[k].n) = E1[i].n + E2[k].n := IntWalk.i64_in _ (by omega)
        by_cases h0 : E1[i].n + E2[k].n = 0
        · go_wp2_with fail
          go_region_held3 (fun w' => w'.cell? ⟨b1, o1 + i * 2, none⟩ = some (.slice E1[i].a E1[i].r.length E1[i].c) ∧ w'.cell? ⟨b1, o1 + i * 2 + 1, none⟩ = some (.int .i64 E1[i].n) ∧ w'.cell? ⟨b2, o2 + k * 2, none⟩ = some (.slice E2[k].a E2[k].r.length E2[k].c) ∧ w'.cell? ⟨b2, o2 + k * 2 + 1, none⟩ = some (.int .i64 E2[k].n) ∧ OwnB w' w.heap.size u5 Eo ∧ Below w.heap.size w w')
            ((go_split_ands; (try dsimp only); (repeat' apply And.intro); all_goals (first
              | assumption
              | exact cell_later hbn ‹_›
              | exact OwnB.kept ‹_› hbn
              | exact below_through hbn (Below.size ‹Below w.heap.size w _›) ‹_›
              | exact Below.drew hB
              | exact hown.drew
              | go_keep)))
            (first
              | (go_at_call 32; (try go_split_ands); refine (C17 _ (by assumption)).mono ?_; rintro e wn ⟨rfl, hbn⟩))
          obtain ⟨f0, f1, g0, g1, hown0, hB0⟩ := ‹wn.cell? ⟨b1, o1 + i * 2, none⟩ = some (.slice E1[i].a E1[i].r.length E1[i].c) ∧ _›
          clear q0 q1 p0 p1 hown hB hbn C17
          have hsz0 := hB0.size
          have ho1 := fun o => hown0.alloc o
          go_wp2_with fail
          go_region
          go_wp2
          exact ⟨⟨i + 1, k + 1, Eo, by go_num, by go_num, hown0.drew, hR, hid0 (join_none hJ.out hi hk HC.out h0), hB0.drew⟩, by simp [intOf]; omega⟩
        · go_wp2_with fail
          go_region_held3 (fun w' => w'.cell? ⟨b1, o1 + i * 2, none⟩ = some (.slice E1[i].a E1[i].r.length E1[i].c) ∧ w'.cell? ⟨b1, o1 + i * 2 + 1, none⟩ = some (.int .i64 E1[i].n) ∧ w'.cell? ⟨b2, o2 + k * 2, none⟩ = some (.slice E2[k].a E2[k].r.length E2[k].c) ∧ w'.cell? ⟨b2, o2 + k * 2 + 1, none⟩ = some (.int .i64 E2[k].n) ∧ OwnB w' w.heap.size u5 Eo ∧ Below w.heap.size w w')
            ((go_split_ands; (try dsimp only); (repeat' apply And.intro); all_goals (first
              | assumption
              | exact cell_later hbn ‹_›
              | exact OwnB.kept ‹_› hbn
              | exact below_through hbn (Below.size ‹Below w.heap.size w _›) ‹_›
              | exact Below.drew hB
              | exact hown.drew
              | go_keep)))
            (first
              | (go_at_call 32; (try go_split_ands); refine (C17 _ (by assumption)).mono ?_; rintro e wn ⟨rfl, hbn⟩))
          obtain ⟨f0, f1, g0, g1, hown0, hB0⟩ := ‹wn.cell? ⟨b1, o1 + i * 2, none⟩ = some (.slice E1[i].a E1[i].r.length E1[i].c) ∧ _›
          clear q0 q1 p0 p1 hown hB hbn C17
          have hsz0 := hB0.size
          have ho1 := fun o => hown0.alloc o
          go_wp2_with fail
          go_region
          go_wp2_with fail
          have hown2 := hown0.drew
          have hB2 := hB0.drew
          have f0' : wn.drew.cell? ⟨b1, o1 + i * 2, none⟩ = some (.slice E1[i].a E1[i].r.length E1[i].c) := f0
          have f1' : wn.drew.cell? ⟨b1, o1 + i * 2 + 1, none⟩ = some (.int .i64 E1[i].n) := f1
          have g1' : wn.drew.cell? ⟨b2, o2 + k * 2 + 1, none⟩ = some (.int .i64 E2[k].n) := g1
          clear hown0 hB0 ho1 f0 f1 g0 g1
          generalize wn.drew = W2 at f0' f1' g1' hown2 hB2 ⊢
          have ho2 := fun o => (hown2.drew).alloc o
          have hz2 := hB2.size
          go_region_held_law (fun w' => w'.cell? ⟨b1, o1 + i * 2, none⟩ = some (.slice E1[i].a E1[i].r.length E1[i].c) ∧ w'.cell? ⟨b1, o1 + i * 2 + 1, none⟩ = some (.int .i64 E1[i].n) ∧ w'.cell? ⟨b2, o2 + k * 2 + 1, none⟩ = some (.int .i64 E2[k].n))
            (first
              | go_keep
              | (go_split_ands; (try dsimp only); (repeat' apply And.intro); all_goals (first
                | assumption
                | exact (hK1.below.cell (p := ⟨b1, _, none⟩) hlb1).trans ‹_›
                | exact (hK1.below.cell (p := ⟨b2, _, none⟩) hlb2).trans ‹_›
                | go_keep)))
            ((refine step_bag1 (by rfl) _ _ (by rfl) (by rfl) (ho2 _) ⟨E1[i].a, E1[i].c, E1[i].r, E1[i].n + E2[k].n⟩ W2.heap.size (by rfl) (elem_new _ _ _ _).1 (elem_new _ _ _ _).2 (by omega) (by simp; omega) ?_; intro v1 w1 hown1 hK1))
          have hB1 : Below w.heap.size w w1 := (Below.drew (Below.alloc hB2 hz2 _)).trans hK1.below
          clear hown2 hB2 ho2 hK1 f0' f1' g1'
          go_wp2
          exact ⟨⟨i + 1, k + 1, Eo ++ [⟨E1[i].a, E1[i].c, E1[i].r, E1[i].n + E2[k].n⟩], by go_num, by go_num, hown1, hid0 (rowsIn_snoc hR.out HR.out.1), hid0 (join_both hJ.out hi hk HC.out h0), hB1⟩, by simp [intOf]; omega⟩
      · have hke : (k : Int) = E2.length := by omega
        have hie : ¬ (i : Int) = E1.length := by omega
        have ho1 := fun o => hown.alloc o
        go_wp2_with (at_builtin; go_loud (refine wp_bag1 rfl _ _ rfl rfl (ho1 _) E1[i] wr.heap.size rfl (elem_new _ _ _ _).1 (elem_new _ _ _ _).2 ?hl ?hb ?_))
        case hl => omega
        case hb => simp; omega
        intro v1 w1 hown1 hK1
        have hB1 := (Below.alloc hB hsz _).trans hK1.below
        clear hown ho1 hK1 q0 q1
        go_wp2
        exact ⟨⟨i + 1, k, Eo ++ [E1[i]], by go_num, congrArg _ (by omega), hown1, hid0 (rowsIn_snoc hR.out (A1.out.2 _ (List.getElem_mem hi))), hid0 (join_left hJ.out hi hk), hB1⟩, by simp [intOf]; omega⟩
    · by_cases hk : k < E2.length
      · obtain ⟨b2, o2, rfl, hc2⟩ := (A2.out.1.later hB) (by intro e; rw [e] at hk; exact absurd hk (by simp))
        obtain ⟨p0, p1⟩ := hc2 k hk
        clear hc2
        have hie : (i : Int) = E1.length := by omega
        have ho1 := fun o => hown.alloc o
        go_wp2_with (at_builtin; go_must (refine wp_bag1 rfl _ _ rfl rfl (ho1 _) E2[k] wr.heap.size rfl (elem_new _ _ _ _).1 (elem_new _ _ _ _).2 ?hl ?hb ?_))
        case hl => omega
        case hb => simp; omega
        intro v1 w1 hown1 hK1
        have hB1 := (Below.alloc hB hsz _).trans hK1.below
        clear hown ho1 hK1 p0 p1
        go_wp2
        exact ⟨⟨i, k + 1, Eo ++ [E2[k]], congrArg _ (by omega), by go_num, hown1, hid0 (rowsIn_snoc hR.out (A2.out.2 _ (List.getElem_mem hk))), hid0 (join_right hJ.out hi hk), hB1⟩, by simp [intOf]; omega⟩
      · obtain ⟨a, c, rfl, hcap, _, hcl⟩ := elems_owned hown.out
        have HC := hid0 hcl
        clear hown hcl
        have hie : ¬ (i : Int) < E1.length := by omega
        have hke : ¬ (k : Int) < E2.length := by omega
        go_wp2
        go_ret
        exact ⟨⟨a, c, Eo, rfl, hcap, ⟨HC.out, hR.out.later hB⟩, join_end hJ.out hi hk⟩, hB⟩
end Go.Proofs.Ytadidikegfiedaa

/- The reference of layer 4: a row in new memory: a contract of the call, in whatever memory. Conditions: the row's cells are known. -/
namespace Go.Proofs.Ytadidikegfiedaa
open Go.RowKit

theorem run_append_none {P : Program} (w : World) (t ty e : TypeId) (i : TypeInfo) (ht : P.underlying t = some (.slice e)) (hi : P.info? e = some i) (b : Option Addr) (n c c' : Nat) (hn : n ≤ c) :
    (Builtin.append_ #[t, t] ty #[.slice b n c, .slice none 0 c']).run P w = .ok (.slice b n c) w := by
  cases b <;> simp [Builtin.append_, run_underlying ht, sizeOf, typeInfo, hi, Builtin.lenOf, Builtin.firstCells, storeCells, hn]

theorem info41 : (Try.prog.info? 62).map (fun i => (i.zero, i.size, i.bytes)) = some (some (.agg #[.int .i64 0, .int .i64 0, .string ⟨#[]⟩]), 3, 32) := by kernel_rfl

theorem rowCells_one (r : List Val) : ∀ u ∈ rowCells r, u.oneCell' = true := by
  intro u hu
  obtain ⟨v, _, hu⟩ := List.mem_flatMap.1 hu
  simp at hu
  rcases hu with rfl | rfl | rfl <;> rfl
theorem rowCells_of {w : World} {b off : Nat} {r : List Val} (h : RowAt w (some ⟨b, off, none⟩) r) : ∀ j u, (rowCells r)[j]? = some u → w.cell? ((⟨b, off, none⟩ : Addr).add j) = some u := by
  intro j u hj
  have hlt : j < r.length * 3 := by
    have := (List.getElem?_eq_some_iff.1 hj).1
    rwa [rowCells_len] at this
  have hne : r ≠ [] := fun e => by subst e; simp at hlt
  obtain ⟨b', off', e, hc⟩ := h hne
  obtain ⟨rfl, rfl⟩ : b = b' ∧ off = off' := by simpa using e
  have hi : j / 3 < r.length := by omega
  obtain ⟨c0, c1, c2⟩ := hc (j / 3) hi
  obtain ⟨r0, r1, r2⟩ := rowCells_at r (j / 3) hi
  rw [WideShapes.add_plain]
  rcases (by omega : j % 3 = 0 ∨ j % 3 = 1 ∨ j % 3 = 2) with e | e | e
  · rw [show j = j / 3 * 3 by omega] at hj ⊢
    rw [r0] at hj; rw [← hj]; simpa using c0
  · rw [show j = j / 3 * 3 + 1 by omega] at hj ⊢
    have hd : (j / 3 * 3 + 1) / 3 = j / 3 := by omega
    rw [r1] at hj; rw [← hj, ← Nat.add_assoc]; exact c1
  · rw [show j = j / 3 * 3 + 2 by omega] at hj ⊢
    rw [r2] at hj; rw [← hj, ← Nat.add_assoc]; exact c2

set_option maxHeartbeats 1000000 in
theorem refCopied_any (a : Option Addr) (c : Nat) (r : List Val) (w : World) (h : RowAt w a r) (hr : rowOK r) :
    Calls Try.prog 44 #[.slice a r.length c] w fun e w' => (∃ a' c', e = .returned (.slice a' r.length c') ∧ RowAt w' a' r ∧ (r ≠ [] → ∃ b cs fz, a' = some ⟨b, 0, none⟩ ∧ w'.heap[b]? = some (Obj.cells cs 62 fz))) ∧ Below w.heap.size w w' := by
  obtain ⟨i0, hi, hz0, hz1, hz2⟩ := info_parts info41
  unfold rowOK at hr
  have hown : (w.alloc (Obj.cells #[] 62)).ownsRow w.heap.size 62 3 (.slice (some ⟨w.heap.size, 0, none⟩) 0 0) 0 [] := World.ownsRow_made w #[] 0 (Nat.le_refl _) (by unfold maxLen; omega) rfl
  have hB0 : Below w.heap.size w (w.alloc (Obj.cells #[] 62)) := (Below.refl _ _).alloc (Nat.le_refl _) _
  by_cases hne : r = []
  · subst hne
    have fin : ∀ (w' : World) (a' : Option Addr) (c' : Nat), Below w.heap.size w w' → (∃ a'' c'', Ending.returned (.slice a' 0 c') = .returned (.slice a'' ([] : List Val).length c'') ∧ RowAt w' a'' [] ∧ (([] : List Val) ≠ [] → ∃ b cs fz, a'' = some ⟨b, 0, none⟩ ∧ w'.heap[b]? = some (Obj.cells cs 62 fz))) ∧ Below w.heap.size w w' := fun w' a' c' hb => ⟨⟨a', c', rfl, fun h => absurd rfl h, fun h => absurd rfl h⟩, hb⟩
    cases a with
    | none =>
      have hap := fun W ty => run_append_none (P := Try.prog) W 44 ty 62 i0 Try.underlying44 hi (some ⟨w.heap.size, 0, none⟩) 0 0 c (Nat.le_refl _)
      go_enter Try.func44, Try.ntmps44
      go_wp2
      go_ret
      exact fin _ _ 0 hB0
    | some ad =>
      go_enter Try.func44, Try.ntmps44
      go_wp2_with (at_builtin; go_must (refine wpList_append_own _ rfl _ _ 44 rfl w.heap.size 62 i0 (.agg #[.int .i64 0, .int .i64 0, .string ⟨#[]⟩]) 3 32 Try.underlying44 hi hz0 hz1 hz2 rfl (by decide) _ _ _ rfl hown ad 0 c [] rfl rfl (fun j u h => by simp at h) (fun u h => by simp at h) ?c3 ?c4 ?c5 ?_))
      case c3 => unfold maxLen; omega
      case c4 => omega
      case c5 => simp
      intro v' w1 hown' hgrow _
      have hB1 : Below w.heap.size w w1 := hB0.grown hgrow (by simp) (fun k hk => (hown.lt k hk).1)
      obtain ⟨a', c', rfl, _, _, _⟩ := row_owned (vs := []) hown'
      go_wp2
      go_ret
      exact fin _ a' c' hB1
  · obtain ⟨b, off, rfl, hc⟩ := h hne
    have h' : RowAt (w.alloc (Obj.cells #[] 62)) (some ⟨b, off, none⟩) r := RowAt.later (fun _ => ⟨b, off, rfl, hc⟩) ((Below.refl _ _).alloc (Nat.le_refl _) _)
    have HN := hid0 (rowCells_of h')
    clear hc h h'
    go_enter Try.func44, Try.ntmps44
    go_wp2_with (at_builtin; go_loud (refine wpList_append_own _ rfl _ _ 44 rfl w.heap.size 62 i0 (.agg #[.int .i64 0, .int .i64 0, .string ⟨#[]⟩]) 3 32 Try.underlying44 hi hz0 hz1 hz2 rfl (by decide) _ _ _ rfl hown ⟨b, off, none⟩ r.length c (rowCells r) rfl (rowCells_len r) HN.out (rowCells_one r) ?c3 ?c4 ?c5 ?_))
    case c3 => unfold maxLen; omega
    case c4 => omega
    case c5 => simp
    intro v' w1 hown' hgrow _
    have hB1 : Below w.heap.size w w1 := hB0.grown hgrow (by simp) (fun k hk => (hown.lt k hk).1)
    obtain ⟨a', c', rfl, _, _, hrow⟩ := row_owned hown'
    have hbl : ∃ b cs fz, a' = some ⟨b, 0, none⟩ ∧ w1.heap[b]? = some (Obj.cells cs 62 fz) := by
      rcases hown'.2 with ⟨e, hl⟩ | ⟨g, cap', cur, e, hg, hh, _⟩
      · exact absurd (List.length_eq_zero_iff.1 hl) hne
      · obtain ⟨rfl, -, -⟩ := Value.slice.inj e
        exact ⟨g, cur, (0, 0), rfl, hh⟩
    clear hown' hgrow hown
    go_wp2
    go_ret
    exact ⟨⟨a', c', rfl, hrow, fun _ => hbl⟩, hB1⟩
end Go.Proofs.Ytadidikegfiedaa

/- The reference of layer 4: the bag of rows, each so often: a contract of the call, in whatever memory. Conditions: the rows' cells are known; the numbers are so small that no sum passes the ends. -/
namespace Go.Proofs.Ytadidikegfiedaa
open Go.RowKit

/-- What Of must answer. -/
def OfAns (w : World) (L : List Pair) (e : Ending) (w' : World) : Prop :=
  (∃ a c E, e = .returned (.slice a E.length c) ∧ E.length ≤ c ∧ ElemsAt w' a E ∧ E.map pr = ofB L) ∧ Below w.heap.size w w'
/-- What a call of Of answers, whenever it is made behind w. (A structure: a contract at other arguments is refused at once.) -/
structure Half (w : World) (a : Option Addr) (k c : Nat) (L : List Pair) : Prop where
  out : ∀ W, Below w.heap.size w W → Calls Try.prog 30 #[.slice a k c] W (OfAns W L)
theorem absS_take (L : List Pair) (k : Nat) : absS (L.take k) + absS (L.drop k) = absS L := by rw [← absS_append, List.take_append_drop]
theorem sum_fits {A B : List Elem} {LA LB : List Pair} (hA : A.map pr = ofB LA) (hB : B.map pr = ofB LB) (h : absS LA + absS LB ≤ 4611686018427387904) : ∀ x ∈ A, ∀ y ∈ B, -4611686018427387904 ≤ x.n + y.n ∧ x.n + y.n ≤ 4611686018427387904 := by
  intro x hx y hy
  have h1 := absS_mem (L := A.map pr) (List.mem_map_of_mem (f := pr) hx)
  have h2 := absS_mem (L := B.map pr) (List.mem_map_of_mem (f := pr) hy)
  have h3 := absS_ofB LA
  have h4 := absS_ofB LB
  rw [hA] at h1
  rw [hB] at h2
  have e1 : (pr x).2 = x.n := rfl
  have e2 : (pr y).2 = y.n := rfl
  rw [e1] at h1
  rw [e2] at h2
  omega
theorem len_of {A : List Elem} {LA : List Pair} (hA : A.map pr = ofB LA) : A.length ≤ LA.length := by
  have h1 := congrArg List.length hA
  rw [List.length_map] at h1
  have := len_ofB LA
  omega

set_option maxRecDepth 1000000 in
theorem elems_head (a : Option Addr) (E : List Elem) (c k : Nat) (hk : k ≤ E.length) (hc : E.length ≤ c) :
    (∀ W : World, (Instr.slice 25 (.slice a E.length c) none (some (.int .i64 k)) none).run Try.prog W = .ok (.slice a k c) W) := by
  intro W
  rw [run_slice_h W 25 a E.length c Try.underlying25 .i64 k (by omega) (by omega)]
  simp [go_sem, Result.andThen, sliced]
set_option maxRecDepth 1000000 in
theorem elems_tail (a : Option Addr) (E : List Elem) (c k m : Nat) (hk : k ≤ E.length) (hc : E.length ≤ c) (hm : E.length - k = m) :
    ∃ a1 c1, m ≤ c1 ∧ (∀ W : World, (Instr.slice 25 (.slice a E.length c) (some (.int .i64 k)) none none).run Try.prog W = .ok (.slice a1 m c1) W) ∧ ∀ W, ElemsAt W a E → ElemsAt W a1 (E.drop k) := by
  refine ⟨if c = k then a else a.map (·.add (k * 2)), c - k, by omega, fun W => ?_, fun W h => ?_⟩
  · rw [run_slice_l W 25 a E.length c Try.underlying25 .i64 k (by omega) (by omega)]
    simp [go_sem, Result.andThen, sliced, hm]
  · split
    · rw [List.drop_eq_nil_of_le (by omega)]; exact ElemsAt.nil _ _
    · by_cases hE : E = []
      · subst hE; rw [List.drop_nil]; exact ElemsAt.nil _ _
      · obtain ⟨b, off, rfl, hcl⟩ := h.1 hE
        simp only [Option.map_some, WideShapes.add_plain]
        exact h.drop k

set_option maxHeartbeats 4000000 in
set_option maxRecDepth 1000000 in
theorem refOf_all : ∀ (n : Nat) (a : Option Addr) (c : Nat) (E : List Elem) (w : World), E.length ≤ n → ElemsAt w a E → E.length ≤ c → E.length ≤ 1000000 → absS (E.map pr) ≤ 4611686018427387904 →
    Calls Try.prog 30 #[.slice a E.length c] w (OfAns w (E.map pr)) := by
  intro n
  induction n with
  | zero =>
    intro a c E w hn h hc hl hs
    obtain rfl : E = [] := List.length_eq_zero_iff.1 (by omega)
    go_enter Try.func30, Try.ntmps30
    go_wp2
    go_ret
    exact ⟨⟨none, 0, [], rfl, Nat.le_refl _, ElemsAt.nil _ _, rfl⟩, Below.refl _ _⟩
  | succ n ih =>
    intro a c E w hn h hc hl hs
    match E, h, hn, hc, hl, hs with
    | [], h, hn, hc, hl, hs =>
      go_enter Try.func30, Try.ntmps30
      go_wp2
      go_ret
      exact ⟨⟨none, 0, [], rfl, Nat.le_refl _, ElemsAt.nil _ _, rfl⟩, Below.refl _ _⟩
    | [e], h, hn, hc, hl, hs =>
      obtain ⟨b, off, rfl, hcl⟩ := h.1 (by simp)
      obtain ⟨q0, q1⟩ := hcl 0 (by simp)
      have hr := hid0 (h.2 e (by simp))
      simp only [Nat.zero_mul, Nat.add_zero, List.getElem_cons_zero] at q0 q1
      clear hcl
      by_cases hz : e.n = 0
      · rw [hz] at q1
        go_enter Try.func30, Try.ntmps30
        go_wp2
        go_ret
        refine ⟨⟨none, 0, [], rfl, Nat.le_refl _, ElemsAt.nil _ _, ?_⟩, Below.refl _ _⟩
        show [] = if e.n = 0 then [] else [pr e]
        rw [if_pos hz]
      · go_enter Try.func30, Try.ntmps30
        go_wp2_with fail
        go_region_held3 (fun w' => w'.cell? ⟨b, off, none⟩ = some (.slice e.a e.r.length e.c) ∧ w'.cell? ⟨b, off + 1, none⟩ = some (.int .i64 e.n) ∧ Below w.heap.size w w')
          ((go_split_ands; (try dsimp only); (repeat' apply And.intro); all_goals (first
            | assumption
            | exact cell_later hbn ‹_›
            | exact below_through hbn (Below.size ‹Below w.heap.size w _›) ‹_›
            | exact Below.drew (Below.refl _ _)
            | exact Below.alloc ‹_› (Below.size ‹Below w.heap.size w _›) _
            | go_keep)))
          (first
            | (go_at_call 44; (try go_split_ands); refine (refCopied_any _ _ _ _ (hr.out.1.later ((‹Below w.heap.size w _›))) hr.out.2).mono ?_; rintro e1 wn ⟨⟨a', c', rfl, hrow, hblk⟩, hbn⟩))
        have HH := ‹_ ∧ _ ∧ Below w.heap.size w (World.alloc _ _)›
        go_wp2
        go_ret
        refine ⟨⟨some ⟨wn.heap.size, 0, none⟩, 1, [⟨a', c', e.r, e.n⟩], rfl, Nat.le_refl _, ⟨fun _ => ⟨wn.heap.size, 0, rfl, fun i hi => ?_⟩, fun x hx => ?_⟩, ?_⟩, HH.2.2⟩
        · obtain rfl : i = 0 := by simp at hi; omega
          exact elem_new _ _ _ _
        · obtain rfl := List.mem_singleton.1 hx
          exact ⟨hrow.later ((Below.refl _ _).alloc (Nat.le_refl _) _), hr.out.2⟩
        · show [(e.r, e.n)] = if e.n = 0 then [] else [pr e]
          rw [if_neg hz]; rfl
    | e1 :: e2 :: E, h, hn, hc, hl, hs =>
      have h2 : 2 ≤ (e1 :: e2 :: E).length := by simp
      generalize e1 :: e2 :: E = F at h hn hc hl hs h2 ⊢
      obtain ⟨b, off, rfl, hcl⟩ := h.1 (fun e => by rw [e] at h2; simp at h2)
      clear hcl
      obtain ⟨k, hk⟩ : ∃ k, F.length / 2 = k := ⟨_, rfl⟩
      obtain ⟨m, hm⟩ : ∃ m, F.length - k = m := ⟨_, rfl⟩
      have hl1 : (F.take k).length = k := by rw [List.length_take]; omega
      have hl2 : (F.drop k).length = m := by rw [List.length_drop]; omega
      have hsum := absS_take (F.map pr) k
      rw [← List.map_take, ← List.map_drop] at hsum
      have n1 := absS_nonneg ((F.take k).map pr)
      have n2 := absS_nonneg ((F.drop k).map pr)
      have HA : Half w (some ⟨b, off, none⟩) k c ((F.take k).map pr) := ⟨fun W hb => by
        have := ih (some ⟨b, off, none⟩) c (F.take k) W (by omega) ((h.later hb).take k) (by omega) (by omega) (by omega)
        rwa [hl1] at this⟩
      have hh1 := elems_head (some ⟨b, off, none⟩) F c k (by omega) hc
      obtain ⟨a1, cm, hcm, hh2, hat⟩ := elems_tail (some ⟨b, off, none⟩) F c k m (by omega) hc hm
      have HD : Half w a1 m cm ((F.drop k).map pr) := ⟨fun W hb => by
        have := ih a1 cm (F.drop k) W (by omega) (hat _ (h.later hb)) (by omega) (by omega) (by omega)
        rwa [hl2] at this⟩
      have HJ := hid0 (joinB_ofB ((F.take k).map pr) ((F.drop k).map pr))
      have HT : Hid (F.map pr = (F.take k).map pr ++ (F.drop k).map pr) := by
        show _ = _
        rw [← List.map_append, List.take_append_drop]
      have HL := hid0 (show absS ((F.take k).map pr) + absS ((F.drop k).map pr) ≤ 4611686018427387904 by omega)
      have HLL := hid0 (show ((F.take k).map pr).length + ((F.drop k).map pr).length ≤ 1000000 by rw [List.length_map, List.length_map]; omega)
      generalize (F.take k).map pr = LA at HA HJ HT HL HLL
      generalize (F.drop k).map pr = LB at HD HJ HT HL HLL
      clear hsum n1 n2 hl1 hl2
      have hq : IntKind.i64.wrap ((F.length : Int).tdiv 2) = (k : Int) := by
        rw [show (F.length : Int).tdiv 2 = ((F.length / 2 : Nat) : Int) from rfl, hk]; exact IntWalk.i64_in _ (by omega)
      have hq0 : (F.length : Int).tdiv 2 = (k : Int) := by rw [← hk]; rfl
      have hwk : IntKind.i64.wrap (k : Int) = (k : Int) := IntWalk.i64_in _ (by omega)
      have hwk2 : wrap64 (k : Int) = (k : Int) := by unfold wrap64; omega
      have i0 : ¬ (F.length : Int) = 0 := by omega
      have i1 : ¬ (F.length : Int) = 1 := by omega
      obtain ⟨len, hlen⟩ : ∃ len, F.length = len := ⟨_, rfl⟩
      rw [hlen] at hq hq0 i0 i1 hh1 hh2 ⊢
      have HLEN := hid0 hlen
      clear hlen hn hs h ih hat hk hm hc hl h2
      go_enter Try.func30, Try.ntmps30
      go_wp2_with fail
      go_region_held3 (fun w' => Below w.heap.size w w')
        ((go_split_ands; (try dsimp only); (repeat' apply And.intro); all_goals (first
          | assumption
          | exact below_through hbn (Below.size ‹Below w.heap.size w _›) ‹_›
          | exact Below.drew (Below.refl _ _)
          | go_keep)))
        (first
          | (go_at_call 30; refine ((by exact HA : Half w _ _ _ _).out _ (by assumption)).mono ?_; rintro ea wa ⟨⟨aa, ca, EA, rfl, hca, hEA, hmA⟩, hbn⟩)
          | (go_at_call 30; refine ((by exact HD : Half w _ _ _ _).out _ (by assumption)).mono ?_; rintro ed wd ⟨⟨ad, cd, ED, rfl, hcd, hED, hmD⟩, hbn⟩)
          | (go_at_call 45; refine (refJoined_any _ _ _ _ EA ED _ (by exact hEA.later hbn) (by exact hED) (by have := len_of hmA; have := len_of hmD; have := HLL.out; omega) (by exact sum_fits hmA hmD HL.out)).mono ?_; rintro ej wj ⟨⟨aj, cj, EJ, rfl, hcj, hEJ, hmJ⟩, hbn⟩))
      have HH := ‹Below w.heap.size w wj›
      clear HA HD hh1 hh2
      go_wp2
      go_ret
      exact ⟨⟨aj, cj, EJ, rfl, hcj, hEJ, by rw [hmJ, hmA, hmD, HJ.out, HT.out]⟩, HH⟩
theorem refOf_any (a : Option Addr) (c : Nat) (E : List Elem) (w : World) (h : ElemsAt w a E) (hc : E.length ≤ c) (hl : E.length ≤ 1000000) (hs : absS (E.map pr) ≤ 4611686018427387904) :
    Calls Try.prog 30 #[.slice a E.length c] w (OfAns w (E.map pr)) := refOf_all E.length a c E w (Nat.le_refl _) h hc hl hs
end Go.Proofs.Ytadidikegfiedaa

/- The reference of layer 4: the bag of rows, each once; the rows of a bag: contracts of the calls, in whatever memory. Conditions: the rows' cells are known; they are not too many. -/
namespace Go.Proofs.Ytadidikegfiedaa
open Go.RowKit

def onceE (e : Line) : Elem := ⟨e.a, e.c, e.r, 1⟩
theorem once_pr (Ls : List Line) : (Ls.map onceE).map pr = onesB (Ls.map (·.r)) := by simp [onesB, onceE, pr, Function.comp_def]
theorem once_in {w : World} {Ls : List Line} (h : LinesIn w Ls) : RowsIn w (Ls.map onceE) := fun e he => by
  obtain ⟨x, hx, rfl⟩ := List.mem_map.1 he
  exact h x hx

/-! ### The rows of a bag -/
theorem info33 : (Try.prog.info? 44).map (fun i => (i.zero, i.size, i.bytes)) = some (some (.slice none 0 0), 1, 24) := by kernel_rfl
/-- A row in memory of its own. -/
structure Copied (w : World) (a : Option Addr) (r : List Val) : Prop where
  row : RowAt w a r
  blk : r ≠ [] → ∃ b cs fz, a = some ⟨b, 0, none⟩ ∧ w.heap[b]? = some (Obj.cells cs 62 fz)
theorem Copied.later {w w' : World} {a : Option Addr} {r : List Val} (h : Copied w a r) (hb : Below w.heap.size w w') : Copied w' a r :=
  ⟨h.row.later hb, fun hn => by
    obtain ⟨b, cs, fz, e, hh⟩ := h.blk hn
    exact ⟨b, cs, fz, e, (hb.block b (Array.getElem?_eq_some_iff.1 hh).1).trans hh⟩⟩
theorem Copied.keptT {w w' : World} {a : Option Addr} {r : List Val} {base : Nat} (h : Copied w a r) (hK : KeptT 44 base w w') : Copied w' a r := by
  by_cases hn : r = []
  · subst hn; exact ⟨fun h => absurd rfl h, fun h => absurd rfl h⟩
  obtain ⟨b, cs, fz, e, hh⟩ := h.blk hn
  have hh' := hK.other b cs fz 62 (by decide) hh
  refine ⟨fun hn => ?_, fun _ => ⟨b, cs, fz, e, hh'⟩⟩
  obtain ⟨b', off, e', hc⟩ := h.row hn
  rw [e] at e'
  obtain ⟨rfl, rfl⟩ : b = b' ∧ 0 = off := by simpa using e'
  have hcell : ∀ o, w'.cell? ⟨b, o, none⟩ = w.cell? ⟨b, o, none⟩ := fun o => World.cell?_of_block (by rw [hh', hh])
  exact ⟨b, 0, e, fun i hi => by rw [hcell, hcell, hcell]; exact hc i hi⟩
def CopiesIn (w : World) (Ls : List Line) : Prop := ∀ e ∈ Ls, Copied w e.a e.r ∧ rowOK e.r
theorem CopiesIn.later {w w' : World} {Ls : List Line} (h : CopiesIn w Ls) (hb : Below w.heap.size w w') : CopiesIn w' Ls := fun e he => ⟨(h e he).1.later hb, (h e he).2⟩
theorem CopiesIn.keptT {w w' : World} {Ls : List Line} {base : Nat} (h : CopiesIn w Ls) (hK : KeptT 44 base w w') : CopiesIn w' Ls := fun e he => ⟨(h e he).1.keptT hK, (h e he).2⟩
theorem copies_snoc {w : World} {Ls : List Line} {e : Line} (h : CopiesIn w Ls) (he : Copied w e.a e.r ∧ rowOK e.r) : CopiesIn w (Ls ++ [e]) := fun x hx => by
  rcases List.mem_append.1 hx with hx | hx
  · exact h x hx
  · obtain rfl := List.mem_singleton.1 hx; exact he
/-- The rows Ls, in a block of its own from base on, or nil. -/
structure OwnL (w : World) (base : Nat) (v : Value) (Ls : List Line) : Prop where
  out : w.ownsRow base 44 1 v Ls.length (cellsL Ls)
theorem OwnL.nil (w : World) (base : Nat) : OwnL w base (.slice none 0 0) [] := ⟨World.ownsRow_nil _ _ _ _⟩
theorem OwnL.alloc {w : World} {base : Nat} {v : Value} {E : List Line} (h : OwnL w base v E) (o : Obj) : OwnL (w.alloc o) base v E := ⟨World.ownsRow.alloc h.out o⟩
theorem OwnL.drew {w : World} {base : Nat} {v : Value} {E : List Line} (h : OwnL w base v E) : OwnL w.drew base v E := ⟨h.out⟩
theorem OwnL.kept {w w' : World} {base : Nat} {v : Value} {E : List Line} (h : OwnL w base v E) (hb : Below w.heap.size w w') : OwnL w' base v E := ⟨own_below h.out hb⟩
theorem line_new (w : World) (u : Value) (t : TypeId) : (w.alloc (Obj.cells #[u] t)).cell? ⟨w.heap.size, 0, none⟩ = some u := by go_cell
theorem rowsB_append : ∀ A B : List Pair, rowsB (A ++ B) = rowsB A ++ rowsB B
  | [], B => rfl
  | x :: A, B => by rw [List.cons_append, rowsB, rowsB_append A B, rowsB, List.append_assoc]
/-- i of the bag's elements, and k of the next one's rows, have been told. -/
def RowsTo (E : List Elem) (Ls : List Line) (i k : Nat) : Prop := ∃ r, Ls.map (·.r) = rowsB ((E.map pr).take i) ++ List.replicate k r ∧ (0 < k → ∃ h : i < E.length, r = E[i].r)
theorem rowsTo_next {E : List Elem} {Ls : List Line} {i k : Nat} (h : RowsTo E Ls i k) (hi : i < E.length) (a : Option Addr) (c : Nat) : RowsTo E (Ls ++ [⟨a, c, E[i].r⟩]) i (k + 1) := by
  obtain ⟨r, h1, h2⟩ := h
  refine ⟨E[i].r, ?_, fun _ => ⟨hi, rfl⟩⟩
  rw [List.map_append, h1, List.replicate_succ', ← List.append_assoc]
  by_cases hk : 0 < k
  · obtain ⟨_, rfl⟩ := h2 hk; rfl
  · obtain rfl : k = 0 := by omega
    rfl
theorem rowsTo_turn {E : List Elem} {Ls : List Line} {i k : Nat} (h : RowsTo E Ls i k) (hi : i < E.length) (hk : (k : Int) ≤ E[i].n ∨ k = 0) (hk' : ¬ (k : Int) < E[i].n) : RowsTo E Ls (i + 1) 0 := by
  obtain ⟨r, h1, h2⟩ := h
  refine ⟨[], ?_, fun h => absurd h (by omega)⟩
  have e : (E.map pr).take (i + 1) = (E.map pr).take i ++ [pr E[i]] := by rw [List.take_succ_eq_append_getElem (by simpa using hi)]; simp
  rw [h1, e, rowsB_append]
  show _ = (rowsB _ ++ (List.replicate (E[i].n).toNat E[i].r ++ [])) ++ []
  rw [List.append_nil, List.append_nil]
  by_cases hk0 : 0 < k
  · obtain ⟨_, rfl⟩ := h2 hk0
    rw [show k = (E[i].n).toNat by omega]
  · rw [show k = 0 by omega, show (E[i].n).toNat = 0 by omega]; rfl
theorem rowsTo_few {E : List Elem} {Ls : List Line} {i k : Nat} (h : RowsTo E Ls i k) (hi : i < E.length) (hk : (k : Int) < E[i].n) : Ls.length < (rowsB (E.map pr)).length := by
  obtain ⟨r, h1, _⟩ := h
  have e := congrArg List.length h1
  rw [List.length_map, List.length_append, List.length_replicate] at e
  have e2 : rowsB (E.map pr) = rowsB ((E.map pr).take i) ++ rowsB ((E.map pr).drop i) := by rw [← rowsB_append, List.take_append_drop]
  have e3 : (E.map pr).drop i = pr E[i] :: (E.map pr).drop (i + 1) := map_drop_cons hi
  rw [e2, e3, List.length_append]
  show _ < _ + (List.replicate (E[i].n).toNat E[i].r ++ rowsB ((E.map pr).drop (i + 1))).length
  rw [List.length_append, List.length_replicate]
  omega
theorem rowsTo_all {E : List Elem} {Ls : List Line} {i : Nat} (h : RowsTo E Ls i 0) (hi : ¬ i < E.length) : Ls.map (·.r) = rowsB (E.map pr) := by
  obtain ⟨r, h1, _⟩ := h
  rw [h1, List.take_of_length_le (by simp; omega)]; simp

/-- What Rows must answer. -/
def RowsAns (w : World) (R : List (List Val)) (e : Ending) (w' : World) : Prop :=
  (∃ a c Ls, e = .returned (.slice a Ls.length c) ∧ Ls.length ≤ c ∧ LinesAt w' a Ls ∧ Ls.map (·.r) = R) ∧ Below w.heap.size w w'

end Go.Proofs.Ytadidikegfiedaa
