/- Several of my texts laid together, each as it was: M1, M5. Conditions: each names its own. -/
import Derived.Test.YtadidikegfiedaaC1
import Derived.Test.YtadidikegfiedaaC2
import Derived.Test.YtadidikegfiedaaB2
import Derived.Laws.AppendOwnNone
import Derived.Test.YtadidikegfiedaaB5
/- The reference's Add and Find of bags: contracts of the calls, in whatever memory. Conditions: the rows' cells are known; they are not too many. -/
namespace Go.Proofs.Ytadidikegfiedaa
open Go.RowKit

/-- Elements that lie somewhere, appended to a list of one's own. -/
theorem wp_appE {w : World} {ops : Array Oper} {rest : List Oper} {o : Oper} {a : Act} {Q : Exit → Act → World → Prop} (hgd : o.guard = none) (s x : Operand)
    (ho : o.op = .call { callee := .builtin .append, args := #[s, x], argTypes := #[25, 25] })
    {base : Nat} {v : Value} {E E2 : List Elem} {a2 : Option Addr} {c2 : Nat} (hs : a.eval s = v) (hx : a.eval x = .slice a2 E2.length c2) (hm : OwnB w base v E) (h2 : ElemsAt w a2 E2) (hlen : (E.length + E2.length) * 32 ≤ 140737488355328) (hbase : base ≤ w.heap.size)
    (h : ∀ v' w', OwnB w' base v' (E ++ E2) → w.grownBy w' v.ownBlock → wpList Try.prog ops Q rest (a.put o.dst v') w') : wpList Try.prog ops Q (o :: rest) a w := by
  obtain ⟨i0, hi, hz0, hz1, hz2⟩ := info_parts info36
  have some_ : ∀ ad, a2 = some ad → (∀ j u, (cellsE E2)[j]? = some u → w.cell? (ad.add j) = some u) → wpList Try.prog ops Q (o :: rest) a w := fun ad e hc => by
    refine wpList_append_own w hgd s x 25 ho base 46 i0 (.agg #[.slice none 0 0, .int .i64 0]) 2 32 Try.underlying25 hi hz0 hz1 hz2 rfl (by decide) v E.length (cellsE E) hs hm.out ad E2.length c2 (cellsE E2) (by rw [hx, e]) (cellsE_len E2) hc (cellsE_one E2) (by unfold maxLen; omega) hlen hbase ?_
    intro v' w' hown' hgrow _
    exact h v' w' ⟨by rw [List.length_append, show cellsE (E ++ E2) = cellsE E ++ cellsE E2 by simp [cellsE]]; exact hown'⟩ hgrow
  cases a2 with
  | some ad => exact some_ ad rfl (cellsE_of h2.1)
  | none =>
    obtain rfl : E2 = [] := by
      by_cases hn : E2 = []
      · exact hn
      · obtain ⟨_, _, e, _⟩ := h2.1 hn; cases e
    refine wpList_plain hgd fun K hK => ?_
    have hr : ∀ ty, (Builtin.append_ #[25, 25] ty #[v, .slice none 0 c2]).run Try.prog w = .ok v w := fun ty => by
      rcases hm.out.2 with ⟨e, _⟩ | ⟨g, cap, cur, e, _, _, hn, _⟩
      · rw [e]; exact run_append_none w _ ty _ i0 Try.underlying25 hi none 0 0 c2 (Nat.le_refl _)
      · rw [e]; exact run_append_none w _ ty _ i0 Try.underlying25 hi _ _ _ c2 hn
    have hx0 : a.eval x = .slice none 0 c2 := hx
    unfold Oper.wp execOp
    simp only [ho, resolve, invoke, builtin, Sem.run_bind, Sem.run_pure, Result.andThen_ok, List.map_toArray, List.map_cons, List.map_nil, hs, hx0, hr]
    exact hK _ _ (h v w (by rw [List.append_nil]; exact hm) ⟨rfl, rfl, rfl, Nat.le_refl _, fun _ _ _ => rfl⟩)
/-- The number of the first element of a list with a row. -/
def findP (L : List Pair) (r : List Val) : Int := match L.find? (fun x => decide (rowsV x.1 r = 0)) with
  | some x => x.2
  | none => 0
end Go.Proofs.Ytadidikegfiedaa

/- The reference's Of, joined, copied and Add of bags, with where the answer lies: contracts of the calls, in whatever memory. Conditions: the rows' cells are known; they are not too many. -/
namespace Go.Proofs.Ytadidikegfiedaa
open Go.RowKit

/-- An element whose row lies in a block of its own kind, and is no longer than its room. -/
def GoodE (w : World) (e : Elem) : Prop := e.r.length ≤ e.c ∧ Copied w e.a e.r
theorem GoodE.later {w w' : World} {e : Elem} (h : GoodE w e) (hb : Below w.heap.size w w') : GoodE w' e := ⟨h.1, h.2.later hb⟩
/-- A list whose block is of the kind of lists of rows. -/
def TagL (w : World) (a : Option Addr) : Prop := ∀ ad, a = some ad → ∃ cs fz, w.heap[ad.block]? = some (Obj.cells cs 46 fz)
theorem TagL.later {w w' : World} {a : Option Addr} (h : TagL w a) (hb : Below w.heap.size w w') : TagL w' a := fun ad e => by
  obtain ⟨cs, fz, hh⟩ := h ad e
  exact ⟨cs, fz, (hb.block _ (Array.getElem?_eq_some_iff.1 hh).1).trans hh⟩
def RowsG (w : World) (E : List Elem) : Prop := RowsIn w E ∧ ∀ e ∈ E, GoodE w e
theorem rowsG_snoc {w : World} {E : List Elem} {e : Elem} (h : RowsG w E) (he : RowAt w e.a e.r ∧ rowOK e.r) (hg : GoodE w e) : RowsG w (E ++ [e]) := ⟨rowsIn_snoc h.1 he, fun x hx => by
  rcases List.mem_append.1 hx with hx | hx
  · exact h.2 x hx
  · obtain rfl := List.mem_singleton.1 hx; exact hg⟩
theorem owned_tag {base : Nat} {w : World} {a : Option Addr} {c : Nat} {E : List Elem} (h : OwnB w base (.slice a E.length c) E) : TagL w a := fun ad e => by
  subst e
  rcases h.out.2 with ⟨e1, _⟩ | ⟨g, cap, cur, e1, _, hh, _⟩
  · exact absurd (Value.slice.inj e1).1 (by simp)
  · obtain rfl : ad = ⟨g, 0, none⟩ := Option.some.inj (Value.slice.inj e1).1
    exact ⟨cur, _, hh⟩
/-- What Of must answer, and where it lies. -/
def OfAns2 (w : World) (L : List Pair) (e : Ending) (w' : World) : Prop :=
  (∃ a c E, e = .returned (.slice a E.length c) ∧ E.length ≤ c ∧ ElemsAt w' a E ∧ E.map pr = ofB L ∧ TagL w' a ∧ ∀ e ∈ E, GoodE w' e) ∧ Below w.heap.size w w'
structure Half2 (w : World) (a : Option Addr) (k c : Nat) (L : List Pair) : Prop where
  out : ∀ W, Below w.heap.size w W → Calls Try.prog 30 #[.slice a k c] W (OfAns2 W L)
set_option maxHeartbeats 1000000 in
theorem refCopied2 (a : Option Addr) (c : Nat) (r : List Val) (w : World) (h : RowAt w a r) (hr : rowOK r) :
    Calls Try.prog 44 #[.slice a r.length c] w fun e w' => (∃ a' c', e = .returned (.slice a' r.length c') ∧ RowAt w' a' r ∧ ∀ n, GoodE w' ⟨a', c', r, n⟩) ∧ Below w.heap.size w w' := by
  obtain ⟨i0, hi, hz0, hz1, hz2⟩ := info_parts info41
  unfold rowOK at hr
  have hown : (w.alloc (Obj.cells #[] 62)).ownsRow w.heap.size 62 3 (.slice (some ⟨w.heap.size, 0, none⟩) 0 0) 0 [] := World.ownsRow_made w #[] 0 (Nat.le_refl _) (by unfold maxLen; omega) rfl
  have hB0 : Below w.heap.size w (w.alloc (Obj.cells #[] 62)) := (Below.refl _ _).alloc (Nat.le_refl _) _
  by_cases hne : r = []
  · subst hne
    have fin : ∀ (w' : World) (a' : Option Addr) (c' : Nat), Below w.heap.size w w' → (∃ a'' c'', Ending.returned (.slice a' 0 c') = .returned (.slice a'' ([] : List Val).length c'') ∧ RowAt w' a'' [] ∧ ∀ n, GoodE w' ⟨a'', c'', [], n⟩) ∧ Below w.heap.size w w' := fun w' a' c' hb => ⟨⟨a', c', rfl, fun h => absurd rfl h, fun _ => ⟨Nat.zero_le _, ⟨fun h => absurd rfl h, fun h => absurd rfl h⟩⟩⟩, hb⟩
    cases a with
    | none =>
      have hap := fun W ty => run_append_none (P := Try.prog) W 44 ty 62 i0 Try.underlying44 hi (some ⟨w.heap.size, 0, none⟩) 0 0 c (Nat.le_refl _)
      go_enter Try.func44, Try.ntmps44
      go_wp2
      go_ret
      exact fin _ _ 0 hB0
    | some ad =>
      go_enter Try.func44, Try.ntmps44
      go_wp2_with (at_builtin; go_must (refine wpList_append_own _ rfl _ _ 44 rfl w.heap.size 62 i0 (.agg #[.int .i64 0, .int .i64 0, .string ⟨#[]⟩]) 3 32 Try.underlying44 hi hz0 hz1 hz2 rfl (by decide) _ _ _ rfl hown ad 0 c [] rfl rfl (fun j u h => by simp at h) (fun u h => by simp at h) ?c3 ?c4 ?c5 ?_))
      case c3 => unfold maxLen; omega
      case c4 => omega
      case c5 => simp
      intro v' w1 hown' hgrow _
      have hB1 : Below w.heap.size w w1 := hB0.grown hgrow (by simp) (fun k hk => (hown.lt k hk).1)
      obtain ⟨a', c', rfl, _, _, _⟩ := row_owned (vs := []) hown'
      go_wp2
      go_ret
      exact fin _ a' c' hB1
  · obtain ⟨b, off, rfl, hc⟩ := h hne
    have h' : RowAt (w.alloc (Obj.cells #[] 62)) (some ⟨b, off, none⟩) r := RowAt.later (fun _ => ⟨b, off, rfl, hc⟩) ((Below.refl _ _).alloc (Nat.le_refl _) _)
    have HN := hid0 (rowCells_of h')
    clear hc h h'
    go_enter Try.func44, Try.ntmps44
    go_wp2_with (at_builtin; go_loud (refine wpList_append_own _ rfl _ _ 44 rfl w.heap.size 62 i0 (.agg #[.int .i64 0, .int .i64 0, .string ⟨#[]⟩]) 3 32 Try.underlying44 hi hz0 hz1 hz2 rfl (by decide) _ _ _ rfl hown ⟨b, off, none⟩ r.length c (rowCells r) rfl (rowCells_len r) HN.out (rowCells_one r) ?c3 ?c4 ?c5 ?_))
    case c3 => unfold maxLen; omega
    case c4 => omega
    case c5 => simp
    intro v' w1 hown' hgrow _
    have hB1 : Below w.heap.size w w1 := hB0.grown hgrow (by simp) (fun k hk => (hown.lt k hk).1)
    obtain ⟨a', c', rfl, hcap, _, hrow⟩ := row_owned hown'
    have hbl : ∃ b cs fz, a' = some ⟨b, 0, none⟩ ∧ w1.heap[b]? = some (Obj.cells cs 62 fz) := by
      rcases hown'.2 with ⟨e, hl⟩ | ⟨g, cap', cur, e, hg, hh, _⟩
      · exact absurd (List.length_eq_zero_iff.1 hl) hne
      · obtain ⟨rfl, -, -⟩ := Value.slice.inj e
        exact ⟨g, cur, (0, 0), rfl, hh⟩
    clear hown' hgrow hown
    go_wp2
    go_ret
    exact ⟨⟨a', c', rfl, hrow, fun _ => ⟨hcap, ⟨hrow, fun _ => hbl⟩⟩⟩, hB1⟩
set_option maxHeartbeats 4000000 in
set_option maxRecDepth 1000000 in
theorem refJoined2 (a1 a2 : Option Addr) (c1 c2 : Nat) (E1 E2 : List Elem) (w : World) (h1 : ElemsAt w a1 E1) (h2 : ElemsAt w a2 E2) (hl : E1.length + E2.length ≤ 1000000)
    (hs : ∀ x ∈ E1, ∀ y ∈ E2, -4611686018427387904 ≤ x.n + y.n ∧ x.n + y.n ≤ 4611686018427387904) (hg1 : ∀ e ∈ E1, GoodE w e) (hg2 : ∀ e ∈ E2, GoodE w e) :
    Calls Try.prog 45 #[.slice a1 E1.length c1, .slice a2 E2.length c2] w fun e w' => (∃ a c E, e = .returned (.slice a E.length c) ∧ E.length ≤ c ∧ ElemsAt w' a E ∧ E.map pr = joinB (E1.map pr) (E2.map pr) ∧ TagL w' a ∧ ∀ e ∈ E, GoodE w' e) ∧ Below w.heap.size w w' := by
  have A1 := hid0 h1
  have A2 := hid0 h2
  have HS := hid0 hs
  have G1 := hid0 hg1
  have G2 := hid0 hg2
  clear h1 h2 hs hg1 hg2
  go_enter Try.func45, Try.ntmps45
  go_wp2
  go_loopw [5, 6, 7] (fun ov iv kv wr => ∃ (i k : Nat) (Eo : List Elem), iv = .int .i64 i ∧ kv = .int .i64 k ∧ OwnB wr w.heap.size ov Eo ∧ Hid (RowsG w Eo) ∧ Hid (JoinTo E1 E2 Eo i k) ∧ Below w.heap.size w wr)
    (fun _ iv kv _ => (E1.length - (intOf iv).toNat) + (E2.length - (intOf kv).toNat))
  case atStart => exact ⟨0, 0, [], rfl, rfl, OwnB.nil _ _, hid0 ⟨fun e he => absurd he (by simp), fun e he => absurd he (by simp)⟩, hid0 (join_start E1 E2), Below.refl _ _⟩
  case round =>
    obtain ⟨i, k, Eo, rfl, rfl, hown, hR, hJ, hB⟩ := hrel
    have hsz := hB.size
    have hil := hJ.out.2.2.1
    have hkl := hJ.out.2.2.2
    have hol := hJ.out.2.1
    by_cases hi : i < E1.length
    · obtain ⟨b1, o1, rfl, hc1⟩ := (A1.out.1.later hB) (by intro e; rw [e] at hi; exact absurd hi (by simp))
      obtain ⟨q0, q1⟩ := hc1 i hi
      clear hc1
      by_cases hk : k < E2.length
      · obtain ⟨b2, o2, rfl, hc2⟩ := (A2.out.1.later hB) (by intro e; rw [e] at hk; exact absurd hk (by simp))
        obtain ⟨p0, p1⟩ := hc2 k hk
        clear hc2
        have hie : ¬ (i : Int) = E1.length := by omega
        have r1 := A1.out.2 _ (List.getElem_mem hi)
        have r2 := A2.out.2 _ (List.getElem_mem hk)
        obtain ⟨cv, hcv⟩ : ∃ cv, rowsV E1[i].r E2[k].r = cv := ⟨_, rfl⟩
        have C17 : ∀ W, Below w.heap.size w W → Calls Try.prog 32 #[.slice E1[i].a E1[i].r.length E1[i].c, .slice E2[k].a E2[k].r.length E2[k].c] W fun e w' => e = .returned (.int .i64 cv) ∧ Below W.heap.size W w' := fun W hb => by
          have h := refRows_any E1[i].a E2[k].a E1[i].c E2[k].c E1[i].r E2[k].r W (r1.1.later hb) (r2.1.later hb) (by have := r1.2; unfold rowOK at this; unfold maxLen; omega)
          rwa [hcv] at h
        have HR := hid0 (And.intro r1 r2)
        have HC := hid0 hcv
        clear r1 r2 hcv
        have hlb1 : b1 < w.heap.size := by
          obtain ⟨b, o, e, hc⟩ := A1.out.1 (by intro e; rw [e] at hi; exact absurd hi (by simp))
          obtain ⟨rfl, rfl⟩ : b1 = b ∧ o1 = o := by simpa using e
          exact World.block_lt_of_cell? _ _ (hc i hi).1
        have hlb2 : b2 < w.heap.size := by
          obtain ⟨b, o, e, hc⟩ := A2.out.1 (by intro e; rw [e] at hk; exact absurd hk (by simp))
          obtain ⟨rfl, rfl⟩ : b2 = b ∧ o2 = o := by simpa using e
          exact World.block_lt_of_cell? _ _ (hc k hk).1
        by_cases hneg : cv < 0
        · go_wp2_with fail
          go_region_held3 (fun w' => w'.cell? ⟨b1, o1 + i * 2, none⟩ = some (.slice E1[i].a E1[i].r.length E1[i].c) ∧ w'.cell? ⟨b1, o1 + i * 2 + 1, none⟩ = some (.int .i64 E1[i].n) ∧ w'.cell? ⟨b2, o2 + k * 2, none⟩ = some (.slice E2[k].a E2[k].r.length E2[k].c) ∧ w'.cell? ⟨b2, o2 + k * 2 + 1, none⟩ = some (.int .i64 E2[k].n) ∧ OwnB w' w.heap.size u5 Eo ∧ Below w.heap.size w w')
            ((go_split_ands; (try dsimp only); (repeat' apply And.intro); all_goals (first
              | assumption
              | exact cell_later hbn ‹_›
              | exact OwnB.kept ‹_› hbn
              | exact below_through hbn (Below.size ‹Below w.heap.size w _›) ‹_›
              | exact Below.drew hB
              | exact hown.drew
              | go_keep)))
            (first
              | (go_at_call 32; (try go_split_ands); refine (C17 _ (by assumption)).mono ?_; rintro e wn ⟨rfl, hbn⟩))
          obtain ⟨f0, f1, g0, g1, hown0, hB0⟩ := ‹wn.cell? ⟨b1, o1 + i * 2, none⟩ = some (.slice E1[i].a E1[i].r.length E1[i].c) ∧ _›
          clear q0 q1 p0 p1 hown hB hbn C17
          have hsz0 := hB0.size
          have ho1 := fun o => hown0.alloc o
          go_wp2_with (at_builtin; go_must (refine wp_bag1 rfl _ _ rfl rfl (ho1 _) E1[i] wn.heap.size rfl (elem_new _ _ _ _).1 (elem_new _ _ _ _).2 ?hl ?hb ?_))
          case hl => omega
          case hb => simp; omega
          intro v1 w1 hown1 hK1
          have hB1 := (Below.alloc hB0 hsz0 _).trans hK1.below
          clear hown0 ho1 hK1 f0 f1 g0 g1
          go_wp2
          exact ⟨⟨i + 1, k, Eo ++ [E1[i]], by go_num, rfl, hown1, hid0 (rowsG_snoc hR.out HR.out.1 (G1.out _ (List.getElem_mem hi))), hid0 (join_less hJ.out hi hk (by rw [HC.out]; exact hneg)), hB1⟩, by simp [intOf]; omega⟩
        by_cases hpos : 0 < cv
        · go_wp2_with fail
          go_region_held3 (fun w' => w'.cell? ⟨b1, o1 + i * 2, none⟩ = some (.slice E1[i].a E1[i].r.length E1[i].c) ∧ w'.cell? ⟨b1, o1 + i * 2 + 1, none⟩ = some (.int .i64 E1[i].n) ∧ w'.cell? ⟨b2, o2 + k * 2, none⟩ = some (.slice E2[k].a E2[k].r.length E2[k].c) ∧ w'.cell? ⟨b2, o2 + k * 2 + 1, none⟩ = some (.int .i64 E2[k].n) ∧ OwnB w' w.heap.size u5 Eo ∧ Below w.heap.size w w')
            ((go_split_ands; (try dsimp only); (repeat' apply And.intro); all_goals (first
              | assumption
              | exact cell_later hbn ‹_›
              | exact OwnB.kept ‹_› hbn
              | exact below_through hbn (Below.size ‹Below w.heap.size w _›) ‹_›
              | exact Below.drew hB
              | exact hown.drew
              | go_keep)))
            (first
              | (go_at_call 32; (try go_split_ands); refine (C17 _ (by assumption)).mono ?_; rintro e wn ⟨rfl, hbn⟩))
          obtain ⟨f0, f1, g0, g1, hown0, hB0⟩ := ‹wn.cell? ⟨b1, o1 + i * 2, none⟩ = some (.slice E1[i].a E1[i].r.length E1[i].c) ∧ _›
          clear q0 q1 p0 p1 hown hB hbn C17
          have hsz0 := hB0.size
          have ho1 := fun o => hown0.alloc o
          go_wp2_with (at_builtin; go_must (refine wp_bag1 rfl _ _ rfl rfl (ho1 _) E2[k] wn.heap.size rfl (elem_new _ _ _ _).1 (elem_new _ _ _ _).2 ?hl ?hb ?_))
          case hl => omega
          case hb => simp; omega
          intro v1 w1 hown1 hK1
          have hB1 := (Below.alloc hB0 hsz0 _).trans hK1.below
          clear hown0 ho1 hK1 f0 f1 g0 g1
          go_wp2
          exact ⟨⟨i, k + 1, Eo ++ [E2[k]], rfl, by go_num, hown1, hid0 (rowsG_snoc hR.out HR.out.2 (G2.out _ (List.getElem_mem hk))), hid0 (join_more hJ.out hi hk (by rw [HC.out]; exact hpos)), hB1⟩, by simp [intOf]; omega⟩
        obtain rfl : cv = 0 := by omega
        clear hneg hpos
        obtain ⟨hs1, hs2⟩ := HS.out _ (List.getElem_mem hi) _ (List.getElem_mem hk)
        have hw0 : IntKind.i64.wrap (E1[i].n + E2[k].n) = E1[i].n + E2[k].n := IntWalk.i64_in _ (by omega)
        by_cases h0 : E1[i].n + E2[k].n = 0
        · go_wp2_with fail
          go_region_held3 (fun w' => w'.cell? ⟨b1, o1 + i * 2, none⟩ = some (.slice E1[i].a E1[i].r.length E1[i].c) ∧ w'.cell? ⟨b1, o1 + i * 2 + 1, none⟩ = some (.int .i64 E1[i].n) ∧ w'.cell? ⟨b2, o2 + k * 2, none⟩ = some (.slice E2[k].a E2[k].r.length E2[k].c) ∧ w'.cell? ⟨b2, o2 + k * 2 + 1, none⟩ = some (.int .i64 E2[k].n) ∧ OwnB w' w.heap.size u5 Eo ∧ Below w.heap.size w w')
            ((go_split_ands; (try dsimp only); (repeat' apply And.intro); all_goals (first
              | assumption
              | exact cell_later hbn ‹_›
              | exact OwnB.kept ‹_› hbn
              | exact below_through hbn (Below.size ‹Below w.heap.size w _›) ‹_›
              | exact Below.drew hB
              | exact hown.drew
              | go_keep)))
            (first
              | (go_at_call 32; (try go_split_ands); refine (C17 _ (by assumption)).mono ?_; rintro e wn ⟨rfl, hbn⟩))
          obtain ⟨f0, f1, g0, g1, hown0, hB0⟩ := ‹wn.cell? ⟨b1, o1 + i * 2, none⟩ = some (.slice E1[i].a E1[i].r.length E1[i].c) ∧ _›
          clear q0 q1 p0 p1 hown hB hbn C17
          have hsz0 := hB0.size
          have ho1 := fun o => hown0.alloc o
          go_wp2_with fail
          go_region
          go_wp2
          exact ⟨⟨i + 1, k + 1, Eo, by go_num, by go_num, hown0.drew, hR, hid0 (join_none hJ.out hi hk HC.out h0), hB0.drew⟩, by simp [intOf]; omega⟩
        · go_wp2_with fail
          go_region_held3 (fun w' => w'.cell? ⟨b1, o1 + i * 2, none⟩ = some (.slice E1[i].a E1[i].r.length E1[i].c) ∧ w'.cell? ⟨b1, o1 + i * 2 + 1, none⟩ = some (.int .i64 E1[i].n) ∧ w'.cell? ⟨b2, o2 + k * 2, none⟩ = some (.slice E2[k].a E2[k].r.length E2[k].c) ∧ w'.cell? ⟨b2, o2 + k * 2 + 1, none⟩ = some (.int .i64 E2[k].n) ∧ OwnB w' w.heap.size u5 Eo ∧ Below w.heap.size w w')
            ((go_split_ands; (try dsimp only); (repeat' apply And.intro); all_goals (first
              | assumption
              | exact cell_later hbn ‹_›
              | exact OwnB.kept ‹_› hbn
              | exact below_through hbn (Below.size ‹Below w.heap.size w _›) ‹_›
              | exact Below.drew hB
              | exact hown.drew
              | go_keep)))
            (first
              | (go_at_call 32; (try go_split_ands); refine (C17 _ (by assumption)).mono ?_; rintro e wn ⟨rfl, hbn⟩))
          obtain ⟨f0, f1, g0, g1, hown0, hB0⟩ := ‹wn.cell? ⟨b1, o1 + i * 2, none⟩ = some (.slice E1[i].a E1[i].r.length E1[i].c) ∧ _›
          clear q0 q1 p0 p1 hown hB hbn C17
          have hsz0 := hB0.size
          have ho1 := fun o => hown0.alloc o
          go_wp2_with fail
          go_region
          go_wp2_with fail
          have hown2 := hown0.drew
          have hB2 := hB0.drew
          have f0' : wn.drew.cell? ⟨b1, o1 + i * 2, none⟩ = some (.slice E1[i].a E1[i].r.length E1[i].c) := f0
          have f1' : wn.drew.cell? ⟨b1, o1 + i * 2 + 1, none⟩ = some (.int .i64 E1[i].n) := f1
          have g1' : wn.drew.cell? ⟨b2, o2 + k * 2 + 1, none⟩ = some (.int .i64 E2[k].n) := g1
          clear hown0 hB0 ho1 f0 f1 g0 g1
          generalize wn.drew = W2 at f0' f1' g1' hown2 hB2 ⊢
          have ho2 := fun o => (hown2.drew).alloc o
          have hz2 := hB2.size
          go_region_held_law (fun w' => w'.cell? ⟨b1, o1 + i * 2, none⟩ = some (.slice E1[i].a E1[i].r.length E1[i].c) ∧ w'.cell? ⟨b1, o1 + i * 2 + 1, none⟩ = some (.int .i64 E1[i].n) ∧ w'.cell? ⟨b2, o2 + k * 2 + 1, none⟩ = some (.int .i64 E2[k].n))
            (first
              | go_keep
              | (go_split_ands; (try dsimp only); (repeat' apply And.intro); all_goals (first
                | assumption
                | exact (hK1.below.cell (p := ⟨b1, _, none⟩) hlb1).trans ‹_›
                | exact (hK1.below.cell (p := ⟨b2, _, none⟩) hlb2).trans ‹_›
                | go_keep)))
            ((refine step_bag1 (by rfl) _ _ (by rfl) (by rfl) (ho2 _) ⟨E1[i].a, E1[i].c, E1[i].r, E1[i].n + E2[k].n⟩ W2.heap.size (by rfl) (elem_new _ _ _ _).1 (elem_new _ _ _ _).2 (by omega) (by simp; omega) ?_; intro v1 w1 hown1 hK1))
          have hB1 : Below w.heap.size w w1 := (Below.drew (Below.alloc hB2 hz2 _)).trans hK1.below
          clear hown2 hB2 ho2 hK1 f0' f1' g1'
          go_wp2
          exact ⟨⟨i + 1, k + 1, Eo ++ [⟨E1[i].a, E1[i].c, E1[i].r, E1[i].n + E2[k].n⟩], by go_num, by go_num, hown1, hid0 (rowsG_snoc hR.out HR.out.1 (G1.out E1[i] (List.getElem_mem hi))), hid0 (join_both hJ.out hi hk HC.out h0), hB1⟩, by simp [intOf]; omega⟩
      · have hke : (k : Int) = E2.length := by omega
        have hie : ¬ (i : Int) = E1.length := by omega
        have ho1 := fun o => hown.alloc o
        go_wp2_with (at_builtin; go_loud (refine wp_bag1 rfl _ _ rfl rfl (ho1 _) E1[i] wr.heap.size rfl (elem_new _ _ _ _).1 (elem_new _ _ _ _).2 ?hl ?hb ?_))
        case hl => omega
        case hb => simp; omega
        intro v1 w1 hown1 hK1
        have hB1 := (Below.alloc hB hsz _).trans hK1.below
        clear hown ho1 hK1 q0 q1
        go_wp2
        exact ⟨⟨i + 1, k, Eo ++ [E1[i]], by go_num, congrArg _ (by omega), hown1, hid0 (rowsG_snoc hR.out (A1.out.2 _ (List.getElem_mem hi)) (G1.out _ (List.getElem_mem hi))), hid0 (join_left hJ.out hi hk), hB1⟩, by simp [intOf]; omega⟩
    · by_cases hk : k < E2.length
      · obtain ⟨b2, o2, rfl, hc2⟩ := (A2.out.1.later hB) (by intro e; rw [e] at hk; exact absurd hk (by simp))
        obtain ⟨p0, p1⟩ := hc2 k hk
        clear hc2
        have hie : (i : Int) = E1.length := by omega
        have ho1 := fun o => hown.alloc o
        go_wp2_with (at_builtin; go_must (refine wp_bag1 rfl _ _ rfl rfl (ho1 _) E2[k] wr.heap.size rfl (elem_new _ _ _ _).1 (elem_new _ _ _ _).2 ?hl ?hb ?_))
        case hl => omega
        case hb => simp; omega
        intro v1 w1 hown1 hK1
        have hB1 := (Below.alloc hB hsz _).trans hK1.below
        clear hown ho1 hK1 p0 p1
        go_wp2
        exact ⟨⟨i, k + 1, Eo ++ [E2[k]], congrArg _ (by omega), by go_num, hown1, hid0 (rowsG_snoc hR.out (A2.out.2 _ (List.getElem_mem hk)) (G2.out _ (List.getElem_mem hk))), hid0 (join_right hJ.out hi hk), hB1⟩, by simp [intOf]; omega⟩
      · obtain ⟨a, c, rfl, hcap, _, hcl⟩ := elems_owned hown.out
        have HC := hid0 hcl
        have HF := hid0 (owned_tag hown)
        clear hown hcl
        have hie : ¬ (i : Int) < E1.length := by omega
        have hke : ¬ (k : Int) < E2.length := by omega
        go_wp2
        go_ret
        exact ⟨⟨a, c, Eo, rfl, hcap, ⟨HC.out, hR.out.1.later hB⟩, join_end hJ.out hi hk, HF.out, fun e he => (hR.out.2 e he).later hB⟩, hB⟩
set_option maxHeartbeats 4000000 in
set_option maxRecDepth 1000000 in
theorem refOf2_all : ∀ (n : Nat) (a : Option Addr) (c : Nat) (E : List Elem) (w : World), E.length ≤ n → ElemsAt w a E → E.length ≤ c → E.length ≤ 1000000 → absS (E.map pr) ≤ 4611686018427387904 →
    Calls Try.prog 30 #[.slice a E.length c] w (OfAns2 w (E.map pr)) := by
  intro n
  induction n with
  | zero =>
    intro a c E w hn h hc hl hs
    obtain rfl : E = [] := List.length_eq_zero_iff.1 (by omega)
    go_enter Try.func30, Try.ntmps30
    go_wp2
    go_ret
    exact ⟨⟨none, 0, [], rfl, Nat.le_refl _, ElemsAt.nil _ _, rfl, (fun _ h => by cases h), fun e he => absurd he (by simp)⟩, Below.refl _ _⟩
  | succ n ih =>
    intro a c E w hn h hc hl hs
    match E, h, hn, hc, hl, hs with
    | [], h, hn, hc, hl, hs =>
      go_enter Try.func30, Try.ntmps30
      go_wp2
      go_ret
      exact ⟨⟨none, 0, [], rfl, Nat.le_refl _, ElemsAt.nil _ _, rfl, (fun _ h => by cases h), fun e he => absurd he (by simp)⟩, Below.refl _ _⟩
    | [e], h, hn, hc, hl, hs =>
      obtain ⟨b, off, rfl, hcl⟩ := h.1 (by simp)
      obtain ⟨q0, q1⟩ := hcl 0 (by simp)
      have hr := hid0 (h.2 e (by simp))
      simp only [Nat.zero_mul, Nat.add_zero, List.getElem_cons_zero] at q0 q1
      clear hcl
      by_cases hz : e.n = 0
      · rw [hz] at q1
        go_enter Try.func30, Try.ntmps30
        go_wp2
        go_ret
        refine ⟨⟨none, 0, [], rfl, Nat.le_refl _, ElemsAt.nil _ _, ?_, (fun _ h => by cases h), fun e he => absurd he (by simp)⟩, Below.refl _ _⟩
        show [] = if e.n = 0 then [] else [pr e]
        rw [if_pos hz]
      · go_enter Try.func30, Try.ntmps30
        go_wp2_with fail
        go_region_held3 (fun w' => w'.cell? ⟨b, off, none⟩ = some (.slice e.a e.r.length e.c) ∧ w'.cell? ⟨b, off + 1, none⟩ = some (.int .i64 e.n) ∧ Below w.heap.size w w')
          ((go_split_ands; (try dsimp only); (repeat' apply And.intro); all_goals (first
            | assumption
            | exact cell_later hbn ‹_›
            | exact below_through hbn (Below.size ‹Below w.heap.size w _›) ‹_›
            | exact Below.drew (Below.refl _ _)
            | exact Below.alloc ‹_› (Below.size ‹Below w.heap.size w _›) _
            | go_keep)))
          (first
            | (go_at_call 44; (try go_split_ands); refine (refCopied2 _ _ _ _ (hr.out.1.later ((‹Below w.heap.size w _›))) hr.out.2).mono ?_; rintro e1 wn ⟨⟨a', c', rfl, hrow, hgood⟩, hbn⟩))
        have HH := ‹_ ∧ _ ∧ Below w.heap.size w (World.alloc _ _)›
        go_wp2
        go_ret
        refine ⟨⟨some ⟨wn.heap.size, 0, none⟩, 1, [⟨a', c', e.r, e.n⟩], rfl, Nat.le_refl _, ⟨fun _ => ⟨wn.heap.size, 0, rfl, fun i hi => ?_⟩, fun x hx => ?_⟩, ?_, fun ad h => ?_, fun x hx => ?_⟩, HH.2.2⟩
        · obtain rfl : i = 0 := by simp at hi; omega
          exact elem_new _ _ _ _
        · obtain rfl := List.mem_singleton.1 hx
          exact ⟨hrow.later ((Below.refl _ _).alloc (Nat.le_refl _) _), hr.out.2⟩
        · show [(e.r, e.n)] = if e.n = 0 then [] else [pr e]
          rw [if_neg hz]; rfl
        · obtain rfl := Option.some.inj h
          exact ⟨_, _, (BlkAt.new wn _ _).out.choose_spec⟩
        · obtain rfl := List.mem_singleton.1 hx
          exact (hgood e.n).later ((Below.refl _ _).alloc (Nat.le_refl _) _)
    | e1 :: e2 :: E, h, hn, hc, hl, hs =>
      have h2 : 2 ≤ (e1 :: e2 :: E).length := by simp
      generalize e1 :: e2 :: E = F at h hn hc hl hs h2 ⊢
      obtain ⟨b, off, rfl, hcl⟩ := h.1 (fun e => by rw [e] at h2; simp at h2)
      clear hcl
      obtain ⟨k, hk⟩ : ∃ k, F.length / 2 = k := ⟨_, rfl⟩
      obtain ⟨m, hm⟩ : ∃ m, F.length - k = m := ⟨_, rfl⟩
      have hl1 : (F.take k).length = k := by rw [List.length_take]; omega
      have hl2 : (F.drop k).length = m := by rw [List.length_drop]; omega
      have hsum := absS_take (F.map pr) k
      rw [← List.map_take, ← List.map_drop] at hsum
      have n1 := absS_nonneg ((F.take k).map pr)
      have n2 := absS_nonneg ((F.drop k).map pr)
      have HA : Half2 w (some ⟨b, off, none⟩) k c ((F.take k).map pr) := ⟨fun W hb => by
        have := ih (some ⟨b, off, none⟩) c (F.take k) W (by omega) ((h.later hb).take k) (by omega) (by omega) (by omega)
        rwa [hl1] at this⟩
      have hh1 := elems_head (some ⟨b, off, none⟩) F c k (by omega) hc
      obtain ⟨a1, cm, hcm, hh2, hat⟩ := elems_tail (some ⟨b, off, none⟩) F c k m (by omega) hc hm
      have HD : Half2 w a1 m cm ((F.drop k).map pr) := ⟨fun W hb => by
        have := ih a1 cm (F.drop k) W (by omega) (hat _ (h.later hb)) (by omega) (by omega) (by omega)
        rwa [hl2] at this⟩
      have HJ := hid0 (joinB_ofB ((F.take k).map pr) ((F.drop k).map pr))
      have HT : Hid (F.map pr = (F.take k).map pr ++ (F.drop k).map pr) := by
        show _ = _
        rw [← List.map_append, List.take_append_drop]
      have HL := hid0 (show absS ((F.take k).map pr) + absS ((F.drop k).map pr) ≤ 4611686018427387904 by omega)
      have HLL := hid0 (show ((F.take k).map pr).length + ((F.drop k).map pr).length ≤ 1000000 by rw [List.length_map, List.length_map]; omega)
      generalize (F.take k).map pr = LA at HA HJ HT HL HLL
      generalize (F.drop k).map pr = LB at HD HJ HT HL HLL
      clear hsum n1 n2 hl1 hl2
      have hq : IntKind.i64.wrap ((F.length : Int).tdiv 2) = (k : Int) := by
        rw [show (F.length : Int).tdiv 2 = ((F.length / 2 : Nat) : Int) from rfl, hk]; exact IntWalk.i64_in _ (by omega)
      have hq0 : (F.length : Int).tdiv 2 = (k : Int) := by rw [← hk]; rfl
      have hwk : IntKind.i64.wrap (k : Int) = (k : Int) := IntWalk.i64_in _ (by omega)
      have hwk2 : wrap64 (k : Int) = (k : Int) := by unfold wrap64; omega
      have i0 : ¬ (F.length : Int) = 0 := by omega
      have i1 : ¬ (F.length : Int) = 1 := by omega
      obtain ⟨len, hlen⟩ : ∃ len, F.length = len := ⟨_, rfl⟩
      rw [hlen] at hq hq0 i0 i1 hh1 hh2 ⊢
      have HLEN := hid0 hlen
      clear hlen hn hs h ih hat hk hm hc hl h2
      go_enter Try.func30, Try.ntmps30
      go_wp2_with fail
      go_region_held3 (fun w' => Below w.heap.size w w')
        ((go_split_ands; (try dsimp only); (repeat' apply And.intro); all_goals (first
          | assumption
          | exact below_through hbn (Below.size ‹Below w.heap.size w _›) ‹_›
          | exact Below.drew (Below.refl _ _)
          | go_keep)))
        (first
          | (go_at_call 30; refine ((by exact HA : Half2 w _ _ _ _).out _ (by assumption)).mono ?_; rintro ea wa ⟨⟨aa, ca, EA, rfl, hca, hEA, hmA, hfA, hgA⟩, hbn⟩)
          | (go_at_call 30; refine ((by exact HD : Half2 w _ _ _ _).out _ (by assumption)).mono ?_; rintro ed wd ⟨⟨ad, cd, ED, rfl, hcd, hED, hmD, hfD, hgD⟩, hbn⟩)
          | (go_at_call 45; refine (refJoined2 _ _ _ _ EA ED _ (by exact hEA.later hbn) (by exact hED) (by have := len_of hmA; have := len_of hmD; have := HLL.out; omega) (by exact sum_fits hmA hmD HL.out) (by exact fun e he => (hgA e he).later hbn) (by exact hgD)).mono ?_; rintro ej wj ⟨⟨aj, cj, EJ, rfl, hcj, hEJ, hmJ, hfJ, hgJ⟩, hbn⟩))
      have HH := ‹Below w.heap.size w wj›
      clear HA HD hh1 hh2
      go_wp2
      go_ret
      exact ⟨⟨aj, cj, EJ, rfl, hcj, hEJ, by rw [hmJ, hmA, hmD, HJ.out, HT.out], hfJ, hgJ⟩, HH⟩
end Go.Proofs.Ytadidikegfiedaa
