/- Several of my texts laid together, each as it was: XE, XF, XI. Conditions: each names its own. -/
import Derived.Test.YtfdkajefcplfjaaGreatH3
import Derived.Test.YtfdkajefcplfjaaGreatH2
import Derived.Test.YtfdkajefcplfjaaGreatH5
import Derived.Laws.AppendOwnNone
import Derived.Test.YtfdkajefcplfjaaGreatI2
import Derived.Test.YtfdkajefcplfjaaGreatH7
import Derived.Laws.OwnMore
import Derived.Lib.SliceRun
/- slices.Grow and slices.Concat of rows: contracts of the calls, in whatever memory. Conditions: the rows' cells are known, and are not too long. -/
namespace Go.Proofs.YtfdkajefcplfjaaGreat
open Go.RowKit

set_option maxHeartbeats 1000000 in
theorem growV_any (n : Nat) (w : World) (hn : n * 32 ≤ 140737488351232) :
    Calls Tryz.prog 175 #[.slice none 0 0, .int .i64 (n : Int)] w fun e w' => (∃ v, e = .returned v ∧ w'.ownsRow w.heap.size 41 3 v 0 []) ∧ Below w.heap.size w w' := by
  obtain ⟨i0, hi, hz0, hz1, hz2⟩ := info_parts info41
  by_cases h0 : n = 0
  · subst h0
    go_enter Tryz.func175, Tryz.ntmps175
    go_wp2
    go_ret
    exact ⟨⟨_, rfl, World.ownsRow_nil _ _ _ _⟩, Below.refl _ _⟩
  · have h1 : ¬ ((n : Int) < 0) := by omega
    have h4 : (0 : Int) < (n : Int) := by omega
    have hrz : ∀ ty, (Builtin.append_ #[35, 3] ty #[.slice none 0 0, .int .i64 (n : Int)]).run Tryz.prog w =
        .ok (.slice (some ⟨w.heap.size, 0, none⟩) n (grownCap w n 0 41)) (w.drew.alloc (.cells ((([] : List Value).toArray ++ Builtin.zeroCells (Value.cells (.agg #[.int .i64 0, .int .i64 0, .string ⟨#[]⟩])) n) ++ Builtin.zeroCells (Value.cells (.agg #[.int .i64 0, .int .i64 0, .string ⟨#[]⟩])) (grownCap w n 0 41 - n)) 41)) := fun ty => by
      have h := Lib.run_append_grow_zeros w 35 3 ty 41 i0 (.agg #[.int .i64 0, .int .i64 0, .string ⟨#[]⟩]) .i64 .i64 Tryz.underlying35 Tryz.underlying3 hi hz0 none 0 0 [] (run_firstCells_none w.drew i0.size 0 0 0) n (by omega) (by rw [hz1]; decide) (by omega) (by omega)
        (by rw [hz2]; omega)
        (by rw [Nat.zero_add]; exact growslice_fits (by omega) (by rw [hz2]; omega))
      rw [Nat.zero_add] at h
      exact h
    have hGn : n ≤ grownCap w n 0 41 := grownCap_ge w _ _ _
    have hGm := grownCap_le_maxLen w n 0 41 (by unfold maxLen; omega)
    obtain ⟨G, hG⟩ : ∃ G, grownCap w n 0 41 = G := ⟨_, rfl⟩
    rw [hG] at hrz hGn hGm
    obtain ⟨cells, hcells⟩ : ∃ cells, (([] : List Value).toArray ++ Builtin.zeroCells (Value.cells (.agg #[.int .i64 0, .int .i64 0, .string ⟨#[]⟩])) n) ++ Builtin.zeroCells (Value.cells (.agg #[.int .i64 0, .int .i64 0, .string ⟨#[]⟩])) (G - n) = cells := ⟨_, rfl⟩
    rw [hcells] at hrz
    have hGM := hid0 hGm
    unfold maxLen at hGm
    have hown := World.ownsRow_made (e := 41) (size := 3) (base := w.heap.size) w cells G (Nat.le_refl _) hGM.out (by rw [← hcells]; simp [Builtin.zeroCells, Value.cells]; try omega)
    have HO := hid0 hown
    clear hG hown hcells hi hz0 hz1 hz2
    go_enter Tryz.func175, Tryz.ntmps175
    go_wp2_with (at_builtin; refine Lib.wpList_append_run _ rfl _ _ _ _ rfl _ _ rfl rfl _ _ (hrz _) ?_)
    all_goals (go_ret; exact ⟨⟨_, rfl, HO.out⟩, Below.drew ((Below.refl _ _).alloc (Nat.le_refl _) _)⟩)

def catL (Ls : List Line) : List Val := Ls.flatMap (·.r)
theorem catL_take {Ls : List Line} {i : Nat} (h : i < Ls.length) : catL (Ls.take (i + 1)) = catL (Ls.take i) ++ Ls[i].r := by
  unfold catL; rw [List.take_succ_eq_append_getElem h, List.flatMap_append]; congr 1; exact List.append_nil _
theorem catL_part (Ls : List Line) (i : Nat) : (catL (Ls.take i)).length ≤ (catL Ls).length := by
  have h : catL Ls = catL (Ls.take i) ++ catL (Ls.drop i) := by
    show Ls.flatMap _ = _
    rw [← List.take_append_drop i Ls, List.flatMap_append, List.take_append_drop]; rfl
  rw [h, List.length_append]; omega
theorem rowCells_app (r s : List Val) : rowCells (r ++ s) = rowCells r ++ rowCells s := by simp [rowCells]
/-- The rows that an append has left, as a copy. -/
theorem copied_owned {B : Nat} {w : World} {v : Value} {r : List Val} (h : w.ownsRow B 41 3 v r.length (rowCells r)) : ∃ a c, v = .slice a r.length c ∧ (r.length ≤ c ∧ (a = none → c = 0)) ∧ Copied w a r := by
  obtain ⟨a', c', hv, hc, _, hrow⟩ := row_owned h
  rcases h.2 with ⟨e, hl⟩ | ⟨g, cap', cur, e, hg, hh, _⟩
  · rw [hv] at e
    obtain ⟨-, -, hz⟩ := Value.slice.inj e
    exact ⟨a', c', hv, ⟨hc, fun _ => hz⟩, hrow, fun hne => absurd (List.length_eq_zero_iff.1 hl) hne⟩
  · rw [hv] at e
    obtain ⟨rfl, -, -⟩ := Value.slice.inj e
    exact ⟨_, c', hv, ⟨hc, fun h => by cases h⟩, hrow, fun hne => ⟨g, cur, (0, 0), rfl, hh⟩⟩
set_option maxHeartbeats 2000000 in
set_option maxRecDepth 1000000 in
theorem concat_any (a : Option Addr) (c : Nat) (Ls : List Line) (w : World) (h : LinesAt w a Ls) (hl : Ls.length ≤ 1000000) (hs : (catL Ls).length ≤ 1000000) (h0 : ∀ e ∈ Ls, e.a = none → e.c = 0) :
    Calls Tryz.prog 125 #[.slice a Ls.length c] w fun e w' => (∃ a' c', e = .returned (.slice a' (catL Ls).length c') ∧ ((catL Ls).length ≤ c' ∧ (a' = none → c' = 0)) ∧ Copied w' a' (catL Ls)) ∧ Below w.heap.size w w' := by
  obtain ⟨i0, hi, hz0, hz1, hz2⟩ := info_parts info41
  have A := hid0 h
  have H0 := hid0 h0
  clear h h0
  have hpart := catL_part Ls
  have HP := hid0 hpart
  clear hpart
  have G := hid0 (fun W => growV_any (catL Ls).length W (by omega))
  go_enter Tryz.func125, Tryz.ntmps125
  go_wp2
  go_loopw [3, 11] (fun sv iv wr => ∃ i : Nat, i ≤ Ls.length ∧ iv = .int .i64 i ∧ sv = .int .i64 ((catL (Ls.take i)).length : Int) ∧ w = wr) (fun _ iv _ => Ls.length - (intOf iv).toNat)
  case atStart => exact ⟨0, Nat.zero_le _, rfl, rfl, rfl⟩
  case round =>
    obtain ⟨i, hi', rfl, rfl, rfl⟩ := hrel
    by_cases hlt : i < Ls.length
    · obtain ⟨b1, o1, rfl, hc1⟩ := A.out.1 (by intro e; rw [e] at hlt; exact absurd hlt (by simp))
      have q0 := hc1 i hlt
      clear hc1
      have hst := congrArg List.length (catL_take hlt)
      rw [List.length_append] at hst
      have hle := HP.out (i + 1)
      generalize (catL (Ls.take (i + 1))).length = S1 at hst hle
      have HT := hid0 (catL_take hlt)
      generalize hS : (catL (Ls.take i)).length = S at hst
      have HSS := hid0 hS
      clear hS
      have hw : IntKind.i64.wrap ((S : Int) + (Ls[i].r.length : Int)) = (S1 : Int) := by rw [hst, IntWalk.i64_in _ (by omega)]; omega
      have hneg : ¬ (S1 : Int) < 0 := by omega
      go_wp2
      exact ⟨⟨i + 1, by omega, by go_num, by rw [HT.out, List.length_append, HSS.out]; push_cast; rfl, by first | trivial | rfl⟩, by simp [intOf]; omega⟩
    · have hie : ¬ (i : Int) < Ls.length := by omega
      rw [List.take_of_length_le (by omega)]
      obtain ⟨N, hN⟩ : ∃ N, (catL Ls).length = N := ⟨_, rfl⟩
      rw [hN] at G ⊢
      have HN := hid0 hN
      have HLI := hid0 hs
      clear hN hs
      go_wp2_with (go_at_call 175; refine (G.out _).mono ?_; rintro e w1 ⟨⟨v1, rfl, hown1⟩, hb1⟩)
      have HO := hid0 hown1
      clear hown1
      go_loopw [6, 27] (fun nv jv wr => ∃ j : Nat, j ≤ Ls.length ∧ jv = .int .i64 j ∧ Hid (wr.ownsRow w.heap.size 41 3 nv (catL (Ls.take j)).length (rowCells (catL (Ls.take j)))) ∧ Below w.heap.size w wr) (fun _ jv _ => Ls.length - (intOf jv).toNat)
      case atStart => exact ⟨0, Nat.zero_le _, rfl, HO, hb1⟩
      case round =>
        obtain ⟨j, hj, rfl, hown, hB⟩ := hrel
        have hsz := hB.size
        clear hb1 HO
        by_cases hlt : j < Ls.length
        · obtain ⟨b1, o1, rfl, hc1⟩ := (A.out.1.later hB) (by intro e; rw [e] at hlt; exact absurd hlt (by simp))
          have q0 := hc1 j hlt
          clear hc1
          have hmem := List.getElem_mem hlt
          have hrow := ((A.out.2 _ hmem).1.later hB)
          have hz := H0.out _ hmem
          have hst := catL_take hlt
          have hle := HP.out (j + 1)
          rw [hst, List.length_append] at hle
          have HST := hid0 hst
          clear hst hmem
          have hle2 : (catL (Ls.take j)).length + Ls[j].r.length ≤ 1000000 := Nat.le_trans hle HLI.out
          clear hle
          generalize catL (Ls.take j) = C at hown HST hle2
          generalize hx : Ls[j] = x at q0 hrow hz HST hle2
          clear hx
          obtain ⟨xa, xc, xr⟩ := x
          dsimp only at q0 hrow hz HST hle2
          cases xa with
          | none =>
            obtain rfl : xr = [] := by
              by_cases hn : xr = []
              · exact hn
              · obtain ⟨_, _, e, _⟩ := hrow hn; cases e
            obtain rfl := hz rfl
            rw [List.append_nil] at HST
            go_wp2_with (at_builtin; refine wpList_append_own_none rfl _ _ 35 rfl w.heap.size 41 i0 3 Tryz.underlying35 hi _ _ _ rfl hown.out rfl ?_)
            exact ⟨⟨j + 1, by omega, by go_num, by rw [HST.out]; exact hown, hB⟩, by simp [intOf]; omega⟩
          | some ad =>
            have hcell : ∀ k u, (rowCells xr)[k]? = some u → wr.cell? (ad.add k) = some u := by
              by_cases hn : xr = []
              · subst hn; intro k u hk; simp [rowCells] at hk
              · obtain ⟨b, o, e, hc⟩ := hrow hn
                obtain rfl : ad = ⟨b, o, none⟩ := by simpa using e
                exact rowCells_of (fun _ => ⟨b, o, rfl, hc⟩)
            have HC := hid0 hcell
            clear hcell hrow hz
            go_wp2_with (at_builtin; go_must (refine wpList_append_own _ rfl _ _ 35 rfl w.heap.size 41 i0 (.agg #[.int .i64 0, .int .i64 0, .string ⟨#[]⟩]) 3 32 Tryz.underlying35 hi hz0 hz1 hz2 rfl (by decide) _ _ _ rfl hown.out ad xr.length xc (rowCells xr) rfl (rowCells_len xr) HC.out (rowCells_one xr) ?c3 ?c4 ?c5 ?_))
            case c3 => unfold maxLen; omega
            case c4 => omega
            case c5 => exact hsz
            intro v' w2 hown' hgrow _
            have hB2 : Below w.heap.size w w2 := hB.grown hgrow hsz (fun k hk => (hown.out.lt k hk).1)
            have HO' := hid0 hown'
            clear hown' hgrow hown
            go_wp2
            exact ⟨⟨j + 1, by omega, by go_num, hid0 (by rw [HST.out, List.length_append, rowCells_app]; exact HO'.out), hB2⟩, by simp [intOf]; omega⟩
        · have hie : ¬ (j : Int) < Ls.length := by omega
          rw [List.take_of_length_le (by omega)] at hown
          obtain ⟨a', c', rfl, hc', hcp⟩ := copied_owned hown.out
          rw [HN.out] at hc'
          have HCP := hid0 hcp
          clear hown hcp
          rw [← HN.out] at hc' ⊢
          go_wp2
          go_ret
          exact ⟨⟨a', c', rfl, hc', HCP.out⟩, hB⟩
theorem lines_two {w : World} {a1 a2 : Option Addr} {c1 c2 : Nat} {r1 r2 : List Val} (h1 : RowAt w a1 r1) (h2 : RowAt w a2 r2) (k1 : rowOK r1) (k2 : rowOK r2) (ty : TypeId) :
    LinesAt (w.alloc (Obj.cells #[.slice a1 r1.length c1, .slice a2 r2.length c2] ty)) (some ⟨w.heap.size, 0, none⟩) [⟨a1, c1, r1⟩, ⟨a2, c2, r2⟩] := by
  refine ⟨fun _ => ⟨w.heap.size, 0, rfl, fun i hi => ?_⟩, fun e he => ?_⟩
  · match i, hi with
    | 0, _ => exact (elem_new w _ _ ty).1
    | 1, _ => exact (elem_new w _ _ ty).2
  · have hb : Below w.heap.size w (w.alloc (Obj.cells #[.slice a1 r1.length c1, .slice a2 r2.length c2] ty)) := (Below.refl _ _).alloc (Nat.le_refl _) _
    simp at he
    rcases he with rfl | rfl
    · exact ⟨h1.later hb, k1⟩
    · exact ⟨h2.later hb, k2⟩
/-- Two rows, one behind the other. -/
theorem concat2_any (a1 a2 : Option Addr) (c1 c2 : Nat) (r1 r2 rr : List Val) (w : World) (ty : TypeId) (h1 : RowAt w a1 r1) (h2 : RowAt w a2 r2) (hrr : Hid (r1 ++ r2 = rr)) (hl : r1.length + r2.length ≤ 1000000) (z1 : a1 = none → c1 = 0) (z2 : a2 = none → c2 = 0) :
    Calls Tryz.prog 125 #[.slice (some ⟨w.heap.size, 0, none⟩) 2 2] (w.alloc (Obj.cells #[.slice a1 r1.length c1, .slice a2 r2.length c2] ty)) fun e w' => (∃ a' c', e = .returned (.slice a' rr.length c') ∧ (rr.length ≤ c' ∧ (a' = none → c' = 0)) ∧ Copied w' a' rr) ∧ Below w.heap.size w w' := by
  have hc : catL [⟨a1, c1, r1⟩, ⟨a2, c2, r2⟩] = r1 ++ r2 := by simp [catL]
  have := concat_any (some ⟨w.heap.size, 0, none⟩) 2 [⟨a1, c1, r1⟩, ⟨a2, c2, r2⟩] (w.alloc (Obj.cells #[.slice a1 r1.length c1, .slice a2 r2.length c2] ty)) (lines_two h1 h2 (by unfold rowOK; omega) (by unfold rowOK; omega) ty) (by simp) (by rw [hc, List.length_append]; exact hl) (by
    intro e he
    simp at he
    rcases he with rfl | rfl
    · exact z1
    · exact z2)
  rw [hc, hrr.out] at this
  refine this.mono ?_
  rintro e w' ⟨h, hb⟩
  exact ⟨h, below_through hb (by simp) ((Below.refl _ _).alloc (Nat.le_refl _) _)⟩
end Go.Proofs.YtfdkajefcplfjaaGreat

/- Rows put side by side (plan.pairs): contracts of the calls, in whatever memory. Conditions: the rows' cells are known; they are neither too many nor too long. -/
namespace Go.Proofs.YtfdkajefcplfjaaGreat
open Go.RowKit

/-- Elements in a block of their own that a call has laid: their rows are copies; what lay there before is as it was. -/
structure MkE (w0 w : World) (v : Value) (E : List Elem) : Prop where
  own : OwnB w w0.heap.size v E
  cp : CopiesE w E
  z : ∀ e ∈ E, e.a = none → e.c = 0
  cap : ∀ e ∈ E, e.r.length ≤ e.c
  b : Below w0.heap.size w0 w
theorem MkE.nil (w : World) : MkE w w (.slice none 0 0) [] := ⟨OwnB.nil _ _, CopiesE.nil _, fun _ h => absurd h (by simp), fun _ h => absurd h (by simp), Below.refl _ _⟩
theorem MkE.alloc {w0 w : World} {v : Value} {E : List Elem} (h : MkE w0 w v E) (o : Obj) : MkE w0 (w.alloc o) v E := ⟨h.own.alloc o, h.cp.later ((Below.refl _ _).alloc (Nat.le_refl _) _), h.z, h.cap, h.b.alloc h.b.size o⟩
theorem MkE.drew {w0 w : World} {v : Value} {E : List Elem} (h : MkE w0 w v E) : MkE w0 w.drew v E := ⟨h.own.drew, h.cp.later (Below.drew (Below.refl _ _)), h.z, h.cap, Below.drew h.b⟩
theorem MkE.below {w0 w w' : World} {v : Value} {E : List Elem} (h : MkE w0 w v E) (hb : Below w.heap.size w w') : MkE w0 w' v E := ⟨h.own.kept hb, h.cp.later hb, h.z, h.cap, below_through hb h.b.size h.b⟩
theorem MkE.hi {w0 w : World} {v : Value} {E : List Elem} (h : MkE w0 w v E) : ∀ k, v.ownBlock = some k → k < w.heap.size := fun k hk => (h.own.out.lt k hk).2
theorem MkE.lo {w0 w : World} {v : Value} {E : List Elem} (h : MkE w0 w v E) : ∀ k, v.ownBlock = some k → w0.heap.size ≤ k := fun k hk => (h.own.out.lt k hk).1
theorem MkE.box {w0 w : World} {v : Value} {E : List Elem} (h : MkE w0 w v E) : v.ownBlock ≠ some w.heap.size := fun e => by have := h.hi _ e; omega
theorem MkE.elems {w0 w : World} {v : Value} {E : List Elem} (h : MkE w0 w v E) : ∃ a c, v = .slice a E.length c ∧ E.length ≤ c ∧ ElemsAt w a E := by
  obtain ⟨a', c', hv, hcap, _, hcl⟩ := elems_owned h.own.out
  exact ⟨a', c', hv, hcap, hcl, h.cp.rows⟩
theorem Grw.apart {w w' : World} {v v' : Value} {b : Nat} {us : List Value} (h : Grw w v w' v') (hV : VarB w b us) (hb : v.ownBlock ≠ some b) : v'.ownBlock ≠ some b := by
  rcases h.o with e | e
  · rw [e]; exact hb
  · intro k; have := e b k; have := hV.lt; omega
/-- An element appended, at a step of a region that draws its order: where the list is then. -/
theorem step_mk {w0 w : World} {ops : Array Oper} {o : Oper} {a : Act} {K : Act → World → Prop} {Q : Exit → Act → World → Prop} {X : Prop} (hgd : o.guard = none) (s x : Operand)
    (ho : o.op = .call { callee := .builtin .append, args := #[s, x], argTypes := #[57, 57] })
    {v : Value} {E : List Elem} (hs : a.eval s = v) (hm : MkE w0 w v E)
    (e : Elem) (B : Nat) (hx : a.eval x = .slice (some ⟨B, 0, none⟩) 1 1) (h0 : w.cell? ⟨B, 0, none⟩ = some (.slice e.a e.r.length e.c)) (h1 : w.cell? ⟨B, 1, none⟩ = some (.int .i64 e.n))
    (hc : Copied w e.a e.r) (hk : rowOK e.r) (hz : e.r.length ≤ e.c ∧ (e.a = none → e.c = 0)) (hlen : (E.length + 1) * 32 ≤ 140737488355328)
    (h : ∀ v' w', MkE w0 w' v' (E ++ [e]) → Grw w v w' v' → K (a.put o.dst v') w') :
    if Region.wanted o (yielded ops a.tmps) = true then Oper.wp Tryz.prog o a w K Q else X := by
  have hw : Region.wanted o (yielded ops a.tmps) = true := by simp [Region.wanted, hgd]
  rw [if_pos hw]
  obtain ⟨i0, hi, hz0, hz1, hz2⟩ := info_parts info36
  obtain ⟨v', w', hr, h2, h3, _, h5⟩ := run_append_own_at (P := Tryz.prog) w w0.heap.size 57 o.type 80 i0 (.agg #[.slice none 0 0, .int .i64 0]) 2 32 Tryz.underlying57 hi hz0 hz1 hz2 rfl (by decide) v E.length (cellsE E) hm.own.out ⟨B, 0, none⟩ 1 1 [.slice e.a e.r.length e.c, .int .i64 e.n] rfl
    (by
      intro j u hj
      match j, hj with
      | 0, hj => simp at hj; subst hj; rw [WideShapes.add_plain]; exact h0
      | 1, hj => simp at hj; subst hj; rw [WideShapes.add_plain]; exact h1
      | j + 2, hj => simp at hj)
    (by intro u hu; simp at hu; rcases hu with rfl | rfl <;> rfl) (by unfold maxLen; omega) hlen hm.b.size
  have hown' : OwnB w' w0.heap.size v' (E ++ [e]) := ⟨by rw [cellsE_snoc, List.length_append]; exact h2⟩
  have hK := keptT_grown hm.own.out hm.b.size h3
  have hcp : CopiesE w' (E ++ [e]) := (hm.cp.keptT hK).snoc ⟨hc.keptE hK, hk⟩
  have hb : Below w0.heap.size w0 w' := hm.b.grown h3 hm.b.size hm.lo
  unfold Oper.wp execOp
  simp only [ho, resolve, invoke, builtin, Sem.run_bind, Sem.run_pure, Result.andThen_ok, List.map_toArray, List.map_cons, List.map_nil, hs, hx, hr]
  exact h v' w' ⟨hown', hcp, fun y hy => by
    rcases List.mem_append.1 hy with hy | hy
    · exact hm.z y hy
    · obtain rfl := List.mem_singleton.1 hy; exact hz.2, fun y hy => by
    rcases List.mem_append.1 hy with hy | hy
    · exact hm.cap y hy
    · obtain rfl := List.mem_singleton.1 hy; exact hz.1, hb⟩ ((Grw.refl w v).app h3 h5)

theorem pairs_take {E1 E2 : List Elem} {i : Nat} (h : i < E1.length) : pairsB ((E1.map pr).take (i + 1)) (E2.map pr) = pairsB ((E1.map pr).take i) (E2.map pr) ++ (E2.map pr).map fun y => (E1[i].r ++ y.1, E1[i].n * y.2) := by
  rw [List.take_succ_eq_append_getElem (by simpa using h), pairsB_snoc]; simp [pr]
theorem map_take_pr {E : List Elem} {k : Nat} (h : k < E.length) (r : List Val) (n : Int) : ((E.map pr).take (k + 1)).map (fun y => (r ++ y.1, n * y.2)) = ((E.map pr).take k).map (fun y => (r ++ y.1, n * y.2)) ++ [(r ++ E[k].r, n * E[k].n)] := by
  rw [List.take_succ_eq_append_getElem (by simpa using h)]; simp [pr]
/-- What a list of elements must be for its rows to be put beside others. -/
structure SideOk (E1 E2 : List Elem) : Prop where
  z1 : ∀ e ∈ E1, e.a = none → e.c = 0
  z2 : ∀ e ∈ E2, e.a = none → e.c = 0
  len : ∀ x ∈ E1, ∀ y ∈ E2, x.r.length + y.r.length ≤ 1000000
  num : ∀ x ∈ E1, ∀ y ∈ E2, in64 (x.n * y.n)
  few : E1.length * E2.length ≤ 1000000
set_option maxHeartbeats 8000000 in
set_option maxRecDepth 1000000 in
theorem pairs_any (a1 a2 : Option Addr) (c1 c2 : Nat) (E1 E2 : List Elem) (w : World) (h1 : ElemsAt w a1 E1) (h2 : ElemsAt w a2 E2) (l1 : E1.length ≤ 1000000) (l2 : E2.length ≤ 1000000) (hS : SideOk E1 E2) :
    Calls Tryz.prog 303 #[.slice a1 E1.length c1, .slice a2 E2.length c2] w fun e w' => ∃ v E, e = .returned v ∧ MkE w w' v E ∧ E.map pr = pairsB (E1.map pr) (E2.map pr) := by
  have A1 := hid0 h1
  have A2 := hid0 h2
  have HS := hid0 hS
  have hfew := hS.few
  clear h1 h2 hS
  have hpl := pairsB_len
  have HPL := hid0 hpl
  clear hpl
  obtain ⟨i0, hi, hz0, hz1, hz2⟩ := info_parts info36
  obtain ⟨N, hN⟩ : ∃ N, E1.length * E2.length = N := ⟨_, rfl⟩
  have hNi : (E1.length : Int) * (E2.length : Int) = (N : Int) := by rw [← hN]; push_cast; rfl
  rw [hN] at hfew
  have HN := hid0 hN
  have hw0 : IntKind.i64.wrap ((E1.length : Int) * (E2.length : Int)) = (N : Int) := by rw [hNi]; exact IntWalk.i64_in _ (by omega)
  clear hN hNi
  go_enter Tryz.func303, Tryz.ntmps303
  go_wp2_with (at_make; go_must (refine wpList_make_own _ rfl _ _ 57 rfl w.heap.size 80 i0 (.agg #[.slice none 0 0, .int .i64 0]) 2 Tryz.underlying57 hi hz0 hz1 _ _ _ N rfl rfl ?b1 ?b2 ?b3 (Nat.le_refl _) ?_))
  case b1 => simp
  case b2 => rw [hz2]; omega
  case b3 => unfold maxLen; omega
  intro w1 hown1 hg1
  have hM1 : MkE w w1 (.slice (some ⟨w.heap.size, 0, none⟩) 0 N) [] := ⟨⟨hown1⟩, CopiesE.nil _, fun _ h => absurd h (by simp), fun _ h => absurd h (by simp), (Below.refl _ _).grown hg1 (Nat.le_refl _) (fun k hk => by cases hk)⟩
  clear hown1 hg1 hz0 hz1 hz2 hi
  go_wp2_with fail
  go_loopw [5, 18] (fun ov iv wr => ∃ (i : Nat) (Eo : List Elem), i ≤ E1.length ∧ iv = .int .i64 i ∧ MkE w wr ov Eo ∧ Hid (Eo.map pr = pairsB ((E1.map pr).take i) (E2.map pr))) (fun _ iv _ => E1.length - (intOf iv).toNat)
  case atStart => exact ⟨0, [], Nat.zero_le _, rfl, hM1, hid0 (by simp [pairsB])⟩
  case round =>
    obtain ⟨i, Eo, hi, rfl, hM, hT⟩ := hrel
    have hsz := hM.b.size
    clear hM1
    by_cases hlt : i < E1.length
    · obtain ⟨b1, o1, rfl, hc1⟩ := (A1.out.1.later hM.b) (by intro e; rw [e] at hlt; exact absurd hlt (by simp))
      obtain ⟨q0, q1⟩ := hc1 i hlt
      clear hc1
      have hmem := List.getElem_mem hlt
      have hx1 := hid0 (A1.out.2 _ hmem).1
      have hz1 := hid0 (HS.out.z1 _ hmem)
      have hlen := hid0 (HS.out.len _ hmem)
      have hnum := hid0 (HS.out.num _ hmem)
      have HPT := hid0 (pairs_take (E2 := E2) hlt)
      have HF := hid0 (show i * E2.length + E2.length ≤ N by rw [← HN.out, ← Nat.succ_mul]; exact Nat.mul_le_mul_right _ hlt)
      have HLO := hid0 (show Eo.length = i * E2.length by
        have := congrArg List.length hT.out
        rw [List.length_map, pairsB_len, List.length_take, List.length_map, List.length_map, Nat.min_eq_left (by omega)] at this
        exact this)
      generalize hx : E1[i] = x at q0 q1 hx1 hz1 hlen hnum HPT
      clear hx hmem
      have hMA := hM.alloc (Obj.cells #[.slice x.a x.r.length x.c, .int .i64 x.n] 80)
      have VA := VarB.new wr [.slice x.a x.r.length x.c, .int .i64 x.n] 80
      have hbx := hM.box
      have hBx := hid0 (Nat.lt_of_le_of_lt hsz (VA.lt))
      go_wp2_with fail
      clear q0 q1 hM
      generalize wr.alloc (Obj.cells #[.slice x.a x.r.length x.c, .int .i64 x.n] 80) = WA at hMA VA hBx ⊢
      generalize wr.heap.size = BX at hbx VA hsz ⊢
      go_loopw [5, 24] (fun ov kv wr => ∃ (k : Nat) (Eq : List Elem), k ≤ E2.length ∧ kv = .int .i64 k ∧ MkE w wr ov Eq ∧ VarB wr BX [.slice x.a x.r.length x.c, .int .i64 x.n] ∧ ov.ownBlock ≠ some BX ∧ Hid (Eq.map pr = Eo.map pr ++ ((E2.map pr).take k).map (fun y => (x.r ++ y.1, x.n * y.2)))) (fun _ kv _ => E2.length - (intOf kv).toNat)
      case atStart => exact ⟨0, Eo, Nat.zero_le _, rfl, hMA, VA, hbx, hid0 (by simp)⟩
      case round =>
        obtain ⟨k, Eq, hk, rfl, hM, V, hbX, hT2⟩ := hrel
        have hszi := hM.b.size
        clear hMA VA hbx
        by_cases hlt2 : k < E2.length
        · obtain ⟨b2, o2, rfl, hc2⟩ := (A2.out.1.later hM.b) (by intro e; rw [e] at hlt2; exact absurd hlt2 (by simp))
          obtain ⟨r0, r1⟩ := hc2 k hlt2
          clear hc2
          have hmem2 := List.getElem_mem hlt2
          have hy1 := hid0 (A2.out.2 _ hmem2).1
          have hz2 := hid0 (HS.out.z2 _ hmem2)
          have hlen2 := hlen.out _ hmem2
          have hnum2 := hid0 (hnum.out _ hmem2)
          have HTK := hid0 (map_take_pr hlt2 x.r x.n)
          have HLQ : Eq.length + 1 ≤ 1000000 := by
            have := congrArg List.length hT2.out
            rw [List.length_map, List.length_append, List.length_map, List.length_map, List.length_take, List.length_map, HLO.out] at this
            have := HF.out
            omega
          generalize hy : E2[k] = y at r0 r1 hy1 hz2 hlen2 hnum2 HTK
          clear hy hmem2
          have hw : IntKind.i64.wrap (x.n * y.n) = x.n * y.n := IntWalk.i64_in _ (by have := hnum2.out; unfold in64 at this; omega)
          have hMA := hM.alloc (Obj.cells #[.slice y.a y.r.length y.c, .int .i64 y.n] 80)
          have VY := VarB.new wr [.slice y.a y.r.length y.c, .int .i64 y.n] 80
          have VX := V.alloc (Obj.cells #[.slice y.a y.r.length y.c, .int .i64 y.n] 80)
          have hbY := hM.box
          have x0 := V.cell 0 rfl
          have x1 := V.cell 1 rfl
          go_wp2_with fail
          clear r0 r1 hM V x0 x1
          generalize wr.alloc (Obj.cells #[.slice y.a y.r.length y.c, .int .i64 y.n] 80) = WB at hMA VY VX ⊢
          generalize wr.heap.size = BY at hbY VY hszi ⊢
          obtain ⟨rr, hrr⟩ : ∃ rr, Hid (x.r ++ y.r = rr) := ⟨_, hid0 rfl⟩
          have hrl := hid0 (show rr.length ≤ 1000000 by rw [← hrr.out, List.length_append]; exact hlen2)
          have hMD := hMA.drew
          have VXD := VX.drew
          have VYD := VY.drew
          have x0 := VX.cell 0 rfl
          have x1 := VX.cell 1 rfl
          have y0 := VY.cell 0 rfl
          have y1 := VY.cell 1 rfl
          clear hMA VX VY
          go_region_held3 (fun w' => w'.cell? ⟨BX, 0, none⟩ = some (.slice x.a x.r.length x.c) ∧ w'.cell? ⟨BX, 1, none⟩ = some (.int .i64 x.n) ∧ w'.cell? ⟨BY, 0, none⟩ = some (.slice y.a y.r.length y.c) ∧ w'.cell? ⟨BY, 1, none⟩ = some (.int .i64 y.n))
            (first
              | (exact ⟨x0, x1, y0, y1⟩)
              | (go_split_ands; (try dsimp only); (repeat' apply And.intro); all_goals (first
                | assumption
                | exact cell_later hbn ‹_›
                | exact hX1.cell 0 rfl
                | exact hX1.cell 1 rfl
                | exact hY1.cell 0 rfl
                | exact hY1.cell 1 rfl
                | go_keep)))
            (first
              | (go_at_call 125; (try go_split_ands); refine (concat2_any _ _ _ _ _ _ rr _ _ (hx1.out.later hMD.b) (hy1.out.later hMD.b) hrr hlen2 hz1.out hz2.out).mono ?_; rintro e wn ⟨⟨a', c', rfl, hcc, hcp⟩, hbn⟩; have hM3 := fun o => (hMD.below hbn).alloc o; have hXn := VXD.below hbn; have hYn := VYD.below hbn; have HCP := hid0 hcp)
              | (refine step_mk (by rfl) _ _ (by rfl) (by rfl) (hM3 _) ⟨a', c', rr, x.n * y.n⟩ wn.heap.size (by rfl) (elem_new _ _ _ _).1 (elem_new _ _ _ _).2 (HCP.out.later ((Below.refl _ _).alloc (Nat.le_refl _) _)) (by have := hrl.out; show rr.length * 32 ≤ _; omega) hcc (by omega) ?_; intro v1 w1 hm1 hg1; have hX1 := hg1.var (hXn.alloc _) hbX; have hY1 := hg1.var (hYn.alloc _) hbY; have hbX1 := hg1.apart (hXn.alloc _) hbX))
          have R := hid0 (show (Eq ++ [⟨a', c', rr, x.n * y.n⟩] : List Elem).map pr = Eo.map pr ++ ((E2.map pr).take (k + 1)).map (fun y => (x.r ++ y.1, x.n * y.2)) by
            rw [List.map_append, hT2.out, HTK.out, List.append_assoc, hrr.out]; rfl)
          clear hXn hYn hM3 hMD VXD VYD hg1 hbn HCP hY1
          go_wp2
          exact ⟨⟨k + 1, _, by omega, by go_num, hm1, hX1, hbX1, R⟩, by simp [intOf]; omega⟩
        · have hie : ¬ (k : Int) < E2.length := by omega
          rw [List.take_of_length_le (by simp; omega)] at hT2
          have R := hid0 (show Eq.map pr = pairsB ((E1.map pr).take (i + 1)) (E2.map pr) by rw [hT2.out, hT.out, HPT.out])
          clear V hbX
          go_wp2
          exact ⟨⟨i + 1, Eq, by omega, by go_num, hM, R⟩, by simp [intOf]; omega⟩
    · have hie : ¬ (i : Int) < E1.length := by omega
      rw [List.take_of_length_le (by simp; omega)] at hT
      go_wp2
      go_ret
      exact ⟨_, rfl, Eo, hM, hT.out⟩
end Go.Proofs.YtfdkajefcplfjaaGreat

/- A list of one's own, changed in place. Conditions: each lemma names its own. -/
namespace Go.Proofs.YtfdkajefcplfjaaGreat
open Go.RowKit

theorem varB_ownE {w : World} {base n k : Nat} {e : TypeId} {v : Value} {xs : List Value} (h : w.ownsRow base e k v n xs) {g : Nat} (hg : v.ownBlock = some g) : VarB w g xs := by
  have h0 := h
  obtain ⟨hl, hcase⟩ := h
  rcases hcase with ⟨rfl, _⟩ | ⟨g', cap, cur, rfl, _, hh, hn, _, hsz, ht⟩
  · cases hg
  · cases hg
    have hc := h0.cells (g := g') rfl
    refine ⟨fun j u hj => ?_, fun j hj => ⟨?_, by simp [World.frozen?, hh]⟩, (Array.getElem?_eq_some_iff.1 hh).1⟩
    · have := hc j u hj; rwa [WideShapes.add_plain] at this
    · have := hc j _ (List.getElem?_eq_getElem hj); rw [WideShapes.add_plain] at this; rw [this]; rfl
theorem cellsE_set : ∀ (F : List Elem) (i : Nat) (e : Elem), i < F.length → ((cellsE F).set (i * 2) (.slice e.a e.r.length e.c)).set (i * 2 + 1) (.int .i64 e.n) = cellsE (F.set i e)
  | x :: F, 0, e, _ => by simp [cellsE, cellsOne]
  | x :: F, i + 1, e, h => by
    have ih := cellsE_set F i e (by simpa using h)
    have e1 : ∀ (y : Elem) (G : List Elem), cellsE (y :: G) = .slice y.a y.r.length y.c :: .int .i64 y.n :: cellsE G := fun y G => by simp [cellsE, cellsOne]
    rw [List.set_cons_succ, e1, e1, ← ih, show (i + 1) * 2 = i * 2 + 1 + 1 by omega, List.set_cons_succ, List.set_cons_succ, List.set_cons_succ, List.set_cons_succ]
/-- One of the list's elements laid at another one's place. -/
theorem MkE.set {w0 w : World} {g cap n : Nat} {F : List Elem} (h : MkE w0 w (.slice (some ⟨g, 0, none⟩) n cap) F) (hn : F.length = n) {i : Nat} (hi : i < n) {e : Elem} (he : e ∈ F) :
    MkE w0 (w.setCells g (i * 2) [.slice e.a e.r.length e.c, .int .i64 e.n]) (.slice (some ⟨g, 0, none⟩) n cap) (F.set i e) := by
  subst hn
  have s1 := World.ownsRow.stored h.own.out (i * 2) (.slice e.a e.r.length e.c)
  have s2 := World.ownsRow.stored s1.1 (i * 2 + 1) (.int .i64 e.n)
  have hg : w.grownBy (w.setCells g (i * 2) [.slice e.a e.r.length e.c, .int .i64 e.n]) (some g) := World.grownBy.trans s1.2 s2.2
  have hown : OwnB (w.setCells g (i * 2) [.slice e.a e.r.length e.c, .int .i64 e.n]) w0.heap.size (.slice (some ⟨g, 0, none⟩) F.length cap) (F.set i e) := ⟨by
    have := s2.1
    rw [cellsE_set F i e hi] at this
    rw [List.length_set]
    exact this⟩
  have hlo := h.lo g rfl
  have hm : ∀ y ∈ F.set i e, y ∈ F := fun y hy => by
    rcases List.mem_or_eq_of_mem_set hy with h | rfl
    · exact h
    · exact he
  have hK := keptT_grown h.own.out h.b.size hg
  exact ⟨hown, ⟨fun y hy => (h.cp.keptT hK).out y (hm y hy)⟩, fun y hy => h.z y (hm y hy), fun y hy => h.cap y (hm y hy), h.b.grown hg h.b.size (fun k hk => by cases hk; exact hlo)⟩
theorem own_cut {w : World} {base g n cap k size : Nat} {e : TypeId} {xs : List Value} (h : w.ownsRow base e size (.slice (some ⟨g, 0, none⟩) n cap) n xs) (hk : k ≤ n) : w.ownsRow base e size (.slice (some ⟨g, 0, none⟩) k cap) k (xs.take (k * size)) := by
  obtain ⟨hl, hcase⟩ := h
  have hks : k * size ≤ n * size := Nat.mul_le_mul_right _ hk
  rcases hcase with ⟨e1, _⟩ | ⟨g', cap', cur, e1, hb, hh, hnc, hcm, hcs, ht⟩
  · cases e1
  · cases e1
    refine ⟨by rw [List.length_take]; omega, .inr ⟨_, _, cur, rfl, hb, hh, by omega, hcm, hcs, ?_⟩⟩
    rw [← ht, List.take_take, Nat.min_eq_left hks]
theorem own_sets {w0 : World} {base g n cap size : Nat} {e : TypeId} : ∀ (zs : List Value) (o : Nat) (w : World) (xs : List Value), w.ownsRow base e size (.slice (some ⟨g, 0, none⟩) n cap) n xs → w0.grownBy w (some g) →
    ∃ ys, (w.setCells g o zs).ownsRow base e size (.slice (some ⟨g, 0, none⟩) n cap) n ys ∧ ys.take o = xs.take o ∧ w0.grownBy (w.setCells g o zs) (some g)
  | [], o, w, xs, h, hg => ⟨xs, h, rfl, hg⟩
  | z :: zs, o, w, xs, h, hg => by
    have s1 := World.ownsRow.stored h o z
    obtain ⟨ys, h1, h2, h3⟩ := own_sets zs (o + 1) (w.setCell ⟨g, o, none⟩ z) _ s1.1 (hg.trans s1.2)
    refine ⟨ys, h1, ?_, h3⟩
    have := congrArg (List.take o) h2
    rw [List.take_take, List.take_take, Nat.min_eq_left (by omega), List.take_set_of_le (by omega)] at this
    exact this
theorem cellsE_take (F : List Elem) : ∀ k, (cellsE F).take (k * 2) = cellsE (F.take k) := by
  induction F with
  | nil => intro k; simp [cellsE]
  | cons x F ih =>
    intro k
    have e1 : ∀ (y : Elem) (G : List Elem), cellsE (y :: G) = .slice y.a y.r.length y.c :: .int .i64 y.n :: cellsE G := fun y G => by simp [cellsE, cellsOne]
    cases k with
    | zero => simp [cellsE]
    | succ k => rw [e1, show (k + 1) * 2 = k * 2 + 1 + 1 by omega, List.take_succ_cons, List.take_succ_cons, ih, List.take_succ_cons, e1]
/-- The list cut to its first k, what is behind them laid anew. -/
theorem MkE.cut {w0 w : World} {g cap n k : Nat} {F : List Elem} (h : MkE w0 w (.slice (some ⟨g, 0, none⟩) n cap) F) (hn : F.length = n) (hk : k ≤ n) (zs : List Value) :
    MkE w0 (w.setCells g (k * 2) zs) (.slice (some ⟨g, 0, none⟩) k cap) (F.take k) := by
  subst hn
  obtain ⟨ys, h1, h2, h3⟩ := own_sets (w0 := w) zs (k * 2) w _ h.own.out ⟨rfl, rfl, rfl, Nat.le_refl _, fun _ _ _ => rfl⟩
  have hlo := h.lo g rfl
  have hown : OwnB (w.setCells g (k * 2) zs) w0.heap.size (.slice (some ⟨g, 0, none⟩) k cap) (F.take k) := ⟨by
    have := own_cut h1 hk
    rw [h2, cellsE_take] at this
    rw [List.length_take, Nat.min_eq_left hk]
    exact this⟩
  have hm : ∀ y ∈ F.take k, y ∈ F := fun y hy => List.mem_of_mem_take hy
  have hK := keptT_grown h.own.out h.b.size h3
  exact ⟨hown, ⟨fun y hy => (h.cp.keptT hK).out y (hm y hy)⟩, fun y hy => h.z y (hm y hy), fun y hy => h.cap y (hm y hy), h.b.grown h3 h.b.size (fun k hk => by cases hk; exact hlo)⟩
theorem zeroMany (w : World) : (zeroValue 80).run Tryz.prog w = .ok (.agg #[.slice none 0 0, .int .i64 0]) w := by kernel_rfl
/-- clear of a list's end. -/
theorem clear_many (w : World) (b o n c : Nat) (hn : 0 < n) (ht : w.there b o (n * 2)) :
    ∃ zs, ∀ ty, (Builtin.clear_ #[57] ty #[.slice (some ⟨b, o, none⟩) n c]).run Tryz.prog w = .ok (.tuple #[]) (w.setCells b o zs) := by
  refine ⟨(Builtin.zeroCells (Value.cells (.agg #[.slice none 0 0, .int .i64 0])) n).toList, fun ty => ?_⟩
  have hl : (Builtin.zeroCells (Value.cells (.agg #[.slice none 0 0, .int .i64 0])) n).toList.length = n * 2 := by simp [Builtin.zeroCells, Value.cells]
  have h1 : ∀ v ∈ (Builtin.zeroCells (Value.cells (.agg #[.slice none 0 0, .int .i64 0])) n).toList, v.oneCell' = true := by
    intro v hv
    simp only [Builtin.zeroCells, Value.cells, Array.toList_map, List.mem_map] at hv
    obtain ⟨i, _, rfl⟩ := hv
    rcases (show i % 2 = 0 ∨ i % 2 = 1 by omega) with h | h
    all_goals (show (#[Value.slice none 0 0, .int .i64 0][i % 2]!).oneCell' = true; rw [h]; rfl)
  have hst := run_storeCells_cells (P := Tryz.prog) b o (Builtin.zeroCells (Value.cells (.agg #[.slice none 0 0, .int .i64 0])) n).toList 0 w (by intro j hj; rw [hl] at hj; simpa using (ht j hj).1) (by intro j hj; rw [hl] at hj; simpa using (ht j hj).2) h1
  simp only [Nat.add_zero] at hst
  obtain ⟨m, rfl⟩ : ∃ m, n = m + 1 := ⟨n - 1, by omega⟩
  simp [Builtin.clear_, run_underlying Tryz.underlying57, hst]
theorem wp_putE {P : Program} {ops : Array Oper} {rest : List Oper} {a : Act} {w : World} {Q : Exit → Act → World → Prop} {B o n : Nat} {vs : List Value} {ty tt : TypeId} {x y : Operand} {pos : String} {af : Array Edge} (ht : w.there B o n) (hl : vs.length = n) (h1 : ∀ v ∈ vs, v.oneCell' = true)
    (hi : (P.info? ty).map (·.size) = some n) (hx : a.eval x = .pointer (some ⟨B, o, none⟩)) (hy : a.eval y = .agg vs.toArray)
    (h : wpList P ops Q rest (a.put none undef) (w.setCells B o vs)) : wpList P ops Q (⟨none, .store ty x y, tt, pos, af, none⟩ :: rest) a w :=
  wpList_store_mid rfl ty x y rfl B o vs.toArray hx hy (by simpa [hl] using ht) (by simpa [hl] using hi) (all_oneCell_toArray h1) (by simpa using h)
theorem sizeMany : (Tryz.prog.info? 80).map (·.size) = some 2 := by kernel_rfl
end Go.Proofs.YtfdkajefcplfjaaGreat
