/- What the laws of layer 6 call of their own: a heap in new memory: a contract of the call, in whatever memory. Conditions: the pages' cells are known. -/
import Derived.Test.YtnneeojgakjalaaHpc
import Derived.Test.YtnneeojgakjalaaHi
import Derived.Deep.RegionLaw
namespace Go.Proofs.Ytnneeojgakjalaa
open Go.RowKit

theorem row_keep {w w' : World} {n : Nat} {e : TypeId} {s k : Nat} {v : Value} {xs : List Value} (h : w.ownsRow n e s v k xs) (hb : Below w.heap.size w w') : w'.ownsRow n e s v k xs :=
  World.ownsRow.kept (row := none) h ⟨hb.os, hb.tape, hb.output, hb.size, fun j hj _ => hb.block j hj⟩ (by cases v.ownBlock <;> simp)
theorem OwnS.fine {w : World} {base : Nat} {a : Option Addr} {c : Nat} {p : Pg} (h : OwnS w base (.slice a p.length c) p) (hl : p.length * 24 ≤ 140737488351232) (hs : slotsIn p) : PgAt w a c p := by
  obtain ⟨a', c', e, hc, _, hq⟩ := slots_owned h
  obtain ⟨rfl, -, rfl⟩ := Value.slice.inj e
  exact ⟨hq, hc, hl, hs⟩
/-- An append of slots to a row that is empty, as a step of a region that draws. -/
theorem step_slotsq {w : World} {ops : Array Oper} {o : Oper} {a : Act} {K : Act → World → Prop} {Q : Exit → Act → World → Prop} {X : Prop} (hgd : o.guard = none) (s x : Operand)
    (ho : o.op = .call { callee := .builtin .append, args := #[s, x], argTypes := #[60, 60] })
    {base B : Nat} (hs : a.eval s = .slice (some ⟨B, 0, none⟩) 0 0) (hown : OwnS w base (.slice (some ⟨B, 0, none⟩) 0 0) [])
    (oa : Option Addr) (c : Nat) (p : Pg) (hx : a.eval x = .slice oa p.length c) (hS : SlotsAt w oa p)
    (hlen : p.length * 24 ≤ 140737488355328) (hbase : base ≤ w.heap.size)
    (h : ∀ v' w', OwnS w' base v' p → Below base w w' → K (a.put o.dst v') w') :
    if Region.wanted o (yielded ops a.tmps) = true then Oper.wp Try.prog o a w K Q else X := by
  have hw : Region.wanted o (yielded ops a.tmps) = true := by simp [Region.wanted, hgd]
  rw [if_pos hw]
  obtain ⟨i0, hi, hz0, hz1, hz2⟩ := info_parts info52
  cases oa with
  | none =>
    have hp : p = [] := by
      rcases Classical.em (p = []) with h | h
      · exact h
      · obtain ⟨b, off, e, _⟩ := hS h; cases e
    subst hp
    have hrun := run_append_none (P := Try.prog) w 60 o.type 77 i0 Try.underlying60 hi (some ⟨B, 0, none⟩) 0 0 c (Nat.le_refl _)
    unfold Oper.wp
    have hx' : a.eval x = .slice none 0 c := hx
    simp [execOp, ho, resolve, invoke, builtin, hs, hx', hrun, Result.andThen]
    exact h _ _ hown (Below.refl _ _)
  | some ad =>
    have hn : ∀ j u, (slotCells p)[j]? = some u → w.cell? (ad.add j) = some u := by
      rcases Classical.em (p = []) with h | h
      · subst h; intro j u hj; simp [slotCells] at hj
      · obtain ⟨b, off, e, _⟩ := hS h
        obtain rfl : ad = ⟨b, off, none⟩ := by simpa using e
        exact slotCells_of hS
    refine wp_append_own w s x 60 ho base 77 i0 (.agg #[.bool false, .string ⟨#[]⟩]) 2 24 Try.underlying60 hi hz0 hz1 hz2 rfl (by decide) _ 0 [] hs hown.out ad p.length c (slotCells p) hx (slotCells_len p) hn (slotCells_one p) (by unfold maxLen; omega) (by omega) hbase ?_
    intro v' w' hown' hgrow _
    exact h v' w' ⟨by simpa using hown'⟩ ((Below.refl _ _).grown hgrow hbase (fun k hk => (hown.out.lt k hk).1))
/-- An append of one page, as a step of a region that draws. -/
theorem step_pageq {w : World} {ops : Array Oper} {o : Oper} {a : Act} {K : Act → World → Prop} {Q : Exit → Act → World → Prop} {X : Prop} (hgd : o.guard = none) (s x : Operand)
    (ho : o.op = .call { callee := .builtin .append, args := #[s, x], argTypes := #[22, 22] })
    {base : Nat} {v : Value} {E : List PgE} (hs : a.eval s = v) (hown : OwnH w base v E)
    (e : PgE) (B : Nat) (hx : a.eval x = .slice (some ⟨B, 0, none⟩) 1 1) (h0 : w.cell? ⟨B, 0, none⟩ = some (.slice e.a e.p.length e.c))
    (hlen : (E.length + 1) * 24 ≤ 140737488355328) (hbase : base ≤ w.heap.size)
    (h : ∀ v' w', OwnH w' base v' (E ++ [e]) → w.grownBy w' v.ownBlock → Below base w w' → K (a.put o.dst v') w') :
    if Region.wanted o (yielded ops a.tmps) = true then Oper.wp Try.prog o a w K Q else X := by
  have hw : Region.wanted o (yielded ops a.tmps) = true := by simp [Region.wanted, hgd]
  rw [if_pos hw]
  obtain ⟨i0, hi, hz0, hz1, hz2⟩ := info_parts info62
  refine wp_append_own w s x 22 ho base 62 i0 (.agg #[.slice none 0 0]) 1 24 Try.underlying22 hi hz0 hz1 hz2 rfl (by decide) v E.length (pgCells E) hs hown.out ⟨B, 0, none⟩ 1 1 [.slice e.a e.p.length e.c] hx rfl ?_ ?_ (by unfold maxLen; omega) hlen hbase ?_
  · intro j u hj
    match j, hj with
    | 0, hj => simp at hj; subst hj; rw [WideShapes.add_plain]; exact h0
    | j + 1, hj => simp at hj
  · intro u hu; simp at hu; subst hu; rfl
  · intro v' w' hown' hgrow _
    refine h v' w' ⟨?_⟩ hgrow ((Below.refl _ _).grown hgrow hbase (fun k hk => (hown.out.lt k hk).1))
    rw [pgCells_append, List.length_append]
    exact hown'
/-- What a heap's copy owns so far. -/
structure CopyAt (w : World) (base : Nat) (v : Value) (D : List PgE) : Prop where
  own : OwnH w base v D
  pages : ∀ e ∈ D, OwnS w base (.slice e.a e.p.length e.c) e.p
theorem OwnS.later {w w' : World} {base : Nat} {v : Value} {p : Pg} (h : OwnS w base v p) (hb : Below w.heap.size w w') : OwnS w' base v p := ⟨row_keep h.out hb⟩
theorem CopyAt.later {w w' : World} {base : Nat} {v : Value} {D : List PgE} (h : CopyAt w base v D) (hb : Below w.heap.size w w') : CopyAt w' base v D := ⟨h.own.kept hb, fun e he => (h.pages e he).later hb⟩
theorem OwnS.setBelow {w : World} {base : Nat} {v : Value} {p : Pg} (h : OwnS w base v p) {B o : Nat} (hB : B < base) (u : Value) : OwnS (w.setCell ⟨B, o, none⟩ u) base v p := ⟨ownsRow_setCell_below h.out hB u⟩
theorem rows_apart {W : World} {n n' : Nat} {e e' : TypeId} {s s' k k' : Nat} {v v' : Value} {xs ys : List Value} (h : W.ownsRow n e s v k xs) (h' : W.ownsRow n' e' s' v' k' ys) (hne : e ≠ e') : v.ownBlock = none ∨ v.ownBlock ≠ v'.ownBlock := by
  rcases h.2 with ⟨rfl, _⟩ | ⟨g, cap, cur, rfl, _, hg, _⟩
  · exact .inl rfl
  · right
    rcases h'.2 with ⟨rfl, _⟩ | ⟨g', cap', cur', rfl, _, hg', _⟩
    · simp [Value.ownBlock]
    · intro e
      obtain rfl : g = g' := by simpa [Value.ownBlock] using e
      rw [hg] at hg'
      simp at hg'
      exact hne hg'.2
/-- A row of slots stays beside an append to another row of another type. -/
theorem OwnS.beside {w w' : World} {base : Nat} {v u : Value} {p : Pg} {e : TypeId} {s k : Nat} {xs : List Value} (h : OwnS w base v p) (hr : w.ownsRow base e s u k xs) (he : 77 ≠ e) (hg : w.grownBy w' u.ownBlock) : OwnS w' base v p := ⟨h.out.kept hg (rows_apart h.out hr he)⟩

theorem copy_pages {w2 w3 : World} {base b1 : Nat} {v v3 : Value} {D : List PgE} {a1 : Option Addr} {c1 : Nat} {pp : Pg} {tmp : Obj} (hC : CopyAt w2 base v D) (hS : OwnS w2 b1 (.slice a1 pp.length c1) pp) (hO : OwnH w3 base v3 (D ++ [(⟨a1, c1, pp⟩ : PgE)])) (hr : OwnH (w2.alloc tmp) base v D) (hgr : (w2.alloc tmp).grownBy w3 v.ownBlock)
    (B : Nat) (hB : B < base) (hb : base ≤ b1) (u : Value) : CopyAt (w3.setCell ⟨B, 0, none⟩ u) base v3 (D ++ [(⟨a1, c1, pp⟩ : PgE)]) := by
  refine ⟨hO.setCell (a := ⟨B, 0, none⟩) hB u, fun e he => ?_⟩
  rcases List.mem_append.1 he with he | he
  · exact (((hC.pages e he).alloc tmp).beside hr.out (by decide) hgr).setBelow hB u
  · obtain rfl := List.mem_singleton.1 he
    exact (((hS.base hb).alloc tmp).beside hr.out (by decide) hgr).setBelow hB u

set_option maxHeartbeats 8000000 in
set_option maxRecDepth 1000000 in
theorem hCopied_any (a : Option Addr) (c : Nat) (E : List PgE) (w : World) (h : HpAt w a c E) :
    Calls Try.prog 7 #[.agg #[.slice a E.length c]] w fun e w' => (∃ a' c' E', e = .returned (.agg #[.slice a' E'.length c']) ∧ HpAt w' a' c' E' ∧ hp E' = hp E) ∧ Below w.heap.size w w' := by
  have A := hid0 h
  have hlb : E.length ≤ 5864062014805 := by have := h.len; omega
  have v1 := ((VarAt.new w (.slice a E.length c) 24).alloc (Obj.cells #[.slice none 0 0] 24)).alloc (Obj.cells #[.slice none 0 0] 24)
  have v2 := (VarAt.new (w.alloc (Obj.cells #[.slice a E.length c] 24)) (.slice none 0 0) 24).alloc (Obj.cells #[.slice none 0 0] 24)
  have v3 := VarAt.new ((w.alloc (Obj.cells #[.slice a E.length c] 24)).alloc (Obj.cells #[.slice none 0 0] 24)) (.slice none 0 0) 24
  simp only [World.size_alloc] at v2 v3
  have hB0 : Below w.heap.size w (((w.alloc (Obj.cells #[.slice a E.length c] 24)).alloc (Obj.cells #[.slice none 0 0] 24)).alloc (Obj.cells #[.slice none 0 0] 24)) := (((Below.refl _ _).alloc (Nat.le_refl _) _).alloc (by simp) _).alloc (by simp; omega) _
  have hs0 : w.heap.size + 3 ≤ (((w.alloc (Obj.cells #[.slice a E.length c] 24)).alloc (Obj.cells #[.slice none 0 0] 24)).alloc (Obj.cells #[.slice none 0 0] 24)).heap.size := by simp
  clear h
  go_enter Try.func7, Try.ntmps7
  go_wp2_with fail
  generalize ((w.alloc (Obj.cells #[.slice a E.length c] 24)).alloc (Obj.cells #[.slice none 0 0] 24)).alloc (Obj.cells #[.slice none 0 0] 24) = W0 at v1 v2 v3 hB0 hs0 ⊢
  go_loopw [4] (fun iv wr => ∃ (i : Nat) (D : List PgE) (v : Value), i ≤ E.length ∧ iv = .int .i64 i ∧ D.map (·.p) = (hp E).take i ∧ Hid (CopyAt wr (w.heap.size + 3) v D) ∧ VarAt wr w.heap.size (.slice a E.length c) ∧ VarAt wr (w.heap.size + 1) (.slice none 0 0) ∧ VarAt wr (w.heap.size + 1 + 1) v ∧ w.heap.size + 3 ≤ wr.heap.size ∧ Below w.heap.size w wr) (fun iv _ => E.length - (intOf iv).toNat)
  case atStart => exact ⟨0, [], _, Nat.zero_le _, rfl, rfl, hid0 ⟨own_none _ _, fun e he => absurd he (by simp)⟩, v1, v2, v3, hs0, hB0⟩
  case round =>
    clear v1 v2 v3 hB0 hs0
    obtain ⟨i, D, v, hil, rfl, hD, hC, V1, V2, V3, hsz, hB⟩ := hrel
    have hDl : D.length = i := by
      have := congrArg List.length hD
      rw [List.length_map, List.length_take, hp_len] at this
      omega
    obtain ⟨va, vc, rfl, hvc, -, -⟩ := pgs_owned hC.out.own
    by_cases hlt : i < E.length
    · have hne : E ≠ [] := by intro e; rw [e] at hlt; exact absurd hlt (by simp)
      have hii : (i : Int) < (E.length : Int) := by omega
      obtain ⟨b, o, rfl, hcs⟩ := (A.out.later hB).cells hne
      have p0 := hcs i hlt
      have hP := (A.out.pages _ (List.getElem_mem hlt)).later hB
      have hpi := hp_at hlt
      obtain ⟨pe, hpe⟩ : ∃ pe, E[i] = pe := ⟨_, rfl⟩
      rw [hpe] at p0 hP hpi
      obtain ⟨pa, pc, pp⟩ := pe
      dsimp only at p0 hP hpi
      have HP := hid0 hP
      have hDn : ∀ (a1 : Option Addr) (c1 : Nat), (D ++ [(⟨a1, c1, pp⟩ : PgE)]).map (·.p) = (hp E).take (i + 1) := fun a1 c1 => by
        have hpl : i < (hp E).length := by rw [hp_len]; exact hlt
        rw [List.map_append, hD, List.take_succ_eq_append_getElem hpl, hpi]; rfl
      have HDN := hid0 hDn
      have HDL := hid0 hDl
      have hpl := hP.len
      have hbl : b < wr.heap.size := World.block_lt_of_cell? _ _ p0
      have hown1 : OwnS (wr.alloc (Obj.cells #[] 77)).drew wr.heap.size (.slice (some ⟨wr.heap.size, 0, none⟩) 0 0) [] := ⟨World.ownsRow_made wr #[] 0 (Nat.le_refl _) (by unfold maxLen; omega) rfl⟩
      have hBA : Below wr.heap.size wr (wr.alloc (Obj.cells #[] 77)).drew := Below.drew ((Below.refl _ _).alloc (Nat.le_refl _) _)
      have hSA := hid0 (HP.out.out.later hBA)
      have HC := hC
      have HV := hid0 (And.intro V1 (And.intro V2 V3))
      obtain ⟨q1, f1⟩ := V1
      obtain ⟨q3, f3⟩ := V3
      have l1 : w.heap.size < wr.heap.size := by omega
      have l3 : w.heap.size + 1 + 1 < wr.heap.size := by omega
      have hDl24 : (D.length + 1) * 24 ≤ 140737488351232 := by have := A.out.len; omega
      clear hcs hP hpi hpe hD hC V2 hDn hDl
      go_wp2_with fail
      go_region_law (first
        | (refine step_slotsq (by rfl) _ _ (by rfl) (by rfl) hown1 pa pc pp (by rfl) hSA.out (by omega) (by simp) ?_; intro v1 w2 hownS hb2; obtain ⟨a1, c1, rfl, hc1, -, -⟩ := slots_owned hownS; have hbw := hBA.trans (hb2.mono (Nat.le_refl _)); have hz2 := hbw.size; have q32 := (VarAt.mk q3 f3).later hbw; obtain ⟨q32, f32⟩ := q32; have l32 : w.heap.size + 1 + 1 < w2.heap.size := (by omega); have HO2 := hid0 ((HC.out.later hbw).own.alloc (Obj.cells #[.slice a1 pp.length c1] 62)); have HS2 := hid0 hownS)
        | (refine step_pageq (by rfl) _ _ (by rfl) (by rfl) HO2.out (⟨a1, c1, pp⟩ : PgE) w2.heap.size (by rfl) (line_new1 w2 _ _) (by omega) (by simp; omega) ?_; intro v3 w3 hownH hgr hb3; obtain ⟨g, cg, rfl, hg, hcg, -, -⟩ := hownH.form (by simp); have hO3 : OwnH w3 (w.heap.size + 3) (.slice (some ⟨g, 0, none⟩) (D.length + 1) cg) (D ++ [(⟨a1, c1, pp⟩ : PgE)]) := (by simpa using hownH); obtain ⟨V1, V2, V3⟩ := HV.out; have hV3 := ((V3.later hbw).alloc (Obj.cells #[.slice a1 pp.length c1] 62)).below hb3 (by omega); have hpg := hid0 (copy_pages (HC.out.later hbw) HS2.out hO3 HO2.out hgr (w.heap.size + 1 + 1) (by omega) (by omega) (.slice (some ⟨g, 0, none⟩) (D.length + 1) cg)); have hfin := hid0 (And.intro ((((V1.later hbw).alloc (Obj.cells #[.slice a1 pp.length c1] 62)).below hb3 (by omega)).other ⟨w.heap.size + 1 + 1, 0, none⟩ (.slice (some ⟨g, 0, none⟩) (D.length + 1) cg) (by show w.heap.size + 1 + 1 ≠ w.heap.size; omega)) (And.intro ((((V2.later hbw).alloc (Obj.cells #[.slice a1 pp.length c1] 62)).below hb3 (by omega)).other ⟨w.heap.size + 1 + 1, 0, none⟩ (.slice (some ⟨g, 0, none⟩) (D.length + 1) cg) (by show w.heap.size + 1 + 1 ≠ w.heap.size + 1; omega)) (And.intro (hV3.set (.slice (some ⟨g, 0, none⟩) (D.length + 1) cg)) (((hB.trans (hbw.mono hB.size)).alloc (by have := hB.size; omega) (Obj.cells #[.slice a1 pp.length c1] 62)).trans (hb3.mono (by omega)) |>.setCell (p := ⟨w.heap.size + 1 + 1, 0, none⟩) (by show w.heap.size ≤ w.heap.size + 1 + 1; omega) (.slice (some ⟨g, 0, none⟩) (D.length + 1) cg))))); have hz3 := hb3.size; obtain ⟨q33, f33⟩ := hV3; clear hcg hownH hgr hb3 hO3 V1 V2 V3))
      all_goals (go_wp2; exact ⟨⟨i + 1, D ++ [(⟨a1, c1, pp⟩ : PgE)], _, by omega, by go_num, HDN.out a1 c1, hpg, hfin.out.1, hfin.out.2.1, hfin.out.2.2.1, by simp at hz3 ⊢; omega, hfin.out.2.2.2⟩, by simp [intOf]; omega⟩)
    · obtain rfl : i = E.length := by omega
      have hie : ¬ (E.length : Int) < (E.length : Int) := by omega
      rw [List.take_of_length_le (by rw [hp_len]; exact Nat.le_refl _)] at hD
      have hpgs : ∀ e ∈ D, fineP e.p := fun e he => by
        have h1 : e.p ∈ D.map (·.p) := List.mem_map_of_mem he
        rw [hD] at h1
        obtain ⟨e0, he0, e1⟩ := List.mem_map.1 h1
        have h2 := A.out.pages e0 he0
        rw [← e1]; exact ⟨h2.len, h2.small⟩
      have hF := (VarAt.set V2 (.slice va D.length vc)).cell
      have hBf := hB.setCell (p := ⟨w.heap.size + 1, 0, none⟩) (by show w.heap.size ≤ w.heap.size + 1; omega) (.slice va D.length vc)
      have hHp : HpAt (wr.setCell ⟨w.heap.size + 1, 0, none⟩ (.slice va D.length vc)) va vc D := by
        have h1 := hC.out.own.setCell (a := ⟨w.heap.size + 1, 0, none⟩) (by show w.heap.size + 1 < w.heap.size + 3; omega) (.slice va D.length vc)
        refine ⟨h1.slots, fun e he => ((hC.out.pages e he).setBelow (by omega) _).fine (hpgs e he).1 (hpgs e he).2, hvc, by rw [hDl]; exact A.out.len⟩
      have HQ := hid0 hHp
      have HDD := hid0 (And.intro hD hDl)
      obtain ⟨q1, f1⟩ := V1
      obtain ⟨q2, f2⟩ := V2
      obtain ⟨q3, f3⟩ := V3
      clear hHp hD hDl hpgs
      go_wp2_with fail
      exact bodyPost_ret (v := .agg #[.slice va D.length vc]) (by simp [results, Try.results7, go_sem, hF]) rfl ⟨⟨va, vc, D, rfl, HQ.out, HDD.out.1⟩, hBf⟩
end Go.Proofs.Ytnneeojgakjalaa
