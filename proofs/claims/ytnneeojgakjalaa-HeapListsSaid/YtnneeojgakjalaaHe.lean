/- The reference of layer 6: a heap's pages in new memory; two heaps that are the same: contracts of the calls, in whatever memory. Conditions: the pages' cells are known, they are not too many. -/
import Derived.Test.YtnneeojgakjalaaHd
namespace Go.Proofs.Ytnneeojgakjalaa
open Go.RowKit

theorem info62 : (Try.prog.info? 62).map (fun i => (i.zero, i.size, i.bytes)) = some (some (.agg #[.slice none 0 0]), 1, 24) := by kernel_rfl
def pgCells (E : List PgE) : List Value := E.map fun e => .slice e.a e.p.length e.c
theorem pgCells_append (A B : List PgE) : pgCells (A ++ B) = pgCells A ++ pgCells B := by simp [pgCells]
theorem pgCells_len (E : List PgE) : (pgCells E).length = E.length * 1 := by simp [pgCells]
theorem pgCells_one (E : List PgE) : ∀ u ∈ pgCells E, u.oneCell' = true := by
  intro u hu
  obtain ⟨e, _, rfl⟩ := List.mem_map.1 hu
  rfl
def HCells (w : World) (a : Option Addr) (E : List PgE) : Prop :=
  E ≠ [] → ∃ b off, a = some ⟨b, off, none⟩ ∧ ∀ i (h : i < E.length), w.cell? ⟨b, off + i, none⟩ = some (.slice (E[i]).a (E[i]).p.length (E[i]).c)
theorem HCells.later {w w' : World} {a : Option Addr} {E : List PgE} (h : HCells w a E) (hb : Below w.heap.size w w') : HCells w' a E := fun hn => by
  obtain ⟨b, off, e, hc⟩ := h hn
  exact ⟨b, off, e, fun i hi => cell_later hb (hc i hi)⟩
theorem pgCells_of {w : World} {b off : Nat} {E : List PgE} (h : HCells w (some ⟨b, off, none⟩) E) : ∀ j u, (pgCells E)[j]? = some u → w.cell? ((⟨b, off, none⟩ : Addr).add j) = some u := by
  intro j u hj
  have hlt : j < E.length := by
    have := (List.getElem?_eq_some_iff.1 hj).1
    simpa [pgCells] using this
  have hne : E ≠ [] := fun e => by subst e; simp at hlt
  obtain ⟨b', off', e, hc⟩ := h hne
  obtain ⟨rfl, rfl⟩ : b = b' ∧ off = off' := by simpa using e
  rw [WideShapes.add_plain, hc j hlt]
  rw [← hj]; simp [pgCells, hlt]
/-- The pages E, in a block of its own from base on, or nil. -/
structure OwnH (w : World) (base : Nat) (v : Value) (E : List PgE) : Prop where
  out : w.ownsRow base 62 1 v E.length (pgCells E)
theorem OwnH.base {w : World} {base base' : Nat} {v : Value} {E : List PgE} (h : OwnH w base v E) (hb : base' ≤ base) : OwnH w base' v E := by
  refine ⟨h.out.1, ?_⟩
  rcases h.out.2 with h | ⟨g, cap, cur, h1, h2, h3⟩
  · exact .inl h
  · exact .inr ⟨g, cap, cur, h1, by omega, h3⟩
theorem OwnH.setCell {w : World} {base : Nat} {v : Value} {E : List PgE} (h : OwnH w base v E) {a : Addr} (ha : a.block < base) (u : Value) : OwnH (w.setCell a u) base v E := ⟨ownsRow_setCell_below h.out ha u⟩
theorem OwnH.kept {w w' : World} {base : Nat} {v : Value} {E : List PgE} (h : OwnH w base v E) (hb : Below w.heap.size w w') : OwnH w' base v E := by
  exact ⟨World.ownsRow.kept (row := none) h.out ⟨hb.os, hb.tape, hb.output, hb.size, fun j hj _ => hb.block j hj⟩ (by cases hv : v.ownBlock <;> simp)⟩
theorem OwnH.alloc {w : World} {base : Nat} {v : Value} {E : List PgE} (h : OwnH w base v E) (o : Obj) : OwnH (w.alloc o) base v E := ⟨World.ownsRow.alloc h.out o⟩
theorem OwnH.drew {w : World} {base : Nat} {v : Value} {E : List PgE} (h : OwnH w base v E) : OwnH w.drew base v E := ⟨h.out⟩
theorem pgs_owned {base : Nat} {w : World} {v : Value} {E : List PgE} (h : OwnH w base v E) : ∃ a c, v = .slice a E.length c ∧ E.length ≤ c ∧ c ≤ maxLen ∧ HCells w a E := by
  have h0 := h.out
  rcases h.out.2 with ⟨rfl, hl⟩ | ⟨g, cap', cur, rfl, hg, hh, hn, hcap, hsz, htake⟩
  · exact ⟨none, 0, by rw [hl], by omega, by unfold maxLen; omega, fun hne => absurd (List.length_eq_zero_iff.1 hl) hne⟩
  · refine ⟨some ⟨g, 0, none⟩, cap', rfl, hn, hcap, fun _ => ⟨g, 0, rfl, fun i hi => ?_⟩⟩
    rw [Nat.zero_add, h0.cellAt _ (by omega)]
    simp [pgCells, hi]
/-- Where the pages lie, if there are any. -/
theorem OwnH.form {w : World} {base : Nat} {v : Value} {E : List PgE} (h : OwnH w base v E) (hp : 0 < E.length) : ∃ g c, v = .slice (some ⟨g, 0, none⟩) E.length c ∧ base ≤ g ∧ E.length ≤ c ∧ (∀ j, w.frozen? ⟨g, j, none⟩ = false) ∧ (∀ i (h : i < E.length), w.cell? ⟨g, i, none⟩ = some (.slice (E[i]).a (E[i]).p.length (E[i]).c)) := by
  have h0 := h.out
  rcases h.out.2 with ⟨_, hl⟩ | ⟨g, cap', cur, rfl, hg, hh, hn, hcap, hsz, htake⟩
  · omega
  · refine ⟨g, cap', rfl, hg, hn, fun j => World.ownsRow.frozenAt h0 j, fun i hi => ?_⟩
    rw [h0.cellAt _ (by omega)]
    simp [pgCells, hi]
/-- A page written anew. -/
theorem OwnH.write {w : World} {base g c : Nat} {E : List PgE} (h : OwnH w base (.slice (some ⟨g, 0, none⟩) E.length c) E) (i : Nat) (e : PgE) :
    OwnH (w.setCell ⟨g, i, none⟩ (.slice e.a e.p.length e.c)) base (.slice (some ⟨g, 0, none⟩) (E.set i e).length c) (E.set i e) := by
  have h1 := (World.ownsRow.stored h.out i (.slice e.a e.p.length e.c)).1
  refine ⟨?_⟩
  have e' : pgCells (E.set i e) = (pgCells E).set i (.slice e.a e.p.length e.c) := by simp [pgCells, List.map_set]
  rw [e', List.length_set]
  exact h1
theorem HpAt.cellsH {w : World} {a : Option Addr} {c : Nat} {E : List PgE} (h : HpAt w a c E) : HCells w a E := h.cells

set_option maxHeartbeats 2000000 in
theorem refHWith_any (a : Option Addr) (c : Nat) (E : List PgE) (w : World) (h : HCells w a E) (hl : E.length * 24 ≤ 140737488351232) :
    Calls Try.prog 30 #[.agg #[.slice a E.length c]] w fun e w' => (∃ v, e = .returned (.agg #[v]) ∧ OwnH w' w.heap.size v E) ∧ Below w.heap.size w w' := by
  obtain ⟨i0, hi, hz0, hz1, hz2⟩ := info_parts info62
  have hown : ∀ o o', (((w.alloc o).alloc o').alloc (Obj.cells #[] 62)).ownsRow (w.heap.size + 2) 62 1 (.slice (some ⟨w.heap.size + 2, 0, none⟩) 0 0) 0 [] := fun o o' => by
    have h := World.ownsRow_made (base := w.heap.size + 2) (e := 62) (size := 1) ((w.alloc o).alloc o') #[] 0 (by simp) (by unfold maxLen; omega) rfl
    simpa using h
  have hB0 : ∀ o o', Below w.heap.size w (((w.alloc o).alloc o').alloc (Obj.cells #[] 62)) := fun o o' => (((Below.refl _ _).alloc (Nat.le_refl _) _).alloc (by simp) _).alloc (by simp; omega) _
  have fin : ∀ (W : World) (v : Value), OwnH W (w.heap.size + 2) v E → Below w.heap.size w W → (∃ v', Ending.returned (.agg #[v]) = .returned (.agg #[v']) ∧ OwnH (W.setCell ⟨w.heap.size + 1, 0, none⟩ v) w.heap.size v' E) ∧ Below w.heap.size w (W.setCell ⟨w.heap.size + 1, 0, none⟩ v) := fun W v ho hb =>
    ⟨⟨v, rfl, (ho.setCell (by show w.heap.size + 1 < w.heap.size + 2; omega) _).base (by omega)⟩, hb.setCell (by show w.heap.size ≤ w.heap.size + 1; omega) _⟩
  by_cases hne : E = []
  · subst hne
    cases a with
    | none =>
      have hap := fun W ty => run_append_none (P := Try.prog) W 22 ty 62 i0 Try.underlying22 hi (some ⟨w.heap.size + 2, 0, none⟩) 0 0 c (Nat.le_refl _)
      have hap' : ∀ W ty, (Builtin.append_ #[22, 22] ty #[.slice (some ⟨w.heap.size + 1 + 1, 0, none⟩) 0 0, .slice none 0 c]).run Try.prog W = .ok (.slice (some ⟨w.heap.size + 1 + 1, 0, none⟩) 0 0) W := hap
      have HO : ∀ o o', OwnH (((w.alloc o).alloc o').alloc (Obj.cells #[] 62)) (w.heap.size + 2) (.slice (some ⟨w.heap.size + 2, 0, none⟩) 0 0) [] := fun o o' => ⟨hown o o'⟩
      have hf := fun o o' v t => frozen_two w o o' v t
      clear hown
      go_enter Try.func30, Try.ntmps30
      go_wp2
      exact bodyPost_ret (v := .agg #[.slice (some ⟨w.heap.size + 1 + 1, 0, none⟩) 0 0]) (by simp [results, Try.results30, go_sem]) rfl ⟨⟨_, rfl, (HO _ _).base (by omega)⟩, hB0 _ _⟩
    | some ad =>
      go_enter Try.func30, Try.ntmps30
      go_wp2_with (at_builtin; go_must (refine wpList_append_own _ rfl _ _ 22 rfl (w.heap.size + 2) 62 i0 (.agg #[.slice none 0 0]) 1 24 Try.underlying22 hi hz0 hz1 hz2 rfl (by decide) _ _ _ rfl (hown _ _) ad 0 c [] rfl rfl (fun j u h => by simp at h) (fun u h => by simp at h) ?c3 ?c4 ?c5 ?_))
      case c3 => unfold maxLen; omega
      case c4 => omega
      case c5 => simp
      intro v' w1 hown' hgrow _
      have hB1 : Below w.heap.size w w1 := (hB0 _ _).grown hgrow (by simp; omega) (fun k hk => by have := (hown (Obj.cells #[.slice (some ad) 0 c] 24) (Obj.cells #[.slice none 0 0] 24)).lt k hk; omega)
      have hc1 : w1.cell? ⟨w.heap.size + 1, 0, none⟩ = some (.slice none 0 0) := hgrow.cell (by go_cell) (by simp [Value.ownBlock])
      have hf1 : w1.frozen? ⟨w.heap.size + 1, 0, none⟩ = false := (World.frozen?_of_block (a := ⟨w.heap.size + 1, 0, none⟩) (hgrow.block (w.heap.size + 1) (by simp) (by simp [Value.ownBlock]))).trans (frozen_two _ _ _ _ _)
      have HO : OwnH w1 (w.heap.size + 2) v' [] := ⟨by simpa [pgCells] using hown'⟩
      clear hown' hgrow hown
      obtain ⟨a', c', rfl, _, _, _⟩ := pgs_owned HO
      go_wp2
      exact bodyPost_ret (v := .agg #[.slice a' 0 c']) (by simp [results, Try.results30, go_sem, hc1]) rfl (fin _ _ HO hB1)
  · obtain ⟨b, off, rfl, hc⟩ := h hne
    have h' := fun W (hb : Below w.heap.size w W) => pgCells_of (HCells.later (fun _ => ⟨b, off, rfl, hc⟩ : HCells w (some ⟨b, off, none⟩) E) hb)
    clear hc h
    go_enter Try.func30, Try.ntmps30
    go_wp2_with (at_builtin; go_loud (refine wpList_append_own _ rfl _ _ 22 rfl (w.heap.size + 2) 62 i0 (.agg #[.slice none 0 0]) 1 24 Try.underlying22 hi hz0 hz1 hz2 rfl (by decide) _ _ _ rfl (hown _ _) ⟨b, off, none⟩ E.length c (pgCells E) rfl (pgCells_len E) (h' _ (hB0 _ _)) (pgCells_one E) ?c3 ?c4 ?c5 ?_))
    case c3 => unfold maxLen; omega
    case c4 => omega
    case c5 => simp
    intro v' w1 hown' hgrow _
    have hB1 : Below w.heap.size w w1 := (hB0 _ _).grown hgrow (by simp; omega) (fun k hk => by have := (hown (Obj.cells #[.slice (some ⟨b, off, none⟩) E.length c] 24) (Obj.cells #[.slice none 0 0] 24)).lt k hk; omega)
    have hc1 : w1.cell? ⟨w.heap.size + 1, 0, none⟩ = some (.slice none 0 0) := hgrow.cell (by go_cell) (by simp [Value.ownBlock])
    have hf1 : w1.frozen? ⟨w.heap.size + 1, 0, none⟩ = false := (World.frozen?_of_block (a := ⟨w.heap.size + 1, 0, none⟩) (hgrow.block (w.heap.size + 1) (by simp) (by simp [Value.ownBlock]))).trans (frozen_two _ _ _ _ _)
    have HO : OwnH w1 (w.heap.size + 2) v' E := ⟨by simpa using hown'⟩
    clear hown' hgrow hown
    obtain ⟨a', c', rfl, _, _, _⟩ := pgs_owned HO
    go_wp2
    exact bodyPost_ret (v := .agg #[.slice a' E.length c']) (by simp [results, Try.results30, go_sem, hc1]) rfl (fin _ _ HO hB1)

theorem hp_map_at {E1 E2 : List PgE} (h : hp E1 = hp E2) {i : Nat} (h1 : i < E1.length) (h2 : i < E2.length) : E1[i].p = E2[i].p := by
  have e : (hp E1)[i]? = (hp E2)[i]? := by rw [h]
  simpa [hp, h1, h2] using e
end Go.Proofs.Ytnneeojgakjalaa
