/- The reference of layer 5: a page's slots in new memory: a contract of the call, in whatever memory. Conditions: the slots' cells are known, they are not too many. -/
import Derived.Test.YtnneeojgakjalaaQd
namespace Go.Proofs.Ytnneeojgakjalaa
open Go.RowKit

theorem run_append_none {P : Program} (w : World) (t ty e : TypeId) (i : TypeInfo) (ht : P.underlying t = some (.slice e)) (hi : P.info? e = some i) (b : Option Addr) (n c c' : Nat) (hn : n ≤ c) :
    (Builtin.append_ #[t, t] ty #[.slice b n c, .slice none 0 c']).run P w = .ok (.slice b n c) w := by
  cases b <;> simp [Builtin.append_, run_underlying ht, sizeOf, typeInfo, hi, Builtin.lenOf, Builtin.firstCells, storeCells, hn]
theorem info52 : (Try.prog.info? 77).map (fun i => (i.zero, i.size, i.bytes)) = some (some (.agg #[.bool false, .string ⟨#[]⟩]), 2, 24) := by kernel_rfl
def slotCells (p : Pg) : List Value := p.flatMap fun s => [.bool s.1, .string (txt s.2)]
theorem slotCells_snoc (p : Pg) (s : Slot) : slotCells (p ++ [s]) = slotCells p ++ [.bool s.1, .string (txt s.2)] := by simp [slotCells]
theorem slotCells_len : ∀ p, (slotCells p).length = p.length * 2
  | [] => rfl
  | s :: p => by
    have := slotCells_len p
    show (slotCells p).length + 2 = _
    rw [this, List.length_cons]; omega
theorem slotCells_at : ∀ (p : Pg) (i : Nat) (h : i < p.length), (slotCells p)[i * 2]? = some (.bool (p[i]).1) ∧ (slotCells p)[i * 2 + 1]? = some (.string (txt (p[i]).2))
  | s :: p, 0, _ => ⟨rfl, rfl⟩
  | s :: p, i + 1, h => by
    have := slotCells_at p i (by simpa using h)
    have e : slotCells (s :: p) = [.bool s.1, .string (txt s.2)] ++ slotCells p := rfl
    have g : ∀ d, (slotCells (s :: p))[(i + 1) * 2 + d]? = (slotCells p)[i * 2 + d]? := fun d => by
      rw [e, List.getElem?_append_right (by simp; omega)]
      congr 1
      simp; omega
    exact ⟨(g 0).trans this.1, (g 1).trans this.2⟩
theorem slotCells_one (p : Pg) : ∀ u ∈ slotCells p, u.oneCell' = true := by
  intro u hu
  obtain ⟨s, _, hu⟩ := List.mem_flatMap.1 hu
  simp at hu
  rcases hu with rfl | rfl <;> rfl
theorem slotCells_of {w : World} {b off : Nat} {p : Pg} (h : SlotsAt w (some ⟨b, off, none⟩) p) : ∀ j u, (slotCells p)[j]? = some u → w.cell? ((⟨b, off, none⟩ : Addr).add j) = some u := by
  intro j u hj
  have hlt : j < p.length * 2 := by
    have := (List.getElem?_eq_some_iff.1 hj).1
    rwa [slotCells_len] at this
  have hne : p ≠ [] := fun e => by subst e; simp at hlt
  obtain ⟨b', off', e, hc⟩ := h hne
  obtain ⟨rfl, rfl⟩ : b = b' ∧ off = off' := by simpa using e
  have hi : j / 2 < p.length := by omega
  obtain ⟨c0, c1⟩ := hc (j / 2) hi
  obtain ⟨r0, r1⟩ := slotCells_at p (j / 2) hi
  rw [WideShapes.add_plain]
  rcases (by omega : j % 2 = 0 ∨ j % 2 = 1) with e | e
  · rw [show j = j / 2 * 2 by omega] at hj ⊢
    rw [r0] at hj; rw [← hj]; simpa using c0
  · rw [show j = j / 2 * 2 + 1 by omega] at hj ⊢
    have hd : (j / 2 * 2 + 1) / 2 = j / 2 := by omega
    rw [r1] at hj; rw [← hj, ← Nat.add_assoc]; exact c1
/-- The slots p, in a block of its own from base on, or nil. -/
structure OwnS (w : World) (base : Nat) (v : Value) (p : Pg) : Prop where
  out : w.ownsRow base 77 2 v p.length (slotCells p)
theorem OwnS.base {w : World} {base base' : Nat} {v : Value} {p : Pg} (h : OwnS w base v p) (hb : base' ≤ base) : OwnS w base' v p := by
  refine ⟨h.out.1, ?_⟩
  rcases h.out.2 with h | ⟨g, cap, cur, h1, h2, h3⟩
  · exact .inl h
  · exact .inr ⟨g, cap, cur, h1, by omega, h3⟩
theorem OwnS.setCell {w : World} {base : Nat} {v : Value} {p : Pg} (h : OwnS w base v p) {a : Addr} (ha : a.block < base) (u : Value) : OwnS (w.setCell a u) base v p := ⟨ownsRow_setCell_below h.out ha u⟩
theorem OwnS.kept {w w' : World} {base : Nat} {v : Value} {p : Pg} (h : OwnS w base v p) (hb : Below w.heap.size w w') : OwnS w' base v p := by
  exact ⟨World.ownsRow.kept (row := none) h.out ⟨hb.os, hb.tape, hb.output, hb.size, fun j hj _ => hb.block j hj⟩ (by cases hv : v.ownBlock <;> simp)⟩
theorem slots_owned {base : Nat} {w : World} {v : Value} {p : Pg} (h : OwnS w base v p) : ∃ a c, v = .slice a p.length c ∧ p.length ≤ c ∧ c ≤ maxLen ∧ SlotsAt w a p := by
  have h0 := h.out
  rcases h.out.2 with ⟨rfl, hl⟩ | ⟨g, cap', cur, rfl, hg, hh, hn, hcap, hsz, htake⟩
  · exact ⟨none, 0, by rw [hl], by omega, by unfold maxLen; omega, fun hne => absurd (List.length_eq_zero_iff.1 hl) hne⟩
  · refine ⟨some ⟨g, 0, none⟩, cap', rfl, hn, hcap, fun _ => ⟨g, 0, rfl, fun i hi => ?_⟩⟩
    obtain ⟨h1, h2⟩ := slotCells_at p i hi
    rw [Nat.zero_add]
    exact ⟨(h0.cellAt _ (by omega)).trans h1, (h0.cellAt _ (by omega)).trans h2⟩

theorem frozen_two (w : World) (o o' : Obj) (v : Value) (t : TypeId) : (((w.alloc o).alloc (Obj.cells #[v] t)).alloc o').frozen? ⟨w.heap.size + 1, 0, none⟩ = false := by
  have h1 := ((Below.refl _ ((w.alloc o).alloc (Obj.cells #[v] t))).alloc (Nat.le_refl _) o').frozen (p := ⟨w.heap.size + 1, 0, none⟩) (by simp)
  have h2 : ((w.alloc o).alloc (Obj.cells #[v] t)).frozen? ⟨(w.alloc o).heap.size, 0, none⟩ = false := World.frozen?_alloc_at _ _ _ _ rfl
  rw [h1]
  rwa [show (w.alloc o).heap.size = w.heap.size + 1 by simp] at h2
set_option maxHeartbeats 2000000 in
theorem refWith_any (a : Option Addr) (c : Nat) (p : Pg) (w : World) (h : SlotsAt w a p) (hl : p.length * 24 ≤ 140737488351232) :
    Calls Try.prog 52 #[.agg #[.slice a p.length c]] w fun e w' => (∃ v, e = .returned (.agg #[v]) ∧ OwnS w' w.heap.size v p) ∧ Below w.heap.size w w' := by
  obtain ⟨i0, hi, hz0, hz1, hz2⟩ := info_parts info52
  have hown : ∀ o o', (((w.alloc o).alloc o').alloc (Obj.cells #[] 77)).ownsRow (w.heap.size + 2) 77 2 (.slice (some ⟨w.heap.size + 2, 0, none⟩) 0 0) 0 [] := fun o o' => by
    have h := World.ownsRow_made (base := w.heap.size + 2) (e := 77) (size := 2) ((w.alloc o).alloc o') #[] 0 (by simp) (by unfold maxLen; omega) rfl
    simpa using h
  have hB0 : ∀ o o', Below w.heap.size w (((w.alloc o).alloc o').alloc (Obj.cells #[] 77)) := fun o o' => (((Below.refl _ _).alloc (Nat.le_refl _) _).alloc (by simp) _).alloc (by simp; omega) _
  have fin : ∀ (W : World) (v : Value), OwnS W (w.heap.size + 2) v p → Below w.heap.size w W → (∃ v', Ending.returned (.agg #[v]) = .returned (.agg #[v']) ∧ OwnS (W.setCell ⟨w.heap.size + 1, 0, none⟩ v) w.heap.size v' p) ∧ Below w.heap.size w (W.setCell ⟨w.heap.size + 1, 0, none⟩ v) := fun W v ho hb =>
    ⟨⟨v, rfl, (ho.setCell (by show w.heap.size + 1 < w.heap.size + 2; omega) _).base (by omega)⟩, hb.setCell (by show w.heap.size ≤ w.heap.size + 1; omega) _⟩
  by_cases hne : p = []
  · subst hne
    cases a with
    | none =>
      have hap := fun W ty => run_append_none (P := Try.prog) W 60 ty 77 i0 Try.underlying60 hi (some ⟨w.heap.size + 2, 0, none⟩) 0 0 c (Nat.le_refl _)
      have hap' : ∀ W ty, (Builtin.append_ #[60, 60] ty #[.slice (some ⟨w.heap.size + 1 + 1, 0, none⟩) 0 0, .slice none 0 c]).run Try.prog W = .ok (.slice (some ⟨w.heap.size + 1 + 1, 0, none⟩) 0 0) W := hap
      have HO : ∀ o o', OwnS (((w.alloc o).alloc o').alloc (Obj.cells #[] 77)) (w.heap.size + 2) (.slice (some ⟨w.heap.size + 2, 0, none⟩) 0 0) [] := fun o o' => ⟨hown o o'⟩
      have hf := fun o o' v t => frozen_two w o o' v t
      clear hown
      go_enter Try.func52, Try.ntmps52
      go_wp2
      exact bodyPost_ret (v := .agg #[.slice (some ⟨w.heap.size + 1 + 1, 0, none⟩) 0 0]) (by simp [results, Try.results52, go_sem]) rfl ⟨⟨_, rfl, (HO _ _).base (by omega)⟩, hB0 _ _⟩
    | some ad =>
      go_enter Try.func52, Try.ntmps52
      go_wp2_with (at_builtin; go_must (refine wpList_append_own _ rfl _ _ 60 rfl (w.heap.size + 2) 77 i0 (.agg #[.bool false, .string ⟨#[]⟩]) 2 24 Try.underlying60 hi hz0 hz1 hz2 rfl (by decide) _ _ _ rfl (hown _ _) ad 0 c [] rfl rfl (fun j u h => by simp at h) (fun u h => by simp at h) ?c3 ?c4 ?c5 ?_))
      case c3 => unfold maxLen; omega
      case c4 => omega
      case c5 => simp
      intro v' w1 hown' hgrow _
      have hB1 : Below w.heap.size w w1 := (hB0 _ _).grown hgrow (by simp; omega) (fun k hk => by have := (hown (Obj.cells #[.slice (some ad) 0 c] 62) (Obj.cells #[.slice none 0 0] 62)).lt k hk; omega)
      have hc1 : w1.cell? ⟨w.heap.size + 1, 0, none⟩ = some (.slice none 0 0) := hgrow.cell (by go_cell) (by simp [Value.ownBlock])
      have hf1 : w1.frozen? ⟨w.heap.size + 1, 0, none⟩ = false := (World.frozen?_of_block (a := ⟨w.heap.size + 1, 0, none⟩) (hgrow.block (w.heap.size + 1) (by simp) (by simp [Value.ownBlock]))).trans (frozen_two _ _ _ _ _)
      have HO : OwnS w1 (w.heap.size + 2) v' [] := ⟨by simpa [slotCells] using hown'⟩
      clear hown' hgrow hown
      obtain ⟨a', c', rfl, _, _, _⟩ := slots_owned HO
      go_wp2
      exact bodyPost_ret (v := .agg #[.slice a' 0 c']) (by simp [results, Try.results52, go_sem, hc1]) rfl (fin _ _ HO hB1)
  · obtain ⟨b, off, rfl, hc⟩ := h hne
    have h' := fun W (hb : Below w.heap.size w W) => slotCells_of (SlotsAt.later (fun _ => ⟨b, off, rfl, hc⟩ : SlotsAt w (some ⟨b, off, none⟩) p) hb)
    clear hc h
    go_enter Try.func52, Try.ntmps52
    go_wp2_with (at_builtin; go_loud (refine wpList_append_own _ rfl _ _ 60 rfl (w.heap.size + 2) 77 i0 (.agg #[.bool false, .string ⟨#[]⟩]) 2 24 Try.underlying60 hi hz0 hz1 hz2 rfl (by decide) _ _ _ rfl (hown _ _) ⟨b, off, none⟩ p.length c (slotCells p) rfl (slotCells_len p) (h' _ (hB0 _ _)) (slotCells_one p) ?c3 ?c4 ?c5 ?_))
    case c3 => unfold maxLen; omega
    case c4 => omega
    case c5 => simp
    intro v' w1 hown' hgrow _
    have hB1 : Below w.heap.size w w1 := (hB0 _ _).grown hgrow (by simp; omega) (fun k hk => by have := (hown (Obj.cells #[.slice (some ⟨b, off, none⟩) p.length c] 62) (Obj.cells #[.slice none 0 0] 62)).lt k hk; omega)
    have hc1 : w1.cell? ⟨w.heap.size + 1, 0, none⟩ = some (.slice none 0 0) := hgrow.cell (by go_cell) (by simp [Value.ownBlock])
    have hf1 : w1.frozen? ⟨w.heap.size + 1, 0, none⟩ = false := (World.frozen?_of_block (a := ⟨w.heap.size + 1, 0, none⟩) (hgrow.block (w.heap.size + 1) (by simp) (by simp [Value.ownBlock]))).trans (frozen_two _ _ _ _ _)
    have HO : OwnS w1 (w.heap.size + 2) v' p := ⟨by simpa using hown'⟩
    clear hown' hgrow hown
    obtain ⟨a', c', rfl, _, _, _⟩ := slots_owned HO
    go_wp2
    exact bodyPost_ret (v := .agg #[.slice a' p.length c']) (by simp [results, Try.results52, go_sem, hc1]) rfl (fin _ _ HO hB1)
end Go.Proofs.Ytnneeojgakjalaa
