/- Bags and lists of rows in memory: their cells are known; lists that a call builds. Nothing of any program here but the types of a bag's elements. Conditions: each lemma names its own. -/
import Derived.Test.YtipibbjcdkmjmaaBa
import Derived.Test.YtipibbjcdkmjmaaLb
namespace Go.Proofs.Ytipibbjcdkmjmaa
open Go.RowKit

/-- An element of a bag as it lies in memory: where its row is, its capacity, the row, how often it is there. -/
structure Elem where
  a : Option Addr
  c : Nat
  r : List Val
  n : Int
def pr (e : Elem) : Pair := (e.r, e.n)
def cellsOne (e : Elem) : List Value := [.slice e.a e.r.length e.c, .int .i64 e.n]
def cellsE (E : List Elem) : List Value := E.flatMap cellsOne
/-- A row that a slice can hold. -/
def rowOK (r : List Val) : Prop := r.length * 32 ≤ 140737488351232
def RowsIn (w : World) (E : List Elem) : Prop := ∀ e ∈ E, RowAt w e.a e.r ∧ rowOK e.r
def CellsAt (w : World) (a : Option Addr) (E : List Elem) : Prop :=
  E ≠ [] → ∃ b off, a = some ⟨b, off, none⟩ ∧ ∀ i (h : i < E.length), w.cell? ⟨b, off + i * 2, none⟩ = some (.slice (E[i]).a (E[i]).r.length (E[i]).c) ∧ w.cell? ⟨b, off + i * 2 + 1, none⟩ = some (.int .i64 (E[i]).n)
theorem CellsAt.later {w w' : World} {a : Option Addr} {E : List Elem} (h : CellsAt w a E) (hb : Below w.heap.size w w') : CellsAt w' a E := fun hn => by
  obtain ⟨b, off, e, hc⟩ := h hn
  exact ⟨b, off, e, fun i hi => ⟨cell_later hb (hc i hi).1, cell_later hb (hc i hi).2⟩⟩
theorem RowsIn.later {w w' : World} {E : List Elem} (h : RowsIn w E) (hb : Below w.heap.size w w') : RowsIn w' E := fun e he => ⟨(h e he).1.later hb, (h e he).2⟩
def ElemsAt (w : World) (a : Option Addr) (E : List Elem) : Prop := CellsAt w a E ∧ RowsIn w E
theorem ElemsAt.later {w w' : World} {a : Option Addr} {E : List Elem} (h : ElemsAt w a E) (hb : Below w.heap.size w w') : ElemsAt w' a E := ⟨h.1.later hb, h.2.later hb⟩
theorem ElemsAt.nil (w : World) (a : Option Addr) : ElemsAt w a [] := ⟨fun h => absurd rfl h, fun e he => absurd he (by simp)⟩
theorem ElemsAt.take {w : World} {a : Option Addr} {E : List Elem} (h : ElemsAt w a E) (k : Nat) : ElemsAt w a (E.take k) := by
  refine ⟨fun hn => ?_, fun e he => h.2 e (List.mem_of_mem_take he)⟩
  obtain ⟨b, off, e, hc⟩ := h.1 (fun e => hn (by rw [e]; simp))
  refine ⟨b, off, e, fun i hi => ?_⟩
  have hi' : i < E.length := by rw [List.length_take] at hi; omega
  rw [List.getElem_take]
  exact hc i hi'
theorem ElemsAt.drop {w : World} {b off : Nat} {E : List Elem} (h : ElemsAt w (some ⟨b, off, none⟩) E) (k : Nat) : ElemsAt w (some ⟨b, off + k * 2, none⟩) (E.drop k) := by
  refine ⟨fun hn => ?_, fun e he => h.2 e (List.mem_of_mem_drop he)⟩
  obtain ⟨b', off', e, hc⟩ := h.1 (fun e => hn (by rw [e]; simp))
  obtain ⟨rfl, rfl⟩ : b = b' ∧ off = off' := by simpa using e
  refine ⟨b, off + k * 2, rfl, fun i hi => ?_⟩
  have hi' : k + i < E.length := by rw [List.length_drop] at hi; omega
  rw [List.getElem_drop]
  have := hc (k + i) hi'
  rw [show off + (k + i) * 2 = off + k * 2 + i * 2 by omega] at this
  exact this

theorem cellsE_snoc (E : List Elem) (e : Elem) : cellsE (E ++ [e]) = cellsE E ++ [.slice e.a e.r.length e.c, .int .i64 e.n] := by simp [cellsE, cellsOne]
theorem cellsE_len : ∀ E, (cellsE E).length = E.length * 2
  | [] => rfl
  | e :: E => by
    have := cellsE_len E
    show (cellsE E).length + 2 = _
    rw [this, List.length_cons]; omega
theorem cellsE_at : ∀ (E : List Elem) (i : Nat) (h : i < E.length), (cellsE E)[i * 2]? = some (.slice (E[i]).a (E[i]).r.length (E[i]).c) ∧ (cellsE E)[i * 2 + 1]? = some (.int .i64 (E[i]).n)
  | e :: E, 0, _ => ⟨rfl, rfl⟩
  | e :: E, i + 1, h => by
    have := cellsE_at E i (by simpa using h)
    have e : cellsE (e :: E) = [.slice e.a e.r.length e.c, .int .i64 e.n] ++ cellsE E := rfl
    have g : ∀ d, (cellsE (_ :: E))[(i + 1) * 2 + d]? = (cellsE E)[i * 2 + d]? := fun d => by
      rw [e, List.getElem?_append_right (by simp; omega)]
      congr 1
      simp; omega
    exact ⟨(g 0).trans this.1, (g 1).trans this.2⟩
theorem elems_owned {base B : Nat} {w : World} {v : Value} {E : List Elem} (h : w.ownsRow base B 2 v E.length (cellsE E)) : ∃ a c, v = .slice a E.length c ∧ E.length ≤ c ∧ c ≤ maxLen ∧ CellsAt w a E := by
  have h0 := h
  obtain ⟨_, hcase⟩ := h
  rcases hcase with ⟨rfl, hl⟩ | ⟨g, cap', cur, rfl, hg, hh, hn, hcap, hsz, htake⟩
  · exact ⟨none, 0, by rw [hl], by omega, by unfold maxLen; omega, fun hne => absurd (List.length_eq_zero_iff.1 hl) hne⟩
  · refine ⟨some ⟨g, 0, none⟩, cap', rfl, hn, hcap, fun _ => ⟨g, 0, rfl, fun i hi => ?_⟩⟩
    obtain ⟨h1, h2⟩ := cellsE_at E i hi
    rw [Nat.zero_add]
    exact ⟨(h0.cellAt _ (by omega)).trans h1, (h0.cellAt _ (by omega)).trans h2⟩

/-! ### Lists of rows -/
structure Line where
  a : Option Addr
  c : Nat
  r : List Val
def cellsL (E : List Line) : List Value := E.map fun e => .slice e.a e.r.length e.c
def LinesIn (w : World) (E : List Line) : Prop := ∀ e ∈ E, RowAt w e.a e.r ∧ rowOK e.r
def LineCells (w : World) (a : Option Addr) (E : List Line) : Prop :=
  E ≠ [] → ∃ b off, a = some ⟨b, off, none⟩ ∧ ∀ i (h : i < E.length), w.cell? ⟨b, off + i, none⟩ = some (.slice (E[i]).a (E[i]).r.length (E[i]).c)
theorem LineCells.later {w w' : World} {a : Option Addr} {E : List Line} (h : LineCells w a E) (hb : Below w.heap.size w w') : LineCells w' a E := fun hn => by
  obtain ⟨b, off, e, hc⟩ := h hn
  exact ⟨b, off, e, fun i hi => cell_later hb (hc i hi)⟩
theorem LinesIn.later {w w' : World} {E : List Line} (h : LinesIn w E) (hb : Below w.heap.size w w') : LinesIn w' E := fun e he => ⟨(h e he).1.later hb, (h e he).2⟩
def LinesAt (w : World) (a : Option Addr) (E : List Line) : Prop := LineCells w a E ∧ LinesIn w E
theorem LinesAt.later {w w' : World} {a : Option Addr} {E : List Line} (h : LinesAt w a E) (hb : Below w.heap.size w w') : LinesAt w' a E := ⟨h.1.later hb, h.2.later hb⟩
theorem cellsL_snoc (E : List Line) (e : Line) : cellsL (E ++ [e]) = cellsL E ++ [.slice e.a e.r.length e.c] := by simp [cellsL]
theorem cellsL_len (E : List Line) : (cellsL E).length = E.length := List.length_map _
theorem lines_owned {base B : Nat} {w : World} {v : Value} {E : List Line} (h : w.ownsRow base B 1 v E.length (cellsL E)) : ∃ a c, v = .slice a E.length c ∧ E.length ≤ c ∧ c ≤ maxLen ∧ LineCells w a E := by
  have h0 := h
  obtain ⟨_, hcase⟩ := h
  rcases hcase with ⟨rfl, hl⟩ | ⟨g, cap', cur, rfl, hg, hh, hn, hcap, hsz, htake⟩
  · exact ⟨none, 0, by rw [hl], by omega, by unfold maxLen; omega, fun hne => absurd (List.length_eq_zero_iff.1 hl) hne⟩
  · refine ⟨some ⟨g, 0, none⟩, cap', rfl, hn, hcap, fun _ => ⟨g, 0, rfl, fun i hi => ?_⟩⟩
    rw [Nat.zero_add, h0.cellAt _ (by omega)]
    simp [cellsL, hi]

/-! ### Blocks that an append leaves -/
/-- Below base all is as it was, and each block of another type than e. -/
structure KeptT (e : TypeId) (base : Nat) (w w' : World) : Prop where
  below : Below base w w'
  other : ∀ (B : Nat) cs fz (t : TypeId), t ≠ e → w.heap[B]? = some (Obj.cells cs t fz) → w'.heap[B]? = some (Obj.cells cs t fz)
theorem keptT_grown {e : TypeId} {size n : Nat} {xs : List Value} {w w' : World} {base : Nat} {v : Value} (h : w.ownsRow base e size v n xs) (hb : base ≤ w.heap.size) (hg : w.grownBy w' v.ownBlock) : KeptT e base w w' := by
  refine ⟨(Below.refl _ _).grown hg hb (fun k hk => (h.lt k hk).1), fun B cs fz t ht hB => ?_⟩
  rw [hg.block B (Array.getElem?_eq_some_iff.1 hB).1 (fun hB' => ?_)]; exact hB
  rcases h.2 with ⟨rfl, _⟩ | ⟨g, cap, cur, rfl, _, hh, _⟩
  · cases hB'
  · have hB' : B = g := Option.some.inj hB'
    subst hB'
    rw [hh] at hB
    obtain ⟨-, h2, -⟩ := Obj.cells.inj (Option.some.inj hB)
    exact ht h2.symm
end Go.Proofs.Ytipibbjcdkmjmaa
