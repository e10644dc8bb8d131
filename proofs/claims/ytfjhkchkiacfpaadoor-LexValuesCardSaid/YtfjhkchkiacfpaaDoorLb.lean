/- A row of values that a call built itself: what it holds. Nothing of any program here but a value's type. Conditions: each lemma names its own. -/
import Derived.Test.YtfjhkchkiacfpaaDoorLa
import Derived.Test.YtfjhkchkiacfpaaDoorMc
import Derived.WalkKit
import Derived.OwnWalk
namespace Go.Proofs.YtfjhkchkiacfpaaDoor
open Go.RowKit

theorem info23 : (Tryd.prog.info? 34).map (fun i => (i.zero, i.size, i.bytes)) = some (some (.agg #[.int .i64 0, .int .i64 0, .string ⟨#[]⟩]), 3, 32) := by kernel_rfl

theorem own_below {B : Nat} {e : TypeId} {k : Nat} {v : Value} {n : Nat} {xs : List Value} {w w' : World} (h : w.ownsRow B e k v n xs) (hb : Below w.heap.size w w') : w'.ownsRow B e k v n xs :=
  h.kept (row := none) ⟨hb.os, hb.tape, hb.output, hb.size, fun j hj _ => hb.block j hj⟩ (by cases hv : v.ownBlock <;> simp)

def rowCells (vs : List Val) : List Value := vs.flatMap fun v => [.int .i64 v.k, .int .i64 v.n, .string v.s]
theorem rowCells_snoc (vs : List Val) (v : Val) : rowCells (vs ++ [v]) = rowCells vs ++ [.int .i64 v.k, .int .i64 v.n, .string v.s] := by simp [rowCells]
theorem rowCells_len : ∀ vs, (rowCells vs).length = vs.length * 3
  | [] => rfl
  | v :: vs => by
    have := rowCells_len vs
    show (rowCells vs).length + 3 = _
    rw [this, List.length_cons]; omega
theorem rowCells_at : ∀ (vs : List Val) (i : Nat) (h : i < vs.length), (rowCells vs)[i * 3]? = some (.int .i64 vs[i].k) ∧ (rowCells vs)[i * 3 + 1]? = some (.int .i64 vs[i].n) ∧ (rowCells vs)[i * 3 + 2]? = some (.string vs[i].s)
  | v :: vs, 0, _ => ⟨rfl, rfl, rfl⟩
  | v :: vs, i + 1, h => by
    have := rowCells_at vs i (by simpa using h)
    have e : rowCells (v :: vs) = [.int .i64 v.k, .int .i64 v.n, .string v.s] ++ rowCells vs := rfl
    have g : ∀ d, (rowCells (v :: vs))[(i + 1) * 3 + d]? = (rowCells vs)[i * 3 + d]? := fun d => by
      rw [e, List.getElem?_append_right (by simp; omega)]
      congr 1
      simp; omega
    exact ⟨(g 0).trans this.1, (g 1).trans this.2.1, (g 2).trans this.2.2⟩

theorem row_owned {B : Nat} {w : World} {v : Value} {vs : List Val} (h : w.ownsRow B 34 3 v vs.length (rowCells vs)) : ∃ a c, v = .slice a vs.length c ∧ vs.length ≤ c ∧ c ≤ maxLen ∧ RowAt w a vs := by
  have h0 := h
  obtain ⟨_, hcase⟩ := h
  rcases hcase with ⟨rfl, hl⟩ | ⟨g, cap', cur, rfl, hg, hh, hn, hcap, hsz, htake⟩
  · exact ⟨none, 0, by rw [hl], by omega, by unfold maxLen; omega, fun hne => absurd (List.length_eq_zero_iff.1 hl) hne⟩
  · refine ⟨some ⟨g, 0, none⟩, cap', rfl, hn, hcap, fun _ => ⟨g, 0, rfl, fun i hi => ?_⟩⟩
    obtain ⟨h1, h2, h3⟩ := rowCells_at vs i hi
    rw [Nat.zero_add]
    exact ⟨(h0.cellAt _ (by omega)).trans h1, (h0.cellAt _ (by omega)).trans h2, (h0.cellAt _ (by omega)).trans h3⟩

/-- Behind an append of one value, laid in a block of its own first. -/
theorem row_next {vs : List Val} {x : Val} {w wr wa w1 : World} {v v' : Value} (hown : wr.ownsRow w.heap.size 34 3 v vs.length (rowCells vs)) (hnx : Below w.heap.size w wa)
    (hown' : w1.ownsRow w.heap.size 34 3 v' (vs.length + 1) (rowCells vs ++ [.int .i64 x.k, .int .i64 x.n, .string x.s])) (hgrow : wa.grownBy w1 v.ownBlock) :
    w1.ownsRow w.heap.size 34 3 v' (vs ++ [x]).length (rowCells (vs ++ [x])) ∧ Below w.heap.size w w1 := by
  refine ⟨by rw [rowCells_snoc, List.length_append]; exact hown', hnx.grown hgrow hnx.size (fun j hj => by have := (hown.lt j hj).1; omega)⟩

/-! ### How far a row has been read -/
def readL (dec : List UInt8 → Option (Val × Nat)) (l : List UInt8) : List Val := (decL dec 8 l).getD []
def readE (dec : List UInt8 → Option (Val × Nat)) (l : List UInt8) : Int := if (decL dec 8 l).isSome then 0 else 2
/-- vs have been read, s is left. -/
def ReadTo (dec : List UInt8 → Option (Val × Nat)) (l : List UInt8) (vs : List Val) (s : List UInt8) : Prop :=
  vs.length ≤ 8 ∧ s.length ≤ l.length ∧ decL dec 8 l = (decL dec (8 - vs.length) s).map (vs ++ ·)
theorem read_start (dec : List UInt8 → Option (Val × Nat)) (l : List UInt8) : ReadTo dec l [] l := ⟨by simp, Nat.le_refl _, by simp⟩
theorem read_more {dec : List UInt8 → Option (Val × Nat)} {l s : List UInt8} {vs : List Val} {v : Val} {m : Nat} (h : ReadTo dec l vs s) (hs : s ≠ []) (hd : dec s = some (v, m)) (h8 : vs.length ≠ 8) :
    ReadTo dec l (vs ++ [v]) (s.drop m) := by
  obtain ⟨h1, h2, h3⟩ := h
  refine ⟨by simp; omega, by rw [List.length_drop]; omega, ?_⟩
  rw [h3, show 8 - vs.length = (8 - (vs ++ [v]).length) + 1 by simp; omega, decL_go hs hd, Option.map_map]
  congr 1
  funext x
  simp
theorem read_none {dec : List UInt8 → Option (Val × Nat)} {l s : List UInt8} {vs : List Val} (h : ReadTo dec l vs s) (hs : s ≠ []) (hd : dec s = none ∨ vs.length = 8) : readL dec l = [] ∧ readE dec l = 2 := by
  obtain ⟨h1, h2, h3⟩ := h
  have e : decL dec 8 l = none := by
    rw [h3]
    rcases hd with hd | hd
    · rw [decL_stop hs hd]; rfl
    · rw [hd]
      show (decL dec 0 s).map _ = none
      rw [decL_full hs]; rfl
  unfold readL readE
  rw [e]
  exact ⟨rfl, rfl⟩
theorem read_all {dec : List UInt8 → Option (Val × Nat)} {l : List UInt8} {vs : List Val} (h : ReadTo dec l vs []) : readL dec l = vs ∧ readE dec l = 0 := by
  obtain ⟨h1, h2, h3⟩ := h
  have e : decL dec 8 l = some vs := by rw [h3, decL_nil]; simp
  unfold readL readE
  rw [e]
  exact ⟨rfl, rfl⟩
end Go.Proofs.YtfjhkchkiacfpaaDoor
