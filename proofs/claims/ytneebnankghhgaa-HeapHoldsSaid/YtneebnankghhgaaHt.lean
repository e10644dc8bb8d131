/- Several of my texts laid together, each as it was: Ht. Conditions: each names its own. -/
import Derived.Test.YtneebnankghhgaaHph
/- The reference of layer 6: the list of all rows: a contract of the call, in whatever memory. Conditions: the pages' cells are known. -/
namespace Go.Proofs.Ytneebnankghhgaa
open Go.RowKit

theorem append_beside {W w1 : World} {n1 : Nat} {e e' : TypeId} {size size' : Nat} {v u : Value} {k k' : Nat} {xs zs : List Value} {tmp : Obj}
    (hrow : W.ownsRow n1 e size v k xs) (hrow' : W.ownsRow n1 e' size' u k' zs) (hee : e' ≠ e) (hn : n1 ≤ W.heap.size) (hgrow : (W.alloc tmp).grownBy w1 v.ownBlock) : w1.ownsRow n1 e' size' u k' zs ∧ Below n1 W w1 := by
  refine ⟨(hrow'.alloc tmp).kept hgrow (row_apart (hrow'.alloc tmp) (hrow.alloc tmp) hee), ((Below.refl n1 W).alloc hn tmp).grown hgrow (by simp; omega) fun j ej => ?_⟩
  rcases hrow.2 with ⟨rfl, _⟩ | ⟨g, cap, cur, rfl, hb, _, _⟩
  · simp [Value.ownBlock] at ej
  · obtain rfl : g = j := by simpa [Value.ownBlock] using ej
    exact hb

theorem row_later {w w' : World} {n : Nat} {e : TypeId} {s k : Nat} {v : Value} {xs : List Value} (h : w.ownsRow n e s v k xs) (hb : Below w.heap.size w w') : w'.ownsRow n e s v k xs :=
  World.ownsRow.kept (row := none) h ⟨hb.os, hb.tape, hb.output, hb.size, fun j hj _ => hb.block j hj⟩ (by cases v.ownBlock <;> simp)

end Go.Proofs.Ytneebnankghhgaa
