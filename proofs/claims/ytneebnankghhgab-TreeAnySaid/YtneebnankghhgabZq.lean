/- Several of my texts laid together, each as it was: Zq. Conditions: each names its own. -/
import Derived.Test.YtneebnankghhgabRows
import Derived.Test.YtneebnankghhgabG1
import Derived.ProofKit
import Derived.OpenShut
import Derived.SizedLaws
import Derived.Handed
import Derived.Deep.Slices
import Derived.Deep.Strs
import Derived.WalkKit
import Derived.Lib.SmallJoins
import Derived.ChangeMaps5
/- What the rows of a seat without listed variables share: what a row of layer 7 needs. -/
namespace Go.Proofs.Ytneebnankghhgab
open Go.ChangeShapes Go.WideShapes Go.ChangeAt Go.RowKit Go.Joins Go.Deep

theorem own : ownKnob Try.prog.godebug = none := by kernel_rfl
theorem laidOut : laidOutB Try.prog = true := by kernel_rfl
theorem list_of_each {α : Type} {P : Nat → α → Prop} : ∀ (n : Nat), (∀ i, i < n → ∃ x, P i x) → ∃ l : List α, l.length = n ∧ ∀ i (h : i < l.length), P i l[i]
  | 0, _ => ⟨[], rfl, fun i h => absurd h (by simp)⟩
  | n + 1, H => by
    obtain ⟨l, hl, hp⟩ := list_of_each n (fun i hi => H i (by omega))
    obtain ⟨x, hx⟩ := H n (by omega)
    refine ⟨l ++ [x], by simp [hl], fun i hi => ?_⟩
    by_cases h : i < l.length
    · rw [List.getElem_append_left h]; exact hp i h
    · have e : i = l.length := by simp at hi; omega
      subst e
      rw [List.getElem_append_right (Nat.le_refl _)]
      simpa [hl] using hx

end Go.Proofs.Ytneebnankghhgab
