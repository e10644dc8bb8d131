/- Several of my texts laid together, each as it was: Yq, Yr, Ys. Conditions: each names its own. -/
import Derived.Test.YtfdkajefcplfjaaB3
import Derived.Test.YtfdkajefcplfjaaB6
/- The reference's Eval, of an expression of any depth: a contract of the call, in whatever memory. Conditions: an expression's and a row's cells are known (what came in reads so). -/
namespace Go.Proofs.Ytfdkajefcplfjaa
open Go.RowKit

end Go.Proofs.Ytfdkajefcplfjaa

/- The reference's side: a contract of the call, in whatever memory. Conditions: an expression's and a row's cells are known. -/
namespace Go.Proofs.Ytfdkajefcplfjaa
open Go.RowKit

theorem ev_leaf {row : List Val} {k a : Int} {v : Val} {p : Option Addr} {c : Nat} {ys : List Cx} (h : k = 1 ∨ k = 2) (hf : ((evC row (.mk k a v p c ys)).2 != 0) = true) : (evC row (.mk k a v p c ys)).1 = zV := by
  rcases h with rfl | rfl
  · have e : evC row (.mk 1 a v p c ys) = colV row a := by rw [evC]; exact if_pos rfl
    rw [e] at hf ⊢
    unfold colV at hf ⊢
    split
    · rfl
    · rename_i h
      rw [if_neg h] at hf
      split
      · rename_i h2; rw [h2] at hf; simp at hf
      · rfl
  · have e : evC row (.mk 2 a v p c ys) = (v, 0) := by rw [evC]; unfold evOf; rw [if_neg (by omega), if_pos rfl]
    rw [e] at hf; simp at hf
end Go.Proofs.Ytfdkajefcplfjaa

/- The reference's Holds, of a condition of any depth: a contract of the call, in whatever memory. Conditions: a condition's and a row's cells are known. -/
namespace Go.Proofs.Ytfdkajefcplfjaa
open Go.RowKit

theorem nul_yes {k n : Int} {s : ByteArray} (h : (k == 0) = true) : nulV ⟨k, n, s⟩ = 2 := by unfold nulV; rw [if_pos (by simpa using h)]
theorem nul_no {k n : Int} {s : ByteArray} (h : (k == 0) = false) : nulV ⟨k, n, s⟩ = 0 := by unfold nulV; rw [if_neg (by simpa using h)]
end Go.Proofs.Ytfdkajefcplfjaa
