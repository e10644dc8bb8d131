/- Several of my texts laid together, each as it was: Uk. Conditions: each names its own. -/
import Derived.Test.YtneebnankghhgabUa
import Derived.Test.YtneebnankghhgabSz
/- The document's own tree: its keys, from one on and below another one: a contract of the call, in whatever memory. Conditions: the tree's memory is known; 1000 keys at most. -/
namespace Go.Proofs.Ytneebnankghhgab
open Go.RowKit

theorem flt_step {frm to : Key} {L : List (Key × Int)} {i : Nat} {x : Key × Int} (h : L[i]? = some x) : flt frm to (L.take (i + 1)) = flt frm to (L.take i) ++ if inR frm to x = true then [x] else [] := by
  obtain ⟨hi, e⟩ := List.getElem?_eq_some_iff.1 h
  rw [List.take_succ_eq_append_getElem hi, flt_append, e]
  congr 1
  unfold flt
  cases hx : inR frm to x <;> simp [hx]
theorem txt_nil {to : Key} : (txt to).toList = to := by rw [ByteArray.toList_eq]; rfl
end Go.Proofs.Ytneebnankghhgab
