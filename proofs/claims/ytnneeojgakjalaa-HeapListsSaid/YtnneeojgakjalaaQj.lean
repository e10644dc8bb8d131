/- The reference of layer 5: a page's bytes: a contract of the call, in whatever memory. Conditions: the slots' cells are known. -/
import Derived.Test.YtnneeojgakjalaaQi
namespace Go.Proofs.Ytnneeojgakjalaa
open Go.RowKit

def bytD (p : Pg) : List UInt8 := if rightB p then bytesP p else []
def bytE (p : Pg) : Int := if rightB p then 0 else 1
theorem dataP_take {p : Pg} {i : Nat} (h : i < p.length) : dataP (p.take (i + 1)) = (p[i]).2 ++ dataP (p.take i) := by
  rw [List.take_succ_eq_append_getElem h, dataP_append]; rfl
theorem headsP_take {p : Pg} {i : Nat} (h : i < p.length) : headsP 0 (p.take (i + 1)) = headsP 0 (p.take i) ++ (twoB (if (p[i]).1 then 1024 - ((p[i]).2 ++ dataP (p.take i)).length else 0) ++ twoB (p[i]).2.length) := by
  rw [List.take_succ_eq_append_getElem h, headsP_split]
  simp only [headsP, List.append_nil, Nat.zero_add, List.length_append]
  rw [Nat.add_comm (dataP (p.take i)).length]
theorem dataP_few {p : Pg} (i : Nat) : (dataP (p.take i)).length ≤ (dataP p).length := by
  have := dataP_append (p.take i) (p.drop i)
  rw [List.take_append_drop] at this
  rw [this, List.length_append]; omega
theorem cat_run (x y : List UInt8) (h : x.length + y.length ≤ 9223372036854775807) (W : World) : (Op.stringOp .add (txt x) (txt y)).run Try.prog W = .ok (.string (txt (x ++ y))) W := by
  have h' : (txt x).size + (txt y).size ≤ 9223372036854775807 := by rw [txt_size, txt_size]; exact h
  rw [run_string_add_sum W _ _ h', txt_add]
end Go.Proofs.Ytnneeojgakjalaa
