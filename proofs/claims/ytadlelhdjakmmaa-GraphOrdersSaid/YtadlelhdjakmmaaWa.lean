/- What the two checks of a value answer, said once for both: contracts of the calls, in whatever memory. -/
import Derived.Test.YtadlelhdjakmmaaRows
import Derived.WalkKit
import Derived.WalkSpells
import Derived.WalkLawsBesides
import Derived.Handy
import Derived.BigQuiet
import Derived.Deep.QuietTactic
namespace Go.Proofs.Ytadlelhdjakmmaa
open Go.RowKit

theorem below_cells {W w1 : World} (hb : Below W.heap.size W w1) : (∀ b o, b < W.heap.size → w1.cell? ⟨b, o, none⟩ = W.cell? ⟨b, o, none⟩) ∧ (∀ b o, b < W.heap.size → w1.frozen? ⟨b, o, none⟩ = W.frozen? ⟨b, o, none⟩) :=
  ⟨fun b o h => hb.cell (p := ⟨b, o, none⟩) h, fun b o h => hb.frozen (p := ⟨b, o, none⟩) h⟩

theorem below_through {n : Nat} {W w1 w2 : World} (hb : Below w1.heap.size w1 w2) (hn : n ≤ w1.heap.size) (h : Below n W w1) : Below n W w2 := h.trans (hb.mono hn)

theorem hid0 {p : Prop} (h : p) : Hid p := h

theorem isEmpty_dec (l : List UInt8) : l.isEmpty = decide (l = []) := by cases l <;> simp

def chk (k n : Int) (s : ByteArray) : Int :=
  if k = 0 then (if n = 0 ∧ s.toList = [] then 0 else 1)
  else if k = 1 then (if s.toList = [] then 0 else 1)
  else if k = 2 then (if s.toList = [] ∧ (n = 0 ∨ n = 1) then 0 else 1)
  else if k = 3 then (if n = 0 then (if s.size ≤ 64 then 0 else 3) else 1)
  else 1

def mayB (k n : Int) (s : ByteArray) : Bool := decide (chk k n s = 0)

theorem ret_i64 {a b : Int} (h : a = b) : Ending.returned (.int .i64 a) = .returned (.int .i64 b) := by rw [h]
theorem ret_bool {a b : Bool} (h : a = b) : Ending.returned (.bool a) = .returned (.bool b) := by rw [h]

end Go.Proofs.Ytadlelhdjakmmaa
