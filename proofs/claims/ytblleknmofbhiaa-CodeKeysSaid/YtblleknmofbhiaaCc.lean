/- The project's layer 3: Row, Key, Read and Back: contracts of the calls, in whatever memory. Conditions: a row's cells are known (what came in reads so); the bytes are a string's. -/
import Derived.Test.YtblleknmofbhiaaCe
import Derived.Test.YtblleknmofbhiaaCh
import Derived.Test.YtblleknmofbhiaaRm
namespace Go.Proofs.Ytblleknmofbhiaa
open Go.RowKit

set_option maxHeartbeats 1000000 in
theorem codeRow_any (a : Option Addr) (c : Nat) (l : List Val) (w : World) (h1 : RowAt w a l) (_m1 : l.length ≤ maxLen) (hi : ∀ v ∈ l, inI v) :
    Calls Try.prog 10 #[.slice a l.length c] w fun e w' => e = .returned (.tuple #[.string (txt (rowS l)), .int .i64 (rightV l)]) ∧ Below w.heap.size w w' := by
  have C := write_any 21 rowB enters_plain puts_plain (fun v h => Nat.le_trans (rowB_len h) (by omega)) a c l w h1 hi
  clear h1 hi
  go_enter Try.func10, Try.ntmps10
  go_wp2_with (go_at_call 20; refine C.mono ?_; rintro e w1 ⟨rfl, hb1⟩; rw [show (if rightV l = 0 then encL rowB l else []) = rowS l from rfl])
  go_returns
  exact ⟨rfl, hb1⟩
set_option maxHeartbeats 1000000 in
theorem codeKey_any (a : Option Addr) (c : Nat) (l : List Val) (w : World) (h1 : RowAt w a l) (_m1 : l.length ≤ maxLen) (hi : ∀ v ∈ l, inI v) :
    Calls Try.prog 16 #[.slice a l.length c] w fun e w' => e = .returned (.tuple #[.string (txt (keyS l)), .int .i64 (rightV l)]) ∧ Below w.heap.size w w' := by
  have C := write_any 29 keyB enters_sorted puts_sorted (fun v h => key_len h) a c l w h1 hi
  clear h1 hi
  go_enter Try.func16, Try.ntmps16
  go_wp2_with (go_at_call 20; refine C.mono ?_; rintro e w1 ⟨rfl, hb1⟩; rw [show (if rightV l = 0 then encL keyB l else []) = keyS l from rfl])
  go_returns
  exact ⟨rfl, hb1⟩
set_option maxHeartbeats 1000000 in
theorem codeRead_any (l : List UInt8) (w : World) (hl : l.length ≤ 140737488351232) :
    Calls Try.prog 12 #[.string (txt l)] w fun e w' => (∃ a c, e = .returned (.tuple #[.slice a (readL rowD l).length c, .int .i64 (readE rowD l)]) ∧ (readL rowD l).length ≤ c ∧ RowAt w' a (readL rowD l)) ∧ Below w.heap.size w w' := by
  have C := read_any 25 rowB rowD rowCoded enters_takePlain takes_plain l w hl
  go_enter Try.func12, Try.ntmps12
  go_wp2_with (go_at_call 24; refine C.mono ?_; rintro e w1 ⟨⟨a, c, rfl, h1, h2⟩, hb1⟩)
  go_returns
  exact ⟨⟨a, c, rfl, h1, h2⟩, hb1⟩
set_option maxHeartbeats 1000000 in
theorem codeBack_any (l : List UInt8) (w : World) (hl : l.length ≤ 140737488351232) :
    Calls Try.prog 18 #[.string (txt l)] w fun e w' => (∃ a c, e = .returned (.tuple #[.slice a (readL keyD l).length c, .int .i64 (readE keyD l)]) ∧ (readL keyD l).length ≤ c ∧ RowAt w' a (readL keyD l)) ∧ Below w.heap.size w w' := by
  have C := read_any 30 keyB keyD keyCoded enters_takeSorted takes_sorted l w hl
  go_enter Try.func18, Try.ntmps18
  go_wp2_with (go_at_call 24; refine C.mono ?_; rintro e w1 ⟨⟨a, c, rfl, h1, h2⟩, hb1⟩)
  go_returns
  exact ⟨⟨a, c, rfl, h1, h2⟩, hb1⟩
end Go.Proofs.Ytblleknmofbhiaa
