/- The reference of layer 5: a number in two bytes: a contract of the call, in whatever memory. Conditions: the number has no more than two bytes. -/
import Derived.Test.YtnneeojgakjalaaQh
import Derived.Test.YtnneeojgakjalaaRf
namespace Go.Proofs.Ytnneeojgakjalaa
open Go.RowKit

theorem two_convert (n : Nat) (hn : n < 65536) (w : World) : (convert 68 9 (.slice (some ⟨w.heap.size, 0, none⟩) 2 2)).run Try.prog (w.alloc (.cells #[.int .u8 ((n / 256 : Nat) : Int), .int .u8 ((n % 256 : Nat) : Int)] 5)) = .ok (.string (txt (twoB n))) (w.alloc (.cells #[.int .u8 ((n / 256 : Nat) : Int), .int .u8 ((n % 256 : Nat) : Int)] 5)) :=
  run_convert_bytes_back (P := Try.prog) _ 68 9 5 ⟨w.heap.size, 0, none⟩ 2 (twoB n) Try.underlying68 Try.underlying5 Try.underlying9 (fun j hj => by
    have h2 : (twoB n).length = 2 := rfl
    rcases (by omega : j = 0 ∨ j = 1) with rfl | rfl
    · have e : ((twoB n)[0]).toNat = n / 256 := by show (UInt8.ofNat (n / 256)).toNat = _; rw [u8_ofNat]; omega
      simp only [e]
      show (World.alloc _ _).cell? ⟨_, 0 + 0, none⟩ = _
      go_cell
    · have e : ((twoB n)[1]).toNat = n % 256 := by show (UInt8.ofNat (n % 256)).toNat = _; rw [u8_ofNat]; omega
      simp only [e]
      show (World.alloc _ _).cell? ⟨_, 0 + 1, none⟩ = _
      go_cell)
end Go.Proofs.Ytnneeojgakjalaa
