/- The reference of layer 5: a number in two bytes: a contract of the call, in whatever memory. Conditions: the number has no more than two bytes. -/
import Derived.Test.YtpcjfhoppcmenaaQh
import Derived.Test.YtpcjfhoppcmenaaRf
namespace Go.Proofs.Ytpcjfhoppcmenaa
open Go.RowKit

theorem two_convert (n : Nat) (hn : n < 65536) (w : World) : (convert 46 9 (.slice (some ⟨w.heap.size, 0, none⟩) 2 2)).run Try.prog (w.alloc (.cells #[.int .u8 ((n / 256 : Nat) : Int), .int .u8 ((n % 256 : Nat) : Int)] 5)) = .ok (.string (txt (twoB n))) (w.alloc (.cells #[.int .u8 ((n / 256 : Nat) : Int), .int .u8 ((n % 256 : Nat) : Int)] 5)) :=
  run_convert_bytes_back (P := Try.prog) _ 46 9 5 ⟨w.heap.size, 0, none⟩ 2 (twoB n) Try.underlying46 Try.underlying5 Try.underlying9 (fun j hj => by
    have h2 : (twoB n).length = 2 := rfl
    rcases (by omega : j = 0 ∨ j = 1) with rfl | rfl
    · have e : ((twoB n)[0]).toNat = n / 256 := by show (UInt8.ofNat (n / 256)).toNat = _; rw [u8_ofNat]; omega
      simp only [e]
      show (World.alloc _ _).cell? ⟨_, 0 + 0, none⟩ = _
      go_cell
    · have e : ((twoB n)[1]).toNat = n % 256 := by show (UInt8.ofNat (n % 256)).toNat = _; rw [u8_ofNat]; omega
      simp only [e]
      show (World.alloc _ _).cell? ⟨_, 0 + 1, none⟩ = _
      go_cell)
set_option maxHeartbeats 1000000 in
theorem refTwo_any (n : Nat) (w : World) (hn : n < 65536) :
    Calls Try.prog 40 #[.int .i64 (n : Int)] w fun e w' => e = .returned (.string (txt (twoB n))) ∧ Below w.heap.size w w' := by
  have h1 : (n : Int).tdiv 256 = ((n / 256 : Nat) : Int) := rfl
  have h2 : (n : Int).tmod 256 = ((n % 256 : Nat) : Int) := rfl
  have h3 : IntKind.i64.wrap ((n / 256 : Nat) : Int) = ((n / 256 : Nat) : Int) := IntWalk.i64_in _ (by omega)
  have h4 : IntKind.i64.wrap ((n % 256 : Nat) : Int) = ((n % 256 : Nat) : Int) := IntWalk.i64_in _ (by omega)
  have h5 : IntKind.u8.wrap ((n / 256 : Nat) : Int) = ((n / 256 : Nat) : Int) := by rw [IntKind.wrap_u8]; omega
  have h6 : IntKind.u8.wrap ((n % 256 : Nat) : Int) = ((n % 256 : Nat) : Int) := by rw [IntKind.wrap_u8]; omega
  have hcv := fun w => two_convert n hn w
  simp only [Int.natCast_ediv, Int.natCast_emod, Int.cast_ofNat_Int] at hcv
  go_enter Try.func40, Try.ntmps40
  go_wp2
  go_ret
  exact ⟨rfl, (Below.refl _ _).alloc (Nat.le_refl _) _⟩
end Go.Proofs.Ytpcjfhoppcmenaa
