/- Several of my texts laid together, each as it was: Uj. Conditions: each names its own. -/
import Derived.Test.YtneebnankghhgabG2
import Derived.BigQuiet
/- The law's own: the same keys? A contract of the call, in whatever memory. Conditions: both lists' memory is known, and holds the same. -/
namespace Go.Proofs.Ytneebnankghhgab
open Go.RowKit

set_option maxHeartbeats 1000000 in
theorem same_yes (P P' : Nat → Prop) (a a' : Option Addr) (n c c' : Nat) (ks : List Key) (w : World) (h : Sl 1 sk P w (.slice a n c) ks) (h' : Sl 1 sk P' w (.slice a' n c') ks) (hn : n ≤ 1000) :
    Calls Try.prog 16 #[.slice a n c, .slice a' n c'] w fun e w' => e = .returned (.bool true) ∧ Below w.heap.size w w' := by
  have A := hid0 (And.intro h h')
  have HL := hid0 h.len.1
  clear h h'
  go_enter Try.func16, Try.ntmps16
  go_wp2
  go_loopw [5] (fun iv wr => ∃ i : Nat, i ≤ n ∧ iv = .int .i64 i ∧ Below w.heap.size w wr) (fun iv _ => n - (intOf iv).toNat)
  case atStart => exact ⟨0, Nat.zero_le _, rfl, Below.refl _ _⟩
  case round =>
    obtain ⟨i, hi, rfl, hB⟩ := hrel
    by_cases hlt : i < n
    · have hil : i < ks.length := by have := HL.out; omega
      obtain ⟨b, o, rfl, _, q0⟩ := A.out.1.one (List.getElem?_eq_getElem hil)
      obtain ⟨b', o', rfl, _, q1⟩ := A.out.2.one (List.getElem?_eq_getElem hil)
      have hin : (i : Int) < (n : Int) := by omega
      have z0 := cell_later hB q0
      have z1 := cell_later hB q1
      have HB := hid0 hB
      clear q0 q1 hB
      go_wp2
      go_region
      go_wp2
      exact ⟨⟨i + 1, by omega, by go_num, Below.drew HB.out⟩, by simp [intOf]; omega⟩
    · have hin : ¬ (i : Int) < (n : Int) := by omega
      go_wp2
      go_ret
      exact ⟨rfl, hB⟩
end Go.Proofs.Ytneebnankghhgab
