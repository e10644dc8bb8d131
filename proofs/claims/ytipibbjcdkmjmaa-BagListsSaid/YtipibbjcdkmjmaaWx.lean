/- How any two rows stand to each other: what the project's Rows answers, in whatever memory. Conditions: each row is a slice whose elements' cells are known (what came in reads so). -/
import Derived.Test.YtipibbjcdkmjmaaRr
import Derived.Test.YtipibbjcdkmjmaaWo
namespace Go.Proofs.Ytipibbjcdkmjmaa
open Go.RowKit

set_option maxHeartbeats 1000000 in
theorem compareFunc_any (a1 a2 : Option Addr) (c1 c2 : Nat) (l1 l2 : List Val) (w : World) (h1 : RowAt w a1 l1) (h2 : RowAt w a2 l2) (m1 : l1.length ≤ maxLen) :
    Calls Try.prog 29 #[.slice a1 l1.length c1, .slice a2 l2.length c2, .func (.func 30) #[] #[]] w fun e w' => e = .returned (.int .i64 (rowsV l1 l2)) ∧ Below w.heap.size w w' := by
  unfold maxLen at m1
  have R1 := hid0 h1
  have R2 := hid0 h2
  clear h1 h2
  go_enter Try.func29, Try.ntmps29
  go_wp2
  go_loopw [13] (fun i wr => ∃ k : Nat, k ≤ l1.length ∧ k ≤ l2.length ∧ i = .int .i64 k ∧ Below w.heap.size w wr ∧ Hid (rowsV l1 l2 = rowsV (l1.drop k) (l2.drop k))) (fun i _ => l1.length - (intOf i).toNat)
  case atStart => exact ⟨0, Nat.zero_le _, Nat.zero_le _, rfl, Below.refl _ _, rfl⟩
  case round =>
    obtain ⟨k, hk1, hk2, rfl, hB, hR⟩ := hrel
    by_cases hlt : k < l1.length
    · by_cases hlt2 : k < l2.length
      · obtain ⟨b1, o1, rfl, hc1⟩ := (R1.out.later hB) (by intro e; rw [e] at hlt; exact absurd hlt (by simp))
        obtain ⟨b2, o2, rfl, hc2⟩ := (R2.out.later hB) (by intro e; rw [e] at hlt2; exact absurd hlt2 (by simp))
        obtain ⟨p0, p1, p2⟩ := hc1 k hlt
        obtain ⟨q0, q1, q2⟩ := hc2 k hlt2
        have q0a := fun o => cell_later ((Below.refl wr.heap.size wr).alloc (Nat.le_refl _) o) q0
        have q1a := fun o => cell_later ((Below.refl wr.heap.size wr).alloc (Nat.le_refl _) o) q1
        have q2a := fun o => cell_later ((Below.refl wr.heap.size wr).alloc (Nat.le_refl _) o) q2
        clear hc1 hc2 q0 q1 q2
        go_wp2_with (go_at_call 30; refine (cmp_any _ _ _ _ _ _ _).mono ?_; rintro e wn ⟨rfl, hbn⟩)
        · go_ret
          exact ⟨ret_i64 (rows_stop hlt hlt2 ‹_› hR), below_through hbn (by have := hB.size; simp; omega) (Below.alloc (Below.alloc hB (by have := hB.size; omega) _) (by have := hB.size; simp; omega) _)⟩
        · exact ⟨⟨k + 1, by omega, by omega, by go_num, below_through hbn (by have := hB.size; simp; omega) (Below.alloc (Below.alloc hB (by have := hB.size; omega) _) (by have := hB.size; simp; omega) _), rows_go hlt hlt2 ‹_› hR⟩, by simp [intOf]; omega⟩
      · obtain ⟨b1, o1, rfl, hc1⟩ := (R1.out.later hB) (by intro e; rw [e] at hlt; exact absurd hlt (by simp))
        obtain ⟨p0, p1, p2⟩ := hc1 k hlt
        clear hc1
        go_wp2
        go_ret
        exact ⟨ret_i64 (by rw [show rowsV l1 l2 = _ from hR, rows_more l1 l2 k hlt (by omega)]), Below.alloc hB (by have := hB.size; omega) _⟩
    · go_wp2
      · go_ret
        exact ⟨ret_i64 (by rw [show rowsV l1 l2 = _ from hR, rows_less l1 l2 k (by omega) (by omega)]), hB⟩
      · go_ret
        exact ⟨ret_i64 (by rw [show rowsV l1 l2 = _ from hR, rows_end l1 l2 k (by omega) (by omega)]), hB⟩

set_option maxHeartbeats 1000000 in
theorem rows_any (a1 a2 : Option Addr) (c1 c2 : Nat) (l1 l2 : List Val) (w : World) (h1 : RowAt w a1 l1) (h2 : RowAt w a2 l2) (m1 : l1.length ≤ maxLen) :
    Calls Try.prog 24 #[.slice a1 l1.length c1, .slice a2 l2.length c2] w fun e w' => e = .returned (.int .i64 (rowsV l1 l2)) ∧ Below w.heap.size w w' := by
  have R1 := hid0 h1
  have R2 := hid0 h2
  clear h1 h2
  go_enter Try.func24, Try.ntmps24
  go_wp2_with (go_at_call 29; refine (compareFunc_any _ _ _ _ _ _ _ R1.out R2.out m1).mono ?_; rintro e w' ⟨rfl, hb⟩)
  go_ret
  exact ⟨rfl, hb⟩

end Go.Proofs.Ytipibbjcdkmjmaa
