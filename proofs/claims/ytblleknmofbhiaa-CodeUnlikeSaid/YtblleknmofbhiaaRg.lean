/- The reference of layer 3: a number in eight bytes: a contract of the call, in whatever memory. Conditions: none beyond the number's size. -/
import Derived.Test.YtblleknmofbhiaaRf
import Derived.OwnWalk
namespace Go.Proofs.Ytblleknmofbhiaa
open Go.RowKit

theorem info5 : (Try.prog.info? 5).map (fun i => (i.zero, i.size, i.bytes)) = some (some (.int .u8 0), 1, 1) := by kernel_rfl

/-- The eight bytes when n of them are laid, from the last one on. -/
def laid8 (u n : Nat) : List Value := (List.range 8).map fun j => .int .u8 ((if 8 - n ≤ j then u / 256 ^ (7 - j) % 256 else 0 : Nat) : Int)
theorem laid8_zero (u : Nat) : (madeCells (Value.int .u8 0).cells (8 * 1)).toList = laid8 u 0 := by
  rw [show (8 * 1 : Nat) = 8 from rfl]
  show (madeCells #[Value.int .u8 0] 8).toList = _
  rw [toList_madeCells_one]; rfl
theorem laid8_next (u n : Nat) (h : n < 8) : (laid8 u n).set (7 - n) (.int .u8 ((u / 256 ^ n % 256 : Nat) : Int)) = laid8 u (n + 1) := by
  rcases (by omega : n = 0 ∨ n = 1 ∨ n = 2 ∨ n = 3 ∨ n = 4 ∨ n = 5 ∨ n = 6 ∨ n = 7) with rfl | rfl | rfl | rfl | rfl | rfl | rfl | rfl <;> rfl
theorem laid8_len (u n : Nat) : (laid8 u n).length = 8 := by simp [laid8]
theorem laid8_all (u : Nat) (j : Nat) (hj : j < (encBE 8 u).length) : (laid8 u 8)[j]? = some (.int .u8 (((encBE 8 u)[j]).toNat : Int)) := by
  have e : encBE 8 u = [UInt8.ofNat (u / 256 ^ 7), UInt8.ofNat (u / 256 ^ 6), UInt8.ofNat (u / 256 ^ 5), UInt8.ofNat (u / 256 ^ 4), UInt8.ofNat (u / 256 ^ 3), UInt8.ofNat (u / 256 ^ 2), UInt8.ofNat (u / 256), UInt8.ofNat u] := by
    simp [encBE, Nat.div_div_eq_div_mul]
  rw [encBE_len] at hj
  rcases (by omega : j = 0 ∨ j = 1 ∨ j = 2 ∨ j = 3 ∨ j = 4 ∨ j = 5 ∨ j = 6 ∨ j = 7) with rfl | rfl | rfl | rfl | rfl | rfl | rfl | rfl
  all_goals simp [e, laid8, List.range, List.range.loop]

set_option maxHeartbeats 2000000 in
theorem refWord_any (u : Nat) (w : World) (hu : u < 18446744073709551616) :
    Calls Try.prog 23 #[.int .u64 (u : Int)] w fun e w' => e = .returned (.string (txt (encBE 8 u))) ∧ Below w.heap.size w w' := by
  obtain ⟨i0, hi, hz0, hz1, hz2⟩ := info_parts info5
  go_enter Try.func23, Try.ntmps23
  go_wp2_with (first
    | (at_make; refine wpList_make_full _ rfl _ _ 39 rfl w.heap.size 5 i0 (.int .u8 0) 1 Try.underlying39 hi hz0 hz1 .i64 .i64 8 8 8 rfl rfl rfl rfl (by rw [hz2]; omega) (by unfold maxLen; omega) (Nat.le_refl _) ?_; intro w1 hown hgrow))
  rw [laid8_zero u] at hown
  have hB1 : Below w.heap.size w w1 := (Below.refl _ _).grown hgrow (Nat.le_refl _) (fun j hj => by cases hj)
  clear hgrow
  go_loopw [0, 4] (fun v i wr => ∃ n : Nat, n ≤ 8 ∧ i = .int .i64 (7 - (n : Int)) ∧ v = .int .u64 ((u / 256 ^ n : Nat) : Int) ∧ wr.ownsRow w.heap.size 5 1 (.slice (some ⟨w.heap.size, 0, none⟩) 8 8) 8 (laid8 u n) ∧ Below w.heap.size w wr) (fun _ i _ => (intOf i + 1).toNat)
  case atStart => exact ⟨0, by omega, rfl, by simp, hown, hB1⟩
  case round =>
    clear hown hB1
    obtain ⟨n, hn, rfl, rfl, hown, hB⟩ := hrel
    have hsz := hB.size
    by_cases hlt : n < 8
    · obtain ⟨j, hj⟩ : ∃ j : Nat, 7 - (n : Int) = j := ⟨7 - n, by omega⟩
      have hj7 : j = 7 - n := by omega
      rw [hj]
      have hc : ∃ o, wr.cell? ⟨w.heap.size, j, none⟩ = some o := by
        rw [hown.cellAt j (by omega)]
        exact ⟨(laid8 u n)[j]'(by rw [laid8_len]; omega), List.getElem?_eq_getElem _⟩
      obtain ⟨o, hc⟩ := hc
      have hf := hown.frozenAt j
      have hst := hown.stored j (.int .u8 ((u / 256 ^ n % 256 : Nat) : Int))
      obtain ⟨x, hx⟩ : ∃ x, u / 256 ^ n = x := ⟨_, rfl⟩
      have hxu : x < 18446744073709551616 := by rw [← hx]; exact Nat.lt_of_le_of_lt (Nat.div_le_self _ _) hu
      rw [hx] at hst ⊢
      have HX := hid0 hx
      have HJ := hid0 hj7
      have HO := hid0 hown
      have hj8 : (j : Int) < 8 := by omega
      clear hx hj hj7 hown
      go_wp2
      have hj := HJ.out
      refine ⟨⟨n + 1, by omega, congrArg _ (by omega), congrArg _ ?_, ?_, ?_⟩, by simp [intOf]⟩
      · have := HX.out
        rw [Nat.pow_succ, ← Nat.div_div_eq_div_mul, this]; omega
      · have h1 := hst.1
        rw [hj, ← HX.out, laid8_next u n hlt, ← hj, HX.out] at h1
        have e : ((x % 256 : Nat) : Int) = (x : Int) % 256 := by omega
        rw [e] at h1
        exact h1
      · exact Below.setCell hB (Nat.le_refl _) _
    · obtain rfl : n = 8 := by omega
      have cv : (convert 39 9 (.slice (some ⟨w.heap.size, 0, none⟩) 8 8)).run Try.prog wr = .ok (.string (txt (encBE 8 u))) wr := by
        have h := run_convert_bytes_back (P := Try.prog) wr 39 9 5 ⟨w.heap.size, 0, none⟩ 8 (encBE 8 u) Try.underlying39 Try.underlying5 Try.underlying9 (fun j hj => by
          have hj' := hj
          rw [encBE_len] at hj'
          rw [WideShapes.add_plain, Nat.zero_add, hown.cellAt j (by omega), laid8_all u j hj])
        rw [encBE_len] at h
        exact h
      go_wp2
      go_ret
      exact ⟨rfl, hB⟩
end Go.Proofs.Ytblleknmofbhiaa
