/- The reference of layer 5: reading a page: a contract of the call, in whatever memory. Conditions: the bytes are a string's. -/
import Derived.Test.YtnneeojgakjalaaQj
import Derived.BigQuiet
namespace Go.Proofs.Ytnneeojgakjalaa
open Go.RowKit

def readQ (s : List UInt8) : Pg := (readP s).getD []
def readE (s : List UInt8) : Int := if (readP s).isSome then 0 else 2
theorem read_none {s : List UInt8} (h : readP s = none) : readQ s = [] ∧ readE s = 2 := by unfold readQ readE; rw [h]; exact ⟨rfl, rfl⟩
theorem read_some {s : List UInt8} {p : Pg} (h : readP s = some p) : readQ s = p ∧ readE s = 0 := by unfold readQ readE; rw [h]; exact ⟨rfl, rfl⟩
/-- Q has been read of the first i slots of n. -/
def ReadTo (s : List UInt8) (n i : Nat) (Q : Pg) : Prop := slotsD s 0 n = (slotsD s i (n - i)).map (Q ++ ·) ∧ Q.length = i
theorem readTo_start (s : List UInt8) (n : Nat) : ReadTo s n 0 [] := ⟨by cases h : slotsD s 0 n <;> simp, rfl⟩
theorem readTo_bad {s : List UInt8} {n i : Nat} {Q : Pg} (h : ReadTo s n i Q) (hi : i < n) (hb : slotD s i = none) : slotsD s 0 n = none := by
  rw [h.1, show n - i = (n - (i + 1)) + 1 by omega, slotsD, hb]; rfl
theorem readTo_next {s : List UInt8} {n i : Nat} {Q : Pg} {t : Slot} (h : ReadTo s n i Q) (hi : i < n) (hb : slotD s i = some t) : ReadTo s n (i + 1) (Q ++ [t]) := by
  refine ⟨?_, by rw [List.length_append, h.2]; rfl⟩
  rw [h.1, show n - i = (n - (i + 1)) + 1 by omega, slotsD, hb]
  cases slotsD s (i + 1) (n - (i + 1)) <;> simp
theorem readTo_end {s : List UInt8} {n : Nat} {Q : Pg} (h : ReadTo s n n Q) : slotsD s 0 n = some Q := by
  rw [h.1, Nat.sub_self]; simp [slotsD]
theorem read_long {s : List UInt8} (h : s.length ≠ 1024) : readP s = none := by unfold readP; rw [if_pos h]
theorem read_many {s : List UInt8} (h : s.length = 1024) (hn : 1024 < 2 + 4 * numAt s 0) : readP s = none := by unfold readP; rw [if_neg (by omega), if_pos hn]
theorem read_is {s : List UInt8} (h : s.length = 1024) (hn : ¬ 1024 < 2 + 4 * numAt s 0) : readP s = match slotsD s 0 (numAt s 0) with
    | none => none
    | some p => if rightB p = true ∧ bytesP p = s then some p else none := by unfold readP; rw [if_neg (by omega), if_neg hn]; rfl
theorem idx_run (s : List UInt8) (k : Nat) (h : k < s.length) (W : World) (x : Int) (hx : x = (k : Int)) : (Instr.index 9 (.string (txt s)) (.int .i64 x)).run Try.prog W = .ok (.int .u8 (((s.getD k 0).toNat : Nat) : Int)) W := by
  subst hx
  have hz : (txt s).size = s.length := txt_size s
  have hk : k < (txt s).size := by omega
  have e : (txt s)[k]'hk = s.getD k 0 := by rw [txt_get s k hk h]; simp [List.getD, h]
  rw [run_index_string W 9 (txt s) .i64 k Try.underlying9]
  simp [hk, e]

theorem slotD_bad {s : List UInt8} {i x y : Nat} (h1 : numAt s (2 + 4 * i) = x) (h2 : numAt s (4 + 4 * i) = y) (h : 1024 < x ∨ 1024 - x < y) : slotD s i = none := by
  unfold slotD; rw [h1, h2, if_pos h]
theorem slotD_ok {s : List UInt8} {i x y : Nat} (h1 : numAt s (2 + 4 * i) = x) (h2 : numAt s (4 + 4 * i) = y) (h : ¬ (1024 < x ∨ 1024 - x < y)) : slotD s i = some (if 0 < x then (true, (s.drop x).take y) else noS) := by
  unfold slotD; rw [h1, h2, if_neg h]
theorem slotsD_small {s : List UInt8} : ∀ (k i : Nat) (p : Pg), slotsD s i k = some p → ∀ t ∈ p, t.2.length ≤ s.length
  | 0, i, p, h, t, ht => by
    obtain rfl : [] = p := Option.some.inj h
    exact absurd ht (by simp)
  | k + 1, i, p, h, t, ht => by
    rw [slotsD] at h
    cases hd : slotD s i with
    | none => rw [hd] at h; cases h
    | some u =>
      rw [hd] at h
      dsimp only at h
      cases hr : slotsD s (i + 1) k with
      | none => rw [hr] at h; cases h
      | some q =>
        rw [hr] at h
        obtain rfl : u :: q = p := Option.some.inj h
        rcases List.mem_cons.1 ht with rfl | ht
        · unfold slotD at hd
          split at hd
          · cases hd
          · obtain rfl := Option.some.inj hd
            split
            · show ((s.drop _).take _).length ≤ s.length
              rw [List.length_take, List.length_drop]; omega
            · exact Nat.zero_le _
        · exact slotsD_small k (i + 1) q hr t ht
theorem txt_toList (l : List UInt8) : (txt l).toList = l := by rw [ByteArray.toList_eq]; rfl
theorem w64 {x y : Int} (e : x = y) (h1 : -9223372036854775808 ≤ x) (h2 : x ≤ 9223372036854775807) : IntKind.i64.wrap x = y ∧ wrap64 x = y := by
  subst e
  exact ⟨IntWalk.i64_in _ (by omega), by unfold wrap64; omega⟩

end Go.Proofs.Ytnneeojgakjalaa
