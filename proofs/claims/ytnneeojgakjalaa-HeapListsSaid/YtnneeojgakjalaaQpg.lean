/- The project's page: reading it from its bytes: a contract of the call, in whatever memory. Conditions: the bytes are a string's. -/
import Derived.Test.YtnneeojgakjalaaQpf
namespace Go.Proofs.Ytnneeojgakjalaa
open Go.RowKit

theorem made_slots (n : Nat) : (madeCells (Value.agg #[.bool false, .string ⟨#[]⟩]).cells (n * 2)).toList = slotCells (List.replicate n noS) := by
  show (madeCells #[Value.bool false, Value.string ⟨#[]⟩] (n * 2)).toList = _
  refine List.ext_getElem? fun j => ?_
  by_cases hj : j < n * 2
  · have hk : j / 2 < (List.replicate n noS).length := by rw [List.length_replicate]; omega
    obtain ⟨h0, h1⟩ := slotCells_at (List.replicate n noS) (j / 2) hk
    rw [List.getElem_replicate] at h0 h1
    have e : (madeCells #[Value.bool false, Value.string ⟨#[]⟩] (n * 2)).toList[j]? = some (#[Value.bool false, Value.string ⟨#[]⟩][j % 2]!) := by
      simp [madeCells, hj]
    rw [e]
    rcases (by omega : j % 2 = 0 ∨ j % 2 = 1) with hm | hm
    · rw [show j / 2 * 2 = j by omega] at h0
      rw [hm, h0]; rfl
    · rw [show j / 2 * 2 + 1 = j by omega] at h1
      rw [hm, h1]; rfl
  · rw [List.getElem?_eq_none (by simp [madeCells]; omega), List.getElem?_eq_none (by rw [slotCells_len, List.length_replicate]; omega)]
theorem own_made {w : World} {base B n : Nat} (h : w.ownsRow base 77 2 (.slice (some ⟨B, 0, none⟩) n n) n (madeCells (Value.agg #[.bool false, .string ⟨#[]⟩]).cells (n * 2)).toList) : OwnS w base (.slice (some ⟨B, 0, none⟩) n n) (List.replicate n noS) := by
  rw [made_slots] at h
  refine ⟨?_⟩
  rw [List.length_replicate]
  exact h
theorem fill_next {Q : Pg} {n i : Nat} (t : Slot) (hQ : Q.length = i) (hi : i < n) : (Q ++ List.replicate (n - i) noS).set i t = (Q ++ [t]) ++ List.replicate (n - (i + 1)) noS := by
  rw [List.set_append_right _ _ (by omega), hQ, Nat.sub_self, show n - i = (n - (i + 1)) + 1 by omega, List.replicate_succ, List.set_cons_zero]
  simp
theorem fill_skip {Q : Pg} {n i : Nat} (hi : i < n) : Q ++ List.replicate (n - i) noS = (Q ++ [noS]) ++ List.replicate (n - (i + 1)) noS := by
  rw [show n - i = (n - (i + 1)) + 1 by omega, List.replicate_succ]
  simp
theorem fill_len {Q : Pg} {n i : Nat} (hQ : Q.length = i) (hi : i ≤ n) : (Q ++ List.replicate (n - i) noS).length = n := by
  rw [List.length_append, List.length_replicate]; omega
theorem ret_page {a : Option Addr} {m n c : Nat} {er : Int} (h : m = n) : Ending.returned (.tuple #[.agg #[.slice a m c], .int .i64 er]) = .returned (.tuple #[.agg #[.slice a n c], .int .i64 er]) := by rw [h]
theorem numAt_lt (s : List UInt8) (o : Nat) : numAt s o < 65536 := by
  have h0 := (s.getD o 0).toNat_lt
  have h1 := (s.getD (o + 1) 0).toNat_lt
  unfold numAt
  omega

end Go.Proofs.Ytnneeojgakjalaa
