/- The reference of layer 3: the value that bytes begin with: a contract of the call, in whatever memory. Conditions: the bytes are a string's. -/
import Derived.Test.YtblleknmofbhiaaRg
namespace Go.Proofs.Ytblleknmofbhiaa
open Go.RowKit

def vA (v : Val) : Value := .agg #[.int .i64 v.k, .int .i64 v.n, .string v.s]
/-- What is answered: the value and how many bytes it has. -/
def oneA (x : Option (Val × Nat)) : Value := match x with
  | none => .tuple #[vA noV, .int .i64 0]
  | some (v, m) => .tuple #[vA v, .int .i64 (m : Int)]

set_option maxHeartbeats 400000 in
theorem refInt_any (n : Int) (w : World) :
    Calls Try.prog 31 #[.int .i64 n] w fun e w' => e = .returned (.agg #[.int .i64 1, .int .i64 n, .string (txt [])]) ∧ Below w.heap.size w w' := by
  go_enter Try.func31, Try.ntmps31
  go_wp2
  go_returns
  exact ⟨rfl, by go_grown⟩
set_option maxHeartbeats 400000 in
theorem refText_any (s : ByteArray) (w : World) :
    Calls Try.prog 42 #[.string s] w fun e w' => e = .returned (.agg #[.int .i64 3, .int .i64 0, .string s]) ∧ Below w.heap.size w w' := by
  go_enter Try.func42, Try.ntmps42
  go_wp2
  go_returns
  exact ⟨rfl, by go_grown⟩
set_option maxHeartbeats 400000 in
theorem refBool_any (b : Bool) (w : World) :
    Calls Try.prog 33 #[.bool b] w fun e w' => e = .returned (.agg #[.int .i64 2, .int .i64 (if b then 1 else 0), .string (txt [])]) ∧ Below w.heap.size w w' := by
  cases b
  all_goals
    go_enter Try.func33, Try.ntmps33
    go_wp2
    go_returns
    exact ⟨rfl, by go_grown⟩

theorem wrap64_s64 (u : Nat) (h : u < 256 ^ 8) : wrap64 (u : Int) = sn64 u := by
  rw [pow8] at h
  unfold wrap64 sn64
  split <;> omega
theorem ret_vn {v : Val} {m : Int} {k n : Int} {s : ByteArray} {m' : Int} (h : v = ⟨k, n, s⟩) (g : m = m') : Ending.returned (.tuple #[.agg #[.int .i64 k, .int .i64 n, .string s], .int .i64 m']) = .returned (.tuple #[vA v, .int .i64 m]) := by subst h g; rfl
theorem oneA_none : oneA none = .tuple #[.agg #[.int .i64 0, .int .i64 0, .string ⟨#[]⟩], .int .i64 0] := rfl

set_option maxHeartbeats 4000000 in
theorem refOne_any (l : List UInt8) (w : World) (hl : l.length ≤ maxLen) :
    Calls Try.prog 28 #[.string (txt l)] w fun e w' => e = .returned (oneA (rowD l)) ∧ Below w.heap.size w w' := by
  unfold maxLen at hl
  cases l with
  | nil =>
    have he : (txt []).toList.isEmpty = true := by rw [ByteArray.toList_eq]; rfl
    go_enter Try.func28, Try.ntmps28
    go_wp2_with (first
      | (go_at_call 32; refine (refFixed_any _ _ (by assumption)).mono ?_; rintro e w' ⟨rfl, rfl⟩)
      | (go_at_call 31; refine (refInt_any _ _).mono ?_; rintro e w' ⟨rfl, hbn⟩; obtain ⟨hc, hf⟩ := below_cells hbn; have hz2 : w.heap.size < w'.heap.size := (by have := hbn.size; (try simp at this); omega); have c0 : w'.cell? ⟨w.heap.size, 0, none⟩ = some (.int .i64 0) := (by go_cell); have c1 : w'.cell? ⟨w.heap.size, 1, none⟩ = some (.int .i64 0) := (by go_cell); have c2 : w'.cell? ⟨w.heap.size, 2, none⟩ = some (.string ⟨#[]⟩) := (by go_cell); clear hc)
      | (go_at_call 33; refine (refBool_any _ _).mono ?_; rintro e w' ⟨rfl, hbn⟩; obtain ⟨hc, hf⟩ := below_cells hbn; have hz2 : w.heap.size < w'.heap.size := (by have := hbn.size; (try simp at this); omega); have c0 : w'.cell? ⟨w.heap.size, 0, none⟩ = some (.int .i64 0) := (by go_cell); have c1 : w'.cell? ⟨w.heap.size, 1, none⟩ = some (.int .i64 0) := (by go_cell); have c2 : w'.cell? ⟨w.heap.size, 2, none⟩ = some (.string ⟨#[]⟩) := (by go_cell); clear hc)
      | (go_at_call 42; refine (refText_any _ _).mono ?_; rintro e w' ⟨rfl, hbn⟩; obtain ⟨hc, hf⟩ := below_cells hbn; have hz2 : w.heap.size < w'.heap.size := (by have := hbn.size; (try simp at this); omega); have c0 : w'.cell? ⟨w.heap.size, 0, none⟩ = some (.int .i64 0) := (by go_cell); have c1 : w'.cell? ⟨w.heap.size, 1, none⟩ = some (.int .i64 0) := (by go_cell); have c2 : w'.cell? ⟨w.heap.size, 2, none⟩ = some (.string ⟨#[]⟩) := (by go_cell); clear hc))
    go_returns
    exact ⟨rfl, by go_grown⟩
  | cons b r =>
    have he : (txt (b :: r)).toList.isEmpty = false := by rw [ByteArray.toList_eq]; rfl
    have hz : (txt (b :: r)).size = r.length + 1 := by rw [txt_size]; rfl
    have h0 : ∀ h, (txt (b :: r))[0]'h = b := fun h => rfl
    by_cases b0 : b = 0
    · subst b0
      go_enter Try.func28, Try.ntmps28
      go_wp2_with (first
        | (go_at_call 32; refine (refFixed_any _ _ (by assumption)).mono ?_; rintro e w' ⟨rfl, rfl⟩)
        | (go_at_call 31; refine (refInt_any _ _).mono ?_; rintro e w' ⟨rfl, hbn⟩; obtain ⟨hc, hf⟩ := below_cells hbn; have hz2 : w.heap.size < w'.heap.size := (by have := hbn.size; (try simp at this); omega); have c0 : w'.cell? ⟨w.heap.size, 0, none⟩ = some (.int .i64 0) := (by go_cell); have c1 : w'.cell? ⟨w.heap.size, 1, none⟩ = some (.int .i64 0) := (by go_cell); have c2 : w'.cell? ⟨w.heap.size, 2, none⟩ = some (.string ⟨#[]⟩) := (by go_cell); clear hc)
        | (go_at_call 33; refine (refBool_any _ _).mono ?_; rintro e w' ⟨rfl, hbn⟩; obtain ⟨hc, hf⟩ := below_cells hbn; have hz2 : w.heap.size < w'.heap.size := (by have := hbn.size; (try simp at this); omega); have c0 : w'.cell? ⟨w.heap.size, 0, none⟩ = some (.int .i64 0) := (by go_cell); have c1 : w'.cell? ⟨w.heap.size, 1, none⟩ = some (.int .i64 0) := (by go_cell); have c2 : w'.cell? ⟨w.heap.size, 2, none⟩ = some (.string ⟨#[]⟩) := (by go_cell); clear hc)
        | (go_at_call 42; refine (refText_any _ _).mono ?_; rintro e w' ⟨rfl, hbn⟩; obtain ⟨hc, hf⟩ := below_cells hbn; have hz2 : w.heap.size < w'.heap.size := (by have := hbn.size; (try simp at this); omega); have c0 : w'.cell? ⟨w.heap.size, 0, none⟩ = some (.int .i64 0) := (by go_cell); have c1 : w'.cell? ⟨w.heap.size, 1, none⟩ = some (.int .i64 0) := (by go_cell); have c2 : w'.cell? ⟨w.heap.size, 2, none⟩ = some (.string ⟨#[]⟩) := (by go_cell); clear hc))
      go_returns
      exact ⟨rfl, by go_grown⟩
    by_cases b1 : b = 1
    · subst b1
      rw [rowD_int]
      by_cases h8 : 8 ≤ r.length
      · rw [if_pos h8]
        have hx : (txt (1 :: r)).extract 1 9 = txt (r.take 8) := txt_cut _ _ _
        have hl8 : (r.take 8).length = 8 := by rw [List.length_take]; omega
        have hw : wrap64 (decBE (r.take 8) : Int) = sn64 (decBE (r.take 8)) := wrap64_s64 _ (by have := decBE_lt (r.take 8); rwa [hl8] at this)
        go_enter Try.func28, Try.ntmps28
        go_wp2_with (first
          | (go_at_call 32; refine (refFixed_any _ _ (by assumption)).mono ?_; rintro e w' ⟨rfl, rfl⟩)
          | (go_at_call 31; refine (refInt_any _ _).mono ?_; rintro e w' ⟨rfl, hbn⟩; obtain ⟨hc, hf⟩ := below_cells hbn; have hz2 : w.heap.size < w'.heap.size := (by have := hbn.size; (try simp at this); omega); have c0 : w'.cell? ⟨w.heap.size, 0, none⟩ = some (.int .i64 0) := (by go_cell); have c1 : w'.cell? ⟨w.heap.size, 1, none⟩ = some (.int .i64 0) := (by go_cell); have c2 : w'.cell? ⟨w.heap.size, 2, none⟩ = some (.string ⟨#[]⟩) := (by go_cell); clear hc)
          | (go_at_call 33; refine (refBool_any _ _).mono ?_; rintro e w' ⟨rfl, hbn⟩; obtain ⟨hc, hf⟩ := below_cells hbn; have hz2 : w.heap.size < w'.heap.size := (by have := hbn.size; (try simp at this); omega); have c0 : w'.cell? ⟨w.heap.size, 0, none⟩ = some (.int .i64 0) := (by go_cell); have c1 : w'.cell? ⟨w.heap.size, 1, none⟩ = some (.int .i64 0) := (by go_cell); have c2 : w'.cell? ⟨w.heap.size, 2, none⟩ = some (.string ⟨#[]⟩) := (by go_cell); clear hc)
          | (go_at_call 42; refine (refText_any _ _).mono ?_; rintro e w' ⟨rfl, hbn⟩; obtain ⟨hc, hf⟩ := below_cells hbn; have hz2 : w.heap.size < w'.heap.size := (by have := hbn.size; (try simp at this); omega); have c0 : w'.cell? ⟨w.heap.size, 0, none⟩ = some (.int .i64 0) := (by go_cell); have c1 : w'.cell? ⟨w.heap.size, 1, none⟩ = some (.int .i64 0) := (by go_cell); have c2 : w'.cell? ⟨w.heap.size, 2, none⟩ = some (.string ⟨#[]⟩) := (by go_cell); clear hc))
        refine bodyPost_ret (v := .tuple #[.agg #[.int .i64 1, .int .i64 (sn64 (decBE (r.take 8))), .string (txt [])], .int .i64 9]) (by simp [results, Try.results28, go_sem, c0, c1, c2]) rfl ⟨?_, Below.setCell (Below.setCell (Below.setCell (below_through hbn (by simp) (by go_grown)) (by simp) _) (by simp) _) (by simp) _⟩
        rfl
      · rw [if_neg h8]
        go_enter Try.func28, Try.ntmps28
        go_wp2_with (first
          | (go_at_call 32; refine (refFixed_any _ _ (by assumption)).mono ?_; rintro e w' ⟨rfl, rfl⟩)
          | (go_at_call 31; refine (refInt_any _ _).mono ?_; rintro e w' ⟨rfl, hbn⟩; obtain ⟨hc, hf⟩ := below_cells hbn; have hz2 : w.heap.size < w'.heap.size := (by have := hbn.size; (try simp at this); omega); have c0 : w'.cell? ⟨w.heap.size, 0, none⟩ = some (.int .i64 0) := (by go_cell); have c1 : w'.cell? ⟨w.heap.size, 1, none⟩ = some (.int .i64 0) := (by go_cell); have c2 : w'.cell? ⟨w.heap.size, 2, none⟩ = some (.string ⟨#[]⟩) := (by go_cell); clear hc)
          | (go_at_call 33; refine (refBool_any _ _).mono ?_; rintro e w' ⟨rfl, hbn⟩; obtain ⟨hc, hf⟩ := below_cells hbn; have hz2 : w.heap.size < w'.heap.size := (by have := hbn.size; (try simp at this); omega); have c0 : w'.cell? ⟨w.heap.size, 0, none⟩ = some (.int .i64 0) := (by go_cell); have c1 : w'.cell? ⟨w.heap.size, 1, none⟩ = some (.int .i64 0) := (by go_cell); have c2 : w'.cell? ⟨w.heap.size, 2, none⟩ = some (.string ⟨#[]⟩) := (by go_cell); clear hc)
          | (go_at_call 42; refine (refText_any _ _).mono ?_; rintro e w' ⟨rfl, hbn⟩; obtain ⟨hc, hf⟩ := below_cells hbn; have hz2 : w.heap.size < w'.heap.size := (by have := hbn.size; (try simp at this); omega); have c0 : w'.cell? ⟨w.heap.size, 0, none⟩ = some (.int .i64 0) := (by go_cell); have c1 : w'.cell? ⟨w.heap.size, 1, none⟩ = some (.int .i64 0) := (by go_cell); have c2 : w'.cell? ⟨w.heap.size, 2, none⟩ = some (.string ⟨#[]⟩) := (by go_cell); clear hc))
        go_returns
        exact ⟨rfl, by go_grown⟩
    by_cases b2 : b = 2
    · subst b2
      cases r with
      | nil =>
        go_enter Try.func28, Try.ntmps28
        go_wp2_with (first
          | (go_at_call 32; refine (refFixed_any _ _ (by assumption)).mono ?_; rintro e w' ⟨rfl, rfl⟩)
          | (go_at_call 31; refine (refInt_any _ _).mono ?_; rintro e w' ⟨rfl, hbn⟩; obtain ⟨hc, hf⟩ := below_cells hbn; have hz2 : w.heap.size < w'.heap.size := (by have := hbn.size; (try simp at this); omega); have c0 : w'.cell? ⟨w.heap.size, 0, none⟩ = some (.int .i64 0) := (by go_cell); have c1 : w'.cell? ⟨w.heap.size, 1, none⟩ = some (.int .i64 0) := (by go_cell); have c2 : w'.cell? ⟨w.heap.size, 2, none⟩ = some (.string ⟨#[]⟩) := (by go_cell); clear hc)
          | (go_at_call 33; refine (refBool_any _ _).mono ?_; rintro e w' ⟨rfl, hbn⟩; obtain ⟨hc, hf⟩ := below_cells hbn; have hz2 : w.heap.size < w'.heap.size := (by have := hbn.size; (try simp at this); omega); have c0 : w'.cell? ⟨w.heap.size, 0, none⟩ = some (.int .i64 0) := (by go_cell); have c1 : w'.cell? ⟨w.heap.size, 1, none⟩ = some (.int .i64 0) := (by go_cell); have c2 : w'.cell? ⟨w.heap.size, 2, none⟩ = some (.string ⟨#[]⟩) := (by go_cell); clear hc)
          | (go_at_call 42; refine (refText_any _ _).mono ?_; rintro e w' ⟨rfl, hbn⟩; obtain ⟨hc, hf⟩ := below_cells hbn; have hz2 : w.heap.size < w'.heap.size := (by have := hbn.size; (try simp at this); omega); have c0 : w'.cell? ⟨w.heap.size, 0, none⟩ = some (.int .i64 0) := (by go_cell); have c1 : w'.cell? ⟨w.heap.size, 1, none⟩ = some (.int .i64 0) := (by go_cell); have c2 : w'.cell? ⟨w.heap.size, 2, none⟩ = some (.string ⟨#[]⟩) := (by go_cell); clear hc))
        go_returns
        exact ⟨rfl, by go_grown⟩
      | cons c r =>
        have h1 : ∀ h, (txt (2 :: c :: r))[1]'h = c := fun h => rfl
        have hr : (c :: r).length = r.length + 1 := rfl
        rw [rowD_bool]
        by_cases hc1 : c.toNat ≤ 1
        · rw [if_pos hc1]
          have hcc : c.toNat = 0 ∨ c.toNat = 1 := by omega
          rcases hcc with hcc | hcc
          · have ev : (oneA (some (⟨2, (c.toNat : Int), txt []⟩, 2))) = .tuple #[.agg #[.int .i64 2, .int .i64 0, .string (txt [])], .int .i64 2] := by rw [hcc]; rfl
            rw [ev]
            go_enter Try.func28, Try.ntmps28
            go_wp2_with (first
              | (go_at_call 32; refine (refFixed_any _ _ (by assumption)).mono ?_; rintro e w' ⟨rfl, rfl⟩)
              | (go_at_call 31; refine (refInt_any _ _).mono ?_; rintro e w' ⟨rfl, hbn⟩; obtain ⟨hc, hf⟩ := below_cells hbn; have hz2 : w.heap.size < w'.heap.size := (by have := hbn.size; (try simp at this); omega); have c0 : w'.cell? ⟨w.heap.size, 0, none⟩ = some (.int .i64 0) := (by go_cell); have c1 : w'.cell? ⟨w.heap.size, 1, none⟩ = some (.int .i64 0) := (by go_cell); have c2 : w'.cell? ⟨w.heap.size, 2, none⟩ = some (.string ⟨#[]⟩) := (by go_cell); clear hc)
              | (go_at_call 33; refine (refBool_any _ _).mono ?_; rintro e w' ⟨rfl, hbn⟩; obtain ⟨hc, hf⟩ := below_cells hbn; have hz2 : w.heap.size < w'.heap.size := (by have := hbn.size; (try simp at this); omega); have c0 : w'.cell? ⟨w.heap.size, 0, none⟩ = some (.int .i64 0) := (by go_cell); have c1 : w'.cell? ⟨w.heap.size, 1, none⟩ = some (.int .i64 0) := (by go_cell); have c2 : w'.cell? ⟨w.heap.size, 2, none⟩ = some (.string ⟨#[]⟩) := (by go_cell); clear hc)
              | (go_at_call 42; refine (refText_any _ _).mono ?_; rintro e w' ⟨rfl, hbn⟩; obtain ⟨hc, hf⟩ := below_cells hbn; have hz2 : w.heap.size < w'.heap.size := (by have := hbn.size; (try simp at this); omega); have c0 : w'.cell? ⟨w.heap.size, 0, none⟩ = some (.int .i64 0) := (by go_cell); have c1 : w'.cell? ⟨w.heap.size, 1, none⟩ = some (.int .i64 0) := (by go_cell); have c2 : w'.cell? ⟨w.heap.size, 2, none⟩ = some (.string ⟨#[]⟩) := (by go_cell); clear hc))
            refine bodyPost_ret (v := .tuple #[.agg #[.int .i64 2, .int .i64 0, .string (txt [])], .int .i64 2]) (by simp [results, Try.results28, go_sem, c0, c1, c2]) rfl ⟨?_, Below.setCell (Below.setCell (Below.setCell (below_through hbn (by simp) (by go_grown)) (by simp) _) (by simp) _) (by simp) _⟩
            rfl
          · have ev : (oneA (some (⟨2, (c.toNat : Int), txt []⟩, 2))) = .tuple #[.agg #[.int .i64 2, .int .i64 1, .string (txt [])], .int .i64 2] := by rw [hcc]; rfl
            rw [ev]
            go_enter Try.func28, Try.ntmps28
            go_wp2_with (first
              | (go_at_call 32; refine (refFixed_any _ _ (by assumption)).mono ?_; rintro e w' ⟨rfl, rfl⟩)
              | (go_at_call 31; refine (refInt_any _ _).mono ?_; rintro e w' ⟨rfl, hbn⟩; obtain ⟨hc, hf⟩ := below_cells hbn; have hz2 : w.heap.size < w'.heap.size := (by have := hbn.size; (try simp at this); omega); have c0 : w'.cell? ⟨w.heap.size, 0, none⟩ = some (.int .i64 0) := (by go_cell); have c1 : w'.cell? ⟨w.heap.size, 1, none⟩ = some (.int .i64 0) := (by go_cell); have c2 : w'.cell? ⟨w.heap.size, 2, none⟩ = some (.string ⟨#[]⟩) := (by go_cell); clear hc)
              | (go_at_call 33; refine (refBool_any _ _).mono ?_; rintro e w' ⟨rfl, hbn⟩; obtain ⟨hc, hf⟩ := below_cells hbn; have hz2 : w.heap.size < w'.heap.size := (by have := hbn.size; (try simp at this); omega); have c0 : w'.cell? ⟨w.heap.size, 0, none⟩ = some (.int .i64 0) := (by go_cell); have c1 : w'.cell? ⟨w.heap.size, 1, none⟩ = some (.int .i64 0) := (by go_cell); have c2 : w'.cell? ⟨w.heap.size, 2, none⟩ = some (.string ⟨#[]⟩) := (by go_cell); clear hc)
              | (go_at_call 42; refine (refText_any _ _).mono ?_; rintro e w' ⟨rfl, hbn⟩; obtain ⟨hc, hf⟩ := below_cells hbn; have hz2 : w.heap.size < w'.heap.size := (by have := hbn.size; (try simp at this); omega); have c0 : w'.cell? ⟨w.heap.size, 0, none⟩ = some (.int .i64 0) := (by go_cell); have c1 : w'.cell? ⟨w.heap.size, 1, none⟩ = some (.int .i64 0) := (by go_cell); have c2 : w'.cell? ⟨w.heap.size, 2, none⟩ = some (.string ⟨#[]⟩) := (by go_cell); clear hc))
            refine bodyPost_ret (v := .tuple #[.agg #[.int .i64 2, .int .i64 1, .string (txt [])], .int .i64 2]) (by simp [results, Try.results28, go_sem, c0, c1, c2]) rfl ⟨?_, Below.setCell (Below.setCell (Below.setCell (below_through hbn (by simp) (by go_grown)) (by simp) _) (by simp) _) (by simp) _⟩
            rfl
        · rw [if_neg hc1]
          go_enter Try.func28, Try.ntmps28
          go_wp2_with (first
            | (go_at_call 32; refine (refFixed_any _ _ (by assumption)).mono ?_; rintro e w' ⟨rfl, rfl⟩)
            | (go_at_call 31; refine (refInt_any _ _).mono ?_; rintro e w' ⟨rfl, hbn⟩; obtain ⟨hc, hf⟩ := below_cells hbn; have hz2 : w.heap.size < w'.heap.size := (by have := hbn.size; (try simp at this); omega); have c0 : w'.cell? ⟨w.heap.size, 0, none⟩ = some (.int .i64 0) := (by go_cell); have c1 : w'.cell? ⟨w.heap.size, 1, none⟩ = some (.int .i64 0) := (by go_cell); have c2 : w'.cell? ⟨w.heap.size, 2, none⟩ = some (.string ⟨#[]⟩) := (by go_cell); clear hc)
            | (go_at_call 33; refine (refBool_any _ _).mono ?_; rintro e w' ⟨rfl, hbn⟩; obtain ⟨hc, hf⟩ := below_cells hbn; have hz2 : w.heap.size < w'.heap.size := (by have := hbn.size; (try simp at this); omega); have c0 : w'.cell? ⟨w.heap.size, 0, none⟩ = some (.int .i64 0) := (by go_cell); have c1 : w'.cell? ⟨w.heap.size, 1, none⟩ = some (.int .i64 0) := (by go_cell); have c2 : w'.cell? ⟨w.heap.size, 2, none⟩ = some (.string ⟨#[]⟩) := (by go_cell); clear hc)
            | (go_at_call 42; refine (refText_any _ _).mono ?_; rintro e w' ⟨rfl, hbn⟩; obtain ⟨hc, hf⟩ := below_cells hbn; have hz2 : w.heap.size < w'.heap.size := (by have := hbn.size; (try simp at this); omega); have c0 : w'.cell? ⟨w.heap.size, 0, none⟩ = some (.int .i64 0) := (by go_cell); have c1 : w'.cell? ⟨w.heap.size, 1, none⟩ = some (.int .i64 0) := (by go_cell); have c2 : w'.cell? ⟨w.heap.size, 2, none⟩ = some (.string ⟨#[]⟩) := (by go_cell); clear hc))
          go_returns
          exact ⟨rfl, by go_grown⟩
    by_cases b3 : b = 3
    · subst b3
      cases r with
      | nil =>
        go_enter Try.func28, Try.ntmps28
        go_wp2_with (first
          | (go_at_call 32; refine (refFixed_any _ _ (by assumption)).mono ?_; rintro e w' ⟨rfl, rfl⟩)
          | (go_at_call 31; refine (refInt_any _ _).mono ?_; rintro e w' ⟨rfl, hbn⟩; obtain ⟨hc, hf⟩ := below_cells hbn; have hz2 : w.heap.size < w'.heap.size := (by have := hbn.size; (try simp at this); omega); have c0 : w'.cell? ⟨w.heap.size, 0, none⟩ = some (.int .i64 0) := (by go_cell); have c1 : w'.cell? ⟨w.heap.size, 1, none⟩ = some (.int .i64 0) := (by go_cell); have c2 : w'.cell? ⟨w.heap.size, 2, none⟩ = some (.string ⟨#[]⟩) := (by go_cell); clear hc)
          | (go_at_call 33; refine (refBool_any _ _).mono ?_; rintro e w' ⟨rfl, hbn⟩; obtain ⟨hc, hf⟩ := below_cells hbn; have hz2 : w.heap.size < w'.heap.size := (by have := hbn.size; (try simp at this); omega); have c0 : w'.cell? ⟨w.heap.size, 0, none⟩ = some (.int .i64 0) := (by go_cell); have c1 : w'.cell? ⟨w.heap.size, 1, none⟩ = some (.int .i64 0) := (by go_cell); have c2 : w'.cell? ⟨w.heap.size, 2, none⟩ = some (.string ⟨#[]⟩) := (by go_cell); clear hc)
          | (go_at_call 42; refine (refText_any _ _).mono ?_; rintro e w' ⟨rfl, hbn⟩; obtain ⟨hc, hf⟩ := below_cells hbn; have hz2 : w.heap.size < w'.heap.size := (by have := hbn.size; (try simp at this); omega); have c0 : w'.cell? ⟨w.heap.size, 0, none⟩ = some (.int .i64 0) := (by go_cell); have c1 : w'.cell? ⟨w.heap.size, 1, none⟩ = some (.int .i64 0) := (by go_cell); have c2 : w'.cell? ⟨w.heap.size, 2, none⟩ = some (.string ⟨#[]⟩) := (by go_cell); clear hc))
        go_returns
        exact ⟨rfl, by go_grown⟩
      | cons c r =>
        have h1 : ∀ h, (txt (3 :: c :: r))[1]'h = c := fun h => rfl
        have hr : (c :: r).length = r.length + 1 := rfl
        have hx : (txt (3 :: c :: r)).extract 2 (2 + c.toNat) = txt (r.take c.toNat) := by
          rw [txt_cut, show 2 + c.toNat - 2 = c.toNat by omega]; rfl
        have hct := c.toNat_lt
        rw [rowD_text]
        by_cases hc1 : c.toNat ≤ 64
        · by_cases hc2 : c.toNat ≤ r.length
          · rw [if_pos ⟨hc1, hc2⟩]
            have ev : Ending.returned (.tuple #[.agg #[.int .i64 3, .int .i64 0, .string (txt (r.take c.toNat))], .int .i64 (2 + (c.toNat : Int))]) = .returned (oneA (some (⟨3, 0, txt (r.take c.toNat)⟩, 2 + c.toNat))) := by
              show _ = Ending.returned (.tuple #[.agg #[.int .i64 3, .int .i64 0, .string (txt (r.take c.toNat))], .int .i64 ((2 + c.toNat : Nat) : Int)])
              rw [show ((2 + c.toNat : Nat) : Int) = 2 + (c.toNat : Int) by omega]
            have hj0 : (0 : Int) ≤ 2 + (c.toNat : Int) := by omega
            have hj1 : (2 : Int) ≤ 2 + (c.toNat : Int) := by omega
            have hj2 : (0 : Int) ≤ (c.toNat : Int) := by omega
            have hj3 : (2 : Int) + (c.toNat : Int) ≤ (r.length : Int) + 1 + 1 := by omega
            have hj4 : (c.toNat : Int) ≤ (r.length : Int) := by omega
            have hq : (1 : Int) < (r.length : Int) + 1 + 1 := by omega
            have hw0 : IntKind.i64.wrap (c.toNat : Int) = (c.toNat : Int) := IntWalk.i64_in _ (by omega)
            have hw1 : IntKind.i64.wrap ((2 : Int) + (c.toNat : Int)) = 2 + (c.toNat : Int) := IntWalk.i64_in _ (by omega)
            have hsl : ∀ W : World, (Instr.slice 9 (.string (txt (3 :: c :: r))) (some (.int .i64 2)) (some (.int .i64 (2 + (c.toNat : Int)))) none).run Try.prog W = .ok (.string (txt (r.take c.toNat))) W := fun W => by
              rw [cut_at _ _ _ W (by omega) (by omega) (by rw [List.length_cons, List.length_cons]; omega), show ((2 : Int) + (c.toNat : Int)).toNat - (2 : Int).toNat = c.toNat by omega]; rfl
            go_enter Try.func28, Try.ntmps28
            go_wp2_with fail
            go_region_held3 (fun w' => Below w.heap.size w w' ∧ w.heap.size < w'.heap.size)
              ((go_split_ands; (try dsimp only); (repeat' apply And.intro); all_goals (first
                | assumption
                | exact below_through hbn (Below.size ‹Below w.heap.size w _›) ‹_›
                | (simp; done)
                | (have := hbn.size; simp at this; omega)
                | (go_grown; done)
                | go_keep)))
              (first
                | (go_at_call 42; refine (refText_any _ _).mono ?_; rintro e w' ⟨rfl, hbn⟩; obtain ⟨hc, hf⟩ := below_cells hbn; have hz2 : w.heap.size < w'.heap.size := (by have := hbn.size; (try simp at this); omega); have c0 : w'.cell? ⟨w.heap.size, 0, none⟩ = some (.int .i64 0) := (by go_cell); have c1 : w'.cell? ⟨w.heap.size, 1, none⟩ = some (.int .i64 0) := (by go_cell); have c2 : w'.cell? ⟨w.heap.size, 2, none⟩ = some (.string ⟨#[]⟩) := (by go_cell); clear hc))
            all_goals
              have HH := ‹Below w.heap.size w (World.setCell _ _ _) ∧ _›
              go_wp2
              refine bodyPost_ret (v := .tuple #[.agg #[.int .i64 3, .int .i64 0, .string (txt (r.take c.toNat))], .int .i64 (2 + (c.toNat : Int))]) (by simp [results, Try.results28, go_sem, c0, c1, c2]) rfl ⟨?_, HH.1⟩
              exact ev
          · rw [if_neg (by omega)]
            go_enter Try.func28, Try.ntmps28
            go_wp2_with (first
              | (go_at_call 32; refine (refFixed_any _ _ (by assumption)).mono ?_; rintro e w' ⟨rfl, rfl⟩)
              | (go_at_call 31; refine (refInt_any _ _).mono ?_; rintro e w' ⟨rfl, hbn⟩; obtain ⟨hc, hf⟩ := below_cells hbn; have hz2 : w.heap.size < w'.heap.size := (by have := hbn.size; (try simp at this); omega); have c0 : w'.cell? ⟨w.heap.size, 0, none⟩ = some (.int .i64 0) := (by go_cell); have c1 : w'.cell? ⟨w.heap.size, 1, none⟩ = some (.int .i64 0) := (by go_cell); have c2 : w'.cell? ⟨w.heap.size, 2, none⟩ = some (.string ⟨#[]⟩) := (by go_cell); clear hc)
              | (go_at_call 33; refine (refBool_any _ _).mono ?_; rintro e w' ⟨rfl, hbn⟩; obtain ⟨hc, hf⟩ := below_cells hbn; have hz2 : w.heap.size < w'.heap.size := (by have := hbn.size; (try simp at this); omega); have c0 : w'.cell? ⟨w.heap.size, 0, none⟩ = some (.int .i64 0) := (by go_cell); have c1 : w'.cell? ⟨w.heap.size, 1, none⟩ = some (.int .i64 0) := (by go_cell); have c2 : w'.cell? ⟨w.heap.size, 2, none⟩ = some (.string ⟨#[]⟩) := (by go_cell); clear hc)
              | (go_at_call 42; refine (refText_any _ _).mono ?_; rintro e w' ⟨rfl, hbn⟩; obtain ⟨hc, hf⟩ := below_cells hbn; have hz2 : w.heap.size < w'.heap.size := (by have := hbn.size; (try simp at this); omega); have c0 : w'.cell? ⟨w.heap.size, 0, none⟩ = some (.int .i64 0) := (by go_cell); have c1 : w'.cell? ⟨w.heap.size, 1, none⟩ = some (.int .i64 0) := (by go_cell); have c2 : w'.cell? ⟨w.heap.size, 2, none⟩ = some (.string ⟨#[]⟩) := (by go_cell); clear hc))
            go_returns
            exact ⟨rfl, by go_grown⟩
        · rw [if_neg (by omega)]
          go_enter Try.func28, Try.ntmps28
          go_wp2_with (first
            | (go_at_call 32; refine (refFixed_any _ _ (by assumption)).mono ?_; rintro e w' ⟨rfl, rfl⟩)
            | (go_at_call 31; refine (refInt_any _ _).mono ?_; rintro e w' ⟨rfl, hbn⟩; obtain ⟨hc, hf⟩ := below_cells hbn; have hz2 : w.heap.size < w'.heap.size := (by have := hbn.size; (try simp at this); omega); have c0 : w'.cell? ⟨w.heap.size, 0, none⟩ = some (.int .i64 0) := (by go_cell); have c1 : w'.cell? ⟨w.heap.size, 1, none⟩ = some (.int .i64 0) := (by go_cell); have c2 : w'.cell? ⟨w.heap.size, 2, none⟩ = some (.string ⟨#[]⟩) := (by go_cell); clear hc)
            | (go_at_call 33; refine (refBool_any _ _).mono ?_; rintro e w' ⟨rfl, hbn⟩; obtain ⟨hc, hf⟩ := below_cells hbn; have hz2 : w.heap.size < w'.heap.size := (by have := hbn.size; (try simp at this); omega); have c0 : w'.cell? ⟨w.heap.size, 0, none⟩ = some (.int .i64 0) := (by go_cell); have c1 : w'.cell? ⟨w.heap.size, 1, none⟩ = some (.int .i64 0) := (by go_cell); have c2 : w'.cell? ⟨w.heap.size, 2, none⟩ = some (.string ⟨#[]⟩) := (by go_cell); clear hc)
            | (go_at_call 42; refine (refText_any _ _).mono ?_; rintro e w' ⟨rfl, hbn⟩; obtain ⟨hc, hf⟩ := below_cells hbn; have hz2 : w.heap.size < w'.heap.size := (by have := hbn.size; (try simp at this); omega); have c0 : w'.cell? ⟨w.heap.size, 0, none⟩ = some (.int .i64 0) := (by go_cell); have c1 : w'.cell? ⟨w.heap.size, 1, none⟩ = some (.int .i64 0) := (by go_cell); have c2 : w'.cell? ⟨w.heap.size, 2, none⟩ = some (.string ⟨#[]⟩) := (by go_cell); clear hc))
          go_returns
          exact ⟨rfl, by go_grown⟩
    · have hb0 : ¬ b.toNat = 0 := fun e => b0 (UInt8.toNat_inj.1 e)
      have hb1 : ¬ b.toNat = 1 := fun e => b1 (UInt8.toNat_inj.1 e)
      have hb2 : ¬ b.toNat = 2 := fun e => b2 (UInt8.toNat_inj.1 e)
      have hb3 : ¬ b.toNat = 3 := fun e => b3 (UInt8.toNat_inj.1 e)
      rw [rowD_else r b0 b1 b2 b3]
      go_enter Try.func28, Try.ntmps28
      go_wp2_with (first
        | (go_at_call 32; refine (refFixed_any _ _ (by assumption)).mono ?_; rintro e w' ⟨rfl, rfl⟩)
        | (go_at_call 31; refine (refInt_any _ _).mono ?_; rintro e w' ⟨rfl, hbn⟩; obtain ⟨hc, hf⟩ := below_cells hbn; have hz2 : w.heap.size < w'.heap.size := (by have := hbn.size; (try simp at this); omega); have c0 : w'.cell? ⟨w.heap.size, 0, none⟩ = some (.int .i64 0) := (by go_cell); have c1 : w'.cell? ⟨w.heap.size, 1, none⟩ = some (.int .i64 0) := (by go_cell); have c2 : w'.cell? ⟨w.heap.size, 2, none⟩ = some (.string ⟨#[]⟩) := (by go_cell); clear hc)
        | (go_at_call 33; refine (refBool_any _ _).mono ?_; rintro e w' ⟨rfl, hbn⟩; obtain ⟨hc, hf⟩ := below_cells hbn; have hz2 : w.heap.size < w'.heap.size := (by have := hbn.size; (try simp at this); omega); have c0 : w'.cell? ⟨w.heap.size, 0, none⟩ = some (.int .i64 0) := (by go_cell); have c1 : w'.cell? ⟨w.heap.size, 1, none⟩ = some (.int .i64 0) := (by go_cell); have c2 : w'.cell? ⟨w.heap.size, 2, none⟩ = some (.string ⟨#[]⟩) := (by go_cell); clear hc)
        | (go_at_call 42; refine (refText_any _ _).mono ?_; rintro e w' ⟨rfl, hbn⟩; obtain ⟨hc, hf⟩ := below_cells hbn; have hz2 : w.heap.size < w'.heap.size := (by have := hbn.size; (try simp at this); omega); have c0 : w'.cell? ⟨w.heap.size, 0, none⟩ = some (.int .i64 0) := (by go_cell); have c1 : w'.cell? ⟨w.heap.size, 1, none⟩ = some (.int .i64 0) := (by go_cell); have c2 : w'.cell? ⟨w.heap.size, 2, none⟩ = some (.string ⟨#[]⟩) := (by go_cell); clear hc))
      go_returns
      exact ⟨rfl, by go_grown⟩
end Go.Proofs.Ytblleknmofbhiaa
