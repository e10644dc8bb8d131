/- What the laws of layer 3 share: what reading back what was written comes to, as plain lemmas; the document's example, which every law asks first, is true. Conditions: each lemma names its own. -/
import Derived.Test.YtblleknmofbhiaaCc
import Derived.Test.YtblleknmofbhiaaRr
namespace Go.Proofs.Ytblleknmofbhiaa
open Go.RowKit

theorem rowS_ok {l : List Val} (h : rightV l = 0) : rowS l = encL rowB l := by unfold rowS; rw [if_pos h]
theorem rowS_no {l : List Val} (h : ¬ rightV l = 0) : rowS l = [] := by unfold rowS; rw [if_neg h]
theorem keyS_ok {l : List Val} (h : rightV l = 0) : keyS l = encL keyB l := by unfold keyS; rw [if_pos h]
theorem keyS_no {l : List Val} (h : ¬ rightV l = 0) : keyS l = [] := by unfold keyS; rw [if_neg h]
theorem rowS_len {l : List Val} (hi : ∀ v ∈ l, inI v) : (rowS l).length ≤ 528 := by
  by_cases h : rightV l = 0
  · obtain ⟨h1, h2⟩ := rightV_ok hi h
    have := rows_len h2
    rw [rowS_ok h]; omega
  · rw [rowS_no h]; simp
theorem keyS_len {l : List Val} (hi : ∀ v ∈ l, inI v) : (keyS l).length ≤ 1048 := by
  by_cases h : rightV l = 0
  · obtain ⟨h1, h2⟩ := rightV_ok hi h
    have := keys_len h2
    rw [keyS_ok h]; omega
  · rw [keyS_no h]; simp
theorem row_back {l : List Val} (hi : ∀ v ∈ l, inI v) (h : rightV l = 0) : readL rowD (rowS l) = l ∧ readE rowD (rowS l) = 0 := by
  obtain ⟨h1, h2⟩ := rightV_ok hi h
  have e := rowCoded.decL_encL l 8 h2 h1
  rw [rowS_ok h]
  unfold readL readE
  rw [e]; exact ⟨rfl, rfl⟩
theorem key_back {l : List Val} (hi : ∀ v ∈ l, inI v) (h : rightV l = 0) : readL keyD (keyS l) = l ∧ readE keyD (keyS l) = 0 := by
  obtain ⟨h1, h2⟩ := rightV_ok hi h
  have e := keyCoded.decL_encL l 8 h2 h1
  rw [keyS_ok h]
  unfold readL readE
  rw [e]; exact ⟨rfl, rfl⟩
theorem read_cases {enc : Val → List UInt8} {dec : List UInt8 → Option (Val × Nat)} (C : Coded enc dec) (s : List UInt8) :
    (readE dec s = 0 ∧ rightV (readL dec s) = 0 ∧ encL enc (readL dec s) = s ∧ ∀ v ∈ readL dec s, okV v) ∨ (readE dec s = 2 ∧ readL dec s = []) := by
  unfold readE readL
  cases h : decL dec 8 s with
  | none => right; exact ⟨rfl, rfl⟩
  | some l =>
    left
    obtain ⟨h1, h2, h3⟩ := C.encL_decL 8 s l h
    exact ⟨rfl, rightV_of h2 h1, h3, h1⟩
theorem read_ok {enc : Val → List UInt8} {dec : List UInt8 → Option (Val × Nat)} (C : Coded enc dec) (s : List UInt8) : ∀ v ∈ readL dec s, inI v := by
  intro v hv
  rcases read_cases C s with ⟨_, _, _, h⟩ | ⟨_, h⟩
  · exact (h v hv).2
  · rw [h] at hv; exact absurd hv (by simp)
theorem read_len {enc : Val → List UInt8} {dec : List UInt8 → Option (Val × Nat)} (C : Coded enc dec) (s : List UInt8) : (readL dec s).length ≤ maxLen := by
  have h8 : (readL dec s).length ≤ 8 := by
    unfold readL
    cases h : decL dec 8 s with
    | none => simp
    | some l => exact (C.encL_decL 8 s l h).2.1
  unfold maxLen; omega
theorem rowsV_self (l : List Val) : rowsV l l = 0 := (rowsV_zero l l).2 rfl

set_option maxHeartbeats 400000 in
theorem num_any (n : Int) (w : World) :
    Calls Try.prog 26 #[.int .i64 n] w fun e w' => e = .returned (.agg #[.int .i64 1, .int .i64 n, .string (txt [])]) ∧ Below w.heap.size w w' := by
  go_enter Try.func26, Try.ntmps26
  go_wp2
  go_returns
  exact ⟨rfl, by go_grown⟩
theorem row2_at (B : Nat) (x y : Val) (w : World) (c0 : w.cell? ⟨B, 0, none⟩ = some (.int .i64 x.k)) (c1 : w.cell? ⟨B, 1, none⟩ = some (.int .i64 x.n)) (c2 : w.cell? ⟨B, 2, none⟩ = some (.string x.s))
    (c3 : w.cell? ⟨B, 3, none⟩ = some (.int .i64 y.k)) (c4 : w.cell? ⟨B, 4, none⟩ = some (.int .i64 y.n)) (c5 : w.cell? ⟨B, 5, none⟩ = some (.string y.s)) : RowAt w (some ⟨B, 0, none⟩) [x, y] := fun _ =>
  ⟨B, 0, rfl, fun i hi => by
    match i, hi with
    | 0, _ => exact ⟨c0, c1, c2⟩
    | 1, _ => exact ⟨c3, c4, c5⟩
    | i + 2, hi => exact absurd hi (by simp)⟩
theorem row1_at (B : Nat) (x : Val) (w : World) (c0 : w.cell? ⟨B, 0, none⟩ = some (.int .i64 x.k)) (c1 : w.cell? ⟨B, 1, none⟩ = some (.int .i64 x.n)) (c2 : w.cell? ⟨B, 2, none⟩ = some (.string x.s)) : RowAt w (some ⟨B, 0, none⟩) [x] := fun _ =>
  ⟨B, 0, rfl, fun i hi => by
    match i, hi with
    | 0, _ => exact ⟨c0, c1, c2⟩
    | i + 1, hi => exact absurd hi (by simp)⟩

theorem ex1_ok : rightV [⟨1, 1, txt []⟩, noV] = 0 := rightV_of (by simp) (fun v hv => by
  simp at hv
  rcases hv with rfl | rfl
  · exact ok_int (by omega) (by omega)
  · exact ok_none)
theorem ex2_ok : rightV [⟨3, 0, txt [97, 0]⟩] = 0 := rightV_of (by simp) (fun v hv => by
  simp at hv
  subst hv
  exact ok_text (by simp))
theorem codeRowEx (B : Nat) (w : World) (c0 : w.cell? ⟨B, 0, none⟩ = some (.int .i64 1)) (c1 : w.cell? ⟨B, 1, none⟩ = some (.int .i64 1)) (c2 : w.cell? ⟨B, 2, none⟩ = some (.string (txt [])))
    (c3 : w.cell? ⟨B, 3, none⟩ = some (.int .i64 0)) (c4 : w.cell? ⟨B, 4, none⟩ = some (.int .i64 0)) (c5 : w.cell? ⟨B, 5, none⟩ = some (.string ⟨#[]⟩)) :
    Calls Try.prog 10 #[.slice (some ⟨B, 0, none⟩) 2 2] w fun e w' => e = .returned (.tuple #[.string ⟨#[1, 0, 0, 0, 0, 0, 0, 0, 1, 0]⟩, .int .i64 0]) ∧ Below w.heap.size w w' := by
  have h := codeRow_any (some ⟨B, 0, none⟩) 2 [⟨1, 1, txt []⟩, noV] w (row2_at B ⟨1, 1, txt []⟩ noV w c0 c1 c2 c3 c4 c5) (by unfold maxLen; simp) (fun v hv => ((rightV_ok (l := [⟨1, 1, txt []⟩, noV]) (fun v hv => by
    simp at hv
    rcases hv with rfl | rfl
    · exact (ok_int (n := 1) (by omega) (by omega)).2
    · exact ok_none.2) ex1_ok).2 v hv).2)
  rw [rowS_ok ex1_ok, ex1_ok] at h
  exact h
theorem codeKeyEx (B : Nat) (w : World) (c0 : w.cell? ⟨B, 0, none⟩ = some (.int .i64 3)) (c1 : w.cell? ⟨B, 1, none⟩ = some (.int .i64 0)) (c2 : w.cell? ⟨B, 2, none⟩ = some (.string ⟨#[97, 0]⟩)) :
    Calls Try.prog 16 #[.slice (some ⟨B, 0, none⟩) 1 1] w fun e w' => e = .returned (.tuple #[.string ⟨#[4, 97, 0, 255, 0, 0]⟩, .int .i64 0]) ∧ Below w.heap.size w w' := by
  have h := codeKey_any (some ⟨B, 0, none⟩) 1 [⟨3, 0, txt [97, 0]⟩] w (row1_at B ⟨3, 0, txt [97, 0]⟩ w c0 c1 c2) (by unfold maxLen; simp) (fun v hv => by
    simp at hv
    subst hv
    exact (ok_text (by simp)).2)
  rw [keyS_ok ex2_ok, ex2_ok] at h
  exact h

set_option maxHeartbeats 2000000 in
theorem awake_any (w : World) :
    Calls Try.prog 13 #[] w fun e w' => e = .returned (.bool true) ∧ Below w.heap.size w w' := by
  go_enter Try.func13, Try.ntmps13
  go_wp2_with (go_at_call 26; refine (num_any _ _).mono ?_; rintro e w' ⟨rfl, hb⟩)
  refine (codeRowEx _ _ (by go_cell) (by go_cell) (by go_cell) (by go_cell) (by go_cell) (by go_cell)).mono ?_
  rintro e w1 ⟨rfl, hb1⟩
  have hB1 : Below w.heap.size w w1 := below_through hb1 (by have := hb.size; simp; omega) (Below.alloc hb hb.size _)
  clear hb hb1
  go_wp2_with fail
  refine (codeKeyEx _ _ (by go_cell) (by go_cell) (by go_cell)).mono ?_
  rintro e w2 ⟨rfl, hb2⟩
  have hB2 : Below w.heap.size w w2 := below_through hb2 (by have := hB1.size; simp; omega) (Below.alloc hB1 hB1.size _)
  clear hb2 hB1
  go_wp2
  go_ret
  exact ⟨rfl, hB2⟩
end Go.Proofs.Ytblleknmofbhiaa
