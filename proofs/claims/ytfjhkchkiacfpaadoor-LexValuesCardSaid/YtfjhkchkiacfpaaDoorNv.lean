/- Values as they are written, as words, plainly: a text is one word, a number one or a sign and one, a truth and nothing a word of the language. Nothing of any program here: lemmas on lists. Conditions: each lemma names its own. -/
import Derived.Test.YtfjhkchkiacfpaaDoorNl
import Derived.Test.YtfjhkchkiacfpaaDoorWn
import Derived.Test.YtfjhkchkiacfpaaDoorNh
namespace Go.Proofs.YtfjhkchkiacfpaaDoor
open Go.RowKit

theorem txR_dup : ∀ (l : List UInt8), txR (dup l ++ [39]) = some (l, (dup l).length + 1)
  | [] => by simp [dup, txR]
  | c :: l => by
    by_cases hc : c = 39
    · subst hc
      have ih := txR_dup l
      have e : dup (39 :: l) = 39 :: 39 :: dup l := by simp [dup]
      rw [e]
      show txR (39 :: 39 :: (dup l ++ [39])) = _
      rw [txR_two, ih]
      simp
    · have ih := txR_dup l
      have e : dup (c :: l) = c :: dup l := by simp [dup, hc]
      rw [e]
      show txR (c :: (dup l ++ [39])) = _
      rw [txR_plain hc, ih]
      simp
theorem digitB_is (c : UInt8) : digitB c = isD c := by
  unfold digitB isD
  rw [Bool.decide_and]
theorem decV_dec : ∀ u : Nat, decV (Lib.decDigits u) = u := by
  intro u
  induction u using Nat.strongRecOn with
  | ind u ih =>
    rw [dec_step, decV_snoc]
    have e : (UInt8.ofNat (48 + u % 10)).toNat = 48 + u % 10 := by simp [UInt8.toNat_ofNat']; omega
    rw [e]
    by_cases h0 : u / 10 = 0
    · rw [preD, if_pos h0]
      show 10 * 0 + _ = _
      omega
    · rw [preD_pos h0, ih (u / 10) (by omega)]
      omega
theorem cnt_every {p : UInt8 → Bool} : ∀ {l : List UInt8}, (∀ c ∈ l, p c = true) → cnt p l = l.length
  | [], _ => rfl
  | c :: l, h => by
    simp only [cnt, h c (by simp), if_true, List.length_cons]
    rw [cnt_every (fun d hd => h d (List.mem_cons_of_mem _ hd))]
theorem dec_nought : ∀ u : Nat, u ≠ 0 → (Lib.decDigits u).head? ≠ some 48 := by
  intro u
  induction u using Nat.strongRecOn with
  | ind u ih =>
    intro h
    rw [dec_step]
    by_cases h0 : u / 10 = 0
    · rw [preD, if_pos h0]
      simp
      intro e
      have := congrArg UInt8.toNat e
      simp [UInt8.toNat_ofNat'] at this
      omega
    · rw [preD_pos h0]
      have h1 := ih (u / 10) (by omega) h0
      obtain ⟨c, l, e, _⟩ := dec_head (u / 10)
      rw [e] at h1 ⊢
      simpa using h1
theorem isD_notL {c : UInt8} (h : isD c = true) : isL c = false := by
  simp only [isD, Bool.and_eq_true, decide_eq_true_eq] at h
  simp only [isL, Bool.or_eq_false_iff, Bool.and_eq_false_iff, decide_eq_false_iff_not]
  omega
/-- A number's digits are one word. -/
theorem word_dec {u : Nat} (hu : u ≤ 9223372036854775808) : wordM (Lib.decDigits u) = (⟨2, [], u, 0⟩, (Lib.decDigits u).length) := by
  have hall : ∀ c ∈ Lib.decDigits u, isD c = true := fun c hc => by rw [← digitB_is]; exact dec_digits u c hc
  obtain ⟨c, l, e, hc⟩ := dec_head u
  have hD : isD c = true := by rw [← digitB_is]; exact hc
  have hcnt := cnt_every hall
  have hN : numN (Lib.decDigits u) = u := by unfold numN; rw [hcnt, List.take_of_length_le (Nat.le_refl _), decV_dec]
  have hb : numBad (Lib.decDigits u) = false := by
    unfold numBad
    rw [hcnt, hN, List.getElem?_eq_none (Nat.le_refl _)]
    have a : (decide (1 < (Lib.decDigits u).length) && decide ((Lib.decDigits u).head? = some 48)) = false := by
      by_cases h0 : u = 0
      · subst h0; rw [Lib.decDigits_one (by omega)]; decide
      · simp [dec_nought u h0]
    rw [a]
    simp
    exact hu
  rw [e] at hcnt hN hb ⊢
  rw [word_num (isD_notL hD) hD, hb]
  simp only [Bool.false_eq_true, if_false]
  rw [hN, hcnt]
theorem lexM_word {f i : Nat} {c : UInt8} {r : List UInt8} {acc : List Wd} {x : Wd} (hc : c ≠ 32) (hw : wordM (c :: r) = (x, (c :: r).length)) (h1 : acc.length ≠ 512) : lexM (f + 2) i (c :: r) acc = .ok (acc ++ [x.put i]) := by
  rw [lexM_more hc (by rw [hw]; simp) h1, hw]
  simp only
  rw [List.drop_eq_nil_of_le (Nat.le_refl _), lexM_end]
theorem lexR_word {c : UInt8} {r : List UInt8} {x : Wd} (hc : c ≠ 32) (hw : wordM (c :: r) = (x, (c :: r).length)) (hl : (c :: r).length ≤ 2048) : lexR (c :: r) = .ok [x.put 0] := by
  unfold lexR
  rw [if_neg (by omega)]
  have : (c :: r).length + 1 = r.length + 2 := rfl
  rw [this, lexM_word hc hw (by simp)]
  rfl
theorem dec_long : ∀ (n u : Nat), u < 10 ^ n → (Lib.decDigits u).length ≤ n + 1
  | 0, u, h => by
    have : u = 0 := by simpa using h
    subst this; rw [Lib.decDigits_one (by omega)]; decide
  | n + 1, u, h => by
    rw [dec_step, List.length_append]
    by_cases h0 : u / 10 = 0
    · rw [preD, if_pos h0]; simp
    · rw [preD_pos h0]
      have := dec_long n (u / 10) (by rw [Nat.pow_succ] at h; omega)
      simp; omega
theorem dec_len {u : Nat} (hu : u ≤ 9223372036854775808) : (Lib.decDigits u).length ≤ 21 := dec_long 20 u (by have : (10 : Nat) ^ 20 = 100000000000000000000 := by decide
                                                                                                              omega)
theorem lexR_dec {u : Nat} (hu : u ≤ 9223372036854775808) : lexR (Lib.decDigits u) = .ok [⟨2, [], u, 0⟩] := by
  have hw := word_dec hu
  have hl := dec_len hu
  obtain ⟨c, l, e, hc⟩ := dec_head u
  rw [e] at hw hl ⊢
  have h32 : c ≠ 32 := fun e => by rw [e] at hc; exact absurd hc (by decide)
  exact lexR_word h32 hw (by omega)
theorem lexR_neg {u : Nat} (hu : u ≤ 9223372036854775808) : lexR (45 :: Lib.decDigits u) = .ok [⟨4, [45], 0, 0⟩, ⟨2, [], u, 1⟩] := by
  have hw := word_dec hu
  have hl := dec_len hu
  obtain ⟨c, l, e, hc⟩ := dec_head u
  rw [e] at hw hl ⊢
  have h32 : c ≠ 32 := fun e => by rw [e] at hc; exact absurd hc (by decide)
  unfold lexR
  rw [if_neg (by simp at hl ⊢; omega)]
  have hs : sgS (45 :: c :: l) = 1 := sgS_else (by rintro (⟨h, _⟩ | ⟨h, _⟩ | ⟨h, _⟩) <;> exact absurd h (by decide))
  have h4 : wordM (45 :: c :: l) = (⟨4, [45], 0, 0⟩, 1) := by
    rw [word_sign (by decide) (by decide) (by decide) (by decide), hs]; rfl
  have hle : (45 :: c :: l).length + 1 = (l.length + 2) + 1 := rfl
  rw [hle, lexM_more (by decide) (by rw [h4]; simp) (by simp), h4]
  show lexM (l.length + 2) 1 (c :: l) [⟨4, [45], 0, 0⟩] = _
  rw [lexM_word h32 hw (by simp)]
  rfl
theorem lexR_text {l : List UInt8} (hl : l.length ≤ 64) : lexR (39 :: (dup l ++ [39])) = .ok [⟨3, l, 0, 0⟩] := by
  have hd := dup_length l
  refine lexR_word (x := ⟨3, l, 0, 0⟩) (by decide) ?_ (by simp; omega)
  rw [word_text (by decide) (by decide) rfl, txR_dup]
  simp
theorem lexR_null : lexR nullB = .ok [⟨1, nullB, 0, 0⟩] := by decide +kernel
theorem lexR_truth (b : Bool) : lexR (truthB b) = .ok [⟨1, truthB b, 0, 0⟩] := by cases b <;> decide +kernel
theorem taken_null : takenB nullB = true := by decide +kernel
theorem taken_truth (b : Bool) : takenB (truthB b) = true := by cases b <;> decide +kernel
end Go.Proofs.YtfjhkchkiacfpaaDoor
