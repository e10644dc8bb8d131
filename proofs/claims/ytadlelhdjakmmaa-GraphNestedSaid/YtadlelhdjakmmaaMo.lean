/- How any two values stand to each other, as one plain function, and that it is one order. Nothing of any program here. Conditions: none. -/
import Derived.Test.YtadlelhdjakmmaaWa
import Derived.Lib.Bytealg
namespace Go.Proofs.Ytadlelhdjakmmaa
open Go.RowKit

theorem u8_tri (a b : UInt8) : a < b ∨ b < a ∨ a = b := by
  rcases Nat.lt_trichotomy a.toNat b.toNat with h | h | h
  · exact .inl (UInt8.lt_iff_toNat_lt.2 h)
  · exact .inr (.inr (UInt8.toNat_inj.1 h))
  · exact .inr (.inl (UInt8.lt_iff_toNat_lt.2 h))
theorem u8_asym {a b : UInt8} (h : a < b) : ¬ b < a := fun g => by
  have := UInt8.lt_iff_toNat_lt.1 h; have := UInt8.lt_iff_toNat_lt.1 g; omega
theorem u8_irrefl (a : UInt8) : ¬ a < a := fun g => by
  have := UInt8.lt_iff_toNat_lt.1 g; omega
theorem u8_ne {a b : UInt8} (h : a < b) : ¬ a = b := fun e => u8_irrefl a (by rw [e] at h; exact absurd h (u8_irrefl b))

theorem bytes_less : ∀ (x y : List UInt8), Op.bytesLess x y = true → Lib.compareBytes x y = -1
  | [], [], h => by simp [Op.bytesLess] at h
  | [], _ :: _, _ => rfl
  | _ :: _, [], h => by simp [Op.bytesLess] at h
  | a :: x, b :: y, h => by
    simp only [Op.bytesLess, Bool.or_eq_true, Bool.and_eq_true, decide_eq_true_eq, beq_iff_eq] at h
    unfold Lib.compareBytes
    rcases h with h | ⟨rfl, h⟩
    · rw [if_pos h]
    · rw [if_neg (u8_irrefl a), if_neg (u8_irrefl a)]
      exact bytes_less x y h
theorem bytes_more : ∀ (x y : List UInt8), Op.bytesLess x y = false → x ≠ y → Lib.compareBytes x y = 1
  | [], [], _, h => absurd rfl h
  | [], _ :: _, h, _ => by simp [Op.bytesLess] at h
  | _ :: _, [], _, _ => rfl
  | a :: x, b :: y, h, hn => by
    simp only [Op.bytesLess, Bool.or_eq_false_iff, decide_eq_false_iff_not] at h
    unfold Lib.compareBytes
    rw [if_neg h.1]
    by_cases hba : b < a
    · rw [if_pos hba]
    · rw [if_neg hba]
      have e : a = b := by rcases u8_tri a b with g | g | g; exact absurd g h.1; exact absurd g hba; exact g
      subst e
      exact bytes_more x y (by simpa using h.2) (fun e => hn (by rw [e]))
theorem bytes_same (x : List UInt8) : Lib.compareBytes x x = 0 := by
  induction x with
  | nil => rfl
  | cons a x ih => unfold Lib.compareBytes; rw [if_neg (u8_irrefl a), if_neg (u8_irrefl a), ih]

theorem bytes_zero : ∀ (x y : List UInt8), Lib.compareBytes x y = 0 → x = y
  | [], [], _ => rfl
  | [], _ :: _, h => by simp [Lib.compareBytes] at h
  | _ :: _, [], h => by simp [Lib.compareBytes] at h
  | a :: x, b :: y, h => by
    unfold Lib.compareBytes at h
    by_cases h1 : a < b
    · rw [if_pos h1] at h; exact absurd h (by decide)
    · rw [if_neg h1] at h
      by_cases h2 : b < a
      · rw [if_pos h2] at h; exact absurd h (by decide)
      · rw [if_neg h2] at h
        have e : a = b := by rcases u8_tri a b with g | g | g; exact absurd g h1; exact absurd g h2; exact g
        rw [e, bytes_zero x y h]
theorem bytes_flip : ∀ (x y : List UInt8), Lib.compareBytes x y = -Lib.compareBytes y x
  | [], [] => rfl
  | [], _ :: _ => rfl
  | _ :: _, [] => rfl
  | a :: x, b :: y => by
    unfold Lib.compareBytes
    by_cases h1 : a < b
    · rw [if_pos h1, if_neg (u8_asym h1), if_pos h1]
    · rw [if_neg h1]
      by_cases h2 : b < a
      · rw [if_pos h2, if_pos h2]; decide
      · rw [if_neg h2, if_neg h2, if_neg h1]
        exact bytes_flip x y
theorem bytes_trans : ∀ (x y z : List UInt8), Lib.compareBytes x y ≤ 0 → Lib.compareBytes y z ≤ 0 → Lib.compareBytes x z ≤ 0
  | [], _, [], _, _ => by simp [Lib.compareBytes]
  | [], _, _ :: _, _, _ => by simp [Lib.compareBytes]
  | _ :: _, [], _, h, _ => by simp [Lib.compareBytes] at h
  | _ :: _, _ :: _, [], _, h => by simp [Lib.compareBytes] at h
  | a :: x, b :: y, c :: z, h1, h2 => by
    unfold Lib.compareBytes at h1 h2 ⊢
    by_cases ab : a < b
    · by_cases bc : b < c
      · have : a < c := UInt8.lt_iff_toNat_lt.2 (Nat.lt_trans (UInt8.lt_iff_toNat_lt.1 ab) (UInt8.lt_iff_toNat_lt.1 bc))
        rw [if_pos this]; decide
      · rw [if_neg bc] at h2
        by_cases cb : c < b
        · rw [if_pos cb] at h2; exact absurd h2 (by decide)
        · have e : b = c := by rcases u8_tri b c with g | g | g; exact absurd g bc; exact absurd g cb; exact g
          subst e
          rw [if_pos ab]; decide
    · rw [if_neg ab] at h1
      by_cases ba : b < a
      · rw [if_pos ba] at h1; exact absurd h1 (by decide)
      · have e : a = b := by rcases u8_tri a b with g | g | g; exact absurd g ab; exact absurd g ba; exact g
        subst e
        rw [if_neg ba] at h1
        by_cases ac : a < c
        · rw [if_pos ac]; decide
        · rw [if_neg ac] at h2 ⊢
          by_cases ca : c < a
          · rw [if_pos ca] at h2; exact absurd h2 (by decide)
          · rw [if_neg ca] at h2 ⊢
            exact bytes_trans x y z h1 h2

def cmpV (k n : Int) (s : ByteArray) (k' n' : Int) (s' : ByteArray) : Int :=
  if k < k' then -1 else if k' < k then 1 else if n < n' then -1 else if n' < n then 1 else Lib.compareBytes s.data.toList s'.data.toList

theorem cmpV_flip (k n : Int) (s : ByteArray) (k' n' : Int) (s' : ByteArray) : cmpV k n s k' n' s' = -cmpV k' n' s' k n s := by
  unfold cmpV
  have := bytes_flip s.data.toList s'.data.toList
  repeat' split
  all_goals omega
theorem cmpV_trans (k n : Int) (s : ByteArray) (k' n' : Int) (s' : ByteArray) (k'' n'' : Int) (s'' : ByteArray) (h1 : cmpV k n s k' n' s' ≤ 0) (h2 : cmpV k' n' s' k'' n'' s'' ≤ 0) : cmpV k n s k'' n'' s'' ≤ 0 := by
  have := bytes_trans s.data.toList s'.data.toList s''.data.toList
  revert h1 h2
  unfold cmpV
  repeat' split
  all_goals omega
theorem cmpV_zero (k n : Int) (s : ByteArray) (k' n' : Int) (s' : ByteArray) : cmpV k n s k' n' s' = 0 ↔ k = k' ∧ n = n' ∧ s = s' := by
  constructor
  · intro h
    have hz := bytes_zero s.data.toList s'.data.toList
    unfold cmpV at h
    by_cases a1 : k < k'
    · rw [if_pos a1] at h; omega
    rw [if_neg a1] at h
    by_cases a2 : k' < k
    · rw [if_pos a2] at h; omega
    rw [if_neg a2] at h
    by_cases a3 : n < n'
    · rw [if_pos a3] at h; omega
    rw [if_neg a3] at h
    by_cases a4 : n' < n
    · rw [if_pos a4] at h; omega
    rw [if_neg a4] at h
    exact ⟨by omega, by omega, WideShapes.bytes_inj (hz h)⟩
  · rintro ⟨rfl, rfl, rfl⟩
    simp [cmpV, bytes_same]
theorem cmpV_bd (k n : Int) (s : ByteArray) (k' n' : Int) (s' : ByteArray) : -1 ≤ cmpV k n s k' n' s' ∧ cmpV k n s k' n' s' ≤ 1 := by
  have h : -1 ≤ Lib.compareBytes s.data.toList s'.data.toList ∧ Lib.compareBytes s.data.toList s'.data.toList ≤ 1 := by
    cases h : Op.bytesLess s.data.toList s'.data.toList with
    | true => rw [bytes_less _ _ h]; decide
    | false =>
      by_cases e : s.data.toList = s'.data.toList
      · rw [e, bytes_same]; decide
      · rw [bytes_more _ _ h e]; decide
  unfold cmpV
  repeat' split
  all_goals omega

end Go.Proofs.Ytadlelhdjakmmaa
