/- How a value is written: plain functions on lists of bytes: a text's quotes doubled; that replacing each quote by two is just that; that unlike values that may be are written in unlike ways. Conditions: each lemma names its own. -/
import Derived.Test.YtfjhkchkiacfpaaDoorShelf
import Derived.Test.YtfjhkchkiacfpaaDoorWq
import Derived.Lib.ReplaceLaws
import Derived.Lib.SplitLaws
import Derived.Lib.ItoaMem
namespace Go.Proofs.YtfjhkchkiacfpaaDoor
open Go.RowKit

def dup : List UInt8 → List UInt8
  | [] => []
  | c :: l => if c = 39 then 39 :: 39 :: dup l else c :: dup l

theorem dup_append (a b : List UInt8) : dup (a ++ b) = dup a ++ dup b := by
  induction a with
  | nil => rfl
  | cons c l ih => simp only [List.cons_append, dup]; split <;> simp [ih]
theorem dup_length (l : List UInt8) : (dup l).length ≤ 2 * l.length := by
  induction l with
  | nil => simp [dup]
  | cons c l ih => simp only [dup]; split <;> simp <;> omega

theorem index_head (l : List UInt8) : Lib.index (39 :: l) [39] = 0 := by simp [Lib.index]
theorem index_tail {b : UInt8} {l : List UInt8} (h : b ≠ 39) : Lib.index (b :: l) [39] = if Lib.index l [39] == -1 then -1 else Lib.index l [39] + 1 := by
  rw [Lib.index]
  have : ([39] : List UInt8).isPrefixOf (b :: l) = false := by simp [List.isPrefixOf, Ne.symm h]
  rw [this]; rfl

theorem replaceK_zero (s : List UInt8) : Lib.replaceK [39] [39, 39] 0 s = s := rfl
theorem rep_dup : ∀ (l : List UInt8), Lib.replaceK [39] [39, 39] (Lib.count l [39]) l = dup l
  | [] => rfl
  | b :: t => by
    by_cases hb : b = 39
    · subst hb
      rw [Lib.count_cons_eq, Nat.add_comm, Lib.replaceK_hit [39] [39, 39] _ _ 0 (index_head t), dup, if_pos rfl]
      simp [rep_dup t]
    · rw [Lib.count_cons_ne b 39 t hb, dup, if_neg hb, ← rep_dup t]
      cases hk : Lib.count t [39] with
      | zero => rfl
      | succ k =>
        have hne : Lib.index t [39] ≠ -1 := fun e => by rw [Lib.count_miss e] at hk; cases hk
        have hge := Lib.index_ge t [39]
        obtain ⟨i, hi⟩ : ∃ i : Nat, Lib.index t [39] = i := ⟨(Lib.index t [39]).toNat, by omega⟩
        have hi' : Lib.index (b :: t) [39] = ((i + 1 : Nat) : Int) := by
          rw [index_tail hb, hi, if_neg (by simp)]; omega
        rw [Lib.replaceK_hit [39] [39, 39] k (b :: t) (i + 1) hi', Lib.replaceK_hit [39] [39, 39] k t i hi]
        simp
theorem replaceAll_dup (l : List UInt8) : Lib.replaceAll l [39] [39, 39] = dup l := by
  unfold Lib.replaceAll Lib.replace Lib.replaceNum
  rw [if_neg (by simp), if_pos (Or.inl (by decide))]
  exact rep_dup l

theorem dup_quote_end : ∀ (a b : List UInt8), dup a ++ [39] = dup b ++ [39] → a = b := by
  intro a
  induction a with
  | nil =>
    intro b h
    cases b with
    | nil => rfl
    | cons c l =>
      exfalso
      simp only [dup, List.nil_append] at h
      split at h
      · simp at h
      · rename_i hc; simp at h; first | done | exact hc h.1.symm
  | cons x xs ih =>
    intro b h
    cases b with
    | nil =>
      exfalso
      simp only [dup, List.nil_append] at h
      split at h
      · simp at h
      · rename_i hc; simp at h; first | done | exact hc h.1
    | cons c l =>
      simp only [dup] at h
      by_cases hx : x = 39 <;> by_cases hc : c = 39
      · rw [if_pos hx, if_pos hc] at h
        simp only [List.cons_append, List.cons.injEq, true_and] at h
        rw [hx, hc, ih l h]
      · rw [if_pos hx, if_neg hc] at h
        simp only [List.cons_append, List.cons.injEq] at h
        exact absurd h.1.symm hc
      · rw [if_neg hx, if_pos hc] at h
        simp only [List.cons_append, List.cons.injEq] at h
        exact absurd h.1 hx
      · rw [if_neg hx, if_neg hc] at h
        simp only [List.cons_append, List.cons.injEq] at h
        rw [h.1, ih l h.2]

/-! ### Decimal digits -/
def preD (j : Nat) : List UInt8 := if j = 0 then [] else Lib.decDigits j
theorem dec_step (u : Nat) : Lib.decDigits u = preD (u / 10) ++ [UInt8.ofNat (48 + u % 10)] := by
  by_cases h : u < 10
  · rw [Lib.decDigits_one h, preD, if_pos (by omega), Nat.mod_eq_of_lt h]; rfl
  · rw [Lib.decDigits, dif_neg h, preD, if_neg (by omega)]
theorem dec_ne (u : Nat) : Lib.decDigits u ≠ [] := by rw [dec_step]; simp
theorem preD_pos {j : Nat} (h : j ≠ 0) : preD j = Lib.decDigits j := by rw [preD, if_neg h]

def digitB (c : UInt8) : Bool := decide (48 ≤ c.toNat ∧ c.toNat ≤ 57)
theorem digit_of (j : Nat) (h : j < 10) : digitB (UInt8.ofNat (48 + j)) = true := by
  have e : (UInt8.ofNat (48 + j)).toNat = 48 + j := by simp [UInt8.toNat_ofNat']; omega
  simp only [digitB, e, decide_eq_true_eq]; omega
theorem ofNat_inj {a b : Nat} (ha : a < 10) (hb : b < 10) (h : UInt8.ofNat (48 + a) = UInt8.ofNat (48 + b)) : a = b := by
  have h' := congrArg UInt8.toNat h
  simp [UInt8.toNat_ofNat'] at h'
  omega
theorem dec_digits : ∀ (u : Nat), ∀ c ∈ Lib.decDigits u, digitB c = true := by
  intro u
  induction u using Nat.strongRecOn with
  | ind u ih =>
    intro c hc
    rw [dec_step] at hc
    rcases List.mem_append.1 hc with h | h
    · by_cases h0 : u / 10 = 0
      · rw [preD, if_pos h0] at h; cases h
      · rw [preD_pos h0] at h; exact ih (u / 10) (by omega) c h
    · rw [List.mem_singleton.1 h]; exact digit_of _ (by omega)
theorem dec_inj : ∀ (u v : Nat), Lib.decDigits u = Lib.decDigits v → u = v := by
  intro u
  induction u using Nat.strongRecOn with
  | ind u ih =>
    intro v h
    rw [dec_step u, dec_step v] at h
    obtain ⟨h1, h2⟩ := List.append_inj' h rfl
    have e2 := ofNat_inj (by omega) (by omega) (List.cons.inj h2).1
    by_cases hu : u / 10 = 0
    · by_cases hv : v / 10 = 0
      · omega
      · rw [preD, if_pos hu, preD_pos hv] at h1
        exact absurd h1.symm (dec_ne _)
    · by_cases hv : v / 10 = 0
      · rw [preD_pos hu, preD, if_pos hv] at h1
        exact absurd h1 (dec_ne _)
      · rw [preD_pos hu, preD_pos hv] at h1
        have := ih (u / 10) (by omega) _ h1
        omega
theorem dec_head (u : Nat) : ∃ c l, Lib.decDigits u = c :: l ∧ digitB c = true := by
  cases h : Lib.decDigits u with
  | nil => exact absurd h (dec_ne u)
  | cons c l => exact ⟨c, l, rfl, dec_digits u c (by rw [h]; simp)⟩
theorem itoa_head (n : Int) : ∃ c l, Lib.itoa n = c :: l ∧ (c = 45 ∨ digitB c = true) := by
  unfold Lib.itoa
  split
  · exact ⟨45, _, rfl, .inl rfl⟩
  · obtain ⟨c, l, e, h⟩ := dec_head n.toNat
    exact ⟨c, l, e, .inr h⟩
theorem itoa_inj (a b : Int) (h : Lib.itoa a = Lib.itoa b) : a = b := by
  unfold Lib.itoa at h
  by_cases ha : a < 0 <;> by_cases hb : b < 0
  · rw [if_pos ha, if_pos hb] at h
    have := dec_inj _ _ (List.cons.inj h).2
    omega
  · rw [if_pos ha, if_neg hb] at h
    obtain ⟨c, l, e, hd⟩ := dec_head b.toNat
    rw [e] at h
    rw [← (List.cons.inj h).1] at hd
    exact absurd hd (by decide)
  · rw [if_neg ha, if_pos hb] at h
    obtain ⟨c, l, e, hd⟩ := dec_head a.toNat
    rw [e] at h
    rw [(List.cons.inj h).1] at hd
    exact absurd hd (by decide)
  · rw [if_neg ha, if_neg hb] at h
    have := dec_inj _ _ h
    omega

/-! ### What is printed -/
def nullB : List UInt8 := [110, 117, 108, 108]
def truthB (b : Bool) : List UInt8 := if b then [116, 114, 117, 101] else [102, 97, 108, 115, 101]
def printL (k n : Int) (s : ByteArray) : List UInt8 :=
  if k = 1 then Lib.itoa n else if k = 2 then truthB (n == 1) else if k = 3 then 39 :: (dup s.data.toList ++ [39]) else nullB

theorem chk_zero {k n : Int} {s : ByteArray} (h : chk k n s = 0) : (k = 0 ∧ n = 0 ∧ s.data.toList = []) ∨ (k = 1 ∧ s.data.toList = []) ∨ (k = 2 ∧ s.data.toList = [] ∧ (n = 0 ∨ n = 1)) ∨ (k = 3 ∧ n = 0) := by
  unfold chk at h
  rw [ByteArray.toList_eq] at h
  by_cases h0 : k = 0
  · left; rw [if_pos h0] at h; split at h <;> simp_all
  rw [if_neg h0] at h
  by_cases h1 : k = 1
  · right; left; rw [if_pos h1] at h; split at h <;> simp_all
  rw [if_neg h1] at h
  by_cases h2 : k = 2
  · right; right; left; rw [if_pos h2] at h; split at h <;> simp_all
  rw [if_neg h2] at h
  by_cases h3 : k = 3
  · right; right; right; rw [if_pos h3] at h; split at h <;> simp_all
  rw [if_neg h3] at h; cases h

theorem print0 (n : Int) (s : ByteArray) : printL 0 n s = nullB := rfl
theorem print1 (n : Int) (s : ByteArray) : printL 1 n s = Lib.itoa n := rfl
theorem print2 (n : Int) (s : ByteArray) : printL 2 n s = truthB (n == 1) := rfl
theorem print3 (n : Int) (s : ByteArray) : printL 3 n s = 39 :: (dup s.data.toList ++ [39]) := rfl
theorem itoa_not {n : Int} {c : UInt8} {l : List UInt8} (hc : c ≠ 45) (hd : digitB c = false) : Lib.itoa n ≠ c :: l := by
  obtain ⟨c', l', e, h⟩ := itoa_head n
  rw [e]
  intro he
  obtain rfl := (List.cons.inj he).1
  rcases h with h | h
  · exact hc h
  · rw [h] at hd; cases hd
theorem truth_cons (b : Bool) : ∃ c l, truthB b = c :: l ∧ c ≠ 45 ∧ digitB c = false ∧ c ≠ 39 ∧ c ≠ 110 := by
  cases b
  · exact ⟨102, _, rfl, by decide, by decide, by decide, by decide⟩
  · exact ⟨116, _, rfl, by decide, by decide, by decide, by decide⟩
theorem itoa_truth (n : Int) (b : Bool) : Lib.itoa n ≠ truthB b := by
  obtain ⟨c, l, e, h1, h2, _, _⟩ := truth_cons b
  rw [e]; exact itoa_not h1 h2
theorem truth_null (b : Bool) : truthB b ≠ nullB := by cases b <;> decide
theorem truth_text (b : Bool) (l : List UInt8) : truthB b ≠ 39 :: l := by
  obtain ⟨c, l', e, _, _, h, _⟩ := truth_cons b
  rw [e]; intro he; exact h (List.cons.inj he).1
theorem null_text (l : List UInt8) : nullB ≠ 39 :: l := by intro h; exact absurd (List.cons.inj h).1 (by decide)

theorem print_inj {k n k' n' : Int} {s s' : ByteArray} (h : chk k n s = 0) (h' : chk k' n' s' = 0) : printL k n s = printL k' n' s' ↔ (k = k' ∧ n = n' ∧ s = s') := by
  constructor
  · intro hp
    rcases chk_zero h with ⟨rfl, rfl, e⟩ | ⟨rfl, e⟩ | ⟨rfl, e, hn⟩ | ⟨rfl, rfl⟩ <;> rcases chk_zero h' with ⟨rfl, rfl, e'⟩ | ⟨rfl, e'⟩ | ⟨rfl, e', hn'⟩ | ⟨rfl, rfl⟩
    · exact ⟨rfl, rfl, WideShapes.bytes_inj (e.trans e'.symm)⟩
    · exact absurd hp.symm (itoa_not (by decide) (by decide))
    · exact absurd hp.symm (truth_null _)
    · exact absurd hp (null_text _)
    · exact absurd hp (itoa_not (by decide) (by decide))
    · exact ⟨rfl, itoa_inj _ _ hp, WideShapes.bytes_inj (e.trans e'.symm)⟩
    · exact absurd hp (itoa_truth _ _)
    · exact absurd hp (itoa_not (by decide) (by decide))
    · exact absurd hp (truth_null _)
    · exact absurd hp.symm (itoa_truth _ _)
    · refine ⟨rfl, ?_, WideShapes.bytes_inj (e.trans e'.symm)⟩
      rcases hn with rfl | rfl <;> rcases hn' with rfl | rfl
      · rfl
      · exact absurd (show truthB (0 == (1 : Int)) = truthB (1 == (1 : Int)) from hp) (by decide)
      · exact absurd (show truthB (1 == (1 : Int)) = truthB (0 == (1 : Int)) from hp) (by decide)
      · rfl
    · exact absurd hp (truth_text _ _)
    · exact absurd hp.symm (null_text _)
    · exact absurd hp.symm (itoa_not (by decide) (by decide))
    · exact absurd hp.symm (truth_text _ _)
    · exact ⟨rfl, rfl, WideShapes.bytes_inj (dup_quote_end _ _ (List.cons.inj hp).2)⟩
  · rintro ⟨rfl, rfl, rfl⟩; rfl
end Go.Proofs.YtfjhkchkiacfpaaDoor
