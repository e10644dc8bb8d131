/- Commands as words, plainly: how far a name, a number, a text, a sign goes; the words of a row of bytes, or its first fault. Nothing of any program here: lemmas on lists. Conditions: each lemma names its own. -/
import Derived.Test.YtfjhkchkiacfpaaDoorMb
import Derived.Lib.ParseIntB
namespace Go.Proofs.YtfjhkchkiacfpaaDoor
open Go.RowKit

def isL (c : UInt8) : Bool := decide (c.toNat = 95) || (decide (97 ≤ c.toNat) && decide (c.toNat ≤ 122))
def isD (c : UInt8) : Bool := decide (48 ≤ c.toNat) && decide (c.toNat ≤ 57)
def isLD (c : UInt8) : Bool := isL c || isD c
def isS (c : UInt8) : Bool := [40, 41, 44, 46, 42, 43, 45, 61, 60, 62].contains c
def cnt (p : UInt8 → Bool) : List UInt8 → Nat
  | [] => 0
  | c :: r => if p c then cnt p r + 1 else 0
/-- How many bytes go on as a name does. -/
def nmS : List UInt8 → Nat
  | [] => 0
  | c :: r => if isL c then cnt isLD r + 1 else 0
def decV (l : List UInt8) : Nat := l.foldl (fun u c => 10 * u + (c.toNat - 48)) 0
def numN (l : List UInt8) : Nat := decV (l.take (cnt isD l))
/-- No number begins so. -/
def numBad (l : List UInt8) : Bool := (decide (1 < cnt isD l) && decide (l.head? = some 48)) || (l[cnt isD l]?).any isL || decide (9223372036854775808 < numN l)
/-- What stands behind a sign ' up to the one that ends it, and how many bytes that takes. -/
def txR : List UInt8 → Option (List UInt8 × Nat)
  | [] => none
  | [c] => if c = 39 then some ([], 1) else none
  | c :: d :: r => if c = 39 then (if d = 39 then (txR r).map (fun x => (39 :: x.1, x.2 + 2)) else some ([], 1)) else (txR (d :: r)).map (fun x => (c :: x.1, x.2 + 1))
def sgS : List UInt8 → Nat
  | c :: d :: _ => if (c = 60 ∧ d = 62) ∨ (c = 60 ∧ d = 61) ∨ (c = 62 ∧ d = 61) then 2 else 1
  | _ => 1
structure Wd where
  k : Nat
  s : List UInt8
  n : Nat
  p : Nat
  deriving DecidableEq
def noW : Wd := ⟨0, [], 0, 0⟩
/-- The word that a row of bytes begins with, and how many bytes it takes: 0, if there is none. -/
def wordM : List UInt8 → Wd × Nat
  | [] => (noW, 0)
  | c :: r => if isL c then (⟨1, (c :: r).take (nmS (c :: r)), 0, 0⟩, nmS (c :: r))
    else if isD c then (if numBad (c :: r) then (noW, 0) else (⟨2, [], numN (c :: r), 0⟩, cnt isD (c :: r)))
    else if c = 39 then (match txR r with | none => (noW, 0) | some x => (⟨3, x.1, 0, 0⟩, x.2 + 1))
    else if isS c then (⟨4, (c :: r).take (sgS (c :: r)), 0, 0⟩, sgS (c :: r))
    else (noW, 0)
inductive LexR where
  | ok (ws : List Wd)
  | syn (i : Nat)
  | long (i : Nat)
  deriving DecidableEq
def Wd.put (x : Wd) (i : Nat) : Wd := ⟨x.k, x.s, x.n, i⟩
def lexM : Nat → Nat → List UInt8 → List Wd → LexR
  | 0, _, _, acc => .ok acc
  | _ + 1, _, [], acc => .ok acc
  | f + 1, i, c :: r, acc => if c = 32 then lexM f (i + 1) r acc
    else if (wordM (c :: r)).2 = 0 then .syn i
    else if acc.length = 512 then .long i
    else lexM f (i + (wordM (c :: r)).2) ((c :: r).drop (wordM (c :: r)).2) (acc ++ [(wordM (c :: r)).1.put i])
def lexR (l : List UInt8) : LexR := if 2048 < l.length then .long 0 else lexM (l.length + 1) 0 l []
def outW (n : Nat) : LexR → List Wd
  | .ok ws => ws ++ [⟨5, [], 0, n⟩]
  | _ => []
def outN : LexR → Nat
  | .ok _ => 0
  | .syn i => i
  | .long i => i
def outE : LexR → Nat
  | .ok _ => 0
  | .syn _ => 4
  | .long _ => 3

/-! ### How far -/
theorem cnt_le (p : UInt8 → Bool) : ∀ l, cnt p l ≤ l.length
  | [] => Nat.le_refl _
  | c :: r => by
    have := cnt_le p r
    simp only [cnt, List.length_cons]
    split <;> omega
theorem cnt_all (p : UInt8 → Bool) : ∀ l i (h : i < l.length), i < cnt p l → p l[i] = true
  | c :: r, 0, _, h => by
    simp only [cnt] at h
    split at h
    · assumption
    · omega
  | c :: r, i + 1, h, hi => by
    simp only [cnt] at hi
    split at hi
    · exact cnt_all p r i (by simpa using h) (by omega)
    · omega
theorem cnt_end (p : UInt8 → Bool) : ∀ l (h : cnt p l < l.length), p (l[cnt p l]) = false
  | c :: r, h => by
    by_cases hc : p c = true
    · have e : cnt p (c :: r) = cnt p r + 1 := by simp [cnt, hc]
      have := cnt_end p r (by rw [e] at h; simpa using h)
      simp only [e, List.getElem_cons_succ]
      exact this
    · have e : cnt p (c :: r) = 0 := by simp [cnt, hc]
      simp only [e, List.getElem_cons_zero]
      simpa using hc
theorem cnt_go {p : UInt8 → Bool} {l : List UInt8} {i : Nat} (h : ∀ j (hj : j < l.length), j < i → p l[j] = true) (hi : i ≤ l.length) : i ≤ cnt p l := by
  rcases Nat.lt_or_ge (cnt p l) i with hlt | hge
  · have h1 := cnt_end p l (by omega)
    rw [h _ (by omega) hlt] at h1
    cases h1
  · exact hge
theorem nmS_le : ∀ l, nmS l ≤ l.length
  | [] => Nat.le_refl _
  | c :: r => by
    have := cnt_le isLD r
    simp only [nmS, List.length_cons]
    split <;> omega
/-- One byte more of a name. -/
def goesOn (l : List UInt8) (i : Nat) : Bool := match l[i]? with
  | none => false
  | some c => isL c || (decide (0 < i) && isD c)
theorem nmS_all : ∀ l i, i < nmS l → goesOn l i = true
  | c :: r, i, h => by
    simp only [nmS] at h
    split at h
    · rename_i hc
      cases i with
      | zero => simp [goesOn, hc]
      | succ i =>
        have hl := cnt_le isLD r
        have := cnt_all isLD r i (by omega) (by omega)
        simp only [isLD] at this
        simp [goesOn, List.getElem?_eq_getElem (show i < r.length by omega), this]
    · omega
theorem nmS_end : ∀ l, goesOn l (nmS l) = false
  | [] => rfl
  | c :: r => by
    by_cases hc : isL c = true
    · have e : nmS (c :: r) = cnt isLD r + 1 := by simp [nmS, hc]
      rw [e]
      rcases Nat.lt_or_ge (cnt isLD r) r.length with h | h
      · have := cnt_end isLD r h
        simp only [isLD] at this
        simp [goesOn, List.getElem?_eq_getElem h, this]
      · simp [goesOn, List.getElem?_eq_none h]
    · have e : nmS (c :: r) = 0 := by simp [nmS, hc]
      rw [e]
      simpa [goesOn] using hc
theorem nmS_go {l : List UInt8} {i : Nat} (h : ∀ j, j < i → goesOn l j = true) : i ≤ nmS l := by
  rcases Nat.lt_or_ge (nmS l) i with hlt | hge
  · have h1 := nmS_end l
    rw [h _ hlt] at h1
    cases h1
  · exact hge
theorem nmS_is {l : List UInt8} {i : Nat} (h : ∀ j, j < i → goesOn l j = true) (he : goesOn l i = false) : nmS l = i := by
  have h1 := nmS_go h
  rcases Nat.lt_or_ge i (nmS l) with hlt | hge
  · rw [nmS_all l i hlt] at he; cases he
  · omega

/-! ### Numbers -/
theorem decV_snoc (l : List UInt8) (c : UInt8) : decV (l ++ [c]) = 10 * decV l + (c.toNat - 48) := by simp [decV]
theorem parseM_digits : ∀ (l : List UInt8) (acc : Nat), (∀ c ∈ l, isD c = true) → acc < 18446744073709551616 →
    Lib.parseUintM 18446744073709551615 acc l = if l.foldl (fun u c => 10 * u + (c.toNat - 48)) acc < 18446744073709551616 then .ok (l.foldl (fun u c => 10 * u + (c.toNat - 48)) acc) else .range
  | [], acc, _, ha => by simp [Lib.parseUintM, ha]
  | c :: r, acc, h, ha => by
    have hc := h c (by simp)
    simp only [isD, Bool.and_eq_true, decide_eq_true_eq] at hc
    have hmono : ∀ (l : List UInt8) (a : Nat), a ≤ l.foldl (fun u c => 10 * u + (c.toNat - 48)) a := by
      intro l
      induction l with
      | nil => intro a; exact Nat.le_refl _
      | cons d l ih => intro a; exact Nat.le_trans (by omega) (ih (10 * a + (d.toNat - 48)))
    have e : acc * 10 + (c.toNat - 48) = 10 * acc + (c.toNat - 48) := by omega
    simp only [Lib.parseUintM, List.foldl_cons]
    rw [if_pos hc]
    have := hmono r (10 * acc + (c.toNat - 48))
    have hn : ∀ x : Nat, 18446744073709551616 ≤ x → ¬ x < 18446744073709551616 := fun x h => by omega
    split
    · exact (if_neg (hn _ (by omega))).symm
    · split
      · exact (if_neg (hn _ (by omega))).symm
      · rw [e]
        exact parseM_digits r _ (fun d hd => h d (List.mem_cons_of_mem _ hd)) (by omega)
theorem parse_digits {l : List UInt8} (h : ∀ c ∈ l, isD c = true) (hne : l ≠ []) : Lib.parseUintB 64 l = if decV l < 18446744073709551616 then .ok (decV l) else .range := by
  unfold Lib.parseUintB
  rw [if_neg hne]
  exact parseM_digits l 0 h (by omega)
theorem cnt_digits (l : List UInt8) : ∀ c ∈ l.take (cnt isD l), isD c = true := by
  intro c hc
  obtain ⟨i, hi, rfl⟩ := List.mem_iff_getElem.1 hc
  have hl := cnt_le isD l
  rw [List.length_take] at hi
  rw [List.getElem_take]
  exact cnt_all isD l i (by omega) (by omega)

/-! ### Texts -/
theorem txR_le : ∀ (l : List UInt8) x, txR l = some x → x.2 ≤ l.length ∧ 1 ≤ x.2
  | [], x, h => by simp [txR] at h
  | [c], x, h => by
    simp only [txR] at h
    split at h
    · cases h; simp
    · cases h
  | c :: d :: r, x, h => by
    simp only [txR] at h
    split at h
    · split at h
      · obtain ⟨y, hy, rfl⟩ := Option.map_eq_some_iff.1 h
        have := txR_le r y hy
        simp; omega
      · cases h; simp
    · obtain ⟨y, hy, rfl⟩ := Option.map_eq_some_iff.1 h
      have := txR_le (d :: r) y hy
      simp at this ⊢; omega
theorem sgS_one (l : List UInt8) : sgS l = 1 ∨ sgS l = 2 := by
  unfold sgS
  split
  · split
    · exact .inr rfl
    · exact .inl rfl
  · exact .inl rfl
theorem sgS_le {l : List UInt8} (h : l ≠ []) : sgS l ≤ l.length := by
  unfold sgS
  split
  · split <;> simp
  · cases l with
    | nil => exact absurd rfl h
    | cons _ _ => simp
theorem word_name {c : UInt8} {r : List UInt8} (h : isL c = true) : wordM (c :: r) = (⟨1, (c :: r).take (nmS (c :: r)), 0, 0⟩, nmS (c :: r)) := if_pos h
theorem word_num {c : UInt8} {r : List UInt8} (h : isL c = false) (h1 : isD c = true) : wordM (c :: r) = if numBad (c :: r) then (noW, 0) else (⟨2, [], numN (c :: r), 0⟩, cnt isD (c :: r)) :=
  (if_neg (by simp [h])).trans (if_pos h1)
theorem word_text {c : UInt8} {r : List UInt8} (h : isL c = false) (h1 : isD c = false) (h2 : c = 39) : wordM (c :: r) = (match txR r with | none => (noW, 0) | some x => (⟨3, x.1, 0, 0⟩, x.2 + 1)) :=
  (if_neg (by simp [h])).trans ((if_neg (by simp [h1])).trans (if_pos h2))
theorem word_sign {c : UInt8} {r : List UInt8} (h : isL c = false) (h1 : isD c = false) (h2 : c ≠ 39) (h3 : isS c = true) : wordM (c :: r) = (⟨4, (c :: r).take (sgS (c :: r)), 0, 0⟩, sgS (c :: r)) :=
  (if_neg (by simp [h])).trans ((if_neg (by simp [h1])).trans ((if_neg h2).trans (if_pos h3)))
theorem word_none {c : UInt8} {r : List UInt8} (h : isL c = false) (h1 : isD c = false) (h2 : c ≠ 39) (h3 : isS c = false) : wordM (c :: r) = (noW, 0) :=
  (if_neg (by simp [h])).trans ((if_neg (by simp [h1])).trans ((if_neg h2).trans (if_neg (by simp [h3]))))
/-- The five ways in which a word begins. -/
theorem word_cases (c : UInt8) : isL c = true ∨ (isL c = false ∧ isD c = true) ∨ (isL c = false ∧ isD c = false ∧ c = 39) ∨ (isL c = false ∧ isD c = false ∧ c ≠ 39 ∧ isS c = true) ∨ (isL c = false ∧ isD c = false ∧ c ≠ 39 ∧ isS c = false) := by
  cases isL c <;> cases isD c <;> cases isS c <;> by_cases h : c = 39 <;> simp [h]
theorem word_le : ∀ l, (wordM l).2 ≤ l.length
  | [] => Nat.le_refl _
  | c :: r => by
    rcases word_cases c with h | ⟨h, h1⟩ | ⟨h, h1, h2⟩ | ⟨h, h1, h2, h3⟩ | ⟨h, h1, h2, h3⟩
    · rw [word_name h]; exact nmS_le (c :: r)
    · rw [word_num h h1]
      split
      · exact Nat.zero_le _
      · exact cnt_le isD (c :: r)
    · rw [word_text h h1 h2]
      split
      · exact Nat.zero_le _
      · rename_i x hx
        have := txR_le r x hx
        simp; omega
    · rw [word_sign h h1 h2 h3]; exact sgS_le (by simp)
    · rw [word_none h h1 h2 h3]; exact Nat.zero_le _
end Go.Proofs.YtfjhkchkiacfpaaDoor
