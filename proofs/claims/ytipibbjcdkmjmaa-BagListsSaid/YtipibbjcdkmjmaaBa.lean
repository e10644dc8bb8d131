/- Bags of rows, plainly: the one list of rows that rise, each with the sum of its numbers; that merging two gives the one of both; the rows of a bag, each as often as it is there. Nothing of any program here. Conditions: each lemma names its own. -/
import Derived.Test.YtipibbjcdkmjmaaMv
namespace Go.Proofs.Ytipibbjcdkmjmaa
open Go.RowKit

abbrev Pair := List Val × Int

theorem rowsV_is : ∀ (a b : List Val), rowsV a b = 0 ↔ a = b
  | [], [] => by simp [rowsV]
  | [], _ :: _ => by simp [rowsV]
  | _ :: _, [] => by simp [rowsV]
  | x :: a, y :: b => by
    unfold rowsV
    by_cases h : cmpT x y = 0
    · rw [if_pos h, rowsV_is a b]
      obtain rfl := (cmpT_zero x y).1 h
      simp
    · rw [if_neg h]
      constructor
      · intro e; exact absurd e h
      · intro e
        obtain ⟨rfl, _⟩ := List.cons.inj e
        exact absurd ((cmpT_zero x x).2 rfl) h
theorem rowsV_self (a : List Val) : rowsV a a = 0 := (rowsV_is a a).2 rfl
theorem rowsV_lt_trans {a b c : List Val} (h1 : rowsV a b < 0) (h2 : rowsV b c < 0) : rowsV a c < 0 := by
  have h := rowsV_trans a b c (by omega) (by omega)
  have h0 : rowsV a c ≠ 0 := fun e => by
    obtain rfl := (rowsV_is a c).1 e
    have := rowsV_flip a b
    omega
  omega

/-- The sum of a row's numbers. -/
def sumOf (r : List Val) : List Pair → Int
  | [] => 0
  | x :: L => (if rowsV x.1 r = 0 then x.2 else 0) + sumOf r L
theorem sumOf_append (r : List Val) : ∀ (A B : List Pair), sumOf r (A ++ B) = sumOf r A + sumOf r B
  | [], B => by simp [sumOf]
  | x :: A, B => by rw [List.cons_append, sumOf, sumOf_append r A B, sumOf]; omega

/-- Rows that rise, no number 0. -/
def Rises : List Pair → Prop
  | [] => True
  | x :: L => x.2 ≠ 0 ∧ (∀ y ∈ L, rowsV x.1 y.1 < 0) ∧ Rises L
theorem sumOf_below {r : List Val} : ∀ {L : List Pair}, (∀ y ∈ L, rowsV r y.1 < 0) → sumOf r L = 0
  | [], _ => rfl
  | y :: L, h => by
    have h1 := h y (by simp)
    have h2 := rowsV_flip r y.1
    rw [sumOf, if_neg (by omega), sumOf_below (fun z hz => h z (by simp [hz]))]; rfl
theorem rises_unique : ∀ {A B : List Pair}, Rises A → Rises B → (∀ r, sumOf r A = sumOf r B) → A = B
  | [], [], _, _, _ => rfl
  | [], y :: B, _, hB, h => by
    have e := h y.1
    rw [sumOf, sumOf, if_pos (rowsV_self _), sumOf_below hB.2.1] at e
    exact absurd (by omega) hB.1
  | x :: A, [], hA, _, h => by
    have e := h x.1
    rw [sumOf, sumOf, if_pos (rowsV_self _), sumOf_below hA.2.1] at e
    exact absurd (by omega) hA.1
  | x :: A, y :: B, hA, hB, h => by
    by_cases h1 : rowsV x.1 y.1 < 0
    · have e := h x.1
      rw [sumOf, if_pos (rowsV_self _), sumOf_below hA.2.1, sumOf_below (L := y :: B) (fun z hz => by
        rcases List.mem_cons.1 hz with rfl | hz
        · exact h1
        · exact rowsV_lt_trans h1 (hB.2.1 z hz))] at e
      exact absurd (by omega) hA.1
    by_cases h2 : rowsV y.1 x.1 < 0
    · have e := h y.1
      have eA : sumOf y.1 (x :: A) = 0 := sumOf_below (fun z hz => by
        rcases List.mem_cons.1 hz with rfl | hz
        · exact h2
        · exact rowsV_lt_trans h2 (hA.2.1 z hz))
      have eB : sumOf y.1 (y :: B) = y.2 := by rw [sumOf, if_pos (rowsV_self _), sumOf_below hB.2.1]; omega
      exact absurd (by omega) hB.1
    have h3 := rowsV_flip x.1 y.1
    have e1 : x.1 = y.1 := (rowsV_is _ _).1 (by omega)
    have e2 : x.2 = y.2 := by
      have e := h x.1
      rw [sumOf, sumOf, if_pos (rowsV_self _), sumOf_below hA.2.1, ← e1, if_pos (rowsV_self _), sumOf_below (r := x.1) (fun z hz => by rw [e1]; exact hB.2.1 z hz)] at e
      omega
    have e : x = y := Prod.ext e1 e2
    subst e
    rw [rises_unique hA.2.2 hB.2.2 (fun r => by have := h r; rw [sumOf, sumOf] at this; omega)]

/-! ### The bag of rows, each so often -/
def insB (x : Pair) : List Pair → List Pair
  | [] => if x.2 = 0 then [] else [x]
  | y :: B =>
    if rowsV x.1 y.1 < 0 then (if x.2 = 0 then y :: B else x :: y :: B)
    else if rowsV x.1 y.1 = 0 then (if x.2 + y.2 = 0 then B else (y.1, x.2 + y.2) :: B)
    else y :: insB x B
def ofB (L : List Pair) : List Pair := L.foldr insB []

theorem sumOf_ins (r : List Val) (x : Pair) : ∀ B : List Pair, sumOf r (insB x B) = (if rowsV x.1 r = 0 then x.2 else 0) + sumOf r B
  | [] => by
    unfold insB
    by_cases h : x.2 = 0
    · rw [if_pos h, h]; simp [sumOf]
    · rw [if_neg h]; simp [sumOf]
  | y :: B => by
    unfold insB
    by_cases h1 : rowsV x.1 y.1 < 0
    · rw [if_pos h1]
      by_cases h : x.2 = 0
      · rw [if_pos h, h]; simp
      · rw [if_neg h]; rw [sumOf]
    · rw [if_neg h1]
      by_cases h2 : rowsV x.1 y.1 = 0
      · rw [if_pos h2]
        have e := (rowsV_is _ _).1 h2
        rw [sumOf, ← e]
        by_cases h3 : x.2 + y.2 = 0
        · rw [if_pos h3]; split <;> omega
        · rw [if_neg h3, sumOf]; dsimp only; split <;> omega
      · rw [if_neg h2, sumOf, sumOf_ins r x B, sumOf]; omega
theorem ins_mem {x : Pair} : ∀ {B : List Pair} {z : Pair}, z ∈ insB x B → (z.1 = x.1 ∨ ∃ y ∈ B, z.1 = y.1)
  | [], z, h => by
    unfold insB at h
    split at h
    · simp at h
    · left; simp at h; rw [h]
  | y :: B, z, h => by
    unfold insB at h
    split at h
    · split at h
      · exact .inr ⟨z, h, rfl⟩
      · rcases List.mem_cons.1 h with rfl | h
        · exact .inl rfl
        · exact .inr ⟨z, h, rfl⟩
    · split at h
      · split at h
        · exact .inr ⟨z, by simp [h], rfl⟩
        · rcases List.mem_cons.1 h with rfl | h
          · exact .inr ⟨y, by simp, rfl⟩
          · exact .inr ⟨z, by simp [h], rfl⟩
      · rcases List.mem_cons.1 h with rfl | h
        · exact .inr ⟨z, by simp, rfl⟩
        · rcases ins_mem h with h | ⟨y', hy, h⟩
          · exact .inl h
          · exact .inr ⟨y', by simp [hy], h⟩
theorem rises_ins (x : Pair) : ∀ {B : List Pair}, Rises B → Rises (insB x B)
  | [], _ => by
    unfold insB
    split
    · exact trivial
    · rename_i h; exact ⟨h, by simp, trivial⟩
  | y :: B, hB => by
    unfold insB
    by_cases h1 : rowsV x.1 y.1 < 0
    · rw [if_pos h1]
      split
      · exact hB
      · rename_i h
        refine ⟨h, fun z hz => ?_, hB⟩
        rcases List.mem_cons.1 hz with rfl | hz
        · exact h1
        · exact rowsV_lt_trans h1 (hB.2.1 z hz)
    · rw [if_neg h1]
      by_cases h2 : rowsV x.1 y.1 = 0
      · rw [if_pos h2]
        split
        · exact hB.2.2
        · rename_i h; exact ⟨h, hB.2.1, hB.2.2⟩
      · rw [if_neg h2]
        refine ⟨hB.1, fun z hz => ?_, rises_ins x hB.2.2⟩
        rcases ins_mem hz with e | ⟨y', hy, e⟩
        · rw [e]
          have := rowsV_flip x.1 y.1
          omega
        · rw [e]; exact hB.2.1 y' hy
theorem rises_ofB : ∀ L : List Pair, Rises (ofB L)
  | [] => trivial
  | x :: L => rises_ins x (rises_ofB L)
theorem sumOf_ofB (r : List Val) : ∀ L : List Pair, sumOf r (ofB L) = sumOf r L
  | [] => rfl
  | x :: L => by
    show sumOf r (insB x (ofB L)) = _
    rw [sumOf_ins, sumOf_ofB r L, sumOf]
/-- What rises and has the sums is the bag. -/
theorem ofB_is {B L : List Pair} (h1 : Rises B) (h2 : ∀ r, sumOf r B = sumOf r L) : B = ofB L :=
  rises_unique h1 (rises_ofB L) (fun r => by rw [h2, sumOf_ofB])

/-! ### Two bags merged -/
def joinB : List Pair → List Pair → List Pair
  | [], B => B
  | A, [] => A
  | x :: A, y :: B =>
    if rowsV x.1 y.1 < 0 then x :: joinB A (y :: B)
    else if rowsV x.1 y.1 = 0 then (if x.2 + y.2 = 0 then joinB A B else (x.1, x.2 + y.2) :: joinB A B)
    else y :: joinB (x :: A) B
termination_by A B => A.length + B.length
theorem joinB_nil (A : List Pair) : joinB A [] = A := by cases A <;> rw [joinB]; simp
theorem nil_joinB (B : List Pair) : joinB [] B = B := by rw [joinB]
theorem joinB_less {x y : Pair} (A B : List Pair) (h : rowsV x.1 y.1 < 0) : joinB (x :: A) (y :: B) = x :: joinB A (y :: B) := by rw [joinB, if_pos h]
theorem joinB_more {x y : Pair} (A B : List Pair) (h : 0 < rowsV x.1 y.1) : joinB (x :: A) (y :: B) = y :: joinB (x :: A) B := by rw [joinB, if_neg (by omega), if_neg (by omega)]
theorem joinB_none {x y : Pair} (A B : List Pair) (h : rowsV x.1 y.1 = 0) (h0 : x.2 + y.2 = 0) : joinB (x :: A) (y :: B) = joinB A B := by rw [joinB, if_neg (by omega), if_pos h, if_pos h0]
theorem joinB_both {x y : Pair} (A B : List Pair) (h : rowsV x.1 y.1 = 0) (h0 : x.2 + y.2 ≠ 0) : joinB (x :: A) (y :: B) = (x.1, x.2 + y.2) :: joinB A B := by rw [joinB, if_neg (by omega), if_pos h, if_neg h0]
theorem joinB_sum (r : List Val) : ∀ (n : Nat) (A B : List Pair), A.length + B.length ≤ n → sumOf r (joinB A B) = sumOf r A + sumOf r B := by
  intro n
  induction n with
  | zero =>
    intro A B h
    obtain rfl : A = [] := List.length_eq_zero_iff.1 (by omega)
    rw [nil_joinB]; simp [sumOf]
  | succ n ih =>
    intro A B h
    cases A with
    | nil => rw [nil_joinB]; simp [sumOf]
    | cons x A =>
      cases B with
      | nil => rw [joinB_nil]; simp [sumOf]
      | cons y B =>
        simp only [List.length_cons] at h
        by_cases h1 : rowsV x.1 y.1 < 0
        · rw [joinB_less A B h1, sumOf, ih A (y :: B) (by simp; omega)]
          have e : sumOf r (x :: A) = (if rowsV x.1 r = 0 then x.2 else 0) + sumOf r A := rfl
          omega
        by_cases h2 : rowsV x.1 y.1 = 0
        · have e := (rowsV_is _ _).1 h2
          by_cases h3 : x.2 + y.2 = 0
          · rw [joinB_none A B h2 h3, ih A B (by omega), sumOf, sumOf, ← e]; split <;> omega
          · rw [joinB_both A B h2 h3, sumOf, ih A B (by omega), sumOf, sumOf, ← e]; dsimp only; split <;> omega
        · rw [joinB_more A B (by omega), sumOf, ih (x :: A) B (by simp; omega)]
          have e : sumOf r (y :: B) = (if rowsV y.1 r = 0 then y.2 else 0) + sumOf r B := rfl
          omega
theorem joinB_mem : ∀ (n : Nat) (A B : List Pair), A.length + B.length ≤ n → ∀ z ∈ joinB A B, (∃ x ∈ A, z.1 = x.1) ∨ ∃ y ∈ B, z.1 = y.1 := by
  intro n
  induction n with
  | zero =>
    intro A B h z hz
    obtain rfl : A = [] := List.length_eq_zero_iff.1 (by omega)
    rw [nil_joinB] at hz
    exact .inr ⟨z, hz, rfl⟩
  | succ n ih =>
    intro A B h z hz
    cases A with
    | nil => rw [nil_joinB] at hz; exact .inr ⟨z, hz, rfl⟩
    | cons x A =>
      cases B with
      | nil => rw [joinB_nil] at hz; exact .inl ⟨z, hz, rfl⟩
      | cons y B =>
        simp only [List.length_cons] at h
        by_cases h1 : rowsV x.1 y.1 < 0
        · rw [joinB_less A B h1] at hz
          rcases List.mem_cons.1 hz with rfl | hz
          · exact .inl ⟨z, by simp, rfl⟩
          · rcases ih A (y :: B) (by simp; omega) z hz with ⟨w, hw, e⟩ | h'
            · exact .inl ⟨w, by simp [hw], e⟩
            · exact .inr h'
        by_cases h2 : rowsV x.1 y.1 = 0
        · by_cases h3 : x.2 + y.2 = 0
          · rw [joinB_none A B h2 h3] at hz
            rcases ih A B (by omega) z hz with ⟨w, hw, e⟩ | ⟨w, hw, e⟩
            · exact .inl ⟨w, by simp [hw], e⟩
            · exact .inr ⟨w, by simp [hw], e⟩
          · rw [joinB_both A B h2 h3] at hz
            rcases List.mem_cons.1 hz with rfl | hz
            · exact .inl ⟨x, by simp, rfl⟩
            · rcases ih A B (by omega) z hz with ⟨w, hw, e⟩ | ⟨w, hw, e⟩
              · exact .inl ⟨w, by simp [hw], e⟩
              · exact .inr ⟨w, by simp [hw], e⟩
        · rw [joinB_more A B (by omega)] at hz
          rcases List.mem_cons.1 hz with rfl | hz
          · exact .inr ⟨z, by simp, rfl⟩
          · rcases ih (x :: A) B (by simp; omega) z hz with h' | ⟨w, hw, e⟩
            · exact .inl h'
            · exact .inr ⟨w, by simp [hw], e⟩
theorem rises_join : ∀ (n : Nat) (A B : List Pair), A.length + B.length ≤ n → Rises A → Rises B → Rises (joinB A B) := by
  intro n
  induction n with
  | zero =>
    intro A B h _ hB
    obtain rfl : A = [] := List.length_eq_zero_iff.1 (by omega)
    rw [nil_joinB]; exact hB
  | succ n ih =>
    intro A B h hA hB
    cases A with
    | nil => rw [nil_joinB]; exact hB
    | cons x A =>
      cases B with
      | nil => rw [joinB_nil]; exact hA
      | cons y B =>
        simp only [List.length_cons] at h
        by_cases h1 : rowsV x.1 y.1 < 0
        · rw [joinB_less A B h1]
          refine ⟨hA.1, fun z hz => ?_, ih A (y :: B) (by simp; omega) hA.2.2 hB⟩
          rcases joinB_mem _ A (y :: B) (Nat.le_refl _) z hz with ⟨w, hw, e⟩ | ⟨w, hw, e⟩
          · rw [e]; exact hA.2.1 w hw
          · rw [e]
            rcases List.mem_cons.1 hw with rfl | hw
            · exact h1
            · exact rowsV_lt_trans h1 (hB.2.1 w hw)
        by_cases h2 : rowsV x.1 y.1 = 0
        · have e0 := (rowsV_is _ _).1 h2
          by_cases h3 : x.2 + y.2 = 0
          · rw [joinB_none A B h2 h3]; exact ih A B (by omega) hA.2.2 hB.2.2
          · rw [joinB_both A B h2 h3]
            refine ⟨h3, fun z hz => ?_, ih A B (by omega) hA.2.2 hB.2.2⟩
            rcases joinB_mem _ A B (Nat.le_refl _) z hz with ⟨w, hw, e⟩ | ⟨w, hw, e⟩
            · rw [e]; exact hA.2.1 w hw
            · rw [e]; show rowsV x.1 w.1 < 0; rw [e0]; exact hB.2.1 w hw
        · rw [joinB_more A B (by omega)]
          have h4 : rowsV y.1 x.1 < 0 := by have := rowsV_flip x.1 y.1; omega
          refine ⟨hB.1, fun z hz => ?_, ih (x :: A) B (by simp; omega) hA hB.2.2⟩
          rcases joinB_mem _ (x :: A) B (Nat.le_refl _) z hz with ⟨w, hw, e⟩ | ⟨w, hw, e⟩
          · rw [e]
            rcases List.mem_cons.1 hw with rfl | hw
            · exact h4
            · exact rowsV_lt_trans h4 (hA.2.1 w hw)
          · rw [e]; exact hB.2.1 w hw
theorem joinB_ofB (A B : List Pair) : joinB (ofB A) (ofB B) = ofB (A ++ B) :=
  ofB_is (rises_join _ _ _ (Nat.le_refl _) (rises_ofB A) (rises_ofB B)) (fun r => by rw [joinB_sum r _ _ _ (Nat.le_refl _), sumOf_ofB, sumOf_ofB, sumOf_append])
theorem ofB_one (x : Pair) : ofB [x] = if x.2 = 0 then [] else [x] := rfl

/-! ### Sums that are small enough -/
def absS : List Pair → Int
  | [] => 0
  | x :: L => (if x.2 < 0 then -x.2 else x.2) + absS L
theorem absS_nonneg : ∀ L, 0 ≤ absS L
  | [] => Int.le_refl _
  | x :: L => by have := absS_nonneg L; unfold absS; split <;> omega
theorem absS_append : ∀ A B, absS (A ++ B) = absS A + absS B
  | [], B => by simp [absS]
  | x :: A, B => by rw [List.cons_append, absS, absS_append A B, absS]; omega
theorem absS_mem : ∀ {L : List Pair} {x : Pair}, x ∈ L → -absS L ≤ x.2 ∧ x.2 ≤ absS L
  | y :: L, x, h => by
    have h0 := absS_nonneg L
    unfold absS
    rcases List.mem_cons.1 h with rfl | h
    · split <;> omega
    · have := absS_mem h
      split <;> omega
theorem absS_ins (x : Pair) : ∀ B, absS (insB x B) ≤ (if x.2 < 0 then -x.2 else x.2) + absS B
  | [] => by
    unfold insB
    split
    · simp only [absS]; split <;> omega
    · simp [absS]
  | y :: B => by
    unfold insB
    have h0 := absS_nonneg B
    have hx : 0 ≤ (if x.2 < 0 then -x.2 else x.2) := by split <;> omega
    split
    · split
      · omega
      · simp [absS]
    · split
      · split
        · simp only [absS]
          have hy : 0 ≤ (if y.2 < 0 then -y.2 else y.2) := by split <;> omega
          omega
        · simp only [absS]
          split <;> split <;> split <;> omega
      · have := absS_ins x B
        simp only [absS]
        omega
theorem absS_ofB : ∀ L, absS (ofB L) ≤ absS L
  | [] => Int.le_refl _
  | x :: L => by
    have h1 := absS_ins x (ofB L)
    have h2 := absS_ofB L
    show absS (insB x (ofB L)) ≤ (if x.2 < 0 then -x.2 else x.2) + absS L
    omega
theorem len_ins (x : Pair) : ∀ B, (insB x B).length ≤ B.length + 1
  | [] => by unfold insB; split <;> simp
  | y :: B => by
    have := len_ins x B
    unfold insB
    repeat' split
    all_goals simp
    all_goals omega
theorem len_ofB : ∀ L, (ofB L).length ≤ L.length
  | [] => Nat.le_refl _
  | x :: L => by
    have h1 := len_ins x (ofB L)
    have h2 := len_ofB L
    show (insB x (ofB L)).length ≤ _
    rw [List.length_cons]; omega

/-! ### Rows, each once; the rows of a bag -/
def onesB (L : List (List Val)) : List Pair := L.map fun r => (r, 1)
def rowsB : List Pair → List (List Val)
  | [] => []
  | x :: B => List.replicate x.2.toNat x.1 ++ rowsB B
def countB : List Pair → Int
  | [] => 0
  | x :: B => (if 0 < x.2 then x.2 else 0) + countB B
def sumAll : List Pair → Int
  | [] => 0
  | x :: B => x.2 + sumAll B
theorem absS_ones : ∀ L, absS (onesB L) = L.length
  | [] => rfl
  | r :: L => by
    have := absS_ones L
    show (if (1 : Int) < 0 then -1 else 1) + absS (onesB L) = _
    rw [this, if_neg (by omega), List.length_cons]; omega
theorem len_ones (L : List (List Val)) : (onesB L).length = L.length := List.length_map _
theorem sumAll_ins (x : Pair) : ∀ B, sumAll (insB x B) = x.2 + sumAll B
  | [] => by unfold insB; split <;> simp [sumAll]; omega
  | y :: B => by
    have := sumAll_ins x B
    unfold insB
    repeat' split
    all_goals simp only [sumAll]
    all_goals omega
theorem sumAll_ofB : ∀ L, sumAll (ofB L) = sumAll L
  | [] => rfl
  | x :: L => by
    show sumAll (insB x (ofB L)) = _
    rw [sumAll_ins, sumAll_ofB L, sumAll]
theorem sumAll_ones : ∀ L, sumAll (onesB L) = L.length
  | [] => rfl
  | r :: L => by
    have := sumAll_ones L
    show 1 + sumAll (onesB L) = _
    rw [this, List.length_cons]; omega
theorem pos_ins {x : Pair} (hx : 0 ≤ x.2) : ∀ {B : List Pair}, (∀ y ∈ B, 0 < y.2) → ∀ y ∈ insB x B, 0 < y.2
  | [], _, z, hz => by
    unfold insB at hz
    split at hz
    · simp at hz
    · simp at hz; subst hz; omega
  | y :: B, h, z, hz => by
    have hy := h y (by simp)
    unfold insB at hz
    split at hz
    · split at hz
      · exact h z hz
      · rcases List.mem_cons.1 hz with rfl | hz
        · omega
        · exact h z hz
    · split at hz
      · split at hz
        · exact h z (by simp [hz])
        · rcases List.mem_cons.1 hz with rfl | hz
          · show 0 < x.2 + y.2; omega
          · exact h z (by simp [hz])
      · rcases List.mem_cons.1 hz with rfl | hz
        · exact hy
        · exact pos_ins hx (fun w hw => h w (by simp [hw])) z hz
theorem pos_ofB : ∀ {L : List Pair}, (∀ x ∈ L, 0 ≤ x.2) → ∀ y ∈ ofB L, 0 < y.2
  | [], _, y, hy => by simp [ofB] at hy
  | x :: L, h, y, hy => pos_ins (h x (by simp)) (pos_ofB (fun z hz => h z (by simp [hz]))) y hy
theorem pos_ones (L : List (List Val)) : ∀ y ∈ ofB (onesB L), 0 < y.2 := pos_ofB (fun x hx => by
  obtain ⟨r, _, rfl⟩ := List.mem_map.1 hx
  show (0 : Int) ≤ 1; decide)
theorem rowsB_len : ∀ {B : List Pair}, (∀ y ∈ B, 0 < y.2) → ((rowsB B).length : Int) = sumAll B
  | [], _ => rfl
  | x :: B, h => by
    have h1 := h x (by simp)
    have h2 := rowsB_len (B := B) (fun y hy => h y (by simp [hy]))
    rw [rowsB, List.length_append, List.length_replicate, sumAll]; omega
theorem countB_is : ∀ {B : List Pair}, (∀ y ∈ B, 0 < y.2) → countB B = sumAll B
  | [], _ => rfl
  | x :: B, h => by
    rw [countB, if_pos (h x (by simp)), countB_is (B := B) (fun y hy => h y (by simp [hy])), sumAll]
theorem sumOf_ones_rep (r x : List Val) : ∀ (n : Nat) (L : List (List Val)), sumOf r (onesB (List.replicate n x ++ L)) = (if rowsV x r = 0 then (n : Int) else 0) + sumOf r (onesB L)
  | 0, L => by simp
  | n + 1, L => by
    have := sumOf_ones_rep r x n L
    rw [List.replicate_succ, List.cons_append]
    show (if rowsV x r = 0 then (1 : Int) else 0) + sumOf r (onesB (List.replicate n x ++ L)) = _
    rw [this]; split <;> omega
theorem sumOf_rowsB (r : List Val) : ∀ {B : List Pair}, (∀ y ∈ B, 0 < y.2) → sumOf r (onesB (rowsB B)) = sumOf r B
  | [], _ => rfl
  | x :: B, h => by
    have h1 := h x (by simp)
    rw [rowsB, sumOf_ones_rep, sumOf_rowsB r (B := B) (fun y hy => h y (by simp [hy])), sumOf]
    split <;> omega
/-- The bag of a bag's rows is the bag. -/
theorem bag_back (L : List (List Val)) : ofB (onesB (rowsB (ofB (onesB L)))) = ofB (onesB L) :=
  (ofB_is (rises_ofB _) (fun r => by rw [sumOf_rowsB r (pos_ones L)])).symm
theorem bagRows_len (L : List (List Val)) : (rowsB (ofB (onesB L))).length = L.length := by
  have := rowsB_len (pos_ones L)
  rw [sumAll_ofB, sumAll_ones] at this
  omega
theorem count_len (L : List (List Val)) : countB (ofB (onesB L)) = L.length := by
  rw [countB_is (pos_ones L), sumAll_ofB, sumAll_ones]
theorem small_ones (L : List (List Val)) : ∀ y ∈ ofB (onesB L), y.2 ≤ L.length := fun y hy => by
  have h1 := (absS_mem hy).2
  have h2 := absS_ofB (onesB L)
  rw [absS_ones] at h2
  omega
end Go.Proofs.Ytipibbjcdkmjmaa
