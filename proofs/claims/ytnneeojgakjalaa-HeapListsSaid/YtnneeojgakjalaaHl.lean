/- Heaps, plainly: the list of all rows, by their places. Nothing of any program here. Conditions: each lemma names its own. -/
import Derived.Test.YtnneeojgakjalaaHb
namespace Go.Proofs.Ytnneeojgakjalaa
open Go.RowKit

/-- A row with its place. -/
abbrev At := Nat × Nat × List UInt8
def pageL (i : Nat) : Nat → Pg → List At
  | _, [] => []
  | k, s :: p => if s.1 then (i, k, s.2) :: pageL i (k + 1) p else pageL i (k + 1) p
def heapL : Nat → Hp → List At
  | _, [] => []
  | i, p :: h => pageL i 0 p ++ heapL (i + 1) h
def listH (h : Hp) : List At := if rightH h then heapL 0 h else []
theorem pageL_append (i : Nat) : ∀ (k : Nat) (A B : Pg), pageL i k (A ++ B) = pageL i k A ++ pageL i (k + A.length) B
  | k, [], B => rfl
  | k, s :: A, B => by
    have h := pageL_append i (k + 1) A B
    rw [List.cons_append, pageL, pageL, h, List.length_cons, show k + 1 + A.length = k + (A.length + 1) by omega]
    split <;> simp
theorem heapL_append : ∀ (i : Nat) (A B : Hp), heapL i (A ++ B) = heapL i A ++ heapL (i + A.length) B
  | i, [], B => rfl
  | i, p :: A, B => by
    have h := heapL_append (i + 1) A B
    rw [List.cons_append, heapL, heapL, h, List.length_cons, show i + 1 + A.length = i + (A.length + 1) by omega, List.append_assoc]
theorem pageL_take (i : Nat) {p : Pg} {k : Nat} (h : k < p.length) : pageL i 0 (p.take (k + 1)) = pageL i 0 (p.take k) ++ (if (p[k]).1 then [(i, k, (p[k]).2)] else []) := by
  rw [List.take_succ_eq_append_getElem h, pageL_append, List.length_take, Nat.min_eq_left (by omega), Nat.zero_add]
  rfl
theorem heapL_take {h : Hp} {i : Nat} (hi : i < h.length) : heapL 0 (h.take (i + 1)) = heapL 0 (h.take i) ++ pageL i 0 h[i] := by
  rw [List.take_succ_eq_append_getElem hi, heapL_append, List.length_take, Nat.min_eq_left (by omega), Nat.zero_add]
  simp [heapL]
theorem pageL_mem (i : Nat) : ∀ (k : Nat) (p : Pg) (a b : Nat) (d : List UInt8), (a, b, d) ∈ pageL i k p ↔ a = i ∧ k ≤ b ∧ p[b - k]? = some (true, d)
  | k, [], a, b, d => by simp [pageL]
  | k, s :: p, a, b, d => by
    have ih := pageL_mem i (k + 1) p a b d
    have hsplit : ((a, b, d) ∈ pageL i k (s :: p)) ↔ (s.1 = true ∧ a = i ∧ b = k ∧ d = s.2) ∨ (a, b, d) ∈ pageL i (k + 1) p := by
      rw [pageL]
      split
      · rename_i hs
        rw [List.mem_cons]
        simp only [Prod.mk.injEq]
        constructor
        · rintro (⟨h1, h2, h3⟩ | h)
          · exact .inl ⟨hs, h1, h2, h3⟩
          · exact .inr h
        · rintro (⟨_, h1, h2, h3⟩ | h)
          · exact .inl ⟨h1, h2, h3⟩
          · exact .inr h
      · rename_i hs
        constructor
        · exact fun h => .inr h
        · rintro (⟨h0, _⟩ | h)
          · exact absurd h0 hs
          · exact h
    rw [hsplit, ih]
    constructor
    · rintro (⟨h0, rfl, rfl, rfl⟩ | ⟨h1, h2, h3⟩)
      · refine ⟨rfl, Nat.le_refl _, ?_⟩
        rw [Nat.sub_self, List.getElem?_cons_zero, ← h0]
      · refine ⟨h1, by omega, ?_⟩
        rw [show b - k = (b - (k + 1)) + 1 by omega, List.getElem?_cons_succ]; exact h3
    · rintro ⟨h1, h2, h3⟩
      by_cases hb : b = k
      · subst hb
        rw [Nat.sub_self, List.getElem?_cons_zero] at h3
        obtain rfl := Option.some.inj h3
        exact .inl ⟨rfl, h1, rfl, rfl⟩
      · right
        rw [show b - k = (b - (k + 1)) + 1 by omega, List.getElem?_cons_succ] at h3
        exact ⟨h1, by omega, h3⟩
theorem heapL_mem : ∀ (i : Nat) (h : Hp) (a b : Nat) (d : List UInt8), (a, b, d) ∈ heapL i h ↔ i ≤ a ∧ ∃ p, h[a - i]? = some p ∧ p[b]? = some (true, d)
  | i, [], a, b, d => by simp [heapL]
  | i, p :: h, a, b, d => by
    have ih := heapL_mem (i + 1) h a b d
    rw [heapL, List.mem_append, ih, pageL_mem]
    constructor
    · rintro (⟨rfl, _, h3⟩ | ⟨h1, q, h2, h3⟩)
      · exact ⟨Nat.le_refl _, p, by simp, by simpa using h3⟩
      · exact ⟨by omega, q, by rw [show a - i = (a - (i + 1)) + 1 by omega, List.getElem?_cons_succ]; exact h2, h3⟩
    · rintro ⟨h1, q, h2, h3⟩
      by_cases ha : a = i
      · subst ha
        rw [Nat.sub_self, List.getElem?_cons_zero] at h2
        obtain rfl := Option.some.inj h2
        exact .inl ⟨rfl, Nat.zero_le _, by simpa using h3⟩
      · right
        rw [show a - i = (a - (i + 1)) + 1 by omega, List.getElem?_cons_succ] at h2
        exact ⟨by omega, q, h2, h3⟩
theorem heapL_got (h : Hp) (a b : Nat) (d : List UInt8) : (a, b, d) ∈ heapL 0 h ↔ gotH h a b = some d := by
  rw [heapL_mem]
  unfold gotH gotP
  rw [if_pos (by omega), Int.toNat_natCast, Nat.sub_zero]
  constructor
  · rintro ⟨_, p, h1, h2⟩
    rw [h1]
    dsimp only
    rw [if_pos (by omega), Int.toNat_natCast, h2]
  · intro h1
    refine ⟨Nat.zero_le _, ?_⟩
    split at h1
    · rename_i p e
      refine ⟨p, e, ?_⟩
      rw [if_pos (by omega), Int.toNat_natCast] at h1
      split at h1
      · rename_i d' e2
        obtain rfl := Option.some.inj h1
        exact e2
      · cases h1
    · cases h1

/-- By pages, then slots. -/
def ltA (u v : At) : Prop := u.1 < v.1 ∨ u.1 = v.1 ∧ u.2.1 < v.2.1
theorem pageL_sorted (i : Nat) : ∀ (k : Nat) (p : Pg), (pageL i k p).Pairwise ltA
  | k, [] => List.Pairwise.nil
  | k, s :: p => by
    have ih := pageL_sorted i (k + 1) p
    rw [pageL]
    split
    · refine List.Pairwise.cons (fun v hv => ?_) ih
      obtain ⟨a, b, d⟩ := v
      obtain ⟨rfl, h2, _⟩ := (pageL_mem i (k + 1) p a b d).1 hv
      exact .inr ⟨rfl, by show k < b; omega⟩
    · exact ih
theorem heapL_sorted : ∀ (i : Nat) (h : Hp), (heapL i h).Pairwise ltA
  | i, [] => List.Pairwise.nil
  | i, p :: h => by
    rw [heapL]
    refine List.pairwise_append.2 ⟨pageL_sorted i 0 p, heapL_sorted (i + 1) h, fun u hu v hv => ?_⟩
    obtain ⟨a, b, d⟩ := u
    obtain ⟨a', b', d'⟩ := v
    obtain ⟨rfl, _, _⟩ := (pageL_mem i 0 p a b d).1 hu
    obtain ⟨h1, _⟩ := (heapL_mem (a + 1) h a' b' d').1 hv
    exact .inl (by show a < a'; omega)
end Go.Proofs.Ytnneeojgakjalaa
