/- Heaps, plainly: cutting and setting; what each leaves as it was. Nothing of any program here. Conditions: each lemma names its own. -/
import Derived.Test.YtnneeojgakjalaaHa
namespace Go.Proofs.Ytnneeojgakjalaa
open Go.RowKit

/-- Pages at the end without a slot are gone. -/
def trimH : Hp → Hp
  | [] => []
  | p :: h => match trimH h with
    | [] => if p.isEmpty then [] else [p]
    | q :: g => p :: q :: g
theorem trimH_le : ∀ h : Hp, (trimH h).length ≤ h.length
  | [] => Nat.le_refl _
  | p :: h => by
    have := trimH_le h
    unfold trimH
    split
    · split <;> simp
    · rename_i e
      rw [e] at this
      simp only [List.length_cons] at this ⊢; omega
theorem trimH_mem : ∀ (h : Hp) (p : Pg), p ∈ trimH h → p ∈ h
  | [], p, hp => hp
  | q :: h, p, hp => by
    unfold trimH at hp
    split at hp
    · split at hp
      · exact absurd hp (by simp)
      · rcases List.mem_singleton.1 hp with rfl; simp
    · rename_i e
      rcases List.mem_cons.1 hp with rfl | hp
      · simp
      · exact List.mem_cons_of_mem _ (trimH_mem h p (by rw [e]; exact hp))
theorem trimH_last : ∀ h : Hp, lastFull (trimH h) = true
  | [] => rfl
  | p :: h => by
    have := trimH_last h
    unfold trimH
    split
    · split
      · rfl
      · rename_i hp
        show (!p.isEmpty) = true
        simpa using hp
    · rename_i e
      rw [e] at this
      exact this
theorem trimH_get : ∀ (h : Hp) (i : Nat), (trimH h)[i]? = h[i]? ∨ ((trimH h)[i]? = none ∧ h[i]? = some [])
  | [], i => .inl rfl
  | p :: h, i => by
    have ih := fun j => trimH_get h j
    unfold trimH
    split
    · rename_i e
      rw [e] at ih
      have hrest : ∀ j, h[j]? = none ∨ h[j]? = some [] := fun j => by
        rcases ih j with hj | ⟨_, hj⟩
        · left; rw [← hj]; rfl
        · exact .inr hj
      split
      · rename_i hp
        have hp : p = [] := List.isEmpty_iff.1 hp
        cases i with
        | zero => right; exact ⟨rfl, by simp [hp]⟩
        | succ i =>
          rcases hrest i with hj | hj
          · left; simp [hj]
          · right; exact ⟨rfl, by simpa using hj⟩
      · cases i with
        | zero => left; rfl
        | succ i =>
          rcases hrest i with hj | hj
          · left; simp [hj]
          · right; exact ⟨by simp, by simpa using hj⟩
    · rename_i q g e
      rw [e] at ih
      cases i with
      | zero => left; rfl
      | succ i =>
        rcases ih i with hj | ⟨hj1, hj2⟩
        · left; simpa using hj
        · right; exact ⟨by simpa using hj1, by simpa using hj2⟩
theorem gotH_trim (h : Hp) (x y : Int) : gotH (trimH h) x y = gotH h x y := by
  unfold gotH
  split
  · rcases trimH_get h x.toNat with e | ⟨e1, e2⟩
    · rw [e]
    · rw [e1, e2]; exact (gotP_nil y).symm
  · rfl

theorem trimP_get : ∀ (p : Pg) (i : Nat), (trimP p)[i]? = p[i]? ∨ ((trimP p)[i]? = none ∧ ∃ d, p[i]? = some (false, d))
  | [], i => .inl rfl
  | s :: p, i => by
    have ih := fun j => trimP_get p j
    unfold trimP
    split
    · rename_i e
      rw [e] at ih
      have hrest : ∀ j, p[j]? = none ∨ ∃ d, p[j]? = some (false, d) := fun j => by
        rcases ih j with hj | ⟨_, hj⟩
        · left; rw [← hj]; rfl
        · exact .inr hj
      by_cases hs : s.1 = true
      · rw [if_pos hs]
        cases i with
        | zero => left; rfl
        | succ i =>
          rcases hrest i with hj | ⟨d, hj⟩
          · left; simp [hj]
          · right; exact ⟨by simp, d, by simpa using hj⟩
      · rw [if_neg hs]
        cases i with
        | zero => right; exact ⟨rfl, s.2, by simp; exact Prod.ext (by simpa using hs) rfl⟩
        | succ i =>
          rcases hrest i with hj | ⟨d, hj⟩
          · left; simp [hj]
          · right; exact ⟨rfl, d, by simpa using hj⟩
    · rename_i q g e
      rw [e] at ih
      cases i with
      | zero => left; rfl
      | succ i =>
        rcases ih i with hj | ⟨hj1, d, hj2⟩
        · left; simpa using hj
        · right; exact ⟨by simpa using hj1, d, by simpa using hj2⟩
theorem gotP_trim (p : Pg) (y : Int) : gotP (trimP p) y = gotP p y := by
  unfold gotP
  split
  · rcases trimP_get p y.toNat with e | ⟨e1, d, e2⟩
    · rw [e]
    · rw [e1, e2]
  · rfl
theorem gotP_setS (p : Pg) (i : Nat) (s : Slot) (y : Int) (hi : i < p.length) : gotP (p.set i s) y = if y = i then (if s.1 then some s.2 else none) else gotP p y := by
  unfold gotP
  by_cases h0 : 0 ≤ y
  · rw [if_pos h0, if_pos h0, List.getElem?_set]
    by_cases e : y = i
    · have e' : i = y.toNat := by omega
      rw [if_pos e, if_pos e', if_pos hi]
      obtain ⟨u, d⟩ := s
      cases u <;> rfl
    · rw [if_neg e, if_neg (by omega)]
  · rw [if_neg h0, if_neg h0, if_neg (by omega)]
theorem gotP_cut {p : Pg} {i : Nat} (hi : i < p.length) (y : Int) : gotP (cutR p i) y = if y = i then none else gotP p y := by
  unfold cutR
  rw [gotP_trim, gotP_setS p i noS y hi]; rfl
theorem last_trimP : ∀ p : Pg, lastUsed (trimP p) = true
  | [] => rfl
  | s :: p => by
    have := last_trimP p
    unfold trimP
    split
    · split
      · rename_i hs; exact hs
      · rfl
    · rename_i e
      rw [e] at this
      exact this
theorem sizeP_trim : ∀ p : Pg, sizeP (trimP p) ≤ sizeP p
  | [] => Nat.le_refl _
  | s :: p => by
    have := sizeP_trim p
    unfold trimP
    split
    · rename_i e
      rw [e] at this
      split
      · simp only [sizeP] at this ⊢; omega
      · have h4 : 4 ≤ sizeP p := by have := sizeP_ge p; omega
        simp only [sizeP] at this ⊢; omega
    · rename_i e
      rw [e] at this
      simp only [sizeP] at this ⊢; omega
theorem cutR_right {p : Pg} {i : Nat} (h : RightP p) (hi : i < p.length) : RightP (cutR p i) := by
  unfold cutR
  have h1 := sizeP_set p i hi noS
  have h2 := sizeP_trim (p.set i noS)
  have h3 := trimP_le (p.set i noS)
  rw [List.length_set] at h3
  simp only [noS, List.length_nil] at h1
  refine ⟨by have := h.len; omega, fun s hs => ?_, by have := h.size; have e : noS = (false, []) := rfl; rw [e] at h2 ⊢; omega, last_trimP _⟩
  have hm : s ∈ p.set i noS := by
    obtain ⟨j, hj⟩ := List.getElem?_of_mem hs
    rcases trimP_get (p.set i noS) j with e | ⟨e, _⟩
    · rw [e] at hj; exact List.mem_of_getElem? hj
    · rw [e] at hj; cases hj
  rcases List.mem_or_eq_of_mem_set hm with hm | rfl
  · exact h.slots s hm
  · exact ⟨fun _ => rfl, by simp [noS]⟩

/-! ### Cutting -/
def cutHR (h : Hp) (x y : Nat) : Hp := if hx : x < h.length then trimH (h.set x (cutR h[x] y)) else h
def cutHP (h : Hp) (x y : Int) : Hp := if getHE h x y = 0 then cutHR h x.toNat y.toNat else h
theorem getHE_cases (h : Hp) (x y : Int) : (getHE h x y ≠ 0 ∧ getHD h x y = [] ∧ (rightH h = true → gotH h x y = none)) ∨ (RightH h ∧ ∃ i k : Nat, x = i ∧ y = k ∧ ∃ hi : i < h.length, k < h[i].length ∧ gotP h[i] k = some (getHD h x y) ∧ getHE h x y = 0) := by
  cases hr : rightH h with
  | false => left; unfold getHE getHD; rw [hr]; exact ⟨by simp, by simp, fun e => by cases e⟩
  | true =>
    cases hg : gotH h x y with
    | none => left; unfold getHE getHD; rw [hr, hg]; exact ⟨by simp, by simp, fun _ => rfl⟩
    | some d =>
      right
      have hg0 := hg
      unfold gotH at hg
      split at hg
      · rename_i h0
        split at hg
        · rename_i p e
          obtain ⟨hl, e⟩ := List.getElem?_eq_some_iff.1 e
          obtain ⟨k0, hk, hkd⟩ := gotP_some hg
          refine ⟨(rightH_iff h).1 hr, x.toNat, y.toNat, by omega, by omega, hl, by rw [e]; exact hk, ?_, ?_⟩
          · unfold getHD
            rw [hr, hg0, e, show ((y.toNat : Nat) : Int) = y by omega]; exact hg
          · unfold getHE; rw [hr, hg0]; rfl
        · cases hg
      · cases hg
theorem cutH_right {h : Hp} {i k : Nat} (hr : RightH h) (hi : i < h.length) (hk : k < h[i].length) : RightH (cutHR h i k) := by
  unfold cutHR
  rw [dif_pos hi]
  refine ⟨?_, fun p hp => ?_, trimH_last _⟩
  · have := trimH_le (h.set i (cutR h[i] k))
    rw [List.length_set] at this
    have := hr.len; omega
  · rcases List.mem_or_eq_of_mem_set (trimH_mem _ _ hp) with hp | rfl
    · exact hr.pages p hp
    · exact cutR_right (hr.pages _ (List.getElem_mem hi)) hk
/-- What is got behind a row was cut: nothing at its place; all else as it was. -/
theorem gotH_cut {h : Hp} {i k : Nat} (hi : i < h.length) (hk : k < h[i].length) (x y : Int) : gotH (cutHR h i k) x y = if x = i ∧ y = k then none else gotH h x y := by
  unfold cutHR
  rw [dif_pos hi, gotH_trim, gotH_set hi]
  by_cases hx : x = i
  · rw [if_pos hx, gotP_cut hk]
    by_cases hy : y = k
    · rw [if_pos hy, if_pos ⟨hx, hy⟩]
    · rw [if_neg hy, if_neg (fun hh => hy hh.2), hx, gotH_at hi]
  · rw [if_neg hx, if_neg (fun hh => hx hh.1)]
theorem cutH_few (h : Hp) (i k : Nat) : (cutHR h i k).length ≤ h.length := by
  unfold cutHR
  split
  · have := trimH_le (h.set i (cutR h[i] k))
    rw [List.length_set] at this
    exact this
  · exact Nat.le_refl _
end Go.Proofs.Ytnneeojgakjalaa
