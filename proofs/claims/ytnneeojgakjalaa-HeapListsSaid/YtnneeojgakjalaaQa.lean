/- Pages, plainly: slots, each used or not, with its bytes: how full, whether it may be, what putting, getting, cutting and setting make of it. Nothing of any program here. Conditions: each lemma names its own. -/
import Derived.Test.YtnneeojgakjalaaMb
namespace Go.Proofs.Ytnneeojgakjalaa
open Go.RowKit

abbrev Slot := Bool × List UInt8
abbrev Pg := List Slot
def noS : Slot := (false, [])

def sizeP : Pg → Nat
  | [] => 4
  | s :: p => 4 + s.2.length + sizeP p
/-- Each slot may be: one that isn't used has no bytes; none has too many. -/
def slotsOK (p : Pg) : Prop := ∀ s ∈ p, (s.1 = false → s.2 = []) ∧ s.2.length ≤ 1024
def lastUsed : Pg → Bool
  | [] => true
  | [s] => s.1
  | _ :: p => lastUsed p
structure RightP (p : Pg) : Prop where
  len : p.length ≤ 256
  slots : slotsOK p
  size : sizeP p ≤ 1024
  last : lastUsed p = true

theorem sizeP_append : ∀ (p q : Pg), sizeP (p ++ q) + 4 = sizeP p + sizeP q
  | [], q => by simp [sizeP]; omega
  | s :: p, q => by
    have := sizeP_append p q
    rw [List.cons_append, sizeP, sizeP]; omega
theorem sizeP_set : ∀ (p : Pg) (i : Nat) (h : i < p.length) (s : Slot), sizeP (p.set i s) + (p[i]).2.length = sizeP p + s.2.length
  | t :: p, 0, _, s => by simp only [List.set_cons_zero, sizeP, List.getElem_cons_zero]; omega
  | t :: p, i + 1, h, s => by
    have := sizeP_set p i (by simpa using h) s
    simp only [List.set_cons_succ, sizeP, List.getElem_cons_succ]; omega
theorem sizeP_ge : ∀ p : Pg, 4 + 4 * p.length ≤ sizeP p
  | [] => by simp [sizeP]
  | s :: p => by
    have := sizeP_ge p
    rw [sizeP, List.length_cons]; omega
theorem last_snoc : ∀ (p : Pg) (s : Slot), lastUsed (p ++ [s]) = s.1
  | [], s => rfl
  | [t], s => rfl
  | t :: u :: p, s => by
    show lastUsed (u :: p ++ [s]) = s.1
    exact last_snoc (u :: p) s
theorem snoc_cases (p : Pg) : p = [] ∨ ∃ q s, p = q ++ [s] := by
  rcases List.eq_nil_or_concat p with h | ⟨q, s, h⟩
  · exact .inl h
  · exact .inr ⟨q, s, by simpa using h⟩
theorem last_set {p : Pg} {i : Nat} {d : List UInt8} (hl : lastUsed p = true) : lastUsed (p.set i (true, d)) = true := by
  rcases snoc_cases p with rfl | ⟨q, s, rfl⟩
  · simp [lastUsed]
  · rw [last_snoc] at hl
    by_cases hi : i < q.length
    · rw [List.set_append_left _ _ hi, last_snoc]; exact hl
    · rw [List.set_append_right _ _ (by omega)]
      cases hk : i - q.length with
      | zero => simp only [List.set_cons_zero]; rw [last_snoc]
      | succ k => simp only [List.set_cons_succ, List.set_nil]; rw [last_snoc]; exact hl

/-! ### Where a row would stand -/
def placeP : Pg → Nat
  | [] => 0
  | s :: p => if s.1 then placeP p + 1 else 0
theorem placeP_le : ∀ p : Pg, placeP p ≤ p.length
  | [] => Nat.le_refl _
  | s :: p => by
    have := placeP_le p
    unfold placeP
    split <;> simp <;> omega
theorem placeP_free : ∀ (p : Pg) (h : placeP p < p.length), (p[placeP p]).1 = false
  | s :: p, h => by
    unfold placeP at h
    by_cases hs : s.1 = true
    · rw [if_pos hs] at h
      have e : placeP (s :: p) = placeP p + 1 := by simp [placeP, hs]
      have := placeP_free p (by simpa using h)
      simp only [e, List.getElem_cons_succ]; exact this
    · have e : placeP (s :: p) = 0 := by simp [placeP, hs]
      simp only [e, List.getElem_cons_zero]; simpa using hs

/-- Is there room for n bytes? -/
def fitsP (p : Pg) (n : Int) : Prop := RightP p ∧ 0 ≤ n ∧ n ≤ 1024 ∧ n + (if placeP p = p.length then 4 else 0) ≤ 1024 - (sizeP p : Int)
def putR (p : Pg) (d : List UInt8) : Pg := if placeP p = p.length then p ++ [(true, d)] else p.set (placeP p) (true, d)
theorem putR_len (p : Pg) (d : List UInt8) : p.length ≤ (putR p d).length ∧ placeP p < (putR p d).length := by
  have := placeP_le p
  unfold putR
  split
  · rw [List.length_append]; simp; omega
  · rw [List.length_set]; omega
theorem putR_at (p : Pg) (d : List UInt8) : (putR p d)[placeP p]? = some (true, d) := by
  have := placeP_le p
  unfold putR
  split
  · rename_i h; rw [h]; simp
  · rw [List.getElem?_set]; simp; omega
theorem putR_other (p : Pg) (d : List UInt8) (j : Nat) (hj : j < p.length) (hne : j ≠ placeP p) : (putR p d)[j]? = p[j]? := by
  unfold putR
  split
  · rw [List.getElem?_append_left hj]
  · rw [List.getElem?_set]; simp [Ne.symm hne]
theorem putR_size {p : Pg} {d : List UInt8} (h : RightP p) : sizeP (putR p d) = sizeP p + d.length + (if placeP p = p.length then 4 else 0) := by
  unfold putR
  split
  · have := sizeP_append p [(true, d)]
    simp only [sizeP] at this; omega
  · rename_i hne
    have hlt : placeP p < p.length := by have := placeP_le p; omega
    have h1 := sizeP_set p (placeP p) hlt (true, d)
    have h2 := (h.slots _ (List.getElem_mem hlt)).1 (placeP_free p hlt)
    rw [h2] at h1
    simp at h1; omega
theorem putR_right {p : Pg} {d : List UInt8} (h : RightP p) (hf : fitsP p d.length) : RightP (putR p d) := by
  obtain ⟨_, h1, h2, h3⟩ := hf
  have hs := putR_size (d := d) h
  have hsz : sizeP (putR p d) ≤ 1024 := by
    rw [hs]
    split at h3 <;> simp_all <;> omega
  refine ⟨?_, ?_, hsz, ?_⟩
  · have := sizeP_ge (putR p d); omega
  · intro s hm
    unfold putR at hm
    split at hm
    · rcases List.mem_append.1 hm with hm | hm
      · exact h.slots s hm
      · obtain rfl := List.mem_singleton.1 hm
        exact ⟨(fun h => nomatch h), by show d.length ≤ 1024; omega⟩
    · rcases List.mem_or_eq_of_mem_set hm with hm | rfl
      · exact h.slots s hm
      · exact ⟨(fun h => nomatch h), by show d.length ≤ 1024; omega⟩
  · unfold putR
    split
    · rw [last_snoc]
    · exact last_set h.last

/-! ### Getting -/
/-- The slot's row, if it is there and used. -/
def gotP (p : Pg) (i : Int) : Option (List UInt8) := if 0 ≤ i then (match p[i.toNat]? with | some (true, d) => some d | _ => none) else none
theorem gotP_some {p : Pg} {i : Int} {d : List UInt8} (h : gotP p i = some d) : 0 ≤ i ∧ ∃ h : i.toNat < p.length, p[i.toNat] = (true, d) := by
  unfold gotP at h
  split at h
  · rename_i h0
    split at h
    · rename_i d' e
      obtain rfl := Option.some.inj h
      obtain ⟨hl, e⟩ := List.getElem?_eq_some_iff.1 e
      exact ⟨h0, hl, e⟩
    · cases h
  · cases h
theorem gotP_at {p : Pg} {i : Nat} {d : List UInt8} (h : p[i]? = some (true, d)) : gotP p i = some d := by
  unfold gotP
  rw [if_pos (by omega), Int.toNat_natCast, h]
theorem gotP_none {p : Pg} {i : Nat} (h : p[i]? = none ∨ ∃ d, p[i]? = some (false, d)) : gotP p i = none := by
  unfold gotP
  rw [if_pos (by omega), Int.toNat_natCast]
  rcases h with h | ⟨d, h⟩ <;> rw [h]
theorem gotP_put {p : Pg} (d : List UInt8) : gotP (putR p d) (placeP p) = some d := gotP_at (putR_at p d)
theorem gotP_place (p : Pg) : gotP p (placeP p) = none := by
  refine gotP_none ?_
  by_cases h : placeP p < p.length
  · right
    refine ⟨(p[placeP p]).2, ?_⟩
    rw [List.getElem?_eq_getElem h, ← placeP_free p h]
  · left
    exact List.getElem?_eq_none (by omega)
theorem gotP_put_other {p : Pg} (d : List UInt8) {j : Nat} (hj : j < p.length) (hne : j ≠ placeP p) : gotP (putR p d) j = gotP p j := by
  unfold gotP
  rw [if_pos (by omega), if_pos (by omega), Int.toNat_natCast, putR_other p d j hj hne]

/-! ### Setting -/
theorem set_right {p : Pg} {i : Nat} {d : List UInt8} (h : RightP p) (hi : i < p.length) (h1 : d.length ≤ 1024) (h2 : (d.length : Int) - (p[i]).2.length ≤ 1024 - (sizeP p : Int)) : RightP (p.set i (true, d)) := by
  have hs := sizeP_set p i hi (true, d)
  dsimp only at hs
  refine ⟨by rw [List.length_set]; exact h.len, ?_, by omega, last_set h.last⟩
  intro s hm
  rcases List.mem_or_eq_of_mem_set hm with hm | rfl
  · exact h.slots s hm
  · exact ⟨(fun h => nomatch h), h1⟩
theorem gotP_set {p : Pg} {i : Nat} (d : List UInt8) (hi : i < p.length) : gotP (p.set i (true, d)) i = some d := gotP_at (by rw [List.getElem?_set]; simp [hi])
theorem gotP_set_other {p : Pg} {i j : Nat} (d : List UInt8) (hne : j ≠ i) : gotP (p.set i (true, d)) j = gotP p j := by
  unfold gotP
  rw [if_pos (by omega), if_pos (by omega), Int.toNat_natCast, List.getElem?_set]
  simp [Ne.symm hne]

/-! ### Cutting -/
/-- Slots at the end that aren't used are gone. -/
def trimP : Pg → Pg
  | [] => []
  | s :: p => match trimP p with
    | [] => if s.1 then [s] else []
    | t :: q => s :: t :: q
theorem trimP_last : ∀ {p : Pg}, lastUsed p = true → trimP p = p
  | [], _ => rfl
  | [s], h => by
    have hs : s.1 = true := h
    simp [trimP, hs]
  | s :: t :: p, h => by
    have e := trimP_last (p := t :: p) h
    rw [trimP, e]
theorem trimP_snoc : ∀ (p : Pg) (d : List UInt8), trimP (p ++ [(false, d)]) = trimP p
  | [], d => rfl
  | s :: p, d => by
    have h := trimP_snoc p d
    rw [List.cons_append]
    simp only [trimP, h]
def cutR (p : Pg) (i : Nat) : Pg := trimP (p.set i noS)
theorem cut_put {p : Pg} {d : List UInt8} (h : RightP p) : cutR (putR p d) (placeP p) = p := by
  unfold cutR putR
  split
  · rename_i e
    rw [e, List.set_append_right _ _ (Nat.le_refl _), Nat.sub_self]
    show trimP (p ++ [noS]) = p
    rw [show noS = (false, []) from rfl, trimP_snoc, trimP_last h.last]
  · rename_i hne
    have hlt : placeP p < p.length := by have := placeP_le p; omega
    have hf := placeP_free p hlt
    have h2 := (h.slots _ (List.getElem_mem hlt)).1 hf
    have e : p[placeP p] = noS := Prod.ext hf h2
    rw [List.set_set, ← e, List.set_getElem_self, trimP_last h.last]
end Go.Proofs.Ytnneeojgakjalaa
