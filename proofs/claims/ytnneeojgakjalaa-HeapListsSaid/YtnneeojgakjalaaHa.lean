/- Heaps, plainly: pages in a row; where a row would be put; putting, getting, cutting, setting; what each leaves as it was. Nothing of any program here. Conditions: each lemma names its own. -/
import Derived.Test.YtnneeojgakjalaaQh
namespace Go.Proofs.Ytnneeojgakjalaa
open Go.RowKit

abbrev Hp := List Pg
def lastFull : Hp → Bool
  | [] => true
  | [p] => !p.isEmpty
  | _ :: h => lastFull h
def rightH (h : Hp) : Bool := decide (h.length ≤ 4096) && h.all rightB && lastFull h
structure RightH (h : Hp) : Prop where
  len : h.length ≤ 4096
  pages : ∀ p ∈ h, RightP p
  last : lastFull h = true
theorem rightH_iff (h : Hp) : rightH h = true ↔ RightH h := by
  unfold rightH
  simp only [Bool.and_eq_true, decide_eq_true_eq, List.all_eq_true]
  constructor
  · rintro ⟨⟨h1, h2⟩, h3⟩; exact ⟨h1, fun p hp => (rightB_iff p).1 (h2 p hp), h3⟩
  · rintro ⟨h1, h2, h3⟩; exact ⟨⟨h1, fun p hp => (rightB_iff p).2 (h2 p hp)⟩, h3⟩
theorem lastFull_snoc : ∀ (h : Hp) (p : Pg), lastFull (h ++ [p]) = !p.isEmpty
  | [], p => rfl
  | [q], p => rfl
  | q :: r :: h, p => by
    show lastFull (r :: h ++ [p]) = _
    exact lastFull_snoc (r :: h) p
theorem hsnoc_cases (h : Hp) : h = [] ∨ ∃ g p, h = g ++ [p] := by
  rcases List.eq_nil_or_concat h with e | ⟨g, p, e⟩
  · exact .inl e
  · exact .inr ⟨g, p, by simpa using e⟩
theorem lastFull_set {h : Hp} {i : Nat} {p : Pg} (hl : lastFull h = true) (hp : p ≠ []) : lastFull (h.set i p) = true := by
  have hp' : (!p.isEmpty) = true := by cases p; exact absurd rfl hp; rfl
  rcases hsnoc_cases h with rfl | ⟨g, q, rfl⟩
  · simp [lastFull]
  · rw [lastFull_snoc] at hl
    by_cases hi : i < g.length
    · rw [List.set_append_left _ _ hi, lastFull_snoc]; exact hl
    · rw [List.set_append_right _ _ (by omega)]
      cases hk : i - g.length with
      | zero => simp only [List.set_cons_zero]; rw [lastFull_snoc]; exact hp'
      | succ k => simp only [List.set_cons_succ, List.set_nil]; rw [lastFull_snoc]; exact hl

/-! ### Getting -/
def gotH (h : Hp) (x y : Int) : Option (List UInt8) := if 0 ≤ x then (match h[x.toNat]? with | some p => gotP p y | none => none) else none
def getHD (h : Hp) (x y : Int) : List UInt8 := if rightH h then (gotH h x y).getD [] else []
def getHE (h : Hp) (x y : Int) : Int := if rightH h then (if (gotH h x y).isSome then 0 else 18) else 1
theorem gotH_at {h : Hp} {i : Nat} (hi : i < h.length) (y : Int) : gotH h i y = gotP h[i] y := by
  unfold gotH
  rw [if_pos (by omega), Int.toNat_natCast, List.getElem?_eq_getElem hi]
theorem gotH_out {h : Hp} {x : Int} (hx : x < 0 ∨ (h.length : Int) ≤ x) (y : Int) : gotH h x y = none := by
  unfold gotH
  split
  · rw [List.getElem?_eq_none (by omega)]
  · rfl
theorem gotP_nil (y : Int) : gotP [] y = none := by unfold gotP; split <;> simp
theorem gotH_set {h : Hp} {i : Nat} (hi : i < h.length) (p : Pg) (x y : Int) : gotH (h.set i p) x y = if x = i then gotP p y else gotH h x y := by
  by_cases hx : 0 ≤ x ∧ x < h.length
  · obtain ⟨k, rfl⟩ : ∃ k : Nat, x = k := ⟨x.toNat, by omega⟩
    have hk : k < h.length := by omega
    rw [gotH_at (by rw [List.length_set]; exact hk), List.getElem_set]
    by_cases e : i = k
    · subst e; rw [if_pos rfl, if_pos rfl]
    · rw [if_neg e, if_neg (by omega), gotH_at hk]
  · rw [gotH_out (by rw [List.length_set]; omega), if_neg (by omega), gotH_out (by omega)]
theorem gotH_snoc (h : Hp) (p : Pg) (x y : Int) : gotH (h ++ [p]) x y = if x = h.length then gotP p y else gotH h x y := by
  by_cases hx : 0 ≤ x ∧ x ≤ h.length
  · obtain ⟨k, rfl⟩ : ∃ k : Nat, x = k := ⟨x.toNat, by omega⟩
    rw [gotH_at (by simp; omega)]
    by_cases e : k < h.length
    · rw [List.getElem_append_left e, if_neg (by omega), gotH_at e]
    · have : k = h.length := by omega
      subst this
      rw [if_pos rfl]; simp
  · rw [gotH_out (by simp; omega), if_neg (by omega), gotH_out (by omega)]

/-! ### Putting -/
def fitH (n : Int) : Hp → Nat
  | [] => 0
  | p :: h => if fitsB p n then 0 else fitH n h + 1
theorem fitH_le (n : Int) : ∀ h, fitH n h ≤ h.length
  | [] => Nat.le_refl _
  | p :: h => by
    have := fitH_le n h
    unfold fitH
    split <;> simp <;> omega
theorem fitH_fits (n : Int) : ∀ (h : Hp) (hl : fitH n h < h.length), fitsB h[fitH n h] n = true
  | p :: h, hl => by
    unfold fitH at hl
    by_cases hf : fitsB p n = true
    · have e : fitH n (p :: h) = 0 := by simp [fitH, hf]
      simp only [e, List.getElem_cons_zero]; exact hf
    · rw [if_neg hf] at hl
      have e : fitH n (p :: h) = fitH n h + 1 := by simp [fitH, hf]
      have := fitH_fits n h (by simpa using hl)
      simp only [e, List.getElem_cons_succ]; exact this
theorem fitH_not (n : Int) : ∀ (h : Hp) (i : Nat) (hi : i < h.length), i < fitH n h → fitsB h[i] n = false
  | p :: h, i, hi, hlt => by
    unfold fitH at hlt
    by_cases hf : fitsB p n = true
    · rw [if_pos hf] at hlt; omega
    · rw [if_neg hf] at hlt
      cases i with
      | zero => simpa using hf
      | succ i => simpa using fitH_not n h i (by simpa using hi) (by omega)
/-- Is there room, when there may be so many pages? -/
def canH (h : Hp) (d : List UInt8) (most : Int) : Bool := decide (fitH d.length h < h.length) || (decide ((h.length : Int) < most) && decide (h.length < 4096))
def putHR (h : Hp) (d : List UInt8) : Hp := if hf : fitH d.length h < h.length then h.set (fitH d.length h) (putR h[fitH d.length h] d) else h ++ [putR [] d]
def slotH (h : Hp) (d : List UInt8) : Nat := if hf : fitH d.length h < h.length then placeP h[fitH d.length h] else 0
def okH (h : Hp) (d : List UInt8) (most : Int) : Bool := rightH h && decide (d.length ≤ 1016) && canH h d most
def putHP (h : Hp) (d : List UInt8) (most : Int) : Hp := if okH h d most then putHR h d else h
def putHX (h : Hp) (d : List UInt8) (most : Int) : Nat := if okH h d most then fitH d.length h else 0
def putHY (h : Hp) (d : List UInt8) (most : Int) : Nat := if okH h d most then slotH h d else 0
def putHE (h : Hp) (d : List UInt8) (most : Int) : Int := if rightH h then (if d.length ≤ 1016 then (if canH h d most then 0 else 17) else 3) else 1
theorem right_nil : RightP [] := ⟨by simp, fun s hs => absurd hs (by simp), by simp [sizeP], rfl⟩
theorem fits_nil {d : List UInt8} (hd : d.length ≤ 1016) : fitsP [] d.length := ⟨right_nil, by omega, by omega, by simp [placeP, sizeP]; omega⟩
theorem putR_ne (p : Pg) (d : List UInt8) : putR p d ≠ [] := fun e => by
  have := (putR_len p d).2
  rw [e] at this; simp at this
theorem putH_right {h : Hp} {d : List UInt8} {most : Int} (ho : okH h d most = true) : RightH (putHR h d) := by
  unfold okH at ho
  simp only [Bool.and_eq_true, decide_eq_true_eq] at ho
  obtain ⟨⟨hr, hd⟩, hc⟩ := ho
  have hr := (rightH_iff h).1 hr
  unfold putHR
  split
  · rename_i hf
    have hfit := (fitsB_iff _ _).1 (fitH_fits _ h hf)
    refine ⟨by rw [List.length_set]; exact hr.len, fun p hp => ?_, lastFull_set hr.last (putR_ne _ _)⟩
    rcases List.mem_or_eq_of_mem_set hp with hp | rfl
    · exact hr.pages p hp
    · exact putR_right hfit.1 hfit
  · rename_i hf
    unfold canH at hc
    simp only [Bool.or_eq_true, Bool.and_eq_true, decide_eq_true_eq] at hc
    have hc' : (h.length : Int) < most ∧ h.length < 4096 := by
      rcases hc with hc | hc
      · exact absurd hc hf
      · exact hc
    refine ⟨by rw [List.length_append]; simp; omega, fun p hp => ?_, ?_⟩
    · rcases List.mem_append.1 hp with hp | hp
      · exact hr.pages p hp
      · obtain rfl := List.mem_singleton.1 hp
        exact putR_right right_nil (fits_nil hd)
    · rw [lastFull_snoc]
      have := putR_ne [] d
      cases hq : putR [] d with
      | nil => exact absurd hq this
      | cons _ _ => rfl
theorem gotP_putR (p : Pg) (d : List UInt8) (y : Int) : gotP (putR p d) y = if y = placeP p then some d else gotP p y := by
  by_cases hy : 0 ≤ y
  · obtain ⟨k, rfl⟩ : ∃ k : Nat, y = k := ⟨y.toNat, by omega⟩
    by_cases e : k = placeP p
    · subst e; rw [if_pos rfl, gotP_put]
    · rw [if_neg (by omega)]
      by_cases hk : k < p.length
      · exact gotP_put_other d hk e
      · rw [gotP_none (p := p) (.inl (List.getElem?_eq_none (by omega)))]
        refine gotP_none (.inl (List.getElem?_eq_none ?_))
        have := placeP_le p
        unfold putR
        split
        · rw [List.length_append]; simp; omega
        · rw [List.length_set]; omega
  · rw [if_neg (by omega)]
    unfold gotP
    rw [if_neg hy, if_neg hy]
/-- What is got behind a row was put: it, at its place; all else as it was. -/
theorem gotH_put (h : Hp) (d : List UInt8) (x y : Int) : gotH (putHR h d) x y = if x = fitH d.length h ∧ y = slotH h d then some d else gotH h x y := by
  have hle := fitH_le d.length h
  unfold putHR slotH
  by_cases hf : fitH d.length h < h.length
  · rw [dif_pos hf, dif_pos hf, gotH_set hf]
    by_cases hx : x = fitH d.length h
    · rw [if_pos hx, gotP_putR]
      by_cases hy : y = placeP h[fitH d.length h]
      · rw [if_pos hy, if_pos ⟨hx, hy⟩]
      · rw [if_neg hy, if_neg (fun hh => hy hh.2), hx, gotH_at hf]
    · rw [if_neg hx, if_neg (fun hh => hx hh.1)]
  · have e : fitH d.length h = h.length := by omega
    rw [dif_neg hf, dif_neg hf, gotH_snoc, e]
    by_cases hx : x = h.length
    · rw [if_pos hx, gotP_putR]
      by_cases hy : y = 0
      · have hy' : y = ((placeP [] : Nat) : Int) := hy
        rw [if_pos hy', if_pos ⟨hx, hy⟩]
      · have hy' : ¬ y = ((placeP [] : Nat) : Int) := hy
        rw [if_neg hy', if_neg (fun hh => hy hh.2), gotP_nil, gotH_out (by omega)]
    · rw [if_neg hx, if_neg (fun hh => hx hh.1)]
theorem gotH_place (h : Hp) (d : List UInt8) : gotH h (fitH d.length h : Nat) (slotH h d : Nat) = none := by
  have hle := fitH_le d.length h
  unfold slotH
  by_cases hf : fitH d.length h < h.length
  · rw [dif_pos hf, gotH_at hf]; exact gotP_place _
  · exact gotH_out (by omega) _
theorem putH_few {h : Hp} {d : List UInt8} {most : Int} (ho : okH h d most = true) (hm : (h.length : Int) ≤ most ∨ h = []) : ((putHR h d).length : Int) ≤ most ∨ putHR h d = [] := by
  unfold okH canH at ho
  simp only [Bool.and_eq_true, Bool.or_eq_true, decide_eq_true_eq] at ho
  unfold putHR
  split
  · rename_i hf
    left
    rw [List.length_set]
    rcases hm with hm | rfl
    · exact hm
    · simp [fitH] at hf
  · rename_i hf
    left
    rw [List.length_append]
    rcases ho.2 with hc | hc
    · exact absurd hc hf
    · simp; omega
end Go.Proofs.Ytnneeojgakjalaa
