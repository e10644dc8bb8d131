/- Several of my texts laid together, each as it was: Ha, Hb, Hk, Hl, Hm. Conditions: each names its own. -/
import Derived.Test.YtneebnankghhgaaGB
import Derived.Test.YtneebnankghhgaaGD
/- Heaps, plainly: pages in a row; where a row would be put; putting, getting, cutting, setting; what each leaves as it was. Nothing of any program here. Conditions: each lemma names its own. -/
namespace Go.Proofs.Ytneebnankghhgaa
open Go.RowKit

abbrev Hp := List Pg
def lastFull : Hp → Bool
  | [] => true
  | [p] => !p.isEmpty
  | _ :: h => lastFull h
def rightH (h : Hp) : Bool := decide (h.length ≤ 4096) && h.all rightB && lastFull h
structure RightH (h : Hp) : Prop where
  len : h.length ≤ 4096
  pages : ∀ p ∈ h, RightP p
  last : lastFull h = true
theorem rightH_iff (h : Hp) : rightH h = true ↔ RightH h := by
  unfold rightH
  simp only [Bool.and_eq_true, decide_eq_true_eq, List.all_eq_true]
  constructor
  · rintro ⟨⟨h1, h2⟩, h3⟩; exact ⟨h1, fun p hp => (rightB_iff p).1 (h2 p hp), h3⟩
  · rintro ⟨h1, h2, h3⟩; exact ⟨⟨h1, fun p hp => (rightB_iff p).2 (h2 p hp)⟩, h3⟩
theorem lastFull_snoc : ∀ (h : Hp) (p : Pg), lastFull (h ++ [p]) = !p.isEmpty
  | [], p => rfl
  | [q], p => rfl
  | q :: r :: h, p => by
    show lastFull (r :: h ++ [p]) = _
    exact lastFull_snoc (r :: h) p
theorem hsnoc_cases (h : Hp) : h = [] ∨ ∃ g p, h = g ++ [p] := by
  rcases List.eq_nil_or_concat h with e | ⟨g, p, e⟩
  · exact .inl e
  · exact .inr ⟨g, p, by simpa using e⟩
theorem lastFull_set {h : Hp} {i : Nat} {p : Pg} (hl : lastFull h = true) (hp : p ≠ []) : lastFull (h.set i p) = true := by
  have hp' : (!p.isEmpty) = true := by cases p; exact absurd rfl hp; rfl
  rcases hsnoc_cases h with rfl | ⟨g, q, rfl⟩
  · simp [lastFull]
  · rw [lastFull_snoc] at hl
    by_cases hi : i < g.length
    · rw [List.set_append_left _ _ hi, lastFull_snoc]; exact hl
    · rw [List.set_append_right _ _ (by omega)]
      cases hk : i - g.length with
      | zero => simp only [List.set_cons_zero]; rw [lastFull_snoc]; exact hp'
      | succ k => simp only [List.set_cons_succ, List.set_nil]; rw [lastFull_snoc]; exact hl

/-! ### Getting -/
def gotH (h : Hp) (x y : Int) : Option (List UInt8) := if 0 ≤ x then (match h[x.toNat]? with | some p => gotP p y | none => none) else none
def getHD (h : Hp) (x y : Int) : List UInt8 := if rightH h then (gotH h x y).getD [] else []
def getHE (h : Hp) (x y : Int) : Int := if rightH h then (if (gotH h x y).isSome then 0 else 18) else 1
theorem gotH_at {h : Hp} {i : Nat} (hi : i < h.length) (y : Int) : gotH h i y = gotP h[i] y := by
  unfold gotH
  rw [if_pos (by omega), Int.toNat_natCast, List.getElem?_eq_getElem hi]
theorem gotH_out {h : Hp} {x : Int} (hx : x < 0 ∨ (h.length : Int) ≤ x) (y : Int) : gotH h x y = none := by
  unfold gotH
  split
  · rw [List.getElem?_eq_none (by omega)]
  · rfl
theorem gotP_nil (y : Int) : gotP [] y = none := by unfold gotP; split <;> simp
theorem gotH_set {h : Hp} {i : Nat} (hi : i < h.length) (p : Pg) (x y : Int) : gotH (h.set i p) x y = if x = i then gotP p y else gotH h x y := by
  by_cases hx : 0 ≤ x ∧ x < h.length
  · obtain ⟨k, rfl⟩ : ∃ k : Nat, x = k := ⟨x.toNat, by omega⟩
    have hk : k < h.length := by omega
    rw [gotH_at (by rw [List.length_set]; exact hk), List.getElem_set]
    by_cases e : i = k
    · subst e; rw [if_pos rfl, if_pos rfl]
    · rw [if_neg e, if_neg (by omega), gotH_at hk]
  · rw [gotH_out (by rw [List.length_set]; omega), if_neg (by omega), gotH_out (by omega)]
theorem gotH_snoc (h : Hp) (p : Pg) (x y : Int) : gotH (h ++ [p]) x y = if x = h.length then gotP p y else gotH h x y := by
  by_cases hx : 0 ≤ x ∧ x ≤ h.length
  · obtain ⟨k, rfl⟩ : ∃ k : Nat, x = k := ⟨x.toNat, by omega⟩
    rw [gotH_at (by simp; omega)]
    by_cases e : k < h.length
    · rw [List.getElem_append_left e, if_neg (by omega), gotH_at e]
    · have : k = h.length := by omega
      subst this
      rw [if_pos rfl]; simp
  · rw [gotH_out (by simp; omega), if_neg (by omega), gotH_out (by omega)]

/-! ### Putting -/
def fitH (n : Int) : Hp → Nat
  | [] => 0
  | p :: h => if fitsB p n then 0 else fitH n h + 1
theorem fitH_le (n : Int) : ∀ h, fitH n h ≤ h.length
  | [] => Nat.le_refl _
  | p :: h => by
    have := fitH_le n h
    unfold fitH
    split <;> simp <;> omega
theorem fitH_fits (n : Int) : ∀ (h : Hp) (hl : fitH n h < h.length), fitsB h[fitH n h] n = true
  | p :: h, hl => by
    unfold fitH at hl
    by_cases hf : fitsB p n = true
    · have e : fitH n (p :: h) = 0 := by simp [fitH, hf]
      simp only [e, List.getElem_cons_zero]; exact hf
    · rw [if_neg hf] at hl
      have e : fitH n (p :: h) = fitH n h + 1 := by simp [fitH, hf]
      have := fitH_fits n h (by simpa using hl)
      simp only [e, List.getElem_cons_succ]; exact this
theorem fitH_not (n : Int) : ∀ (h : Hp) (i : Nat) (hi : i < h.length), i < fitH n h → fitsB h[i] n = false
  | p :: h, i, hi, hlt => by
    unfold fitH at hlt
    by_cases hf : fitsB p n = true
    · rw [if_pos hf] at hlt; omega
    · rw [if_neg hf] at hlt
      cases i with
      | zero => simpa using hf
      | succ i => simpa using fitH_not n h i (by simpa using hi) (by omega)
/-- Is there room, when there may be so many pages? -/
def canH (h : Hp) (d : List UInt8) (most : Int) : Bool := decide (fitH d.length h < h.length) || (decide ((h.length : Int) < most) && decide (h.length < 4096))
def putHR (h : Hp) (d : List UInt8) : Hp := if hf : fitH d.length h < h.length then h.set (fitH d.length h) (putR h[fitH d.length h] d) else h ++ [putR [] d]
def slotH (h : Hp) (d : List UInt8) : Nat := if hf : fitH d.length h < h.length then placeP h[fitH d.length h] else 0
def okH (h : Hp) (d : List UInt8) (most : Int) : Bool := rightH h && decide (d.length ≤ 1016) && canH h d most
def putHP (h : Hp) (d : List UInt8) (most : Int) : Hp := if okH h d most then putHR h d else h
def putHX (h : Hp) (d : List UInt8) (most : Int) : Nat := if okH h d most then fitH d.length h else 0
def putHY (h : Hp) (d : List UInt8) (most : Int) : Nat := if okH h d most then slotH h d else 0
def putHE (h : Hp) (d : List UInt8) (most : Int) : Int := if rightH h then (if d.length ≤ 1016 then (if canH h d most then 0 else 17) else 3) else 1
theorem right_nil : RightP [] := ⟨by simp, fun s hs => absurd hs (by simp), by simp [sizeP], rfl⟩
theorem fits_nil {d : List UInt8} (hd : d.length ≤ 1016) : fitsP [] d.length := ⟨right_nil, by omega, by omega, by simp [placeP, sizeP]; omega⟩
theorem putR_ne (p : Pg) (d : List UInt8) : putR p d ≠ [] := fun e => by
  have := (putR_len p d).2
  rw [e] at this; simp at this
theorem putH_right {h : Hp} {d : List UInt8} {most : Int} (ho : okH h d most = true) : RightH (putHR h d) := by
  unfold okH at ho
  simp only [Bool.and_eq_true, decide_eq_true_eq] at ho
  obtain ⟨⟨hr, hd⟩, hc⟩ := ho
  have hr := (rightH_iff h).1 hr
  unfold putHR
  split
  · rename_i hf
    have hfit := (fitsB_iff _ _).1 (fitH_fits _ h hf)
    refine ⟨by rw [List.length_set]; exact hr.len, fun p hp => ?_, lastFull_set hr.last (putR_ne _ _)⟩
    rcases List.mem_or_eq_of_mem_set hp with hp | rfl
    · exact hr.pages p hp
    · exact putR_right hfit.1 hfit
  · rename_i hf
    unfold canH at hc
    simp only [Bool.or_eq_true, Bool.and_eq_true, decide_eq_true_eq] at hc
    have hc' : (h.length : Int) < most ∧ h.length < 4096 := by
      rcases hc with hc | hc
      · exact absurd hc hf
      · exact hc
    refine ⟨by rw [List.length_append]; simp; omega, fun p hp => ?_, ?_⟩
    · rcases List.mem_append.1 hp with hp | hp
      · exact hr.pages p hp
      · obtain rfl := List.mem_singleton.1 hp
        exact putR_right right_nil (fits_nil hd)
    · rw [lastFull_snoc]
      have := putR_ne [] d
      cases hq : putR [] d with
      | nil => exact absurd hq this
      | cons _ _ => rfl
theorem gotP_putR (p : Pg) (d : List UInt8) (y : Int) : gotP (putR p d) y = if y = placeP p then some d else gotP p y := by
  by_cases hy : 0 ≤ y
  · obtain ⟨k, rfl⟩ : ∃ k : Nat, y = k := ⟨y.toNat, by omega⟩
    by_cases e : k = placeP p
    · subst e; rw [if_pos rfl, gotP_put]
    · rw [if_neg (by omega)]
      by_cases hk : k < p.length
      · exact gotP_put_other d hk e
      · rw [gotP_none (p := p) (.inl (List.getElem?_eq_none (by omega)))]
        refine gotP_none (.inl (List.getElem?_eq_none ?_))
        have := placeP_le p
        unfold putR
        split
        · rw [List.length_append]; simp; omega
        · rw [List.length_set]; omega
  · rw [if_neg (by omega)]
    unfold gotP
    rw [if_neg hy, if_neg hy]
/-- What is got behind a row was put: it, at its place; all else as it was. -/
theorem gotH_put (h : Hp) (d : List UInt8) (x y : Int) : gotH (putHR h d) x y = if x = fitH d.length h ∧ y = slotH h d then some d else gotH h x y := by
  have hle := fitH_le d.length h
  unfold putHR slotH
  by_cases hf : fitH d.length h < h.length
  · rw [dif_pos hf, dif_pos hf, gotH_set hf]
    by_cases hx : x = fitH d.length h
    · rw [if_pos hx, gotP_putR]
      by_cases hy : y = placeP h[fitH d.length h]
      · rw [if_pos hy, if_pos ⟨hx, hy⟩]
      · rw [if_neg hy, if_neg (fun hh => hy hh.2), hx, gotH_at hf]
    · rw [if_neg hx, if_neg (fun hh => hx hh.1)]
  · have e : fitH d.length h = h.length := by omega
    rw [dif_neg hf, dif_neg hf, gotH_snoc, e]
    by_cases hx : x = h.length
    · rw [if_pos hx, gotP_putR]
      by_cases hy : y = 0
      · have hy' : y = ((placeP [] : Nat) : Int) := hy
        rw [if_pos hy', if_pos ⟨hx, hy⟩]
      · have hy' : ¬ y = ((placeP [] : Nat) : Int) := hy
        rw [if_neg hy', if_neg (fun hh => hy hh.2), gotP_nil, gotH_out (by omega)]
    · rw [if_neg hx, if_neg (fun hh => hx hh.1)]
theorem gotH_place (h : Hp) (d : List UInt8) : gotH h (fitH d.length h : Nat) (slotH h d : Nat) = none := by
  have hle := fitH_le d.length h
  unfold slotH
  by_cases hf : fitH d.length h < h.length
  · rw [dif_pos hf, gotH_at hf]; exact gotP_place _
  · exact gotH_out (by omega) _
theorem putH_few {h : Hp} {d : List UInt8} {most : Int} (ho : okH h d most = true) (hm : (h.length : Int) ≤ most ∨ h = []) : ((putHR h d).length : Int) ≤ most ∨ putHR h d = [] := by
  unfold okH canH at ho
  simp only [Bool.and_eq_true, Bool.or_eq_true, decide_eq_true_eq] at ho
  unfold putHR
  split
  · rename_i hf
    left
    rw [List.length_set]
    rcases hm with hm | rfl
    · exact hm
    · simp [fitH] at hf
  · rename_i hf
    left
    rw [List.length_append]
    rcases ho.2 with hc | hc
    · exact absurd hc hf
    · simp; omega
end Go.Proofs.Ytneebnankghhgaa

/- Heaps, plainly: cutting and setting; what each leaves as it was. Nothing of any program here. Conditions: each lemma names its own. -/
namespace Go.Proofs.Ytneebnankghhgaa
open Go.RowKit

/-- Pages at the end without a slot are gone. -/
def trimH : Hp → Hp
  | [] => []
  | p :: h => match trimH h with
    | [] => if p.isEmpty then [] else [p]
    | q :: g => p :: q :: g
theorem trimH_le : ∀ h : Hp, (trimH h).length ≤ h.length
  | [] => Nat.le_refl _
  | p :: h => by
    have := trimH_le h
    unfold trimH
    split
    · split <;> simp
    · rename_i e
      rw [e] at this
      simp only [List.length_cons] at this ⊢; omega
theorem trimH_mem : ∀ (h : Hp) (p : Pg), p ∈ trimH h → p ∈ h
  | [], p, hp => hp
  | q :: h, p, hp => by
    unfold trimH at hp
    split at hp
    · split at hp
      · exact absurd hp (by simp)
      · rcases List.mem_singleton.1 hp with rfl; simp
    · rename_i e
      rcases List.mem_cons.1 hp with rfl | hp
      · simp
      · exact List.mem_cons_of_mem _ (trimH_mem h p (by rw [e]; exact hp))
theorem trimH_last : ∀ h : Hp, lastFull (trimH h) = true
  | [] => rfl
  | p :: h => by
    have := trimH_last h
    unfold trimH
    split
    · split
      · rfl
      · rename_i hp
        show (!p.isEmpty) = true
        simpa using hp
    · rename_i e
      rw [e] at this
      exact this
theorem trimH_get : ∀ (h : Hp) (i : Nat), (trimH h)[i]? = h[i]? ∨ ((trimH h)[i]? = none ∧ h[i]? = some [])
  | [], i => .inl rfl
  | p :: h, i => by
    have ih := fun j => trimH_get h j
    unfold trimH
    split
    · rename_i e
      rw [e] at ih
      have hrest : ∀ j, h[j]? = none ∨ h[j]? = some [] := fun j => by
        rcases ih j with hj | ⟨_, hj⟩
        · left; rw [← hj]; rfl
        · exact .inr hj
      split
      · rename_i hp
        have hp : p = [] := List.isEmpty_iff.1 hp
        cases i with
        | zero => right; exact ⟨rfl, by simp [hp]⟩
        | succ i =>
          rcases hrest i with hj | hj
          · left; simp [hj]
          · right; exact ⟨rfl, by simpa using hj⟩
      · cases i with
        | zero => left; rfl
        | succ i =>
          rcases hrest i with hj | hj
          · left; simp [hj]
          · right; exact ⟨by simp, by simpa using hj⟩
    · rename_i q g e
      rw [e] at ih
      cases i with
      | zero => left; rfl
      | succ i =>
        rcases ih i with hj | ⟨hj1, hj2⟩
        · left; simpa using hj
        · right; exact ⟨by simpa using hj1, by simpa using hj2⟩
theorem gotH_trim (h : Hp) (x y : Int) : gotH (trimH h) x y = gotH h x y := by
  unfold gotH
  split
  · rcases trimH_get h x.toNat with e | ⟨e1, e2⟩
    · rw [e]
    · rw [e1, e2]; exact (gotP_nil y).symm
  · rfl

theorem trimP_get : ∀ (p : Pg) (i : Nat), (trimP p)[i]? = p[i]? ∨ ((trimP p)[i]? = none ∧ ∃ d, p[i]? = some (false, d))
  | [], i => .inl rfl
  | s :: p, i => by
    have ih := fun j => trimP_get p j
    unfold trimP
    split
    · rename_i e
      rw [e] at ih
      have hrest : ∀ j, p[j]? = none ∨ ∃ d, p[j]? = some (false, d) := fun j => by
        rcases ih j with hj | ⟨_, hj⟩
        · left; rw [← hj]; rfl
        · exact .inr hj
      by_cases hs : s.1 = true
      · rw [if_pos hs]
        cases i with
        | zero => left; rfl
        | succ i =>
          rcases hrest i with hj | ⟨d, hj⟩
          · left; simp [hj]
          · right; exact ⟨by simp, d, by simpa using hj⟩
      · rw [if_neg hs]
        cases i with
        | zero => right; exact ⟨rfl, s.2, by simp; exact Prod.ext (by simpa using hs) rfl⟩
        | succ i =>
          rcases hrest i with hj | ⟨d, hj⟩
          · left; simp [hj]
          · right; exact ⟨rfl, d, by simpa using hj⟩
    · rename_i q g e
      rw [e] at ih
      cases i with
      | zero => left; rfl
      | succ i =>
        rcases ih i with hj | ⟨hj1, d, hj2⟩
        · left; simpa using hj
        · right; exact ⟨by simpa using hj1, d, by simpa using hj2⟩
theorem gotP_trim (p : Pg) (y : Int) : gotP (trimP p) y = gotP p y := by
  unfold gotP
  split
  · rcases trimP_get p y.toNat with e | ⟨e1, d, e2⟩
    · rw [e]
    · rw [e1, e2]
  · rfl
theorem gotP_setS (p : Pg) (i : Nat) (s : Slot) (y : Int) (hi : i < p.length) : gotP (p.set i s) y = if y = i then (if s.1 then some s.2 else none) else gotP p y := by
  unfold gotP
  by_cases h0 : 0 ≤ y
  · rw [if_pos h0, if_pos h0, List.getElem?_set]
    by_cases e : y = i
    · have e' : i = y.toNat := by omega
      rw [if_pos e, if_pos e', if_pos hi]
      obtain ⟨u, d⟩ := s
      cases u <;> rfl
    · rw [if_neg e, if_neg (by omega)]
  · rw [if_neg h0, if_neg h0, if_neg (by omega)]
theorem gotP_cut {p : Pg} {i : Nat} (hi : i < p.length) (y : Int) : gotP (cutR p i) y = if y = i then none else gotP p y := by
  unfold cutR
  rw [gotP_trim, gotP_setS p i noS y hi]; rfl
theorem last_trimP : ∀ p : Pg, lastUsed (trimP p) = true
  | [] => rfl
  | s :: p => by
    have := last_trimP p
    unfold trimP
    split
    · split
      · rename_i hs; exact hs
      · rfl
    · rename_i e
      rw [e] at this
      exact this
theorem sizeP_trim : ∀ p : Pg, sizeP (trimP p) ≤ sizeP p
  | [] => Nat.le_refl _
  | s :: p => by
    have := sizeP_trim p
    unfold trimP
    split
    · rename_i e
      rw [e] at this
      split
      · simp only [sizeP] at this ⊢; omega
      · have h4 : 4 ≤ sizeP p := by have := sizeP_ge p; omega
        simp only [sizeP] at this ⊢; omega
    · rename_i e
      rw [e] at this
      simp only [sizeP] at this ⊢; omega
theorem cutR_right {p : Pg} {i : Nat} (h : RightP p) (hi : i < p.length) : RightP (cutR p i) := by
  unfold cutR
  have h1 := sizeP_set p i hi noS
  have h2 := sizeP_trim (p.set i noS)
  have h3 := trimP_le (p.set i noS)
  rw [List.length_set] at h3
  simp only [noS, List.length_nil] at h1
  refine ⟨by have := h.len; omega, fun s hs => ?_, by have := h.size; have e : noS = (false, []) := rfl; rw [e] at h2 ⊢; omega, last_trimP _⟩
  have hm : s ∈ p.set i noS := by
    obtain ⟨j, hj⟩ := List.getElem?_of_mem hs
    rcases trimP_get (p.set i noS) j with e | ⟨e, _⟩
    · rw [e] at hj; exact List.mem_of_getElem? hj
    · rw [e] at hj; cases hj
  rcases List.mem_or_eq_of_mem_set hm with hm | rfl
  · exact h.slots s hm
  · exact ⟨fun _ => rfl, by simp [noS]⟩

/-! ### Cutting -/
def cutHR (h : Hp) (x y : Nat) : Hp := if hx : x < h.length then trimH (h.set x (cutR h[x] y)) else h
def cutHP (h : Hp) (x y : Int) : Hp := if getHE h x y = 0 then cutHR h x.toNat y.toNat else h
theorem getHE_cases (h : Hp) (x y : Int) : (getHE h x y ≠ 0 ∧ getHD h x y = [] ∧ (rightH h = true → gotH h x y = none)) ∨ (RightH h ∧ ∃ i k : Nat, x = i ∧ y = k ∧ ∃ hi : i < h.length, k < h[i].length ∧ gotP h[i] k = some (getHD h x y) ∧ getHE h x y = 0) := by
  cases hr : rightH h with
  | false => left; unfold getHE getHD; rw [hr]; exact ⟨by simp, by simp, fun e => by cases e⟩
  | true =>
    cases hg : gotH h x y with
    | none => left; unfold getHE getHD; rw [hr, hg]; exact ⟨by simp, by simp, fun _ => rfl⟩
    | some d =>
      right
      have hg0 := hg
      unfold gotH at hg
      split at hg
      · rename_i h0
        split at hg
        · rename_i p e
          obtain ⟨hl, e⟩ := List.getElem?_eq_some_iff.1 e
          obtain ⟨k0, hk, hkd⟩ := gotP_some hg
          refine ⟨(rightH_iff h).1 hr, x.toNat, y.toNat, by omega, by omega, hl, by rw [e]; exact hk, ?_, ?_⟩
          · unfold getHD
            rw [hr, hg0, e, show ((y.toNat : Nat) : Int) = y by omega]; exact hg
          · unfold getHE; rw [hr, hg0]; rfl
        · cases hg
      · cases hg
theorem cutH_right {h : Hp} {i k : Nat} (hr : RightH h) (hi : i < h.length) (hk : k < h[i].length) : RightH (cutHR h i k) := by
  unfold cutHR
  rw [dif_pos hi]
  refine ⟨?_, fun p hp => ?_, trimH_last _⟩
  · have := trimH_le (h.set i (cutR h[i] k))
    rw [List.length_set] at this
    have := hr.len; omega
  · rcases List.mem_or_eq_of_mem_set (trimH_mem _ _ hp) with hp | rfl
    · exact hr.pages p hp
    · exact cutR_right (hr.pages _ (List.getElem_mem hi)) hk
/-- What is got behind a row was cut: nothing at its place; all else as it was. -/
theorem gotH_cut {h : Hp} {i k : Nat} (hi : i < h.length) (hk : k < h[i].length) (x y : Int) : gotH (cutHR h i k) x y = if x = i ∧ y = k then none else gotH h x y := by
  unfold cutHR
  rw [dif_pos hi, gotH_trim, gotH_set hi]
  by_cases hx : x = i
  · rw [if_pos hx, gotP_cut hk]
    by_cases hy : y = k
    · rw [if_pos hy, if_pos ⟨hx, hy⟩]
    · rw [if_neg hy, if_neg (fun hh => hy hh.2), hx, gotH_at hi]
  · rw [if_neg hx, if_neg (fun hh => hx hh.1)]
theorem cutH_few (h : Hp) (i k : Nat) : (cutHR h i k).length ≤ h.length := by
  unfold cutHR
  split
  · have := trimH_le (h.set i (cutR h[i] k))
    rw [List.length_set] at this
    exact this
  · exact Nat.le_refl _
end Go.Proofs.Ytneebnankghhgaa

/- Heaps, plainly: setting: in its place, or cut and put anew; what it leaves as it was. Nothing of any program here. Conditions: each lemma names its own. -/
namespace Go.Proofs.Ytneebnankghhgaa
open Go.RowKit

/-- Is there room on the row's own page? -/
def roomH (h : Hp) (x y : Int) (d : List UInt8) : Bool := match h[x.toNat]? with | some p => roomB p y d | none => false
def inH (h : Hp) (x y : Int) (d : List UInt8) : Hp := match h[x.toNat]? with | some p => h.set x.toNat (p.set y.toNat (true, d)) | none => h
def leftH (h : Hp) (x y : Int) : Hp := cutHR h x.toNat y.toNat
/-- May it be set? -/
def setOK (h : Hp) (x y : Int) (d : List UInt8) (most : Int) : Bool := decide (getHE h x y = 0) && decide (d.length ≤ 1016) && (roomH h x y d || canH (leftH h x y) d most)
def setHP (h : Hp) (x y : Int) (d : List UInt8) (most : Int) : Hp := if setOK h x y d most then (if roomH h x y d then inH h x y d else putHR (leftH h x y) d) else h
def setHX (h : Hp) (x y : Int) (d : List UInt8) (most : Int) : Int := if setOK h x y d most then (if roomH h x y d then x else (fitH d.length (leftH h x y) : Nat)) else 0
def setHY (h : Hp) (x y : Int) (d : List UInt8) (most : Int) : Int := if setOK h x y d most then (if roomH h x y d then y else (slotH (leftH h x y) d : Nat)) else 0
def setHE (h : Hp) (x y : Int) (d : List UInt8) (most : Int) : Int :=
  if getHE h x y = 0 then (if d.length ≤ 1016 then (if roomH h x y d || canH (leftH h x y) d most then 0 else 17) else 3) else getHE h x y
theorem setH_not {h : Hp} {x y : Int} (d : List UInt8) (most : Int) (he : getHE h x y ≠ 0) : setHP h x y d most = h ∧ setHX h x y d most = 0 ∧ setHY h x y d most = 0 ∧ setHE h x y d most = getHE h x y := by
  have ho : setOK h x y d most = false := by unfold setOK; simp [he]
  unfold setHP setHX setHY setHE
  rw [ho, if_neg he]; exact ⟨rfl, rfl, rfl, rfl⟩
theorem setH_long {h : Hp} {x y : Int} {d : List UInt8} (most : Int) (he : getHE h x y = 0) (hd : ¬ d.length ≤ 1016) : setHP h x y d most = h ∧ setHX h x y d most = 0 ∧ setHY h x y d most = 0 ∧ setHE h x y d most = 3 := by
  have ho : setOK h x y d most = false := by unfold setOK; simp [hd]
  unfold setHP setHX setHY setHE
  rw [ho, if_pos he, if_neg hd]; exact ⟨rfl, rfl, rfl, rfl⟩
theorem setH_in {h : Hp} {x y : Int} {d : List UInt8} (most : Int) (he : getHE h x y = 0) (hd : d.length ≤ 1016) (hr : roomH h x y d = true) : setHP h x y d most = inH h x y d ∧ setHX h x y d most = x ∧ setHY h x y d most = y ∧ setHE h x y d most = 0 := by
  have ho : setOK h x y d most = true := by unfold setOK; simp [hd, he, hr]
  unfold setHP setHX setHY setHE
  rw [ho, if_pos he, if_pos hd, hr]; exact ⟨rfl, rfl, rfl, rfl⟩
theorem setH_moved {h : Hp} {x y : Int} {d : List UInt8} {most : Int} (he : getHE h x y = 0) (hd : d.length ≤ 1016) (hr : roomH h x y d = false) (hc : canH (leftH h x y) d most = true) :
    setHP h x y d most = putHR (leftH h x y) d ∧ setHX h x y d most = (fitH d.length (leftH h x y) : Nat) ∧ setHY h x y d most = (slotH (leftH h x y) d : Nat) ∧ setHE h x y d most = 0 := by
  have ho : setOK h x y d most = true := by unfold setOK; simp [hd, he, hc]
  unfold setHP setHX setHY setHE
  rw [ho, if_pos he, if_pos hd, hr, hc]; exact ⟨rfl, rfl, rfl, rfl⟩
theorem setH_full {h : Hp} {x y : Int} {d : List UInt8} {most : Int} (he : getHE h x y = 0) (hd : d.length ≤ 1016) (hr : roomH h x y d = false) (hc : canH (leftH h x y) d most = false) : setHP h x y d most = h ∧ setHX h x y d most = 0 ∧ setHY h x y d most = 0 ∧ setHE h x y d most = 17 := by
  have ho : setOK h x y d most = false := by unfold setOK; simp [hr, hc]
  unfold setHP setHX setHY setHE
  rw [ho, if_pos he, if_pos hd, hr, hc]; exact ⟨rfl, rfl, rfl, rfl⟩

/-- Where a row is that is there. -/
theorem got_parts {h : Hp} {x y : Int} (he : getHE h x y = 0) : RightH h ∧ ∃ i k : Nat, x = i ∧ y = k ∧ ∃ hi : i < h.length, k < h[i].length ∧ gotP h[i] k = some (getHD h x y) := by
  rcases getHE_cases h x y with ⟨h1, _⟩ | ⟨hr, i, k, rfl, rfl, hi, hk, hg, _⟩
  · exact absurd he h1
  · exact ⟨hr, i, k, rfl, rfl, hi, hk, hg⟩
theorem getE_of {p : Pg} {k : Nat} {d : List UInt8} (hr : RightP p) (hg : gotP p k = some d) : getE p k = 0 ∧ getD p k = d := by
  obtain ⟨e1, e2⟩ := get_some ((rightB_iff p).2 hr) hg
  exact ⟨e2, e1⟩
theorem inH_right {h : Hp} {x y : Int} {d : List UInt8} (he : getHE h x y = 0) (hr : roomH h x y d = true) : RightH (inH h x y d) := by
  obtain ⟨hR, i, k, rfl, rfl, hi, hk, hg⟩ := got_parts he
  unfold roomH at hr
  unfold inH
  rw [Int.toNat_natCast, List.getElem?_eq_getElem hi] at hr ⊢
  dsimp only at hr ⊢
  have hp := hR.pages _ (List.getElem_mem hi)
  have hn := setP_right (getE_of hp hg).1 hr
  refine ⟨by rw [List.length_set]; exact hR.len, fun p hm => ?_, lastFull_set hR.last ?_⟩
  · rcases List.mem_or_eq_of_mem_set hm with hm | rfl
    · exact hR.pages p hm
    · exact hn
  · intro e
    have h1 : ((h[i]).set (k : Int).toNat (true, d)).length = 0 := by rw [e]; rfl
    rw [List.length_set] at h1
    omega
theorem gotH_in {h : Hp} {x y : Int} {d : List UInt8} (he : getHE h x y = 0) (x' y' : Int) : gotH (inH h x y d) x' y' = if x' = x ∧ y' = y then some d else gotH h x' y' := by
  obtain ⟨hR, i, k, rfl, rfl, hi, hk, hg⟩ := got_parts he
  unfold inH
  rw [Int.toNat_natCast, Int.toNat_natCast, List.getElem?_eq_getElem hi]
  dsimp only
  rw [gotH_set hi]
  by_cases hx : x' = i
  · rw [if_pos hx, gotP_setS _ _ _ _ hk]
    by_cases hy : y' = k
    · rw [if_pos hy]; simp [hx, hy]
    · rw [if_neg hy, if_neg (fun hh => hy hh.2), hx, gotH_at hi]
  · rw [if_neg hx, if_neg (fun hh => hx hh.1)]
theorem leftH_right {h : Hp} {x y : Int} (he : getHE h x y = 0) : RightH (leftH h x y) := by
  obtain ⟨hR, i, k, rfl, rfl, hi, hk, hg⟩ := got_parts he
  exact cutH_right hR hi hk
theorem gotH_left {h : Hp} {x y : Int} (he : getHE h x y = 0) (x' y' : Int) : gotH (leftH h x y) x' y' = if x' = x ∧ y' = y then none else gotH h x' y' := by
  obtain ⟨hR, i, k, rfl, rfl, hi, hk, hg⟩ := got_parts he
  exact gotH_cut hi hk x' y'
theorem leftH_few (h : Hp) (x y : Int) : (leftH h x y).length ≤ h.length := cutH_few h _ _
theorem inH_len (h : Hp) (x y : Int) (d : List UInt8) : (inH h x y d).length = h.length := by
  unfold inH
  split
  · rw [List.length_set]
  · rfl
theorem moved_ok {h : Hp} {x y : Int} {d : List UInt8} {most : Int} (he : getHE h x y = 0) (hd : d.length ≤ 1016) (hc : canH (leftH h x y) d most = true) : okH (leftH h x y) d most = true := by
  unfold okH
  rw [(rightH_iff _).2 (leftH_right he), hc]
  simp [hd]
end Go.Proofs.Ytneebnankghhgaa

/- Heaps, plainly: the list of all rows, by their places. Nothing of any program here. Conditions: each lemma names its own. -/
namespace Go.Proofs.Ytneebnankghhgaa
open Go.RowKit

/-- A row with its place. -/
abbrev At := Nat × Nat × List UInt8
def pageL (i : Nat) : Nat → Pg → List At
  | _, [] => []
  | k, s :: p => if s.1 then (i, k, s.2) :: pageL i (k + 1) p else pageL i (k + 1) p
def heapL : Nat → Hp → List At
  | _, [] => []
  | i, p :: h => pageL i 0 p ++ heapL (i + 1) h
def listH (h : Hp) : List At := if rightH h then heapL 0 h else []
theorem pageL_append (i : Nat) : ∀ (k : Nat) (A B : Pg), pageL i k (A ++ B) = pageL i k A ++ pageL i (k + A.length) B
  | k, [], B => rfl
  | k, s :: A, B => by
    have h := pageL_append i (k + 1) A B
    rw [List.cons_append, pageL, pageL, h, List.length_cons, show k + 1 + A.length = k + (A.length + 1) by omega]
    split <;> simp
theorem heapL_append : ∀ (i : Nat) (A B : Hp), heapL i (A ++ B) = heapL i A ++ heapL (i + A.length) B
  | i, [], B => rfl
  | i, p :: A, B => by
    have h := heapL_append (i + 1) A B
    rw [List.cons_append, heapL, heapL, h, List.length_cons, show i + 1 + A.length = i + (A.length + 1) by omega, List.append_assoc]
theorem pageL_take (i : Nat) {p : Pg} {k : Nat} (h : k < p.length) : pageL i 0 (p.take (k + 1)) = pageL i 0 (p.take k) ++ (if (p[k]).1 then [(i, k, (p[k]).2)] else []) := by
  rw [List.take_succ_eq_append_getElem h, pageL_append, List.length_take, Nat.min_eq_left (by omega), Nat.zero_add]
  rfl
theorem heapL_take {h : Hp} {i : Nat} (hi : i < h.length) : heapL 0 (h.take (i + 1)) = heapL 0 (h.take i) ++ pageL i 0 h[i] := by
  rw [List.take_succ_eq_append_getElem hi, heapL_append, List.length_take, Nat.min_eq_left (by omega), Nat.zero_add]
  simp [heapL]
theorem pageL_mem (i : Nat) : ∀ (k : Nat) (p : Pg) (a b : Nat) (d : List UInt8), (a, b, d) ∈ pageL i k p ↔ a = i ∧ k ≤ b ∧ p[b - k]? = some (true, d)
  | k, [], a, b, d => by simp [pageL]
  | k, s :: p, a, b, d => by
    have ih := pageL_mem i (k + 1) p a b d
    have hsplit : ((a, b, d) ∈ pageL i k (s :: p)) ↔ (s.1 = true ∧ a = i ∧ b = k ∧ d = s.2) ∨ (a, b, d) ∈ pageL i (k + 1) p := by
      rw [pageL]
      split
      · rename_i hs
        rw [List.mem_cons]
        simp only [Prod.mk.injEq]
        constructor
        · rintro (⟨h1, h2, h3⟩ | h)
          · exact .inl ⟨hs, h1, h2, h3⟩
          · exact .inr h
        · rintro (⟨_, h1, h2, h3⟩ | h)
          · exact .inl ⟨h1, h2, h3⟩
          · exact .inr h
      · rename_i hs
        constructor
        · exact fun h => .inr h
        · rintro (⟨h0, _⟩ | h)
          · exact absurd h0 hs
          · exact h
    rw [hsplit, ih]
    constructor
    · rintro (⟨h0, rfl, rfl, rfl⟩ | ⟨h1, h2, h3⟩)
      · refine ⟨rfl, Nat.le_refl _, ?_⟩
        rw [Nat.sub_self, List.getElem?_cons_zero, ← h0]
      · refine ⟨h1, by omega, ?_⟩
        rw [show b - k = (b - (k + 1)) + 1 by omega, List.getElem?_cons_succ]; exact h3
    · rintro ⟨h1, h2, h3⟩
      by_cases hb : b = k
      · subst hb
        rw [Nat.sub_self, List.getElem?_cons_zero] at h3
        obtain rfl := Option.some.inj h3
        exact .inl ⟨rfl, h1, rfl, rfl⟩
      · right
        rw [show b - k = (b - (k + 1)) + 1 by omega, List.getElem?_cons_succ] at h3
        exact ⟨h1, by omega, h3⟩
theorem heapL_mem : ∀ (i : Nat) (h : Hp) (a b : Nat) (d : List UInt8), (a, b, d) ∈ heapL i h ↔ i ≤ a ∧ ∃ p, h[a - i]? = some p ∧ p[b]? = some (true, d)
  | i, [], a, b, d => by simp [heapL]
  | i, p :: h, a, b, d => by
    have ih := heapL_mem (i + 1) h a b d
    rw [heapL, List.mem_append, ih, pageL_mem]
    constructor
    · rintro (⟨rfl, _, h3⟩ | ⟨h1, q, h2, h3⟩)
      · exact ⟨Nat.le_refl _, p, by simp, by simpa using h3⟩
      · exact ⟨by omega, q, by rw [show a - i = (a - (i + 1)) + 1 by omega, List.getElem?_cons_succ]; exact h2, h3⟩
    · rintro ⟨h1, q, h2, h3⟩
      by_cases ha : a = i
      · subst ha
        rw [Nat.sub_self, List.getElem?_cons_zero] at h2
        obtain rfl := Option.some.inj h2
        exact .inl ⟨rfl, Nat.zero_le _, by simpa using h3⟩
      · right
        rw [show a - i = (a - (i + 1)) + 1 by omega, List.getElem?_cons_succ] at h2
        exact ⟨by omega, q, h2, h3⟩
theorem heapL_got (h : Hp) (a b : Nat) (d : List UInt8) : (a, b, d) ∈ heapL 0 h ↔ gotH h a b = some d := by
  rw [heapL_mem]
  unfold gotH gotP
  rw [if_pos (by omega), Int.toNat_natCast, Nat.sub_zero]
  constructor
  · rintro ⟨_, p, h1, h2⟩
    rw [h1]
    dsimp only
    rw [if_pos (by omega), Int.toNat_natCast, h2]
  · intro h1
    refine ⟨Nat.zero_le _, ?_⟩
    split at h1
    · rename_i p e
      refine ⟨p, e, ?_⟩
      rw [if_pos (by omega), Int.toNat_natCast] at h1
      split at h1
      · rename_i d' e2
        obtain rfl := Option.some.inj h1
        exact e2
      · cases h1
    · cases h1

/-- By pages, then slots. -/
def ltA (u v : At) : Prop := u.1 < v.1 ∨ u.1 = v.1 ∧ u.2.1 < v.2.1
theorem pageL_sorted (i : Nat) : ∀ (k : Nat) (p : Pg), (pageL i k p).Pairwise ltA
  | k, [] => List.Pairwise.nil
  | k, s :: p => by
    have ih := pageL_sorted i (k + 1) p
    rw [pageL]
    split
    · refine List.Pairwise.cons (fun v hv => ?_) ih
      obtain ⟨a, b, d⟩ := v
      obtain ⟨rfl, h2, _⟩ := (pageL_mem i (k + 1) p a b d).1 hv
      exact .inr ⟨rfl, by show k < b; omega⟩
    · exact ih
theorem heapL_sorted : ∀ (i : Nat) (h : Hp), (heapL i h).Pairwise ltA
  | i, [] => List.Pairwise.nil
  | i, p :: h => by
    rw [heapL]
    refine List.pairwise_append.2 ⟨pageL_sorted i 0 p, heapL_sorted (i + 1) h, fun u hu v hv => ?_⟩
    obtain ⟨a, b, d⟩ := u
    obtain ⟨a', b', d'⟩ := v
    obtain ⟨rfl, _, _⟩ := (pageL_mem i 0 p a b d).1 hu
    obtain ⟨h1, _⟩ := (heapL_mem (a + 1) h a' b' d').1 hv
    exact .inl (by show a < a'; omega)
end Go.Proofs.Ytneebnankghhgaa

/- What HeapHolds keeps, plainly: the rows that were put, each with its place: just what is got, each place once. Nothing of any program here. Conditions: each lemma names its own. -/
namespace Go.Proofs.Ytneebnankghhgaa
open Go.RowKit

/-- A row that was put: its page, its slot, its bytes. -/
structure KeptR where
  x : Int
  y : Int
  d : List UInt8
def apart (u v : KeptR) : Prop := ¬ (u.x = v.x ∧ u.y = v.y)
/-- The rows are just what the heap has, each place once. -/
structure Holds (h : Hp) (R : List KeptR) : Prop where
  right : RightH h
  got : ∀ x y d, gotH h x y = some d ↔ ∃ r ∈ R, r.x = x ∧ r.y = y ∧ r.d = d
  once : R.Pairwise apart
/-- The first row of that place. -/
def atR : List KeptR → Int → Int → Option Nat
  | [], _, _ => none
  | r :: R, x, y => if r.x = x ∧ r.y = y then some 0 else (atR R x y).map (· + 1)
/-- What 'place' answers. -/
def placeR (R : List KeptR) (x y : Int) : Int := match atR R x y with | some i => i | none => -1
theorem atR_some : ∀ {R : List KeptR} {x y : Int} {i : Nat}, atR R x y = some i → ∃ h : i < R.length, R[i].x = x ∧ R[i].y = y
  | r :: R, x, y, i, h => by
    unfold atR at h
    split at h
    · rename_i hr
      obtain rfl := Option.some.inj h
      exact ⟨by simp, hr⟩
    · cases hj : atR R x y with
      | none => rw [hj] at h; cases h
      | some j =>
        rw [hj] at h
        obtain rfl : j + 1 = i := Option.some.inj h
        obtain ⟨h1, h2⟩ := atR_some hj
        exact ⟨by simpa using h1, by simpa using h2⟩
theorem atR_none : ∀ {R : List KeptR} {x y : Int}, atR R x y = none → ∀ r ∈ R, ¬ (r.x = x ∧ r.y = y)
  | [], _, _, _, r, hr => absurd hr (by simp)
  | q :: R, x, y, h, r, hr => by
    unfold atR at h
    split at h
    · cases h
    · rename_i hq
      rcases List.mem_cons.1 hr with rfl | hr
      · exact hq
      · cases hj : atR R x y with
        | none => exact atR_none hj r hr
        | some j => rw [hj] at h; cases h
theorem atR_of {R : List KeptR} {x y : Int} {r : KeptR} (hr : r ∈ R) (hx : r.x = x) (hy : r.y = y) : ∃ i, atR R x y = some i := by
  cases h : atR R x y with
  | none => exact absurd ⟨hx, hy⟩ (atR_none h r hr)
  | some i => exact ⟨i, rfl⟩
theorem place_nonneg {R : List KeptR} {x y : Int} : (0 ≤ placeR R x y) ↔ ∃ i, atR R x y = some i := by
  unfold placeR
  cases h : atR R x y with
  | none => simp
  | some i => simp
theorem holds_start : Holds [] [] := ⟨⟨by simp, fun p hp => absurd hp (by simp), rfl⟩, fun x y d => by unfold gotH; split <;> simp, List.Pairwise.nil⟩
/-- Is there such a row? Just if one is got. -/
theorem holds_at {h : Hp} {R : List KeptR} (H : Holds h R) (x y : Int) : (gotH h x y).isSome = true ↔ 0 ≤ placeR R x y := by
  rw [place_nonneg]
  constructor
  · intro hs
    obtain ⟨d, hd⟩ := Option.isSome_iff_exists.1 hs
    obtain ⟨r, hr, h1, h2, _⟩ := (H.got x y d).1 hd
    exact atR_of hr h1 h2
  · rintro ⟨i, hi⟩
    obtain ⟨hl, h1, h2⟩ := atR_some hi
    have := (H.got x y R[i].d).2 ⟨R[i], List.getElem_mem hl, h1, h2, rfl⟩
    rw [this]; rfl
theorem holds_get {h : Hp} {R : List KeptR} (H : Holds h R) {x y : Int} {i : Nat} (hi : atR R x y = some i) : ∃ hl : i < R.length, gotH h x y = some R[i].d := by
  obtain ⟨hl, h1, h2⟩ := atR_some hi
  exact ⟨hl, (H.got x y R[i].d).2 ⟨R[i], List.getElem_mem hl, h1, h2, rfl⟩⟩
theorem getHE_holds {h : Hp} {R : List KeptR} (H : Holds h R) (x y : Int) : getHE h x y = if 0 ≤ placeR R x y then 0 else 18 := by
  have hr := (rightH_iff h).2 H.right
  unfold getHE
  rw [hr, if_pos rfl]
  by_cases hs : (gotH h x y).isSome = true
  · rw [if_pos hs, if_pos ((holds_at H x y).1 hs)]
  · rw [if_neg hs, if_neg (fun e => hs ((holds_at H x y).2 e))]
theorem apart_mem {R : List KeptR} (h : R.Pairwise apart) {u v : KeptR} (hu : u ∈ R) (hv : v ∈ R) (hx : u.x = v.x) (hy : u.y = v.y) : u = v := by
  induction h with
  | nil => exact absurd hu (by simp)
  | cons h1 _ ih =>
    rcases List.mem_cons.1 hu with e | hu'
    · rcases List.mem_cons.1 hv with e2 | hv'
      · rw [e, e2]
      · exact absurd ⟨hx, hy⟩ (e ▸ h1 v hv')
    · rcases List.mem_cons.1 hv with e2 | hv'
      · exact absurd ⟨hx.symm, hy.symm⟩ (e2 ▸ h1 u hu')
      · exact ih hu' hv'
/-- A row more. -/
theorem holds_put {h g : Hp} {R : List KeptR} (H : Holds h R) {x y : Int} {d : List UInt8} (hg : RightH g) (hgot : ∀ x' y', gotH g x' y' = if x' = x ∧ y' = y then some d else gotH h x' y') (hnew : gotH h x y = none) : Holds g (R ++ [⟨x, y, d⟩]) ∧ placeR R x y = -1 := by
  have hno : ∀ r ∈ R, ¬ (r.x = x ∧ r.y = y) := fun r hr ⟨e1, e2⟩ => by
    have := (H.got x y r.d).2 ⟨r, hr, e1, e2, rfl⟩
    rw [hnew] at this; cases this
  refine ⟨⟨hg, fun x' y' d' => ?_, ?_⟩, ?_⟩
  · rw [hgot]
    constructor
    · intro e
      split at e
      · rename_i hh
        obtain rfl := Option.some.inj e
        exact ⟨⟨x, y, d⟩, by simp, hh.1.symm, hh.2.symm, rfl⟩
      · obtain ⟨r, hr, e⟩ := (H.got x' y' d').1 e
        exact ⟨r, by simp [hr], e⟩
    · rintro ⟨r, hr, h1, h2, h3⟩
      rcases List.mem_append.1 hr with hr | hr
      · rw [if_neg (fun hh => hno r hr ⟨h1.trans hh.1, h2.trans hh.2⟩)]
        exact (H.got x' y' d').2 ⟨r, hr, h1, h2, h3⟩
      · obtain rfl := List.mem_singleton.1 hr
        rw [if_pos ⟨h1.symm, h2.symm⟩, ← h3]
  · refine List.pairwise_append.2 ⟨H.once, by simp, fun u hu v hv => ?_⟩
    obtain rfl := List.mem_singleton.1 hv
    exact hno u hu
  · unfold placeR
    cases e : atR R x y with
    | none => rfl
    | some i =>
      obtain ⟨hl, h1, h2⟩ := atR_some e
      exact absurd ⟨h1, h2⟩ (hno _ (List.getElem_mem hl))
/-- A row less. -/
theorem holds_cut {h g : Hp} {R : List KeptR} (H : Holds h R) {x y : Int} {i : Nat} (hi : atR R x y = some i) (hg : RightH g) (hgot : ∀ x' y', gotH g x' y' = if x' = x ∧ y' = y then none else gotH h x' y') : Holds g (R.eraseIdx i) := by
  obtain ⟨hl, hx, hy⟩ := atR_some hi
  refine ⟨hg, fun x' y' d' => ?_, H.once.sublist (List.eraseIdx_sublist R i)⟩
  rw [hgot]
  constructor
  · intro e
    split at e
    · cases e
    · rename_i hh
      obtain ⟨r, hr, h1, h2, h3⟩ := (H.got x' y' d').1 e
      refine ⟨r, ?_, h1, h2, h3⟩
      rw [List.mem_eraseIdx_iff_getElem]
      obtain ⟨j, hj, rfl⟩ := List.mem_iff_getElem.1 hr
      exact ⟨j, hj, fun e => hh ⟨by subst e; rw [← h1, hx], by subst e; rw [← h2, hy]⟩, rfl⟩
  · rintro ⟨r, hr, h1, h2, h3⟩
    rw [List.mem_eraseIdx_iff_getElem] at hr
    obtain ⟨j, hj, hne, rfl⟩ := hr
    rw [if_neg (fun hh => ?_)]
    · exact (H.got x' y' d').2 ⟨R[j], List.getElem_mem hj, h1, h2, h3⟩
    · have hp := List.pairwise_iff_getElem.1 H.once
      rcases Nat.lt_or_gt_of_ne hne with hlt | hlt
      · exact hp j i hj hl hlt ⟨by rw [h1, hx]; exact hh.1, by rw [h2, hy]; exact hh.2⟩
      · exact hp i j hl hj hlt ⟨by rw [h1, hx]; exact hh.1.symm, by rw [h2, hy]; exact hh.2.symm⟩

/-! ### As many rows as the heap has -/
theorem len_sub {α : Type} : ∀ (A B : List α), A.Nodup → (∀ a ∈ A, a ∈ B) → A.length ≤ B.length
  | [], B, _, _ => Nat.zero_le _
  | a :: A, B, hn, hs => by
    obtain ⟨s, t, rfl⟩ := List.append_of_mem (hs a (by simp))
    rw [List.nodup_cons] at hn
    have h := len_sub A (s ++ t) hn.2 (fun b hb => by
      have h1 := hs b (by simp [hb])
      rw [List.mem_append, List.mem_cons] at h1
      rw [List.mem_append]
      rcases h1 with h1 | rfl | h1
      · exact .inl h1
      · exact absurd hb hn.1
      · exact .inr h1)
    rw [List.length_append] at h
    rw [List.length_append, List.length_cons, List.length_cons]
    omega
def keptOf (t : At) : KeptR := ⟨t.1, t.2.1, t.2.2⟩
theorem apart_nodup {R : List KeptR} (h : R.Pairwise apart) : R.Nodup := h.imp (fun hab e => hab ⟨by rw [e], by rw [e]⟩)
theorem got_nat {h : Hp} {x y : Int} {d : List UInt8} (hg : gotH h x y = some d) : 0 ≤ x ∧ 0 ≤ y := by
  unfold gotH at hg
  split at hg
  · rename_i h0
    refine ⟨h0, ?_⟩
    split at hg
    · exact (gotP_some hg).1
    · cases hg
  · cases hg
theorem holds_count {h : Hp} {R : List KeptR} (H : Holds h R) : (listH h).length = R.length := by
  unfold listH
  rw [(rightH_iff h).2 H.right, if_pos rfl]
  have hA : ((heapL 0 h).map keptOf).Pairwise apart := List.pairwise_map.2 ((heapL_sorted 0 h).imp (fun {u v} hab ⟨e1, e2⟩ => by
    have e1 : (u.1 : Int) = v.1 := e1
    have e2 : (u.2.1 : Int) = v.2.1 := e2
    rcases hab with h1 | ⟨_, h2⟩ <;> omega))
  have hmem : ∀ r, r ∈ (heapL 0 h).map keptOf ↔ r ∈ R := fun r => by
    rw [List.mem_map]
    constructor
    · rintro ⟨⟨a, b, d⟩, hm, rfl⟩
      obtain ⟨r, hr, h1, h2, h3⟩ := (H.got a b d).1 ((heapL_got h a b d).1 hm)
      have : r = keptOf (a, b, d) := by
        obtain ⟨x, y, e⟩ := r
        dsimp only at h1 h2 h3
        subst h1 h2 h3; rfl
      rw [← this]; exact hr
    · intro hr
      have hg := (H.got r.x r.y r.d).2 ⟨r, hr, rfl, rfl, rfl⟩
      obtain ⟨hx, hy⟩ := got_nat hg
      refine ⟨(r.x.toNat, r.y.toNat, r.d), (heapL_got h _ _ _).2 (by rw [Int.toNat_of_nonneg hx, Int.toNat_of_nonneg hy]; exact hg), ?_⟩
      unfold keptOf
      rw [Int.toNat_of_nonneg hx, Int.toNat_of_nonneg hy]
  have h1 := len_sub _ _ (apart_nodup hA) (fun a ha => (hmem a).1 ha)
  have h2 := len_sub _ _ (apart_nodup H.once) (fun a ha => (hmem a).2 ha)
  rw [List.length_map] at h1 h2
  omega
/-- Each row that the heap has is one of those that were put. -/
theorem holds_each {h : Hp} {R : List KeptR} (H : Holds h R) {i : Nat} (hi : i < (heapL 0 h).length) : ∃ j, atR R ((heapL 0 h)[i]).1 ((heapL 0 h)[i]).2.1 = some j ∧ ∃ hj : j < R.length, R[j].d = ((heapL 0 h)[i]).2.2 := by
  have hm : (heapL 0 h)[i] ∈ heapL 0 h := List.getElem_mem hi
  generalize (heapL 0 h)[i] = t at hm ⊢
  obtain ⟨a, b, d⟩ := t
  have hg := (heapL_got h a b d).1 hm
  obtain ⟨r, hr, h1, h2, h3⟩ := (H.got a b d).1 hg
  obtain ⟨j, hj⟩ := atR_of hr h1 h2
  obtain ⟨hl, hg2⟩ := holds_get H hj
  rw [hg] at hg2
  exact ⟨j, hj, hl, (Option.some.inj hg2).symm⟩
theorem sorted_at {h : Hp} {i : Nat} (hi : i + 1 < (heapL 0 h).length) : ltA ((heapL 0 h)[i]) ((heapL 0 h)[i + 1]) :=
  List.pairwise_iff_getElem.1 (heapL_sorted 0 h) i (i + 1) (by omega) hi (by omega)
end Go.Proofs.Ytneebnankghhgaa
