/- Heaps, plainly: setting: in its place, or cut and put anew; what it leaves as it was. Nothing of any program here. Conditions: each lemma names its own. -/
import Derived.Test.YtnneeojgakjalaaHb
import Derived.Test.YtnneeojgakjalaaQq
namespace Go.Proofs.Ytnneeojgakjalaa
open Go.RowKit

/-- Is there room on the row's own page? -/
def roomH (h : Hp) (x y : Int) (d : List UInt8) : Bool := match h[x.toNat]? with | some p => roomB p y d | none => false
def inH (h : Hp) (x y : Int) (d : List UInt8) : Hp := match h[x.toNat]? with | some p => h.set x.toNat (p.set y.toNat (true, d)) | none => h
def leftH (h : Hp) (x y : Int) : Hp := cutHR h x.toNat y.toNat
/-- May it be set? -/
def setOK (h : Hp) (x y : Int) (d : List UInt8) (most : Int) : Bool := decide (getHE h x y = 0) && decide (d.length ≤ 1016) && (roomH h x y d || canH (leftH h x y) d most)
def setHP (h : Hp) (x y : Int) (d : List UInt8) (most : Int) : Hp := if setOK h x y d most then (if roomH h x y d then inH h x y d else putHR (leftH h x y) d) else h
def setHX (h : Hp) (x y : Int) (d : List UInt8) (most : Int) : Int := if setOK h x y d most then (if roomH h x y d then x else (fitH d.length (leftH h x y) : Nat)) else 0
def setHY (h : Hp) (x y : Int) (d : List UInt8) (most : Int) : Int := if setOK h x y d most then (if roomH h x y d then y else (slotH (leftH h x y) d : Nat)) else 0
def setHE (h : Hp) (x y : Int) (d : List UInt8) (most : Int) : Int :=
  if getHE h x y = 0 then (if d.length ≤ 1016 then (if roomH h x y d || canH (leftH h x y) d most then 0 else 17) else 3) else getHE h x y
theorem setH_not {h : Hp} {x y : Int} (d : List UInt8) (most : Int) (he : getHE h x y ≠ 0) : setHP h x y d most = h ∧ setHX h x y d most = 0 ∧ setHY h x y d most = 0 ∧ setHE h x y d most = getHE h x y := by
  have ho : setOK h x y d most = false := by unfold setOK; simp [he]
  unfold setHP setHX setHY setHE
  rw [ho, if_neg he]; exact ⟨rfl, rfl, rfl, rfl⟩
theorem setH_long {h : Hp} {x y : Int} {d : List UInt8} (most : Int) (he : getHE h x y = 0) (hd : ¬ d.length ≤ 1016) : setHP h x y d most = h ∧ setHX h x y d most = 0 ∧ setHY h x y d most = 0 ∧ setHE h x y d most = 3 := by
  have ho : setOK h x y d most = false := by unfold setOK; simp [hd]
  unfold setHP setHX setHY setHE
  rw [ho, if_pos he, if_neg hd]; exact ⟨rfl, rfl, rfl, rfl⟩
theorem setH_in {h : Hp} {x y : Int} {d : List UInt8} (most : Int) (he : getHE h x y = 0) (hd : d.length ≤ 1016) (hr : roomH h x y d = true) : setHP h x y d most = inH h x y d ∧ setHX h x y d most = x ∧ setHY h x y d most = y ∧ setHE h x y d most = 0 := by
  have ho : setOK h x y d most = true := by unfold setOK; simp [hd, he, hr]
  unfold setHP setHX setHY setHE
  rw [ho, if_pos he, if_pos hd, hr]; exact ⟨rfl, rfl, rfl, rfl⟩
theorem setH_moved {h : Hp} {x y : Int} {d : List UInt8} {most : Int} (he : getHE h x y = 0) (hd : d.length ≤ 1016) (hr : roomH h x y d = false) (hc : canH (leftH h x y) d most = true) :
    setHP h x y d most = putHR (leftH h x y) d ∧ setHX h x y d most = (fitH d.length (leftH h x y) : Nat) ∧ setHY h x y d most = (slotH (leftH h x y) d : Nat) ∧ setHE h x y d most = 0 := by
  have ho : setOK h x y d most = true := by unfold setOK; simp [hd, he, hc]
  unfold setHP setHX setHY setHE
  rw [ho, if_pos he, if_pos hd, hr, hc]; exact ⟨rfl, rfl, rfl, rfl⟩
theorem setH_full {h : Hp} {x y : Int} {d : List UInt8} {most : Int} (he : getHE h x y = 0) (hd : d.length ≤ 1016) (hr : roomH h x y d = false) (hc : canH (leftH h x y) d most = false) : setHP h x y d most = h ∧ setHX h x y d most = 0 ∧ setHY h x y d most = 0 ∧ setHE h x y d most = 17 := by
  have ho : setOK h x y d most = false := by unfold setOK; simp [hr, hc]
  unfold setHP setHX setHY setHE
  rw [ho, if_pos he, if_pos hd, hr, hc]; exact ⟨rfl, rfl, rfl, rfl⟩

/-- Where a row is that is there. -/
theorem got_parts {h : Hp} {x y : Int} (he : getHE h x y = 0) : RightH h ∧ ∃ i k : Nat, x = i ∧ y = k ∧ ∃ hi : i < h.length, k < h[i].length ∧ gotP h[i] k = some (getHD h x y) := by
  rcases getHE_cases h x y with ⟨h1, _⟩ | ⟨hr, i, k, rfl, rfl, hi, hk, hg, _⟩
  · exact absurd he h1
  · exact ⟨hr, i, k, rfl, rfl, hi, hk, hg⟩
theorem getE_of {p : Pg} {k : Nat} {d : List UInt8} (hr : RightP p) (hg : gotP p k = some d) : getE p k = 0 ∧ getD p k = d := by
  obtain ⟨e1, e2⟩ := get_some ((rightB_iff p).2 hr) hg
  exact ⟨e2, e1⟩
theorem inH_right {h : Hp} {x y : Int} {d : List UInt8} (he : getHE h x y = 0) (hr : roomH h x y d = true) : RightH (inH h x y d) := by
  obtain ⟨hR, i, k, rfl, rfl, hi, hk, hg⟩ := got_parts he
  unfold roomH at hr
  unfold inH
  rw [Int.toNat_natCast, List.getElem?_eq_getElem hi] at hr ⊢
  dsimp only at hr ⊢
  have hp := hR.pages _ (List.getElem_mem hi)
  have hn := setP_right (getE_of hp hg).1 hr
  refine ⟨by rw [List.length_set]; exact hR.len, fun p hm => ?_, lastFull_set hR.last ?_⟩
  · rcases List.mem_or_eq_of_mem_set hm with hm | rfl
    · exact hR.pages p hm
    · exact hn
  · intro e
    have h1 : ((h[i]).set (k : Int).toNat (true, d)).length = 0 := by rw [e]; rfl
    rw [List.length_set] at h1
    omega
theorem gotH_in {h : Hp} {x y : Int} {d : List UInt8} (he : getHE h x y = 0) (x' y' : Int) : gotH (inH h x y d) x' y' = if x' = x ∧ y' = y then some d else gotH h x' y' := by
  obtain ⟨hR, i, k, rfl, rfl, hi, hk, hg⟩ := got_parts he
  unfold inH
  rw [Int.toNat_natCast, Int.toNat_natCast, List.getElem?_eq_getElem hi]
  dsimp only
  rw [gotH_set hi]
  by_cases hx : x' = i
  · rw [if_pos hx, gotP_setS _ _ _ _ hk]
    by_cases hy : y' = k
    · rw [if_pos hy]; simp [hx, hy]
    · rw [if_neg hy, if_neg (fun hh => hy hh.2), hx, gotH_at hi]
  · rw [if_neg hx, if_neg (fun hh => hx hh.1)]
theorem leftH_right {h : Hp} {x y : Int} (he : getHE h x y = 0) : RightH (leftH h x y) := by
  obtain ⟨hR, i, k, rfl, rfl, hi, hk, hg⟩ := got_parts he
  exact cutH_right hR hi hk
theorem gotH_left {h : Hp} {x y : Int} (he : getHE h x y = 0) (x' y' : Int) : gotH (leftH h x y) x' y' = if x' = x ∧ y' = y then none else gotH h x' y' := by
  obtain ⟨hR, i, k, rfl, rfl, hi, hk, hg⟩ := got_parts he
  exact gotH_cut hi hk x' y'
theorem leftH_few (h : Hp) (x y : Int) : (leftH h x y).length ≤ h.length := cutH_few h _ _
theorem inH_len (h : Hp) (x y : Int) (d : List UInt8) : (inH h x y d).length = h.length := by
  unfold inH
  split
  · rw [List.length_set]
  · rfl
theorem moved_ok {h : Hp} {x y : Int} {d : List UInt8} {most : Int} (he : getHE h x y = 0) (hd : d.length ≤ 1016) (hc : canH (leftH h x y) d most = true) : okH (leftH h x y) d most = true := by
  unfold okH
  rw [(rightH_iff _).2 (leftH_right he), hc]
  simp [hd]
end Go.Proofs.Ytnneeojgakjalaa
