/- What reads what (layer 17), plainly: which error is told, the order and what stands below as they are told, what reads a name; the least of those that may come next. -/
import Derived.Test.YtadlelhdjakmmaaZ1
namespace Go.Proofs.Ytadlelhdjakmmaa

def nextAll (l : List Gn) : List ByteArray := orderG l l.length []
/-- Has each name that is read a place? -/
def knownG (l : List Gn) : Prop := ∀ x ∈ l, ∀ r ∈ x.2, r ∈ l.map (·.1)
instance decKnown (l : List Gn) : Decidable (knownG l) := by unfold knownG; infer_instance
instance decOnce (l : List ByteArray) : Decidable l.Nodup := by unfold List.Nodup; infer_instance
/-- Check's answer. -/
def checkG (l : List Gn) : Int :=
  if 16 < l.length then 3 else if ¬ (l.map (·.1)).Nodup then 6 else if ¬ knownG l then 5 else if (nextAll l).length < l.length then 20 else 0
/-- Order's answer. -/
def orderM (l : List Gn) : List ByteArray × Int := if checkG l = 0 then (nextAll l, 0) else ([], checkG l)
/-- Below's answer. -/
def belowM (l : List Gn) (name : ByteArray) : List ByteArray × Int :=
  if checkG l ≠ 0 then ([], checkG l) else if name ∈ l.map (·.1) then (belowG l (nextAll l) name, 0) else ([], 5)
structure AllG (l : List Gn) : Prop where
  few : l.length ≤ 16
  once : (l.map (·.1)).Nodup
  known : knownG l
  len : (nextAll l).length = l.length
  good : GoodG l (nextAll l)
theorem check_ok {l : List Gn} (h : checkG l = 0) : AllG l := by
  unfold checkG at h
  by_cases h1 : 16 < l.length
  · rw [if_pos h1] at h; exact absurd h (by decide)
  rw [if_neg h1] at h
  by_cases h2 : (l.map (·.1)).Nodup
  · rw [if_neg (by simpa using h2)] at h
    by_cases h3 : knownG l
    · rw [if_neg (by simpa using h3)] at h
      by_cases h4 : (nextAll l).length < l.length
      · rw [if_pos h4] at h; exact absurd h (by decide)
      · have := orderG_len (l := l) l.length []
        simp only [List.length_nil, Nat.zero_add] at this
        exact ⟨by omega, h2, h3, Nat.le_antisymm this (by omega), orderG_good _ (GoodG.nil l)⟩
    · rw [if_pos h3] at h; exact absurd h (by decide)
  · rw [if_pos h2] at h; exact absurd h (by decide)
theorem ok_check {l : List Gn} (h1 : l.length ≤ 16) (h2 : (l.map (·.1)).Nodup) (h3 : knownG l) : checkG l = if (nextAll l).length < l.length then 20 else 0 := by
  unfold checkG
  rw [if_neg (by omega), if_neg (by simpa using h2), if_neg (by simpa using h3)]
theorem AllG.has {l : List Gn} (h : AllG l) {x : Gn} (hx : x ∈ l) : x.1 ∈ nextAll l := h.good.full (Nat.le_of_eq h.len.symm) x hx
theorem AllG.node {l : List Gn} (h : AllG l) {s : ByteArray} (hs : s ∈ l.map (·.1)) : ∃ p, ∃ hp : p < (nextAll l).length, s = (nextAll l)[p] := by
  obtain ⟨x, hx, rfl⟩ := List.mem_map.1 hs
  obtain ⟨p, hp, e⟩ := List.mem_iff_getElem.1 (h.has hx)
  exact ⟨p, hp, e.symm⟩
/-- Names that stand in a row, each reading only earlier ones, may stand together. -/
theorem row_check {l : List Gn} (h1 : l.length ≤ 16) (hn : (l.map (·.1)).Nodup) (h : ∀ i (hi : i < l.length), ∀ r ∈ l[i].2, r ∈ (l.take i).map (·.1)) : checkG l = 0 := by
  rw [ok_check h1 hn (fun x hx r hr => by
    obtain ⟨i, hi, rfl⟩ := List.mem_iff_getElem.1 hx
    obtain ⟨y, hy, rfl⟩ := List.mem_map.1 (h i hi r hr)
    exact List.mem_map_of_mem (List.mem_of_mem_take hy)), if_neg (by have := topo_full hn h; unfold nextAll; omega)]
/-- Where each reads something, they may not. -/
theorem round_check {l : List Gn} (h1 : l.length ≤ 16) (hn : (l.map (·.1)).Nodup) (hk : knownG l) (h : ∀ x ∈ l, x.2 ≠ []) (hl : l ≠ []) : checkG l = 20 := by
  rw [ok_check h1 hn hk, if_pos (by unfold nextAll; rw [round_none h]; exact List.length_pos_iff.2 hl)]
theorem gb_lt_irrefl (a : List UInt8) : ¬ a < a := List.lt_irrefl _
/-- The least: none of those that may come next is less. -/
theorem fold_least (out : List ByteArray) : ∀ (l : List Gn) (a : Option Gn) (x : Gn), l.foldl (stepG out) a = some x → (∀ y, a = some y → ¬ gb y.1 < gb x.1) ∧ ∀ y ∈ l, okG out y → ¬ gb y.1 < gb x.1
  | [], a, x, h => ⟨fun y hy => by
      have e : a = some x := h
      rw [e] at hy
      obtain rfl := Option.some.inj hy
      exact List.lt_irrefl _, fun y hy => absurd hy (by simp)⟩
  | z :: t, a, x, h => by
    obtain ⟨h1, h2⟩ := fold_least out t (stepG out a z) x h
    have hz : ∀ y, a = some y → ¬ gb y.1 < gb x.1 := fun y hy hc => by
      unfold stepG at h1
      split at h1
      · rename_i hcond
        have h3 := hcond.2
        rw [hy] at h3
        have h4 : gb z.1 < gb y.1 := by simpa [lessG] using h3
        exact h1 z rfl (List.lt_trans h4 hc)
      · exact h1 y hy hc
    refine ⟨hz, fun y hy ho hc => ?_⟩
    rcases List.mem_cons.1 hy with rfl | hy
    · unfold stepG at h1
      split at h1
      · exact h1 y rfl hc
      · rename_i hcond
        cases a with
        | none => exact hcond ⟨ho, rfl⟩
        | some b =>
          have h3 : ¬ gb y.1 < gb b.1 := fun hlt => hcond ⟨ho, by simpa [lessG] using hlt⟩
          have h4 := h1 b rfl
          rcases Decidable.em (gb x.1 < gb b.1) with h5 | h5
          · exact h3 (List.lt_trans hc h5)
          · have e : gb b.1 = gb x.1 := List.le_antisymm (List.not_lt.1 h5) (List.not_lt.1 h4)
            exact h3 (e ▸ hc)
    · exact h2 y hy ho hc
theorem bestG_name {out : List ByteArray} {l : List Gn} {x : Gn} (hx : x ∈ l) (ho : okG out x) (hm : ∀ y ∈ l, okG out y → ¬ gb y.1 < gb x.1) : ∃ z, bestG out l = some z ∧ z.1 = x.1 := by
  cases hb : bestG out l with
  | none => exact absurd ho (bestG_none hb x hx)
  | some z =>
    obtain ⟨hz, hoz⟩ := bestG_some hb
    have h1 := (fold_least out l none z hb).2 x hx ho
    have h2 := hm z hz hoz
    exact ⟨z, rfl, gb_inj (List.le_antisymm (List.not_lt.1 h1) (List.not_lt.1 h2))⟩
/-- Two rows of names, rising, of the same names. -/
theorem rise_same : ∀ (a b : List ByteArray), a.Pairwise (fun x y => gb x < gb y) → b.Pairwise (fun x y => gb x < gb y) → (∀ x, x ∈ a ↔ x ∈ b) → a = b
  | [], [], _, _, _ => rfl
  | [], y :: b, _, _, h => absurd ((h y).2 (by simp)) (by simp)
  | x :: a, [], _, _, h => absurd ((h x).1 (by simp)) (by simp)
  | x :: a, y :: b, ha, hb, h => by
    rw [List.pairwise_cons] at ha hb
    have e : x = y := by
      rcases List.mem_cons.1 ((h x).1 (by simp)) with e | e
      · exact e
      · rcases List.mem_cons.1 ((h y).2 (by simp)) with e' | e'
        · exact e'.symm
        · exact absurd (List.lt_trans (ha.1 y e') (hb.1 x e)) (List.lt_irrefl _)
    subst e
    rw [rise_same a b ha.2 hb.2 (fun z => ⟨fun hz => by
      rcases List.mem_cons.1 ((h z).1 (by simp [hz])) with e | e
      · subst e; exact absurd (ha.1 z hz) (List.lt_irrefl _)
      · exact e, fun hz => by
      rcases List.mem_cons.1 ((h z).2 (by simp [hz])) with e | e
      · subst e; exact absurd (hb.1 z hz) (List.lt_irrefl _)
      · exact e⟩)]
/-- How many of rising names are less. -/
def lowG (s : ByteArray) (out : List ByteArray) : Nat := (out.takeWhile fun y => decide (gb y < gb s)).length
def insG (s : ByteArray) (out : List ByteArray) : List ByteArray := out.take (lowG s out) ++ s :: out.drop (lowG s out)
def addG (name : ByteArray) (out : List ByteArray) (x : Gn) : List ByteArray := if name ∈ x.2 ∧ x.1 ∉ out then insG x.1 out else out
/-- What reads a name itself. -/
def aboveG (l : List Gn) (name : ByteArray) : List ByteArray := l.foldl (addG name) []
theorem lowG_of {s : ByteArray} : ∀ {out : List ByteArray} {k : Nat}, k ≤ out.length → (∀ i (h : i < out.length), i < k → gb out[i] < gb s) → (∀ h : k < out.length, ¬ gb out[k] < gb s) → lowG s out = k
  | [], k, hk, _, _ => by
    simp only [List.length_nil] at hk
    simp [lowG]
    omega
  | y :: t, 0, _, _, hn => by
    have := hn (by simp)
    unfold lowG
    rw [List.takeWhile_cons_of_neg (by simpa using this)]
    rfl
  | y :: t, k + 1, hk, hl, hn => by
    have h0 := hl 0 (by simp) (by omega)
    unfold lowG
    rw [List.takeWhile_cons_of_pos (by simpa using h0), List.length_cons]
    have := lowG_of (s := s) (out := t) (k := k) (by simpa using hk) (fun i h hi => hl (i + 1) (Nat.succ_lt_succ h) (by omega)) (fun h => hn (Nat.succ_lt_succ h))
    unfold lowG at this
    rw [this]
theorem insG_mem (s x : ByteArray) (out : List ByteArray) : x ∈ insG s out ↔ x = s ∨ x ∈ out := by
  unfold insG
  rw [List.mem_append, List.mem_cons]
  conv => rhs; rw [← List.take_append_drop (lowG s out) out, List.mem_append]
  constructor
  · rintro (h | h | h)
    · exact .inr (.inl h)
    · exact .inl h
    · exact .inr (.inr h)
  · rintro (h | h | h)
    · exact .inr (.inl h)
    · exact .inl h
    · exact .inr (.inr h)
theorem lowG_spec (s : ByteArray) : ∀ out : List ByteArray, lowG s out ≤ out.length ∧ (∀ y ∈ out.take (lowG s out), gb y < gb s) ∧ (∀ h : lowG s out < out.length, ¬ gb out[lowG s out] < gb s)
  | [] => by simp [lowG]
  | y :: t => by
    obtain ⟨h1, h2, h3⟩ := lowG_spec s t
    by_cases hy : gb y < gb s
    · have e : lowG s (y :: t) = lowG s t + 1 := by
        unfold lowG
        rw [List.takeWhile_cons_of_pos (by simpa using hy), List.length_cons]
      rw [e]
      refine ⟨by simpa using h1, fun z hz => ?_, fun h => by simpa using h3 (by simpa using h)⟩
      rw [List.take_succ_cons] at hz
      rcases List.mem_cons.1 hz with rfl | hz
      · exact hy
      · exact h2 z hz
    · have e : lowG s (y :: t) = 0 := by
        unfold lowG
        rw [List.takeWhile_cons_of_neg (by simpa using hy)]
        rfl
      rw [e]
      exact ⟨Nat.zero_le _, fun z hz => absurd hz (by simp), fun _ => by simpa using hy⟩
theorem insG_rise {s : ByteArray} {out : List ByteArray} (h : out.Pairwise (fun x y => gb x < gb y)) (hs : s ∉ out) : (insG s out).Pairwise (fun x y => gb x < gb y) := by
  obtain ⟨h1, h2, h3⟩ := lowG_spec s out
  have hd : ∀ y ∈ out.drop (lowG s out), gb s < gb y := fun y hy => by
    obtain ⟨i, hi, rfl⟩ := List.mem_iff_getElem.1 hy
    rw [List.length_drop] at hi
    rw [List.getElem_drop]
    have h4 := h3 (by omega)
    have h5 : gb s < gb out[lowG s out] := by
      rcases Decidable.em (gb s < gb out[lowG s out]) with h | h
      · exact h
      · exact absurd (gb_inj (List.le_antisymm (List.not_lt.1 h4) (List.not_lt.1 h))) (fun e => hs (by rw [e]; exact List.getElem_mem _))
    rcases Nat.eq_zero_or_pos i with rfl | hp
    · exact h5
    · exact List.lt_trans h5 (List.pairwise_iff_getElem.1 h _ _ (by omega) (by omega) (by omega))
  unfold insG
  rw [List.pairwise_append]
  refine ⟨h.sublist (List.take_sublist _ _), List.pairwise_cons.2 ⟨hd, h.sublist (List.drop_sublist _ _)⟩, fun a ha b hb => ?_⟩
  rcases List.mem_cons.1 hb with rfl | hb
  · exact h2 a ha
  · exact List.lt_trans (h2 a ha) (hd b hb)
theorem fold_above (name : ByteArray) : ∀ (l : List Gn) (out : List ByteArray), out.Pairwise (fun x y => gb x < gb y) → (l.foldl (addG name) out).Pairwise (fun x y => gb x < gb y) ∧ ∀ s, s ∈ l.foldl (addG name) out ↔ s ∈ out ∨ ∃ x ∈ l, x.1 = s ∧ name ∈ x.2
  | [], out, h => ⟨h, fun s => by simp⟩
  | y :: t, out, h => by
    have hs : (addG name out y).Pairwise (fun x y => gb x < gb y) ∧ ∀ s, s ∈ addG name out y ↔ s ∈ out ∨ (y.1 = s ∧ name ∈ y.2) := by
      unfold addG
      split
      · rename_i hc
        refine ⟨insG_rise h hc.2, fun s => ?_⟩
        rw [insG_mem]
        constructor
        · rintro (rfl | h)
          · exact .inr ⟨rfl, hc.1⟩
          · exact .inl h
        · rintro (h | ⟨rfl, _⟩)
          · exact .inr h
          · exact .inl rfl
      · rename_i hc
        refine ⟨h, fun s => ⟨.inl, ?_⟩⟩
        rintro (h | ⟨rfl, hn⟩)
        · exact h
        · exact Decidable.byContradiction fun hno => hc ⟨hn, hno⟩
    obtain ⟨h1, h2⟩ := fold_above name t _ hs.1
    refine ⟨h1, fun s => ?_⟩
    rw [show (y :: t).foldl (addG name) out = t.foldl (addG name) (addG name out y) from rfl, h2 s, hs.2 s]
    constructor
    · rintro ((h | ⟨e, hn⟩) | ⟨x, hx, e, hn⟩)
      · exact .inl h
      · exact .inr ⟨y, by simp, e, hn⟩
      · exact .inr ⟨x, List.mem_cons_of_mem _ hx, e, hn⟩
    · rintro (h | ⟨x, hx, e, hn⟩)
      · exact .inl (.inl h)
      · rcases List.mem_cons.1 hx with rfl | hx
        · exact .inl (.inr ⟨e, hn⟩)
        · exact .inr ⟨x, hx, e, hn⟩
/-- Any rising names, which are just those that read it, are the answer. -/
theorem above_is {l : List Gn} {name : ByteArray} {a : List ByteArray} (h : a.Pairwise (fun x y => gb x < gb y)) (hm : ∀ s, s ∈ a ↔ ∃ x ∈ l, x.1 = s ∧ name ∈ x.2) : a = aboveG l name := by
  obtain ⟨h1, h2⟩ := fold_above name l [] List.Pairwise.nil
  exact rise_same a _ h h1 (fun s => by rw [hm s]; unfold aboveG; rw [h2 s]; simp)
end Go.Proofs.Ytadlelhdjakmmaa
