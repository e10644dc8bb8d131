/- Where words stand, plainly: one behind the other, each from its first byte on. Nothing of any program here: lemmas on lists. Conditions: each lemma names its own. -/
import Derived.Test.YtfjhkchkiacfpaaDoorNl
namespace Go.Proofs.YtfjhkchkiacfpaaDoor
open Go.RowKit

/-! ### Where words stand, plainly -/
structure GoodW (s : List UInt8) (x : Wd) : Prop where
  low : x.p < s.length
  kind : x.k ≠ 5
  its : x.k = 1 ∨ x.k = 4 → x.s ≠ [] ∧ x.p + x.s.length ≤ s.length ∧ (s.drop x.p).take x.s.length = x.s
theorem word_kind (c : UInt8) (r : List UInt8) (h0 : (wordM (c :: r)).2 ≠ 0) : (wordM (c :: r)).1.k ≠ 5 ∧ ((wordM (c :: r)).1.k = 1 ∨ (wordM (c :: r)).1.k = 4 → (wordM (c :: r)).1.s = (c :: r).take (wordM (c :: r)).2) := by
  rcases word_cases c with h | ⟨h, h1⟩ | ⟨h, h1, h2⟩ | ⟨h, h1, h2, h3⟩ | ⟨h, h1, h2, h3⟩
  · rw [word_name h]; exact ⟨by simp, fun _ => rfl⟩
  · rw [word_num h h1] at h0 ⊢
    split
    · rename_i hb; rw [if_pos hb] at h0; exact absurd rfl h0
    · exact ⟨by simp, fun h => by simp at h⟩
  · rw [word_text h h1 h2] at h0 ⊢
    split
    · rename_i hx; rw [hx] at h0; exact absurd rfl h0
    · exact ⟨by simp, fun h => by simp at h⟩
  · rw [word_sign h h1 h2 h3]; exact ⟨by simp, fun _ => rfl⟩
  · rw [word_none h h1 h2 h3] at h0; exact absurd rfl h0
theorem good_new {s : List UInt8} {i : Nat} {c : UInt8} {r : List UInt8} (hd : s.drop i = c :: r) (h0 : (wordM (c :: r)).2 ≠ 0) : GoodW s ((wordM (c :: r)).1.put i) := by
  obtain ⟨h1, h2⟩ := word_kind c r h0
  have hle := word_le (c :: r)
  have hlen : s.length - i = r.length + 1 := by rw [← List.length_drop, hd]; rfl
  refine ⟨by show i < s.length; omega, h1, fun hk => ?_⟩
  have e : ((wordM (c :: r)).1.put i).s = (c :: r).take (wordM (c :: r)).2 := h2 hk
  have el : ((wordM (c :: r)).1.put i).s.length = (wordM (c :: r)).2 := by rw [e, List.length_take]; exact Nat.min_eq_left hle
  refine ⟨fun h => ?_, ?_, ?_⟩
  · rw [h] at el; exact h0 el.symm
  · rw [el]
    show i + (wordM (c :: r)).2 ≤ s.length
    simp only [List.length_cons] at hle
    omega
  · rw [el, e]
    show (s.drop i).take _ = _
    rw [hd]
theorem lex_good (s : List UInt8) : ∀ (f i : Nat) (acc ws : List Wd), i ≤ s.length → (∀ x ∈ acc, GoodW s x ∧ x.p < i) → acc.Pairwise (fun a b => a.p < b.p) → lexM f i (s.drop i) acc = .ok ws → (∀ x ∈ ws, GoodW s x) ∧ ws.Pairwise (fun a b => a.p < b.p)
  | 0, _, acc, ws, _, hg, hp, h => by cases h; exact ⟨fun x hx => (hg x hx).1, hp⟩
  | f + 1, i, acc, ws, hi, hg, hp, h => by
    match hd : s.drop i with
    | [] =>
      rw [hd, lexM_end] at h
      cases h
      exact ⟨fun x hx => (hg x hx).1, hp⟩
    | c :: r =>
      have hlen : s.length - i = r.length + 1 := by rw [← List.length_drop, hd]; rfl
      rw [hd] at h
      rcases lexM_ok h with ⟨rfl, h⟩ | ⟨hc, h0, h1, h⟩
      · have e : r = s.drop (i + 1) := by rw [← List.drop_drop, hd]; rfl
        rw [e] at h
        exact lex_good s f (i + 1) acc ws (by omega) (fun x hx => ⟨(hg x hx).1, by have := (hg x hx).2; omega⟩) hp h
      · have hle := word_le (c :: r)
        have e : (c :: r).drop (wordM (c :: r)).2 = s.drop (i + (wordM (c :: r)).2) := by rw [← hd, List.drop_drop]
        rw [e] at h
        simp only [List.length_cons] at hle
        have hG := good_new hd h0
        refine lex_good s f _ _ ws (by omega) (fun x hx => ?_) ?_ h
        · rcases List.mem_append.1 hx with hx | hx
          · exact ⟨(hg x hx).1, by have := (hg x hx).2; omega⟩
          · obtain rfl := List.mem_singleton.1 hx
            exact ⟨hG, by show i < _; omega⟩
        · rw [List.pairwise_append]
          exact ⟨hp, List.pairwise_singleton _ _, fun a ha b hb => by obtain rfl := List.mem_singleton.1 hb; exact (hg a ha).2⟩
theorem lex_bad (s : List UInt8) : ∀ (f i : Nat) (acc : List Wd) (k : Nat), i ≤ s.length → lexM f i (s.drop i) acc = .syn k → ∃ h : k < s.length, s[k] ≠ 32
  | 0, _, _, _, _, h => by cases h
  | f + 1, i, acc, k, hi, h => by
    match hd : s.drop i with
    | [] => rw [hd, lexM_end] at h; cases h
    | c :: r =>
      have hlen : s.length - i = r.length + 1 := by rw [← List.length_drop, hd]; rfl
      have hi2 : i < s.length := by omega
      have hc0 : s[i] = c := by
        have := List.drop_eq_getElem_cons hi2
        rw [hd] at this
        exact (List.cons.inj this).1.symm
      rw [hd] at h
      by_cases hc : c = 32
      · rw [hc, lexM_blank] at h
        have e : r = s.drop (i + 1) := by rw [← List.drop_drop, hd]; rfl
        rw [e] at h
        exact lex_bad s f (i + 1) acc k (by omega) h
      · by_cases h0 : (wordM (c :: r)).2 = 0
        · rw [lexM_syn hc h0] at h
          cases h
          exact ⟨hi2, by rw [hc0]; exact hc⟩
        · by_cases h1 : acc.length = 512
          · rw [lexM_long hc h0 h1] at h; cases h
          · rw [lexM_more hc h0 h1] at h
            have hle := word_le (c :: r)
            simp only [List.length_cons] at hle
            have e : (c :: r).drop (wordM (c :: r)).2 = s.drop (i + (wordM (c :: r)).2) := by rw [← hd, List.drop_drop]
            rw [e] at h
            exact lex_bad s f _ _ k (by omega) h
/-- Where all words stand, the end too. -/
structure PlaceOk (s : List UInt8) (al : List Wd) : Prop where
  some : al ≠ []
  few : al.length ≤ 4096
  low : ∀ i (h : i < al.length), al[i].p ≤ s.length
  up : ∀ i (h : i + 1 < al.length), (al[i]'(by omega)).p < al[i + 1].p
  kind : ∀ i (h : i < al.length), al[i].k = 5 ↔ i + 1 = al.length
  its : ∀ i (h : i < al.length), al[i].k = 1 ∨ al[i].k = 4 → al[i].s ≠ [] ∧ al[i].p + al[i].s.length ≤ s.length ∧ (s.drop al[i].p).take al[i].s.length = al[i].s
  last : ∀ h : al.length - 1 < al.length, al[al.length - 1].p = s.length
theorem lexR_places {s : List UInt8} {ws : List Wd} (h : lexR s = .ok ws) (hf : ws.length ≤ 4095) : PlaceOk s (ws ++ [⟨5, [], 0, s.length⟩]) := by
  unfold lexR at h
  split at h
  · cases h
  · obtain ⟨hg, hp⟩ := lex_good s _ 0 [] ws (Nat.zero_le _) (fun x hx => absurd hx (by simp)) List.Pairwise.nil h
    have hA : ∀ i (h : i < (ws ++ [(⟨5, [], 0, s.length⟩ : Wd)]).length), (∃ h1 : i < ws.length, (ws ++ [(⟨5, [], 0, s.length⟩ : Wd)])[i] = ws[i]) ∨ (i = ws.length ∧ (ws ++ [(⟨5, [], 0, s.length⟩ : Wd)])[i] = ⟨5, [], 0, s.length⟩) := fun i h => by
      rcases Nat.lt_or_ge i ws.length with g | g
      · exact .inl ⟨g, List.getElem_append_left g⟩
      · have e : i = ws.length := by simp at h; omega
        subst e
        exact .inr ⟨rfl, by rw [List.getElem_append_right (Nat.le_refl _)]; simp⟩
    refine ⟨by simp, by simp; omega, fun i h => ?_, fun i h => ?_, fun i h => ?_, fun i h hk => ?_, fun h => ?_⟩
    · rcases hA i h with ⟨h1, e⟩ | ⟨_, e⟩
      · rw [e]; exact Nat.le_of_lt (hg _ (List.getElem_mem h1)).low
      · rw [e]; exact Nat.le_refl _
    · have h1 : i < ws.length := by simp at h; omega
      rw [List.getElem_append_left h1]
      rcases hA (i + 1) h with ⟨h2, e⟩ | ⟨_, e⟩
      · rw [e]; exact List.pairwise_iff_getElem.1 hp i (i + 1) h1 h2 (Nat.lt_succ_self _)
      · rw [e]; exact (hg _ (List.getElem_mem h1)).low
    · rcases hA i h with ⟨h1, e⟩ | ⟨h1, e⟩
      · rw [e]
        have := (hg _ (List.getElem_mem h1)).kind
        simp
        exact ⟨fun h => absurd h this, fun h => by omega⟩
      · rw [e]; simp [h1]
    · rcases hA i h with ⟨h1, e⟩ | ⟨_, e⟩
      · rw [e] at hk ⊢; exact (hg _ (List.getElem_mem h1)).its hk
      · rw [e] at hk; simp at hk
    · simp
theorem lexR_bad {s : List UInt8} {k : Nat} (h : lexR s = .syn k) : ∃ h : k < s.length, s[k] ≠ 32 := by
  unfold lexR at h
  split at h
  · cases h
  · exact lex_bad s _ 0 [] k (Nat.zero_le _) h
theorem lexR_few {s : List UInt8} {ws : List Wd} (h : lexR s = .ok ws) : ws.length ≤ 512 ∧ s.length ≤ 2048 := by
  unfold lexR at h
  split at h
  · cases h
  · refine ⟨?_, by omega⟩
    have H : ∀ (f i : Nat) (l : List UInt8) (acc ws : List Wd), acc.length ≤ 512 → lexM f i l acc = .ok ws → ws.length ≤ 512 := by
      intro f
      induction f with
      | zero => intro i l acc ws ha h; cases h; exact ha
      | succ f ih =>
        intro i l acc ws ha h
        cases l with
        | nil => rw [lexM_end] at h; cases h; exact ha
        | cons c l =>
          rcases lexM_ok h with ⟨_, h⟩ | ⟨_, _, h1, h⟩
          · exact ih _ _ _ _ ha h
          · exact ih _ _ _ _ (by simp; omega) h
    exact H _ _ _ _ _ (by simp) h
end Go.Proofs.YtfjhkchkiacfpaaDoor
