/- Two commands with a blank between, plainly: they have the words of both. Nothing of any program here: lemmas on lists. Conditions: each lemma names its own. -/
import Derived.Test.YtfjhkchkiacfpaaDoorNd
import Derived.Test.YtfjhkchkiacfpaaDoorNf
namespace Go.Proofs.YtfjhkchkiacfpaaDoor
open Go.RowKit

theorem cnt_app {p : UInt8 → Bool} (h : p 32 = false) (r : List UInt8) : ∀ l, cnt p (l ++ 32 :: r) = cnt p l
  | [] => by simp [cnt, h]
  | c :: l => by simp only [List.cons_append, cnt]; rw [cnt_app h r l]
theorem nmS_app (r : List UInt8) : ∀ l, l ≠ [] → nmS (l ++ 32 :: r) = nmS l
  | [], h => absurd rfl h
  | c :: l, _ => by simp only [List.cons_append, nmS]; rw [cnt_app (by decide) r l]
theorem numBad_app (r : List UInt8) (c : UInt8) (l : List UInt8) : numBad ((c :: l) ++ 32 :: r) = numBad (c :: l) ∧ numN ((c :: l) ++ 32 :: r) = numN (c :: l) := by
  have e := cnt_app (p := isD) (by decide) r (c :: l)
  have hl := cnt_le isD (c :: l)
  have en : numN ((c :: l) ++ 32 :: r) = numN (c :: l) := by unfold numN; rw [e, List.take_append_of_le_length hl]
  refine ⟨?_, en⟩
  unfold numBad
  rw [e, en]
  have h1 : ((c :: l) ++ 32 :: r).head? = (c :: l).head? := rfl
  rw [h1]
  rcases Nat.lt_or_ge (cnt isD (c :: l)) (c :: l).length with g | g
  · rw [List.getElem?_append_left g]
  · have h2 : cnt isD (c :: l) = (c :: l).length := Nat.le_antisymm hl g
    rw [h2, List.getElem?_append_right (Nat.le_refl _), Nat.sub_self, List.getElem?_eq_none (Nat.le_refl _)]
    rfl
theorem txR_app (r : List UInt8) : ∀ (n : Nat) (l : List UInt8), l.length ≤ n → ∀ x, txR l = some x → txR (l ++ 32 :: r) = some x
  | _, [], _, x, h => by simp [txR] at h
  | 0, _ :: _, h, _, _ => absurd h (by simp)
  | n + 1, c :: l, hn, x, h => by
    by_cases hc : c = 39
    · subst hc
      cases l with
      | nil =>
        rw [← h]
        show txR (39 :: 32 :: r) = txR [39]
        rw [txR_end (by intro d hd; cases hd; decide), txR_end (by intro d hd; cases hd)]
      | cons d l =>
        by_cases hd : d = 39
        · subst hd
          rw [txR_two] at h
          obtain ⟨y, hy, rfl⟩ := Option.map_eq_some_iff.1 h
          have := txR_app r n l (by simp at hn; omega) y hy
          show txR (39 :: 39 :: (l ++ 32 :: r)) = _
          rw [txR_two, this]; rfl
        · rw [← h]
          show txR (39 :: d :: (l ++ 32 :: r)) = txR (39 :: d :: l)
          rw [txR_end (by intro q hq; cases hq; exact hd), txR_end (by intro q hq; cases hq; exact hd)]
    · rw [txR_plain hc] at h
      obtain ⟨y, hy, rfl⟩ := Option.map_eq_some_iff.1 h
      have := txR_app r n l (by simp at hn; omega) y hy
      show txR (c :: (l ++ 32 :: r)) = _
      rw [txR_plain hc, this]; rfl
theorem sgS_app (r : List UInt8) (c : UInt8) : ∀ l, sgS ((c :: l) ++ 32 :: r) = sgS (c :: l)
  | [] => by
    show sgS (c :: 32 :: r) = 1
    rw [sgS_else]
    rintro (⟨_, h⟩ | ⟨_, h⟩ | ⟨_, h⟩) <;> exact absurd h (by decide)
  | d :: l => rfl
/-- A word that is there stays as it is, whatever follows behind a blank. -/
theorem word_app (r : List UInt8) (c : UInt8) (l : List UInt8) (h0 : (wordM (c :: l)).2 ≠ 0) : wordM ((c :: l) ++ 32 :: r) = wordM (c :: l) := by
  have hcons : (c :: l) ++ 32 :: r = c :: (l ++ 32 :: r) := rfl
  rcases word_cases c with h | ⟨h, h1⟩ | ⟨h, h1, h2⟩ | ⟨h, h1, h2, h3⟩ | ⟨h, h1, h2, h3⟩
  · have e := nmS_app r (c :: l) (by simp)
    have ht : ((c :: l) ++ 32 :: r).take (nmS (c :: l)) = (c :: l).take (nmS (c :: l)) := List.take_append_of_le_length (nmS_le _)
    rw [hcons] at e ht ⊢
    rw [word_name h, word_name h, e, ht]
  · obtain ⟨e1, e2⟩ := numBad_app r c l
    have e := cnt_app (p := isD) (by decide) r (c :: l)
    rw [hcons] at e e1 e2 ⊢
    rw [word_num h h1, word_num h h1, e, e1, e2]
  · rw [hcons, word_text h h1 h2, word_text h h1 h2]
    rw [word_text h h1 h2] at h0
    cases hx : txR l with
    | none => rw [hx] at h0; exact absurd rfl h0
    | some x => rw [txR_app r l.length l (Nat.le_refl _) x hx]
  · have e := sgS_app r c l
    have ht : ((c :: l) ++ 32 :: r).take (sgS (c :: l)) = (c :: l).take (sgS (c :: l)) := List.take_append_of_le_length (sgS_le (by simp))
    rw [hcons] at e ht ⊢
    rw [word_sign h h1 h2 h3, word_sign h h1 h2 h3, e, ht]
  · rw [hcons, word_none h h1 h2 h3, word_none h h1 h2 h3]

theorem lexM_ok {f i : Nat} {c : UInt8} {l : List UInt8} {acc ws : List Wd} (h : lexM (f + 1) i (c :: l) acc = .ok ws) :
    (c = 32 ∧ lexM f (i + 1) l acc = .ok ws) ∨ (c ≠ 32 ∧ (wordM (c :: l)).2 ≠ 0 ∧ acc.length ≠ 512 ∧ lexM f (i + (wordM (c :: l)).2) ((c :: l).drop (wordM (c :: l)).2) (acc ++ [(wordM (c :: l)).1.put i]) = .ok ws) := by
  by_cases hc : c = 32
  · subst hc
    rw [lexM_blank] at h
    exact .inl ⟨rfl, h⟩
  · by_cases h0 : (wordM (c :: l)).2 = 0
    · rw [lexM_syn hc h0] at h; cases h
    · by_cases h1 : acc.length = 512
      · rw [lexM_long hc h0 h1] at h; cases h
      · rw [lexM_more hc h0 h1] at h
        exact .inr ⟨hc, h0, h1, h⟩
theorem lexM_fuel : ∀ (f g i : Nat) (l : List UInt8) (acc : List Wd), l.length < f → l.length < g → lexM f i l acc = lexM g i l acc
  | 0, _, _, _, _, h, _ => absurd h (by omega)
  | _, 0, _, _, _, _, h => absurd h (by omega)
  | f + 1, g + 1, i, [], acc, _, _ => rfl
  | f + 1, g + 1, i, c :: l, acc, hf, hg => by
    simp only [List.length_cons] at hf hg
    by_cases hc : c = 32
    · subst hc
      rw [lexM_blank, lexM_blank]
      exact lexM_fuel f g _ l acc (by omega) (by omega)
    · by_cases h0 : (wordM (c :: l)).2 = 0
      · rw [lexM_syn hc h0, lexM_syn hc h0]
      · by_cases h1 : acc.length = 512
        · rw [lexM_long hc h0 h1, lexM_long hc h0 h1]
        · rw [lexM_more hc h0 h1, lexM_more hc h0 h1]
          exact lexM_fuel f g _ _ _ (by rw [List.length_drop, List.length_cons]; omega) (by rw [List.length_drop, List.length_cons]; omega)
/-- What stands behind a blank is read from there on. -/
theorem lex_app (r : List UInt8) : ∀ (f i : Nat) (l : List UInt8) (acc ws : List Wd), l.length < f → lexM f i l acc = .ok ws → ∀ g, r.length < g → lexM (f + g) i (l ++ 32 :: r) acc = lexM g (i + l.length + 1) r ws
  | 0, _, _, _, _, h, _, _, _ => absurd h (by omega)
  | f + 1, i, [], acc, ws, _, h, g, hg => by
    rw [lexM_end] at h
    cases h
    show lexM (f + 1 + g) i (32 :: r) acc = _
    rw [show f + 1 + g = (f + g) + 1 by omega, lexM_blank]
    exact lexM_fuel _ _ _ _ _ (by omega) hg
  | f + 1, i, c :: l, acc, ws, hf, h, g, hg => by
    simp only [List.length_cons] at hf
    rw [show f + 1 + g = (f + g) + 1 by omega]
    rcases lexM_ok h with ⟨rfl, h⟩ | ⟨hc, h0, h1, h⟩
    · show lexM (f + g + 1) i (32 :: (l ++ 32 :: r)) acc = _
      rw [lexM_blank, lex_app r f (i + 1) l acc ws (by omega) h g hg]
      congr 1
      simp; omega
    · have e := word_app r c l h0
      have hle := word_le (c :: l)
      show lexM (f + g + 1) i (c :: (l ++ 32 :: r)) acc = _
      have e' : wordM (c :: (l ++ 32 :: r)) = wordM (c :: l) := e
      rw [lexM_more hc (by rw [e']; exact h0) h1, e']
      have hd : (c :: (l ++ 32 :: r)).drop (wordM (c :: l)).2 = (c :: l).drop (wordM (c :: l)).2 ++ 32 :: r := List.drop_append_of_le_length (l₁ := c :: l) hle
      rw [hd, lex_app r f _ _ _ ws (by rw [List.length_drop, List.length_cons]; omega) h g hg]
      congr 1
      rw [List.length_drop, List.length_cons] at *
      omega
/-- A word, d bytes further on. -/
def Wd.far (d : Nat) (x : Wd) : Wd := ⟨x.k, x.s, x.n, x.p + d⟩
theorem lex_far : ∀ (f i : Nat) (l : List UInt8) (acc ws : List Wd), lexM f i l acc = .ok ws → ∃ ms, ws = acc ++ ms ∧ ∀ d acc', acc'.length + ms.length ≤ 512 → lexM f (i + d) l acc' = .ok (acc' ++ ms.map (Wd.far d))
  | 0, i, l, acc, ws, h => by
    cases h
    exact ⟨[], by simp, fun d acc' _ => by simp [lexM]⟩
  | f + 1, i, [], acc, ws, h => by
    cases h
    exact ⟨[], by simp, fun d acc' _ => by simp [lexM]⟩
  | f + 1, i, c :: l, acc, ws, h => by
    rcases lexM_ok h with ⟨rfl, h⟩ | ⟨hc, h0, h1, h⟩
    · obtain ⟨ms, e, H⟩ := lex_far f _ _ _ _ h
      refine ⟨ms, e, fun d acc' hm => ?_⟩
      rw [lexM_blank, show i + d + 1 = i + 1 + d by omega]
      exact H d acc' hm
    · obtain ⟨ms, e, H⟩ := lex_far f _ _ _ _ h
      refine ⟨(wordM (c :: l)).1.put i :: ms, by rw [e]; simp, fun d acc' hm => ?_⟩
      simp only [List.length_cons] at hm
      rw [lexM_more hc h0 (by omega), show i + d + (wordM (c :: l)).2 = i + (wordM (c :: l)).2 + d by omega]
      have := H d (acc' ++ [(wordM (c :: l)).1.put (i + d)]) (by simp; omega)
      rw [this]
      simp [Wd.far, Wd.put]
/-- Two commands with a blank between. -/
theorem lexR_parts {s t : List UInt8} {ws ms : List Wd} (hs : lexR s = .ok ws) (ht : lexR t = .ok ms) (hlen : s.length + 1 + t.length ≤ 2048) (hw : ws.length + ms.length ≤ 512) :
    lexR (s ++ 32 :: t) = .ok (ws ++ ms.map (Wd.far (s.length + 1))) := by
  unfold lexR at hs ht ⊢
  rw [if_neg (by omega)] at hs ht
  rw [if_neg (by simp; omega)]
  have h1 := lex_app t _ _ _ _ _ (Nat.lt_succ_self _) hs (t.length + 1) (Nat.lt_succ_self _)
  obtain ⟨ms', e, H⟩ := lex_far _ _ _ _ _ ht
  simp only [List.nil_append] at e
  subst e
  have h2 := H (s.length + 1) ws hw
  rw [lexM_fuel _ (s.length + 1 + (t.length + 1)) _ _ _ (Nat.lt_succ_self _) (by simp), h1, show 0 + s.length + 1 = 0 + (s.length + 1) by omega]
  exact h2
end Go.Proofs.YtfjhkchkiacfpaaDoor
