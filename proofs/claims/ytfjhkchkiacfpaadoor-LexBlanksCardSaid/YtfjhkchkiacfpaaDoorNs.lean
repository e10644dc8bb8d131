/- Blanks ahead of a command and behind it, plainly: they change no word, only where it stands. Nothing of any program here: lemmas on lists. Conditions: each lemma names its own. -/
import Derived.Test.YtfjhkchkiacfpaaDoorNl
namespace Go.Proofs.YtfjhkchkiacfpaaDoor
open Go.RowKit

theorem lex_blanks : ∀ (m f i : Nat) (acc : List Wd), m < f → lexM f i (List.replicate m 32) acc = .ok acc
  | 0, f, i, acc, _ => lexM_end f i acc
  | m + 1, 0, _, _, h => absurd h (by omega)
  | m + 1, f + 1, i, acc, h => by
    rw [List.replicate_succ, lexM_blank]
    exact lex_blanks m f _ _ (by omega)
theorem lex_ahead (l : List UInt8) : ∀ (m f i : Nat) (acc : List Wd), lexM (f + m) i (List.replicate m 32 ++ l) acc = lexM f (i + m) l acc
  | 0, f, i, acc => rfl
  | m + 1, f, i, acc => by
    show lexM (f + m + 1) i (32 :: (List.replicate m 32 ++ l)) acc = _
    rw [lexM_blank, lex_ahead l m f (i + 1) acc, show i + 1 + m = i + (m + 1) by omega]
theorem lexR_ahead {s : List UInt8} {ws : List Wd} (m : Nat) (h : lexR s = .ok ws) (hl : s.length + m ≤ 2048) (hw : ws.length ≤ 512) : lexR (List.replicate m 32 ++ s) = .ok (ws.map (Wd.far m)) := by
  unfold lexR at h ⊢
  rw [if_neg (by omega)] at h
  rw [if_neg (by simp; omega)]
  obtain ⟨ms, e, H⟩ := lex_far _ _ _ _ _ h
  simp only [List.nil_append] at e
  subst e
  have h1 := H m [] (by simpa using hw)
  have h2 := lex_ahead s m (s.length + 1) 0 []
  rw [lexM_fuel _ (s.length + 1 + m) _ _ _ (Nat.lt_succ_self _) (by simp; omega), h2]
  simpa using h1
theorem lexR_behind {s : List UInt8} {ws : List Wd} (m : Nat) (h : lexR s = .ok ws) (hl : s.length + m ≤ 2048) : lexR (s ++ List.replicate m 32) = .ok ws := by
  cases m with
  | zero => simpa using h
  | succ m =>
    unfold lexR at h ⊢
    rw [if_neg (by omega)] at h
    rw [if_neg (by simp; omega)]
    have h1 := lex_app (List.replicate m 32) _ _ _ _ _ (Nat.lt_succ_self _) h (m + 1) (by simp)
    rw [List.replicate_succ, lexM_fuel _ (s.length + 1 + (m + 1)) _ _ _ (Nat.lt_succ_self _) (by simp), h1]
    exact lex_blanks _ _ _ _ (Nat.lt_succ_self _)
end Go.Proofs.YtfjhkchkiacfpaaDoor
