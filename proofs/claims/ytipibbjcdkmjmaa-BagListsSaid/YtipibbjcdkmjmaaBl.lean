/- What slices.Clone makes of a row: the same row in new memory, or nil: a contract of the call, in whatever memory. Conditions: the row's cells are known. -/
import Derived.Test.YtipibbjcdkmjmaaBc
import Derived.Lib.SliceRun
namespace Go.Proofs.Ytipibbjcdkmjmaa
open Go.RowKit

set_option maxHeartbeats 1000000 in
theorem clone_any (a : Option Addr) (c : Nat) (r : List Val) (w : World) (h : RowAt w a r) (hr : rowOK r) :
    Calls Try.prog 16 #[.slice a r.length c] w fun e w' => (∃ a' c', e = .returned (.slice a' r.length c') ∧ RowAt w' a' r ∧ (r ≠ [] → ∃ b cs fz, a' = some ⟨b, 0, none⟩ ∧ w'.heap[b]? = some (Obj.cells cs 39 fz))) ∧ Below w.heap.size w w' := by
  obtain ⟨i0, hi, hz0, hz1, hz2⟩ := info_parts info41
  unfold rowOK at hr
  have hown : (w.alloc (Obj.cells #[] 39)).ownsRow w.heap.size 39 3 (.slice (some ⟨w.heap.size, 0, none⟩) 0 0) 0 [] := World.ownsRow_made w #[] 0 (Nat.le_refl _) (by unfold maxLen; omega) rfl
  have hB0 : Below w.heap.size w (w.alloc (Obj.cells #[] 39)) := (Below.refl _ _).alloc (Nat.le_refl _) _
  by_cases hne : r = []
  · subst hne
    have fin : ∀ (w' : World) (a' : Option Addr) (c' : Nat), Below w.heap.size w w' → (∃ a'' c'', Ending.returned (.slice a' 0 c') = .returned (.slice a'' ([] : List Val).length c'') ∧ RowAt w' a'' [] ∧ (([] : List Val) ≠ [] → ∃ b cs fz, a'' = some ⟨b, 0, none⟩ ∧ w'.heap[b]? = some (Obj.cells cs 39 fz))) ∧ Below w.heap.size w w' := fun w' a' c' hb => ⟨⟨a', c', rfl, fun h => absurd rfl h, fun h => absurd rfl h⟩, hb⟩
    cases a with
    | none =>
      have hq : ∀ W : World, (binOp .eql 33 (.slice none 0 c) (.slice none 0 0)).run Try.prog W = .ok (.bool true) W := fun W => (Lib.run_eql_slice_nil W _ _ none 0 c 0 0 Try.underlying33)
      go_enter Try.func16, Try.ntmps16
      go_wp2
      go_ret
      exact fin _ _ 0 (Below.refl _ _)
    | some ad =>
      have hq : ∀ W : World, (binOp .eql 33 (.slice (some ad) 0 c) (.slice none 0 0)).run Try.prog W = .ok (.bool false) W := fun W => (Lib.run_eql_slice_nil W _ _ (some ad) 0 c 0 0 Try.underlying33)
      go_enter Try.func16, Try.ntmps16
      go_wp2_with (at_builtin; go_must (refine wpList_append_own _ rfl _ _ 33 rfl w.heap.size 39 i0 (.agg #[.int .i64 0, .int .i64 0, .string ⟨#[]⟩]) 3 32 Try.underlying33 hi hz0 hz1 hz2 rfl (by decide) _ _ _ rfl hown ad 0 c [] rfl rfl (fun j u h => by simp at h) (fun u h => by simp at h) ?c3 ?c4 ?c5 ?_))
      case c3 => unfold maxLen; omega
      case c4 => omega
      case c5 => simp
      intro v' w1 hown' hgrow _
      have hB1 : Below w.heap.size w w1 := hB0.grown hgrow (by simp) (fun k hk => (hown.lt k hk).1)
      obtain ⟨a', c', rfl, _, _, _⟩ := row_owned (vs := []) hown'
      go_wp2
      go_ret
      exact fin _ a' c' hB1
  · obtain ⟨b, off, rfl, hc⟩ := h hne
    have h' : RowAt (w.alloc (Obj.cells #[] 39)) (some ⟨b, off, none⟩) r := RowAt.later (fun _ => ⟨b, off, rfl, hc⟩) ((Below.refl _ _).alloc (Nat.le_refl _) _)
    have HN := hid0 (rowCells_of h')
    clear hc h h'
    have hq : ∀ W : World, (binOp .eql 33 (.slice (some ⟨b, off, none⟩) r.length c) (.slice none 0 0)).run Try.prog W = .ok (.bool false) W := fun W => (Lib.run_eql_slice_nil W _ _ (some ⟨b, off, none⟩) r.length c 0 0 Try.underlying33)
    go_enter Try.func16, Try.ntmps16
    go_wp2_with (at_builtin; go_loud (refine wpList_append_own _ rfl _ _ 33 rfl w.heap.size 39 i0 (.agg #[.int .i64 0, .int .i64 0, .string ⟨#[]⟩]) 3 32 Try.underlying33 hi hz0 hz1 hz2 rfl (by decide) _ _ _ rfl hown ⟨b, off, none⟩ r.length c (rowCells r) rfl (rowCells_len r) HN.out (rowCells_one r) ?c3 ?c4 ?c5 ?_))
    case c3 => unfold maxLen; omega
    case c4 => omega
    case c5 => simp
    intro v' w1 hown' hgrow _
    have hB1 : Below w.heap.size w w1 := hB0.grown hgrow (by simp) (fun k hk => (hown.lt k hk).1)
    obtain ⟨a', c', rfl, _, _, hrow⟩ := row_owned hown'
    have hbl : ∃ b cs fz, a' = some ⟨b, 0, none⟩ ∧ w1.heap[b]? = some (Obj.cells cs 39 fz) := by
      rcases hown'.2 with ⟨e, hl⟩ | ⟨g, cap', cur, e, hg, hh, _⟩
      · exact absurd (List.length_eq_zero_iff.1 hl) hne
      · obtain ⟨rfl, -, -⟩ := Value.slice.inj e
        exact ⟨g, cur, (0, 0), rfl, hh⟩
    clear hown' hgrow hown
    go_wp2
    go_ret
    exact ⟨⟨a', c', rfl, hrow, fun _ => hbl⟩, hB1⟩
end Go.Proofs.Ytipibbjcdkmjmaa
