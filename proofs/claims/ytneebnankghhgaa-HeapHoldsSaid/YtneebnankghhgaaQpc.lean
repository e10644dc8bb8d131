/- Several of my texts laid together, each as it was: Qpc. Conditions: each names its own. -/
import Derived.Test.YtneebnankghhgaaQpb
import Derived.Lib.SliceRun
/- The project's page: what slices.Clone makes of its slots (the same ones in new memory, or nil); a slot's row: contracts of the calls, in whatever memory. Conditions: the slots' cells are known. -/
namespace Go.Proofs.Ytneebnankghhgaa
open Go.RowKit

theorem own_nil (w : World) (base : Nat) : OwnS w base (.slice none 0 0) [] := ⟨World.ownsRow_nil w base 74 2⟩
set_option maxHeartbeats 1000000 in
theorem slotClone_any (a : Option Addr) (c : Nat) (p : Pg) (w : World) (h : SlotsAt w a p) (hl : p.length * 24 ≤ 140737488351232) :
    Calls Try.prog 30 #[.slice a p.length c] w fun e w' => (∃ v, e = .returned v ∧ OwnS w' w.heap.size v p) ∧ Below w.heap.size w w' := by
  obtain ⟨i0, hi, hz0, hz1, hz2⟩ := info_parts info52
  have hown : (w.alloc (Obj.cells #[] 74)).ownsRow w.heap.size 74 2 (.slice (some ⟨w.heap.size, 0, none⟩) 0 0) 0 [] := World.ownsRow_made w #[] 0 (Nat.le_refl _) (by unfold maxLen; omega) rfl
  have hB0 : Below w.heap.size w (w.alloc (Obj.cells #[] 74)) := (Below.refl _ _).alloc (Nat.le_refl _) _
  by_cases hne : p = []
  · subst hne
    cases a with
    | none =>
      have hq : ∀ W : World, (binOp .eql 53 (.slice none 0 c) (.slice none 0 0)).run Try.prog W = .ok (.bool true) W := fun W => (Lib.run_eql_slice_nil W _ _ none 0 c 0 0 Try.underlying53)
      go_enter Try.func30, Try.ntmps30
      go_wp2
      go_ret
      exact ⟨⟨_, rfl, own_nil _ _⟩, Below.refl _ _⟩
    | some ad =>
      have hq : ∀ W : World, (binOp .eql 53 (.slice (some ad) 0 c) (.slice none 0 0)).run Try.prog W = .ok (.bool false) W := fun W => (Lib.run_eql_slice_nil W _ _ (some ad) 0 c 0 0 Try.underlying53)
      go_enter Try.func30, Try.ntmps30
      go_wp2_with (at_builtin; go_must (refine wpList_append_own _ rfl _ _ 53 rfl w.heap.size 74 i0 (.agg #[.bool false, .string ⟨#[]⟩]) 2 24 Try.underlying53 hi hz0 hz1 hz2 rfl (by decide) _ _ _ rfl hown ad 0 c [] rfl rfl (fun j u h => by simp at h) (fun u h => by simp at h) ?c3 ?c4 ?c5 ?_))
      case c3 => unfold maxLen; omega
      case c4 => omega
      case c5 => simp
      intro v' w1 hown' hgrow _
      have hB1 : Below w.heap.size w w1 := hB0.grown hgrow (by simp) (fun k hk => (hown.lt k hk).1)
      have HO : OwnS w1 w.heap.size v' [] := ⟨by simpa [slotCells] using hown'⟩
      clear hown' hgrow hown
      obtain ⟨a', c', rfl, _, _, _⟩ := slots_owned HO
      go_wp2
      go_ret
      exact ⟨⟨_, rfl, HO⟩, hB1⟩
  · obtain ⟨b, off, rfl, hc⟩ := h hne
    have h' := slotCells_of (SlotsAt.later (fun _ => ⟨b, off, rfl, hc⟩ : SlotsAt w (some ⟨b, off, none⟩) p) hB0)
    have HN := hid0 h'
    clear hc h h'
    have hq : ∀ W : World, (binOp .eql 53 (.slice (some ⟨b, off, none⟩) p.length c) (.slice none 0 0)).run Try.prog W = .ok (.bool false) W := fun W => (Lib.run_eql_slice_nil W _ _ (some ⟨b, off, none⟩) p.length c 0 0 Try.underlying53)
    go_enter Try.func30, Try.ntmps30
    go_wp2_with (at_builtin; go_loud (refine wpList_append_own _ rfl _ _ 53 rfl w.heap.size 74 i0 (.agg #[.bool false, .string ⟨#[]⟩]) 2 24 Try.underlying53 hi hz0 hz1 hz2 rfl (by decide) _ _ _ rfl hown ⟨b, off, none⟩ p.length c (slotCells p) rfl (slotCells_len p) HN.out (slotCells_one p) ?c3 ?c4 ?c5 ?_))
    case c3 => unfold maxLen; omega
    case c4 => omega
    case c5 => simp
    intro v' w1 hown' hgrow _
    have hB1 : Below w.heap.size w w1 := hB0.grown hgrow (by simp) (fun k hk => (hown.lt k hk).1)
    have HO : OwnS w1 w.heap.size v' p := ⟨by simpa using hown'⟩
    clear hown' hgrow hown
    obtain ⟨a', c', rfl, _, _, _⟩ := slots_owned HO
    go_wp2
    go_ret
    exact ⟨⟨_, rfl, HO⟩, hB1⟩

set_option maxHeartbeats 2000000 in
theorem pgGet_any (a : Option Addr) (c : Nat) (p : Pg) (i : Int) (w : World) (h : SlotsAt w a p) (hc : p.length ≤ c) (hl : p.length * 24 ≤ 140737488351232) (hs : slotsIn p) (hi1 : -9223372036854775808 ≤ i) (hi : i ≤ 9223372036854775807) :
    Calls Try.prog 22 #[.agg #[.slice a p.length c], .int .i64 i] w fun e w' => e = .returned (.tuple #[.string (txt (getD p i)), .int .i64 (getE p i)]) ∧ Below w.heap.size w w' := by
  have A := hid0 h
  have HL := hid0 hl
  have C24 := fun W (hb : Below w.heap.size w W) => pgRight_any a c p W (A.out.later hb) hc hl hs
  have hB0 : Below w.heap.size w (w.alloc (Obj.cells #[.slice a p.length c] 55)) := (Below.refl _ _).alloc (Nat.le_refl _) _
  have q : (w.alloc (Obj.cells #[.slice a p.length c] 55)).cell? ⟨w.heap.size, 0, none⟩ = some (.slice a p.length c) := by go_cell
  clear h hs hc
  cases hr : rightB p with
  | false =>
    obtain ⟨e1, e2⟩ := get_wrong i hr
    rw [e1, e2]
    rw [hr] at C24
    clear hr e1 e2
    go_enter Try.func22, Try.ntmps22
    go_wp2_with (go_at_call 28; go_must (refine (C24 _ hB0).mono ?_; rintro e w1 ⟨rfl, hb⟩))
    go_returns
    exact ⟨rfl, below_through hb hB0.size hB0⟩
  | true =>
    rw [hr] at C24
    by_cases h0 : i < 0
    · obtain ⟨e1, e2⟩ := get_none hr (show gotP p i = none by unfold gotP; rw [if_neg (by omega)])
      rw [e1, e2]
      clear hr e1 e2
      go_enter Try.func22, Try.ntmps22
      go_wp2_with (go_at_call 28; go_must (refine (C24 _ hB0).mono ?_; rintro e w1 ⟨rfl, hb⟩))
      go_returns
      exact ⟨rfl, below_through hb hB0.size hB0⟩
    obtain ⟨k, rfl⟩ : ∃ k : Nat, i = k := ⟨i.toNat, by omega⟩
    by_cases hlt : k < p.length
    · obtain ⟨b, o, rfl, hc⟩ := A.out (by intro e; rw [e] at hlt; exact absurd hlt (by simp))
      obtain ⟨q0, q1⟩ := hc k hlt
      have r0 := cell_later hB0 q0
      have r1 := cell_later hB0 q1
      have hk0 : ¬ (k : Int) < 0 := h0
      have hk1 : ¬ (p.length : Int) ≤ k := by omega
      clear hc q0 q1 h0
      obtain ⟨⟨u, d⟩, hsi⟩ : ∃ s, p[k] = s := ⟨_, rfl⟩
      rw [hsi] at r0 r1
      cases u with
      | false =>
        obtain ⟨e1, e2⟩ := get_none hr (gotP_none (p := p) (i := k) (.inr ⟨d, by rw [List.getElem?_eq_getElem hlt, hsi]⟩))
        rw [e1, e2]
        clear hr e1 e2 hsi
        go_enter Try.func22, Try.ntmps22
        go_wp2_with (go_at_call 28; go_must (refine (C24 _ hB0).mono ?_; rintro e w1 ⟨rfl, hb⟩; have q' := cell_later hb q; have r0' := cell_later hb r0))
        go_returns
        exact ⟨rfl, below_through hb hB0.size hB0⟩
      | true =>
        obtain ⟨e1, e2⟩ := get_some hr (gotP_at (p := p) (i := k) (d := d) (by rw [List.getElem?_eq_getElem hlt, hsi]))
        rw [e1, e2]
        clear hr e1 e2 hsi
        go_enter Try.func22, Try.ntmps22
        go_wp2_with (go_at_call 28; go_must (refine (C24 _ hB0).mono ?_; rintro e w1 ⟨rfl, hb⟩; have q' := cell_later hb q; have r0' := cell_later hb r0; have r1' := cell_later hb r1))
        go_returns
        exact ⟨rfl, below_through hb hB0.size hB0⟩
    · obtain ⟨e1, e2⟩ := get_none hr (gotP_none (p := p) (i := k) (.inl (List.getElem?_eq_none (by omega))))
      rw [e1, e2]
      have hk0 : ¬ (k : Int) < 0 := h0
      have hk1 : (p.length : Int) ≤ k := by omega
      clear hr e1 e2
      go_enter Try.func22, Try.ntmps22
      go_wp2_with (go_at_call 28; go_must (refine (C24 _ hB0).mono ?_; rintro e w1 ⟨rfl, hb⟩; have q' := cell_later hb q))
      go_returns
      exact ⟨rfl, below_through hb hB0.size hB0⟩

end Go.Proofs.Ytneebnankghhgaa
