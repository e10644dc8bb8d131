/- Several of my texts laid together, each as it was: Am. Conditions: each names its own. -/
import Derived.Test.YtneebnankghhgacGreatDoorWz
import Derived.Test.YtneebnankghhgacGreatDoorAN
import Derived.Deep.Slices
import Derived.Deep.Strs
/- A list of rows that came in, opened: its rows' cells, what its values may be. Nothing of any program here but the types. Conditions: none. -/
namespace Go.Proofs.YtneebnankghhgacGreatDoor
open Go.ChangeShapes Go.WideShapes Go.ChangeAt Go.RowKit Go.Joins Go.Deep

theorem laidOut : laidOutB Tryz.prog = true := by kernel_rfl
theorem three_of {α : Type} : ∀ {l : List α}, l.length = 3 → ∃ a b c, l = [a, b, c]
  | [a, b, c], _ => ⟨a, b, c, rfl⟩
theorem list_of_each {α : Type} {P : Nat → α → Prop} : ∀ (n : Nat), (∀ i, i < n → ∃ x, P i x) → ∃ l : List α, l.length = n ∧ ∀ i (h : i < l.length), P i l[i]
  | 0, _ => ⟨[], rfl, fun i h => absurd h (by simp)⟩
  | n + 1, H => by
    obtain ⟨l, hl, hp⟩ := list_of_each n (fun i hi => H i (by omega))
    obtain ⟨x, hx⟩ := H n (by omega)
    refine ⟨l ++ [x], by simp [hl], fun i hi => ?_⟩
    by_cases h : i < l.length
    · rw [List.getElem_append_left h]; exact hp i h
    · have e : i = l.length := by simp at hi; omega
      subst e
      rw [List.getElem_append_right (Nat.le_refl _)]
      simpa [hl] using hx
theorem cells33 : Tryz.prog.cellsOf 23 = 1 := by kernel_rfl

section
variable {H : Type} {enc : TypeId × Value → H} {w : World} {base : Nat} {sp : Nat → Bool} {held : Bool}

set_option maxRecDepth 1000000 in
theorem open_row_at {fuel : Nat} {cs : List Value} {x : DataW H × List MemPlace} (hf : DataW.trod enc Tryz.prog w base sp held fuel 23 cs = some x) :
    ∃ (a : Option Addr) (l : List Val) (c : Nat), cs = [.slice a l.length c] ∧ l.length ≤ maxLen ∧ l.length ≤ c ∧ RowAt w a l ∧ (∀ x ∈ l, inI x) ∧ (l ≠ [] → ∃ es sp', x.1 = .slice es sp' ∧ l.length ≤ es.length) := by
  rcases open_slice Tryz.underlying23 hf with ⟨hcs, _⟩ | ⟨a, len, cap, m, n, D, Pl, hcs, _, hl, hm, hmm, hdx, hi⟩
  · subst hcs
    exact ⟨none, [], 0, rfl, by unfold maxLen; simp, Nat.le_refl _, fun h => absurd rfl h, fun x hx => absurd hx (by simp), fun h => absurd rfl h⟩
  · subst hcs
    have hlm : len ≤ m := by rw [hmm]; split <;> omega
    have each : ∀ i, i < len → ∃ x : Val, (w.cell? (a.add (i * 3)) = some (.int .i64 x.k) ∧ w.cell? (a.add (i * 3 + 1)) = some (.int .i64 x.n) ∧ w.cell? (a.add (i * 3 + 2)) = some (.string x.s)) ∧ inI x := by
      intro i hil
      obtain ⟨cs', hc, ht⟩ := hi i (by omega)
      rw [cells23] at hc
      obtain ⟨y0, y1, y2, n', _, hlen, g0, g1, g2⟩ := trod_struct3 Tryz.underlying28 ht
      obtain ⟨_, hcl, hat⟩ := World.cells?_some hc
      obtain ⟨x0, x1, x2, rfl⟩ := three_of hcl
      have c3 : Tryz.prog.cellsOf 3 = 1 := by kernel_rfl
      have c9 : Tryz.prog.cellsOf 9 = 1 := by kernel_rfl
      simp only [c3, c9] at g0 g1 g2
      obtain ⟨k, e0, _, _⟩ := DataW.trod_int Tryz.underlying3 g0
      obtain ⟨nn, e1, _, wn⟩ := DataW.trod_int Tryz.underlying3 g1
      obtain ⟨s, e2, _, ws⟩ := DataW.trod_string Tryz.underlying9 g2
      simp at e0 e1 e2
      subst e0 e1 e2
      have h0 := hat 0 (by omega)
      have h1 := hat 1 (by omega)
      have h2 := hat 2 (by omega)
      rw [add_add] at h0 h1 h2
      exact ⟨⟨k, nn, s⟩, ⟨by simpa using h0, by simpa using h1, by simpa using h2⟩, (bounds_i64 wn).1, (bounds_i64 wn).2, ws⟩
    obtain ⟨l, hll, hp⟩ := list_of_each len each
    subst hll
    refine ⟨some a, l, cap, rfl, by omega, by omega, fun hne => ?_, fun x hx => ?_, fun _ => ?_⟩
    rotate_left
    · obtain ⟨i, hi', rfl⟩ := List.mem_iff_getElem.1 hx
      exact (hp i hi').2
    · exact ⟨_, _, congrArg Prod.fst hdx, by simp⟩
    have hpos : 0 < l.length := by
      cases l with
      | nil => exact absurd rfl hne
      | cons _ _ => simp
    obtain ⟨b, off, spot⟩ := a
    have hspot : spot = none := by simpa [Addr.add] using World.cell?_spot (hp 0 hpos).1.1
    subst hspot
    refine ⟨b, off, rfl, fun i hi' => ?_⟩
    have := (hp i hi').1
    simp only [Go.WideShapes.add_plain] at this
    refine ⟨this.1, ?_, ?_⟩
    · rw [Nat.add_assoc]; exact this.2.1
    · rw [Nat.add_assoc]; exact this.2.2

set_option maxRecDepth 1000000 in
/-- A list of rows that came in: its elements' cells, and their rows'. -/
theorem open_lines_in {r : Reach} {b0 : Nat} {v : Value} {d : DataW H} {p : List MemPlace} (hv : Value.okWide Tryz.prog w r b0 22 v) (h : DataW.Trod enc Tryz.prog w base sp held 22 v d p) :
    ∃ (a : Option Addr) (Ls : List Line) (c : Nat), v = .slice a Ls.length c ∧ Ls.length ≤ maxLen ∧ Lns w a Ls ∧ ∀ e ∈ Ls, ∀ x ∈ e.r, inI x := by
  obtain ⟨a0, len, cap, rfl⟩ := okWide_slice Tryz.underlying22 hv
  obtain ⟨fuel, hf⟩ := h
  rcases open_slice Tryz.underlying22 hf with ⟨hcs, _⟩ | ⟨a, len', cap', m, n, D, Pl, hcs, _, hl, hm, hmm, hdx, hi⟩
  · simp [Value.cells] at hcs
    obtain ⟨rfl, rfl, rfl⟩ := hcs
    exact ⟨none, [], 0, rfl, by unfold maxLen; simp, ⟨fun h => absurd rfl h, fun x hx => absurd hx (by simp), fun x hx => absurd hx (by simp)⟩, fun x hx => absurd hx (by simp)⟩
  · simp [Value.cells] at hcs
    obtain ⟨rfl, rfl, rfl⟩ := hcs
    have hlm : len ≤ m := by rw [hmm]; split <;> omega
    have each : ∀ i, i < len → ∃ x : Line, w.cell? (a.add i) = some (.slice x.a x.r.length x.c) ∧ RowAt w x.a x.r ∧ x.r.length ≤ maxLen ∧ ∀ y ∈ x.r, inI y := by
      intro i hil
      obtain ⟨cs', hc, ht⟩ := hi i (by omega)
      rw [cells33, Nat.mul_one] at hc
      obtain ⟨ai, l, ci, rfl, hml, _, hrow, hin, _⟩ := open_row_at ht
      obtain ⟨_, hcl, hat⟩ := World.cells?_some hc
      have h0 := hat 0 (by omega)
      rw [add_add] at h0
      exact ⟨⟨ai, ci, l⟩, by simpa using h0, hrow, hml, hin⟩
    obtain ⟨l, hll, hp⟩ := list_of_each len each
    subst hll
    refine ⟨some a, l, cap, rfl, by omega, ⟨fun hne => ?_, fun x hx => ?_, fun x hx => ?_⟩, fun x hx => ?_⟩
    · have hpos : 0 < l.length := by
        cases l with
        | nil => exact absurd rfl hne
        | cons _ _ => simp
      obtain ⟨b, off, spot⟩ := a
      have hspot : spot = none := by simpa [Addr.add] using World.cell?_spot (hp 0 hpos).1
      subst hspot
      refine ⟨b, off, rfl, fun i hi' => ?_⟩
      have := (hp i hi').1
      simp only [Go.WideShapes.add_plain] at this
      exact this
    all_goals
      obtain ⟨i, hi', rfl⟩ := List.mem_iff_getElem.1 hx
      first | exact (hp i hi').2.1 | exact (hp i hi').2.2.1 | exact (hp i hi').2.2.2
end
end Go.Proofs.YtneebnankghhgacGreatDoor
