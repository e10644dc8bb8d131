/- A list of rows that came in, opened: its rows' cells; how great each may be. Nothing of any program here but the types. Conditions: none. -/
import Derived.Test.YtipibbjcdkmjmaaZa
import Derived.Test.YtipibbjcdkmjmaaBb
namespace Go.Proofs.Ytipibbjcdkmjmaa
open Go.ChangeShapes Go.WideShapes Go.ChangeAt Go.RowKit Go.Joins Go.Deep

theorem cells33 : Try.prog.cellsOf 33 = 1 := by kernel_rfl
theorem bytes33 : Try.prog.bytesOf 33 = 24 := by kernel_rfl
theorem weights_all {H : Type} {P : Program} {e : TypeId} : ∀ {ds : List (DataW H)} {d : DataW H}, d ∈ ds → ∀ n ∈ d.weights P e, n ∈ DataW.weightsAll P e ds
  | d0 :: ds, d, hd, n, hn => by
    simp only [DataW.weightsAll, List.mem_append]
    rcases List.mem_cons.1 hd with rfl | hd
    · exact .inl hn
    · exact .inr (weights_all hd n hn)

section
variable {H : Type} {enc : TypeId × Value → H} {w : World} {base : Nat} {sp : Nat → Bool} {held : Bool}

/-- A row of values that came in, at its cells: its elements' cells. -/
theorem open_row_at {fuel : Nat} {cs : List Value} {x : DataW H × List MemPlace} (hf : DataW.trod enc Try.prog w base sp held fuel 33 cs = some x) :
    ∃ (a : Option Addr) (l : List Val) (c : Nat), cs = [.slice a l.length c] ∧ l.length ≤ maxLen ∧ l.length ≤ c ∧ RowAt w a l ∧ (∀ x ∈ l, inI x) ∧ (l ≠ [] → ∃ es sp', x.1 = .slice es sp' ∧ l.length ≤ es.length) := by
  rcases open_slice Try.underlying33 hf with ⟨hcs, _⟩ | ⟨a, len, cap, m, n, D, Pl, hcs, _, hl, hm, hmm, hdx, hi⟩
  · subst hcs
    exact ⟨none, [], 0, rfl, by unfold maxLen; simp, Nat.le_refl _, fun h => absurd rfl h, fun x hx => absurd hx (by simp), fun h => absurd rfl h⟩
  · subst hcs
    have hlm : len ≤ m := by rw [hmm]; split <;> omega
    have each : ∀ i, i < len → ∃ x : Val, (w.cell? (a.add (i * 3)) = some (.int .i64 x.k) ∧ w.cell? (a.add (i * 3 + 1)) = some (.int .i64 x.n) ∧ w.cell? (a.add (i * 3 + 2)) = some (.string x.s)) ∧ inI x := by
      intro i hil
      obtain ⟨cs', hc, ht⟩ := hi i (by omega)
      rw [cells23] at hc
      obtain ⟨y0, y1, y2, n', _, hlen, g0, g1, g2⟩ := trod_struct3 Try.underlying39 ht
      obtain ⟨_, hcl, hat⟩ := World.cells?_some hc
      obtain ⟨x0, x1, x2, rfl⟩ := three_of hcl
      have c3 : Try.prog.cellsOf 3 = 1 := by kernel_rfl
      have c9 : Try.prog.cellsOf 9 = 1 := by kernel_rfl
      simp only [c3, c9] at g0 g1 g2
      obtain ⟨k, e0, _, _⟩ := DataW.trod_int Try.underlying3 g0
      obtain ⟨nn, e1, _, wn⟩ := DataW.trod_int Try.underlying3 g1
      obtain ⟨s, e2, _, ws⟩ := DataW.trod_string Try.underlying9 g2
      simp at e0 e1 e2
      subst e0 e1 e2
      have h0 := hat 0 (by omega)
      have h1 := hat 1 (by omega)
      have h2 := hat 2 (by omega)
      rw [add_add] at h0 h1 h2
      exact ⟨⟨k, nn, s⟩, ⟨by simpa using h0, by simpa using h1, by simpa using h2⟩, (bounds_i64 wn).1, (bounds_i64 wn).2, ws⟩
    obtain ⟨l, hll, hp⟩ := list_of_each len each
    subst hll
    refine ⟨some a, l, cap, rfl, by omega, by omega, fun hne => ?_, fun x hx => ?_, fun _ => ?_⟩
    rotate_left
    · obtain ⟨i, hi', rfl⟩ := List.mem_iff_getElem.1 hx
      exact (hp i hi').2
    · exact ⟨_, _, congrArg Prod.fst hdx, by simp⟩
    have hpos : 0 < l.length := by
      cases l with
      | nil => exact absurd rfl hne
      | cons _ _ => simp
    obtain ⟨b, off, spot⟩ := a
    have hspot : spot = none := by simpa [Addr.add] using World.cell?_spot (hp 0 hpos).1.1
    subst hspot
    refine ⟨b, off, rfl, fun i hi' => ?_⟩
    have := (hp i hi').1
    simp only [Go.WideShapes.add_plain] at this
    refine ⟨this.1, ?_, ?_⟩
    · rw [Nat.add_assoc]; exact this.2.1
    · rw [Nat.add_assoc]; exact this.2.2

/-- A list of rows that came in: its elements' cells, and their rows'. -/
theorem open_lines {r : Reach} {b0 : Nat} {v : Value} {d : DataW H} {p : List MemPlace} (hv : Value.okWide Try.prog w r b0 22 v) (h : DataW.Trod enc Try.prog w base sp held 22 v d p) (hw : ∀ n ∈ d.weights Try.prog 22, n ≤ reachBytes) :
    ∃ (a : Option Addr) (Ls : List Line) (c : Nat), v = .slice a Ls.length c ∧ Ls.length ≤ maxLen ∧ Ls.length ≤ c ∧ LinesAt w a Ls ∧ Ls.length * 24 ≤ 140737488351232 := by
  obtain ⟨a0, len, cap, rfl⟩ := okWide_slice Try.underlying22 hv
  obtain ⟨fuel, hf⟩ := h
  rcases open_slice Try.underlying22 hf with ⟨hcs, _⟩ | ⟨a, len', cap', m, n, D, Pl, hcs, _, hl, hm, hmm, hdx, hi⟩
  · simp [Value.cells] at hcs
    obtain ⟨rfl, rfl, rfl⟩ := hcs
    exact ⟨none, [], 0, rfl, by unfold maxLen; simp, Nat.le_refl _, ⟨fun h => absurd rfl h, fun x hx => absurd hx (by simp)⟩, by simp⟩
  · simp [Value.cells] at hcs
    obtain ⟨rfl, rfl, rfl⟩ := hcs
    have hlm : len ≤ m := by rw [hmm]; split <;> omega
    have hd : d = .slice ((List.range len).map D) ((List.range (m - len)).map fun j => D (len + j)) := congrArg Prod.fst hdx
    have hbytes : len * 24 ≤ 140737488351232 := by
      have h := hw ((((List.range len).map D).length + ((List.range (m - len)).map fun j => D (len + j)).length) * Try.prog.bytesOf 33) (by rw [hd]; simp only [DataW.weights, Try.underlying22]; exact List.mem_cons_self)
      rw [bytes33] at h
      simp [reachBytes] at h
      omega
    have each : ∀ i, i < len → ∃ x : Line, w.cell? (a.add i) = some (.slice x.a x.r.length x.c) ∧ RowAt w x.a x.r ∧ rowOK x.r := by
      intro i hil
      obtain ⟨cs', hc, ht⟩ := hi i (by omega)
      rw [cells33, Nat.mul_one] at hc
      obtain ⟨ai, l, ci, rfl, _, _, hrow, _, hsz⟩ := open_row_at ht
      obtain ⟨_, hcl, hat⟩ := World.cells?_some hc
      have h0 := hat 0 (by omega)
      rw [add_add] at h0
      refine ⟨⟨ai, ci, l⟩, by simpa using h0, hrow, ?_⟩
      by_cases hne : l = []
      · rw [hne]; unfold rowOK; simp
      · obtain ⟨es, sp', e, hle⟩ := hsz hne
        have hmem : D i ∈ (List.range len).map D := List.mem_map_of_mem (f := D) (List.mem_range.2 hil)
        have h := hw ((es.length + sp'.length) * Try.prog.bytesOf 39) (by
          rw [hd]
          simp only [DataW.weights, Try.underlying22, List.mem_cons, List.mem_append]
          refine .inr (.inl (weights_all hmem _ ?_))
          have e' : D i = .slice es sp' := e
          rw [e']
          simp only [DataW.weights, Try.underlying33, List.mem_cons]
          exact .inl trivial)
        rw [bytes23] at h
        simp only [reachBytes] at h
        unfold rowOK
        show l.length * 32 ≤ _
        omega
    obtain ⟨l, hll, hp⟩ := list_of_each len each
    subst hll
    refine ⟨some a, l, cap, rfl, by omega, by omega, ⟨fun hne => ?_, fun x hx => ?_⟩, hbytes⟩
    · have hpos : 0 < l.length := by
        cases l with
        | nil => exact absurd rfl hne
        | cons _ _ => simp
      obtain ⟨b, off, spot⟩ := a
      have hspot : spot = none := by simpa [Addr.add] using World.cell?_spot (hp 0 hpos).1
      subst hspot
      refine ⟨b, off, rfl, fun i hi' => ?_⟩
      have := (hp i hi').1
      simp only [Go.WideShapes.add_plain] at this
      exact this
    · obtain ⟨i, hi', rfl⟩ := List.mem_iff_getElem.1 hx
      exact (hp i hi').2
end
end Go.Proofs.Ytipibbjcdkmjmaa
