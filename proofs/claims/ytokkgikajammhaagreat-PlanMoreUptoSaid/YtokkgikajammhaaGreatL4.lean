/- Several of my texts laid together, each as it was: M8. Conditions: each names its own. -/
import Derived.Test.YtokkgikajammhaaGreatK4
/- A part, what is there and rows more that came in, opened: where they lie. Nothing of any program here but the types. Conditions: they hold at most 1048576 values and letters. -/
namespace Go.Proofs.YtokkgikajammhaaGreat
open Go.ChangeShapes Go.WideShapes Go.ChangeAt Go.RowKit Go.Joins Go.Deep

set_option maxRecDepth 1000000 in
theorem cellsMo12 : Tryz.prog.cellsOf 66 = 23 := by kernel_rfl
theorem bulk_three {H : Type} : ∀ l : List (DataW H), (∀ d ∈ l, 3 ≤ Rows.uptoBulk d) → l.length * 3 ≤ Rows.uptoBulkAll l
  | [], _ => by simp [Rows.uptoBulkAll]
  | x :: l, h => by
    have h1 := bulk_three l (fun d hd => h d (by simp [hd]))
    have h2 := h x (by simp)
    simp only [Rows.uptoBulkAll, List.length_cons]; omega
section
variable {H : Type} {enc : TypeId × Value → H} {w : World} {base : Nat} {sp : Nat → Bool} {held : Bool}
theorem elems_few {fuel : Nat} {cs : List Value} {x : DataW H × List MemPlace} (hb : Rows.uptoBulk x.1 ≤ 1048576) (h : DataW.trod enc Tryz.prog w base sp held fuel 46 cs = some x) : ∀ (a : Option Addr) (n c : Nat), cs = [.slice a n c] → n ≤ 400000 := fun a' n' c' e' => by
  rcases open_slice Tryz.underlying46 h with ⟨hcs, _⟩ | ⟨a, len, cap, mm, n3, D, Pl, hcs, _, hl, hmx, hmm, hdx, hi⟩
  · rw [hcs] at e'; simp at e'; omega
  · have hlm : len ≤ mm := by rw [hmm]; split <;> omega
    have hd : x.1 = .slice ((List.range len).map D) ((List.range (mm - len)).map fun j => D (len + j)) := congrArg Prod.fst hdx
    rw [hd] at hb
    simp only [Rows.uptoBulk] at hb
    have h3 := bulk_three ((List.range len).map D) (fun d hd => by
      obtain ⟨i, hi2, rfl⟩ := List.mem_map.1 hd
      have hil := List.mem_range.1 hi2
      obtain ⟨cs', _, ht'⟩ := hi i (by omega)
      obtain ⟨y0, y1, n, hx, _⟩ := trod_s2 Tryz.underlying53 ht'
      have hx : D i = .agg [y0.1, y1.1] := hx
      have b0 := bulk_one y0.1
      have b1 := bulk_one y1.1
      rw [hx]
      simp only [Rows.uptoBulk, Rows.uptoBulkAll]; omega)
    rw [List.length_map, List.length_range] at h3
    rw [hcs] at e'
    simp at e'
    omega
set_option maxRecDepth 1000000 in
theorem open_named2 {fuel : Nat} {cs : List Value} {x : DataW H × List MemPlace} (hb : Rows.uptoBulk x.1 ≤ 1048576) (h : DataW.trod enc Tryz.prog w base sp held fuel 63 cs = some x) (hw : ∀ n ∈ x.1.weights Tryz.prog 63, n ≤ reachBytes) :
    ∃ y : Nx, cs = y.cells ∧ (ElemsI w y.a y.c y.E ∧ y.s.size ≤ maxLen) ∧ y.E.length ≤ 400000 := by
  obtain ⟨y0, y1, n, hx, hlen, g0, g1⟩ := trod_s2 Tryz.underlying63 h
  obtain ⟨u0, u1, rfl⟩ := two_cells (hlen.trans cellsN12)
  simp only [cellsS, cellsLm12] at g0 g1
  have hbe := bulk_each hx hb
  have hw1 : ∀ n ∈ y1.1.weights Tryz.prog 46, n ≤ reachBytes := fun n hn => hw n (by
    rw [hx]
    simp only [DataW.weights, Tryz.underlying63]
    exact DataW.weights_mem_each (j := 1) (t := 46) rfl rfl _ hn)
  obtain ⟨s, e0, _, ws⟩ := DataW.trod_string Tryz.underlying9 g0
  obtain ⟨a, E, c, e1, hE⟩ := open_elems (hbe y1.1 (by simp)) g1 hw1
  have hfw := elems_few (hbe y1.1 (by simp)) g1 a E.length c e1
  simp at e0 e1
  subst e0 e1
  exact ⟨⟨s, a, c, E⟩, rfl, ⟨hE, ws⟩, hfw⟩

set_option maxRecDepth 1000000 in
theorem open_names2 {fuel : Nat} {cs : List Value} {x : DataW H × List MemPlace} (hb : Rows.uptoBulk x.1 ≤ 1048576) (h : DataW.trod enc Tryz.prog w base sp held fuel 25 cs = some x) (hw : ∀ n ∈ x.1.weights Tryz.prog 25, n ≤ reachBytes) :
    ∃ (a : Option Addr) (l : List Nx) (c : Nat), cs = [.slice a l.length c] ∧ NsOk w a l ∧ ∀ y ∈ l, y.E.length ≤ 400000 := by
  obtain ⟨a, l, c, hcs, _, hR, hA, hl⟩ := open_rows Nx.cells (fun y => (ElemsI w y.a y.c y.E ∧ y.s.size ≤ maxLen) ∧ y.E.length ≤ 400000) Tryz.underlying25 (by omega) cellsN12 (fun _ => rfl) (fun hb h hw => open_named2 hb h hw) hb h hw
  exact ⟨a, l, c, hcs, ⟨hR, fun y hy => (hA y hy).1, by omega⟩, fun y hy => (hA y hy).2⟩
set_option maxRecDepth 1000000 in
theorem cellsLn12 : Tryz.prog.cellsOf 25 = 1 := by kernel_rfl
theorem cut23 {L c0 : List Value} {x1 x2 x3 : Value} (hl : L.length = 23) (h0 : (L.drop 0).take 20 = c0) (h1 : (L.drop 20).take 1 = [x1]) (h2 : (L.drop 21).take 1 = [x2]) (h3 : (L.drop 22).take 1 = [x3]) : L = c0 ++ [x1, x2, x3] := by
  obtain ⟨a, b, c, e⟩ := three_of (show (L.drop 20).length = 3 by rw [List.length_drop]; omega)
  have e1 : L.drop 21 = [b, c] := by
    have := congrArg (List.drop 1) e
    rw [List.drop_drop] at this
    simpa using this
  have e2 : L.drop 22 = [c] := by
    have := congrArg (List.drop 2) e
    rw [List.drop_drop] at this
    simpa using this
  rw [e] at h1
  rw [e1] at h2
  rw [e2] at h3
  simp at h1 h2 h3
  rw [← h0, ← h1, ← h2, ← h3, ← e, List.drop_zero]
  exact (List.take_append_drop 20 L).symm
set_option maxRecDepth 1000000 in
/-- A part, what is there, a place and rows more that came in. -/
theorem open_more {r : Reach} {b0 : Nat} {v : Value} {d : DataW H} {p : List MemPlace} (hv : Value.okWide Tryz.prog w r b0 66 v) (h : DataW.Trod enc Tryz.prog w base sp held 66 v d p) (hw : ∀ n ∈ d.weights Tryz.prog 66, n ≤ reachBytes) (hb : Rows.uptoBulk d ≤ 1048576) :
    ∃ (q : Px) (a2 : Option Addr) (l : List Nx) (c2 : Nat) (k : Int) (a3 : Option Addr) (M : List Elem) (c3 : Nat), v = .agg (q.cells ++ [Value.slice a2 l.length c2, Value.int .i64 k, Value.slice a3 M.length c3]).toArray ∧ PxOk w 1048576 q ∧ NsOk w a2 l ∧ ElemsI w a3 c3 M ∧ in64 k ∧ M.length ≤ 400000 ∧ ∀ x ∈ l, x.E.length ≤ 400000 := by
  obtain ⟨cs, rfl, hsz⟩ := okWide_struct Tryz.underlying66 hv
  obtain ⟨fuel, hf⟩ := h
  obtain ⟨y0, y1, y2, y3, n, hx, hlen, g0, g1, g2, g3⟩ := trod_s4 (x := (d, p)) Tryz.underlying66 hf
  have hx : d = .agg [y0.1, y1.1, y2.1, y3.1] := hx
  have hbe := bulk_each hx hb
  have hwj : ∀ (j : Nat) (t : TypeId) (y : DataW H), [44, 25, 3, 46][j]? = some t → [y0.1, y1.1, y2.1, y3.1][j]? = some y → ∀ n ∈ y.weights Tryz.prog t, n ≤ reachBytes := fun j t y ht hy n hn => hw n (by
    rw [hx]
    simp only [DataW.weights, Tryz.underlying66]
    exact DataW.weights_mem_each (j := j) (t := t) ht hy _ hn)
  have c3 : Tryz.prog.cellsOf 3 = 1 := cells3
  simp only [cellsP12, cellsLn12, c3, cellsLm12] at g0 g1 g2 g3
  have hl1 : cs.toList.length = 23 := by simpa [Value.cells] using hlen.trans cellsMo12
  obtain ⟨q, e0, hq⟩ := open_part (hbe y0.1 (by simp)) g0 (hwj 0 _ _ rfl rfl)
  obtain ⟨a2, l, c2, e1, hN, hNl⟩ := open_names2 (hbe y1.1 (by simp)) g1 (hwj 1 _ _ rfl rfl)
  obtain ⟨k, e2, _, wk⟩ := DataW.trod_int Tryz.underlying3 g2
  obtain ⟨a3, M, cc3, e3, hM⟩ := open_elems (hbe y3.1 (by simp)) g3 (hwj 3 _ _ rfl rfl)
  have hfw := elems_few (hbe y3.1 (by simp)) g3 a3 M.length cc3 e3
  have hL := cut23 hl1 e0 e1 e2 e3
  refine ⟨q, a2, l, c2, k, a3, M, cc3, ?_, hq, hN, hM, bounds_i64 wk, hfw, hNl⟩
  rw [← Array.toArray_toList (xs := cs), hL]
end
end Go.Proofs.YtokkgikajammhaaGreat
