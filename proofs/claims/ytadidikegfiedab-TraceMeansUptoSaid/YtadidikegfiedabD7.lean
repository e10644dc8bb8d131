/- Several of my texts laid together, each as it was: T33. Conditions: each names its own. -/
import Derived.Test.YtadidikegfiedabC4
import Derived.Test.YtadidikegfiedabD3
import Derived.Test.YtadidikegfiedabB4
/- Steps that came in, opened: where they lie. Nothing of any program here but the types. Conditions: they hold at most 1048576 values and letters. -/
namespace Go.Proofs.Ytadidikegfiedab
open Go.ChangeShapes Go.WideShapes Go.ChangeAt Go.RowKit Go.Joins Go.Deep

set_option maxRecDepth 1000000 in
theorem cellsSt16 : Try.prog.cellsOf 56 = 3 := by kernel_rfl
section
variable {H : Type} {enc : TypeId × Value → H} {w : World} {base : Nat} {sp : Nat → Bool} {held : Bool}
set_option maxRecDepth 1000000 in
theorem open_elem16 {fuel : Nat} {cs : List Value} {x : DataW H × List MemPlace} (hb : Rows.uptoBulk x.1 ≤ 1048576) (h : DataW.trod enc Try.prog w base sp held fuel 51 cs = some x) :
    ∃ e : Elem, cs = cellsOne e ∧ ((RowAt w e.a e.r ∧ rowOK e.r) ∧ (∀ x ∈ e.r, inI x) ∧ in64 e.n ∧ e.r.length ≤ e.c) ∧ 3 ≤ Rows.uptoBulk x.1 := by
  obtain ⟨e, h1, h2, h3, h4, h5⟩ := open_elem hb h
  obtain ⟨y0, y1, n, hx, _, _, _⟩ := trod_s2 Try.underlying51 h
  refine ⟨e, h1, ⟨h2, h3, h4, h5⟩, ?_⟩
  rw [hx]
  simp only [Rows.uptoBulk, Rows.uptoBulkAll]
  have := bulk_one y0.1
  have := bulk_one y1.1
  omega
set_option maxRecDepth 1000000 in
theorem open_elems16 {fuel : Nat} {cs : List Value} {x : DataW H × List MemPlace} (hb : Rows.uptoBulk x.1 ≤ 1048576) (h : DataW.trod enc Try.prog w base sp held fuel 32 cs = some x) (hw : ∀ n ∈ x.1.weights Try.prog 32, n ≤ reachBytes) :
    ∃ (a : Option Addr) (E : List Elem) (c : Nat), cs = [.slice a E.length c] ∧ ElemsI w a c E ∧ E.length ≤ 1000000 := by
  obtain ⟨a, l, c, hcs, hc, hR, hA, _, hs⟩ := open_rowsBN cellsOne (fun e => (RowAt w e.a e.r ∧ rowOK e.r) ∧ (∀ x ∈ e.r, inI x) ∧ in64 e.n ∧ e.r.length ≤ e.c) (fun _ => 3) Try.underlying32 (by omega) cellsM12 (fun _ => rfl) (fun hb h _ => open_elem16 hb h) hb h hw
  rw [sum_three16] at hs
  refine ⟨a, l, c, hcs, ⟨⟨fun hn => ?_, fun e he => (hA e he).1⟩, fun e he => (hA e he).2, by omega, hc⟩, by omega⟩
  obtain ⟨b, o, e, hx⟩ := rowc_all hR (by simpa using hn)
  refine ⟨b, o, e, fun i hi => ?_⟩
  have h0 := hx i (by simpa using hi) 0 (.slice l[i].a l[i].r.length l[i].c) (by simp [cellsOne])
  have h1 := hx i (by simpa using hi) 1 (.int .i64 l[i].n) (by simp [cellsOne])
  exact ⟨by simpa using h0, h1⟩
set_option maxRecDepth 1000000 in
theorem open_step16 {fuel : Nat} {cs : List Value} {x : DataW H × List MemPlace} (hb : Rows.uptoBulk x.1 ≤ 1048576) (h : DataW.trod enc Try.prog w base sp held fuel 56 cs = some x) (hw : ∀ n ∈ x.1.weights Try.prog 56, n ≤ reachBytes) :
    ∃ y : StX, cs = y.cells ∧ ElemsI w y.a y.c y.E ∧ y.E.length ≤ 1000000 ∧ in64 y.l := by
  obtain ⟨y0, y1, y2, n, hx, hlen, g0, g1, g2⟩ := trod_s3N Try.underlying56 h
  obtain ⟨u0, u1, u2, rfl⟩ := three_cells16 (hlen.trans cellsSt16)
  have c3 : Try.prog.cellsOf 3 = 1 := cells3
  simp only [c3, cellsLm12, cellsB12] at g0 g1 g2
  have hbe := bulk_each hx hb
  have hw0 : ∀ n ∈ y0.1.weights Try.prog 32, n ≤ reachBytes := fun n hn => hw n (by
    rw [hx]
    simp only [DataW.weights, Try.underlying56]
    exact DataW.weights_mem_each (j := 0) (t := 32) rfl rfl _ hn)
  obtain ⟨a, E, c, e0, hE, hl⟩ := open_elems16 (hbe y0.1 (by simp)) g0 hw0
  obtain ⟨d, e1, _⟩ := DataW.trod_bool Try.underlying4 g1
  obtain ⟨m, e2, _, wm⟩ := DataW.trod_int Try.underlying3 g2
  simp at e0 e1 e2
  subst e0 e1 e2
  exact ⟨⟨a, c, E, d, m⟩, rfl, hE, hl, bounds_i64 wm⟩
set_option maxRecDepth 1000000 in
/-- Steps that came in. -/
theorem open_steps {r : Reach} {b0 : Nat} {v : Value} {d : DataW H} {p : List MemPlace} (hv : Value.okWide Try.prog w r b0 22 v) (h : DataW.Trod enc Try.prog w base sp held 22 v d p) (hw : ∀ n ∈ d.weights Try.prog 22, n ≤ reachBytes) (hb : Rows.uptoBulk d ≤ 1048576) :
    ∃ (a : Option Addr) (S : List StX) (c : Nat), v = .slice a S.length c ∧ StepsAt w a S := by
  obtain ⟨a0, len, cap, rfl⟩ := okWide_slice Try.underlying22 hv
  obtain ⟨fuel, hf⟩ := h
  obtain ⟨a, l, c, hcs, _, hR, hA, hl⟩ := open_rows StX.cells (fun y => ElemsI w y.a y.c y.E ∧ y.E.length ≤ 1000000 ∧ in64 y.l) Try.underlying22 (by omega) cellsSt16 (fun _ => rfl) (fun hb h hw => open_step16 hb h hw) (x := (d, p)) hb hf hw
  simp [Value.cells] at hcs
  obtain ⟨rfl, rfl, rfl⟩ := hcs
  refine ⟨a0, l, cap, rfl, ⟨fun hn => ?_, hA, hl⟩⟩
  obtain ⟨b, o, e, hx⟩ := rowc_all hR (by simpa using hn)
  refine ⟨b, o, e, fun i hi => ?_⟩
  have h0 := hx i (by simpa using hi) 0 (.slice l[i].a l[i].E.length l[i].c) (by simp [StX.cells])
  have h1 := hx i (by simpa using hi) 1 (.bool l[i].p) (by simp [StX.cells])
  have h2 := hx i (by simpa using hi) 2 (.int .i64 l[i].l) (by simp [StX.cells])
  exact ⟨by simpa using h0, h1, h2⟩
end
end Go.Proofs.Ytadidikegfiedab
