/- Several of my texts laid together, each as it was: Za, Yo. Conditions: each names its own. -/
import Derived.Test.YtfdkajefcplfjaaGreatRows
import Derived.Test.YtfdkajefcplfjaaGreatH1
import Derived.ProofKit
import Derived.OpenShut
import Derived.SizedLaws
import Derived.Handed
import Derived.Deep.Slices
import Derived.Deep.Strs
import Derived.WalkKit
import Derived.Lib.SmallJoins
import Derived.ChangeMaps5
import Derived.Test.YtfdkajefcplfjaaGreatH2
/- What the rows of a seat without listed variables share: a value of three fields, and a list of ints, opened and shut. -/
namespace Go.Proofs.YtfdkajefcplfjaaGreat
open Go.ChangeShapes Go.WideShapes Go.ChangeAt Go.RowKit Go.Joins Go.Deep

set_option maxRecDepth 1000000 in
theorem own : ownKnob Tryz.prog.godebug = none := by kernel_rfl
set_option maxRecDepth 1000000 in
theorem laidOut : laidOutB Tryz.prog = true := by kernel_rfl
set_option maxRecDepth 1000000 in
theorem cells23 : Tryz.prog.cellsOf 41 = 3 := by kernel_rfl
set_option maxRecDepth 1000000 in
theorem cells3 : Tryz.prog.cellsOf 3 = 1 := by kernel_rfl
set_option maxRecDepth 1000000 in
theorem bytes23 : Tryz.prog.bytesOf 41 = 32 := by kernel_rfl
set_option maxRecDepth 1000000 in
theorem bytes3 : Tryz.prog.bytesOf 3 = 8 := by kernel_rfl

set_option maxRecDepth 1000000 in
theorem three_of {α : Type} : ∀ {l : List α}, l.length = 3 → ∃ a b c, l = [a, b, c]
  | [a, b, c], _ => ⟨a, b, c, rfl⟩
set_option maxRecDepth 1000000 in
theorem list_of_each {α : Type} {P : Nat → α → Prop} : ∀ (n : Nat), (∀ i, i < n → ∃ x, P i x) → ∃ l : List α, l.length = n ∧ ∀ i (h : i < l.length), P i l[i]
  | 0, _ => ⟨[], rfl, fun i h => absurd h (by simp)⟩
  | n + 1, H => by
    obtain ⟨l, hl, hp⟩ := list_of_each n (fun i hi => H i (by omega))
    obtain ⟨x, hx⟩ := H n (by omega)
    refine ⟨l ++ [x], by simp [hl], fun i hi => ?_⟩
    by_cases h : i < l.length
    · rw [List.getElem_append_left h]; exact hp i h
    · have e : i = l.length := by simp at hi; omega
      subst e
      rw [List.getElem_append_right (Nat.le_refl _)]
      simpa [hl] using hx

section
variable {H : Type} {enc : TypeId × Value → H} {w : World} {base : Nat} {sp : Nat → Bool} {held : Bool}

set_option maxRecDepth 1000000 in
/-- A value that came in: its kind, its number, its text. -/
theorem open_value {r : Reach} {b0 : Nat} {v : Value} {d : DataW H} {p : List MemPlace} (hv : Value.okWide Tryz.prog w r b0 41 v) (h : DataW.Trod enc Tryz.prog w base sp held 41 v d p) :
    ∃ (k n : Int) (s : ByteArray), v = .agg #[.int .i64 k, .int .i64 n, .string s] ∧ d = .agg [.lit (.int .i64 k), .lit (.int .i64 n), .lit (.string s.data.toList)] ∧ p = [] ∧
      (Lit.int .i64 k).wf = true ∧ (Lit.int .i64 n).wf = true ∧ s.size ≤ maxLen := by
  obtain ⟨c0, c1, c2, y0, y1, y2, fu, rfl, rfl, rfl, hy0, hy1, hy2⟩ := open_agg3 Tryz.underlying41 (by kernel_rfl) cells23 hv h
  obtain ⟨k, e0, rfl, wk⟩ := DataW.trod_int Tryz.underlying3 hy0
  obtain ⟨n, e1, rfl, wn⟩ := DataW.trod_int Tryz.underlying3 hy1
  obtain ⟨s, e2, rfl, ws⟩ := DataW.trod_string Tryz.underlying9 hy2
  simp at e0 e1 e2
  subst e0 e1 e2
  exact ⟨k, n, s, rfl, rfl, rfl, wk, wn, ws⟩

set_option maxRecDepth 1000000 in
theorem shut_value {k n : Int} {s : ByteArray} (wk : (Lit.int .i64 k).wf = true) (wn : (Lit.int .i64 n).wf = true) (ws : s.size ≤ maxLen) :
    DataW.Trod enc Tryz.prog w base sp held 41 (.agg #[.int .i64 k, .int .i64 n, .string s]) (.agg [.lit (.int .i64 k), .lit (.int .i64 n), .lit (.string s.data.toList)]) [] :=
  shut_agg3 (y0 := (.lit (.int .i64 k), [])) (y1 := (.lit (.int .i64 n), [])) (y2 := (.lit (.string s.data.toList), [])) Tryz.underlying41 (by kernel_rfl) cells23
    ⟨1, by simp [DataW.trod, Tryz.underlying3, wk]⟩ ⟨1, by simp [DataW.trod, Tryz.underlying3, wn]⟩ ⟨1, by simp [DataW.trod, Tryz.underlying9, ws]⟩

set_option maxRecDepth 1000000 in
/-- A list of ints that came in: its elements' cells. -/
theorem open_list {r : Reach} {b0 : Nat} {v : Value} {d : DataW H} {p : List MemPlace} (hv : Value.okWide Tryz.prog w r b0 39 v) (h : DataW.Trod enc Tryz.prog w base sp held 39 v d p) :
    ∃ (a : Option Addr) (l : List Int) (c : Nat), v = .slice a l.length c ∧ l.length ≤ maxLen ∧ l.length ≤ c ∧ IntsAt w a l ∧ (l ≠ [] → ∃ es sp', d = .slice es sp' ∧ l.length ≤ es.length) ∧ (a = none → l = [] ∧ c = 0) := by
  obtain ⟨a0, len, cap, rfl⟩ := okWide_slice Tryz.underlying39 hv
  obtain ⟨fuel, hf⟩ := h
  rcases open_ints Tryz.underlying39 Tryz.underlying3 cells3 hf with ⟨hcs, hx⟩ | ⟨a, len', cap', zs, hcs, hcap, hl, hm, hz, hx, hcell, hwz⟩
  · simp [Value.cells] at hcs
    obtain ⟨rfl, rfl, rfl⟩ := hcs
    exact ⟨none, [], 0, rfl, by unfold maxLen; simp, Nat.le_refl _, fun h => absurd rfl h, fun h => absurd rfl h, fun _ => ⟨rfl, rfl⟩⟩
  · simp [Value.cells] at hcs
    obtain ⟨rfl, rfl, rfl⟩ := hcs
    simp only [Prod.mk.injEq] at hx
    obtain ⟨rfl, rfl⟩ := hx
    have hlm : len ≤ zs.length := by rw [hz]; split <;> omega
    have hll : (zs.take len).length = len := by rw [List.length_take]; omega
    refine ⟨some a, zs.take len, cap, by rw [hll], by omega, by omega, fun hne => ?_, fun _ => ⟨_, _, rfl, by simp [lits]⟩, fun h => by cases h⟩
    have hpos : 0 < len := by
      rcases Nat.eq_zero_or_pos len with h | h
      · subst h; exact absurd (by simp) hne
      · exact h
    obtain ⟨b, off, spot⟩ := a
    have hspot : spot = none := by simpa [Addr.add] using World.cell?_spot (hcell 0 (by omega))
    subst hspot
    refine ⟨b, off, rfl, fun i hi => ?_⟩
    have := hcell i (by omega)
    rw [add_plain] at this
    rw [this]
    have : i < zs.length := by omega
    simp [this]

set_option maxRecDepth 1000000 in
/-- A row of values that came in: its elements' cells. -/
theorem open_row {r : Reach} {b0 : Nat} {v : Value} {d : DataW H} {p : List MemPlace} (hv : Value.okWide Tryz.prog w r b0 35 v) (h : DataW.Trod enc Tryz.prog w base sp held 35 v d p) :
    ∃ (a : Option Addr) (l : List Val) (c : Nat), v = .slice a l.length c ∧ l.length ≤ maxLen ∧ l.length ≤ c ∧ RowAt w a l ∧ (∀ x ∈ l, inI x) ∧ (l ≠ [] → ∃ es sp', d = .slice es sp' ∧ l.length ≤ es.length) := by
  obtain ⟨a0, len, cap, rfl⟩ := okWide_slice Tryz.underlying35 hv
  obtain ⟨fuel, hf⟩ := h
  rcases open_slice Tryz.underlying35 hf with ⟨hcs, _⟩ | ⟨a, len', cap', m, n, D, Pl, hcs, _, hl, hm, hmm, hdx, hi⟩
  · simp [Value.cells] at hcs
    obtain ⟨rfl, rfl, rfl⟩ := hcs
    exact ⟨none, [], 0, rfl, by unfold maxLen; simp, Nat.le_refl _, fun h => absurd rfl h, fun x hx => absurd hx (by simp), fun h => absurd rfl h⟩
  · simp [Value.cells] at hcs
    obtain ⟨rfl, rfl, rfl⟩ := hcs
    have hlm : len ≤ m := by rw [hmm]; split <;> omega
    have each : ∀ i, i < len → ∃ x : Val, (w.cell? (a.add (i * 3)) = some (.int .i64 x.k) ∧ w.cell? (a.add (i * 3 + 1)) = some (.int .i64 x.n) ∧ w.cell? (a.add (i * 3 + 2)) = some (.string x.s)) ∧ inI x := by
      intro i hil
      obtain ⟨cs', hc, ht⟩ := hi i (by omega)
      rw [cells23] at hc
      obtain ⟨y0, y1, y2, n', _, hlen, g0, g1, g2⟩ := trod_struct3 Tryz.underlying41 ht
      obtain ⟨_, hcl, hat⟩ := World.cells?_some hc
      obtain ⟨x0, x1, x2, rfl⟩ := three_of hcl
      have c3 : Tryz.prog.cellsOf 3 = 1 := by kernel_rfl
      have c9 : Tryz.prog.cellsOf 9 = 1 := by kernel_rfl
      simp only [c3, c9] at g0 g1 g2
      obtain ⟨k, e0, _, _⟩ := DataW.trod_int Tryz.underlying3 g0
      obtain ⟨nn, e1, _, wn⟩ := DataW.trod_int Tryz.underlying3 g1
      obtain ⟨s, e2, _, ws⟩ := DataW.trod_string Tryz.underlying9 g2
      simp at e0 e1 e2
      subst e0 e1 e2
      have h0 := hat 0 (by omega)
      have h1 := hat 1 (by omega)
      have h2 := hat 2 (by omega)
      rw [add_add] at h0 h1 h2
      exact ⟨⟨k, nn, s⟩, ⟨by simpa using h0, by simpa using h1, by simpa using h2⟩, (bounds_i64 wn).1, (bounds_i64 wn).2, ws⟩
    obtain ⟨l, hll, hp⟩ := list_of_each len each
    subst hll
    refine ⟨some a, l, cap, rfl, by omega, by omega, fun hne => ?_, fun x hx => ?_, fun _ => ?_⟩
    rotate_left
    · obtain ⟨i, hi', rfl⟩ := List.mem_iff_getElem.1 hx
      exact (hp i hi').2
    · exact ⟨_, _, congrArg Prod.fst hdx, by simp⟩
    have hpos : 0 < l.length := by
      cases l with
      | nil => exact absurd rfl hne
      | cons _ _ => simp
    obtain ⟨b, off, spot⟩ := a
    have hspot : spot = none := by simpa [Addr.add] using World.cell?_spot (hp 0 hpos).1.1
    subst hspot
    refine ⟨b, off, rfl, fun i hi' => ?_⟩
    have := (hp i hi').1
    simp only [Go.WideShapes.add_plain] at this
    refine ⟨this.1, ?_, ?_⟩
    · rw [Nat.add_assoc]; exact this.2.1
    · rw [Nat.add_assoc]; exact this.2.2
end
end Go.Proofs.YtfdkajefcplfjaaGreat

/- Expressions and conditions that came in, opened: where they lie, how great they are. Nothing of any program here but the types. Conditions: none. -/
namespace Go.Proofs.YtfdkajefcplfjaaGreat
open Go.ChangeShapes Go.WideShapes Go.ChangeAt Go.RowKit Go.Joins Go.Deep

theorem bulk_one {H : Type} (d : DataW H) : 1 ≤ Rows.uptoBulk d := by
  cases d with
  | lit l => cases l <;> simp [Rows.uptoBulk]
  | nil => simp [Rows.uptoBulk]
  | ptr d => simp [Rows.uptoBulk]
  | slice elems spare => simp [Rows.uptoBulk]
  | agg parts => simp [Rows.uptoBulk]
  | iface t d => simp [Rows.uptoBulk]
  | map entries => simp [Rows.uptoBulk]
  | held h => simp [Rows.uptoBulk]
theorem bulk_mem {H : Type} {d : DataW H} {l : List (DataW H)} (h : d ∈ l) : Rows.uptoBulk d ≤ Rows.uptoBulkAll l := by
  induction l with
  | nil => cases h
  | cons x r ih =>
    simp only [Rows.uptoBulkAll]
    cases List.mem_cons.1 h with
    | inl e => subst e; omega
    | inr e => have := ih e; omega
theorem bulk_sum {H α : Type} (sz : α → Nat) (szL : List α → Nat) (h0 : szL [] = 0) (h1 : ∀ x l, szL (x :: l) = sz x + szL l) : ∀ (l : List α) (E : List (DataW H)), l.length = E.length → (∀ i (h : i < l.length) (h' : i < E.length), sz l[i] ≤ Rows.uptoBulk E[i]) → szL l ≤ Rows.uptoBulkAll E
  | [], E, _, _ => by rw [h0]; omega
  | x :: l, [], h, _ => absurd h (by simp)
  | x :: l, d :: E, h, hi => by
    have a := hi 0 (by simp) (by simp)
    have b := bulk_sum sz szL h0 h1 l E (by simpa using h) (fun i g g' => by have := hi (i + 1) (by simpa using g) (by simpa using g'); simpa using this)
    rw [h1]
    simp only [Rows.uptoBulkAll]
    simp only [List.getElem_cons_zero] at a
    omega
set_option maxRecDepth 1000000 in
theorem cellsX : Tryz.prog.cellsOf 44 = 6 := by kernel_rfl
set_option maxRecDepth 1000000 in
theorem cellsT : Tryz.prog.cellsOf 47 = 15 := by kernel_rfl
set_option maxRecDepth 1000000 in
theorem bytesX : Tryz.prog.bytesOf 44 = 72 := by kernel_rfl
set_option maxRecDepth 1000000 in
theorem bytesT : Tryz.prog.bytesOf 47 = 184 := by kernel_rfl
set_option maxRecDepth 1000000 in
theorem cellsS : Tryz.prog.cellsOf 9 = 1 := by kernel_rfl
set_option maxRecDepth 1000000 in
theorem cellsLX : Tryz.prog.cellsOf 42 = 1 := by kernel_rfl
set_option maxRecDepth 1000000 in
theorem cellsLT : Tryz.prog.cellsOf 45 = 1 := by kernel_rfl
theorem six_of {α : Type} : ∀ {l : List α}, l.length = 6 → ∃ a b c d e f, l = [a, b, c, d, e, f]
  | [a, b, c, d, e, f], _ => ⟨a, b, c, d, e, f, rfl⟩
theorem fifteen_of {α : Type} : ∀ {l : List α}, l.length = 15 → ∃ a b c d e f g h i j k m n o p, l = [a, b, c, d, e, f, g, h, i, j, k, m, n, o, p]
  | [a, b, c, d, e, f, g, h, i, j, k, m, n, o, p], _ => ⟨a, b, c, d, e, f, g, h, i, j, k, m, n, o, p, rfl⟩
theorem weights_mem_all11 {H : Type} {P : Program} {e : TypeId} : ∀ {l : List (DataW H)} {d : DataW H}, d ∈ l → ∀ n ∈ d.weights P e, n ∈ DataW.weightsAll P e l
  | d0 :: l, d, hd, n, hn => by
    simp only [DataW.weightsAll, List.mem_append]
    rcases List.mem_cons.1 hd with rfl | hd
    · exact .inl hn
    · exact .inr (weights_mem_all11 hd n hn)

section
variable {H : Type} {enc : TypeId × Value → H} {w : World} {base : Nat} {sp : Nat → Bool} {held : Bool}

theorem trod_s4 {P : Program} {t : TypeId} {f0 f1 f2 f3 : Field} {fuel : Nat} {cs : List Value} {x : DataW H × List MemPlace} (ht : P.underlying t = some (.struct #[f0, f1, f2, f3])) (h : DataW.trod enc P w base sp held fuel t cs = some x) :
    ∃ y0 y1 y2 y3 n, x.1 = .agg [y0.1, y1.1, y2.1, y3.1] ∧ cs.length = P.cellsOf t ∧ DataW.trod enc P w base sp held n f0.type ((cs.drop f0.offset).take (P.cellsOf f0.type)) = some y0 ∧
      DataW.trod enc P w base sp held n f1.type ((cs.drop f1.offset).take (P.cellsOf f1.type)) = some y1 ∧ DataW.trod enc P w base sp held n f2.type ((cs.drop f2.offset).take (P.cellsOf f2.type)) = some y2 ∧ DataW.trod enc P w base sp held n f3.type ((cs.drop f3.offset).take (P.cellsOf f3.type)) = some y3 := by
  obtain ⟨xs, n, _, rfl, hl, hlen, hf⟩ := DataW.trod_struct ht h
  match xs, hlen with
  | [y0, y1, y2, y3], _ => exact ⟨y0, y1, y2, y3, n, by simp, hl, by simpa using hf 0 f0 rfl, by simpa using hf 1 f1 rfl, by simpa using hf 2 f2 rfl, by simpa using hf 3 f3 rfl⟩
theorem trod_s5 {P : Program} {t : TypeId} {f0 f1 f2 f3 f4 : Field} {fuel : Nat} {cs : List Value} {x : DataW H × List MemPlace} (ht : P.underlying t = some (.struct #[f0, f1, f2, f3, f4])) (h : DataW.trod enc P w base sp held fuel t cs = some x) :
    ∃ y0 y1 y2 y3 y4 n, x.1 = .agg [y0.1, y1.1, y2.1, y3.1, y4.1] ∧ cs.length = P.cellsOf t ∧ DataW.trod enc P w base sp held n f0.type ((cs.drop f0.offset).take (P.cellsOf f0.type)) = some y0 ∧
      DataW.trod enc P w base sp held n f1.type ((cs.drop f1.offset).take (P.cellsOf f1.type)) = some y1 ∧ DataW.trod enc P w base sp held n f2.type ((cs.drop f2.offset).take (P.cellsOf f2.type)) = some y2 ∧ DataW.trod enc P w base sp held n f3.type ((cs.drop f3.offset).take (P.cellsOf f3.type)) = some y3 ∧
      DataW.trod enc P w base sp held n f4.type ((cs.drop f4.offset).take (P.cellsOf f4.type)) = some y4 := by
  obtain ⟨xs, n, _, rfl, hl, hlen, hf⟩ := DataW.trod_struct ht h
  match xs, hlen with
  | [y0, y1, y2, y3, y4], _ => exact ⟨y0, y1, y2, y3, y4, n, by simp, hl, by simpa using hf 0 f0 rfl, by simpa using hf 1 f1 rfl, by simpa using hf 2 f2 rfl, by simpa using hf 3 f3 rfl, by simpa using hf 4 f4 rfl⟩
theorem block_add (a : Addr) (n : Nat) : (a.add n).block = a.block := by unfold Addr.add; split <;> rfl
/-- The cells of a row's elements, each by itself. -/
theorem rowc_of {m : Nat} (hm : 0 < m) {a : Addr} {us : List (List Value)} (hl : ∀ x ∈ us, x.length = m) (h : ∀ i (hi : i < us.length) j v, (us[i])[j]? = some v → w.cell? ((a.add (i * m)).add j) = some v) : RowC w m (some a) us := by
  refine ⟨fun i hi => ?_⟩
  obtain ⟨b, off, spot⟩ := a
  have hl0 := hl _ (List.getElem_mem (show 0 < us.length by omega))
  obtain ⟨v1, hv1⟩ : ∃ v, (us[0]'(by omega))[0]? = some v := ⟨_, List.getElem?_eq_getElem (l := us[0]'(by omega)) (i := 0) (by omega)⟩
  have hspot : spot = none := by
    have := World.cell?_spot (h 0 (by omega) 0 v1 hv1)
    simpa [Addr.add] using this
  have h0 : ∀ j v, (us[i])[j]? = some v → w.cell? (((⟨b, off, spot⟩ : Addr).add (i * m)).add j) = some v := h i hi
  have hlen := hl _ (List.getElem_mem hi)
  obtain ⟨v0, hv0⟩ : ∃ v, (us[i])[0]? = some v := ⟨_, List.getElem?_eq_getElem (l := us[i]) (i := 0) (by omega)⟩
  subst hspot
  have hb := World.block_lt_of_cell? w _ (h0 0 v0 hv0)
  refine ⟨b, off, rfl, by rw [block_add, block_add] at hb; exact hb, fun j v hv => ?_⟩
  have := h0 j v hv
  simpa only [Go.WideShapes.add_plain] using this
set_option maxRecDepth 1000000 in
set_option maxHeartbeats 2000000 in
theorem open_cx : ∀ (N : Nat) {fuel : Nat} {cs : List Value} {x : DataW H × List MemPlace}, Rows.uptoBulk x.1 ≤ N → DataW.trod enc Tryz.prog w base sp held fuel 44 cs = some x → (∀ n ∈ x.1.weights Tryz.prog 44, n ≤ reachBytes) →
    ∃ c : Cx, cs = c.cells ∧ CxAt w N c ∧ sizeC c ≤ Rows.uptoBulk x.1
  | 0, _, _, x, hN, _, _ => absurd hN (by have := bulk_one x.1; omega)
  | N + 1, fuel, cs, x, hN, h, hw => by
    obtain ⟨y0, y1, y2, y3, n, hx, hlen, g0, g1, g2, g3⟩ := trod_s4 Tryz.underlying44 h
    obtain ⟨u0, u1, u2, u3, u4, u5, rfl⟩ := six_of (hlen.trans cellsX)
    have c3 : Tryz.prog.cellsOf 3 = 1 := cells3
    have c23 : Tryz.prog.cellsOf 41 = 3 := cells23
    simp only [c3, c23, cellsLX] at g0 g1 g2 g3
    obtain ⟨k, e0, e0', wk⟩ := DataW.trod_int Tryz.underlying3 g0
    obtain ⟨q, e1, e1', wq⟩ := DataW.trod_int Tryz.underlying3 g1
    obtain ⟨z0, z1, z2, n2, hz, _, k0, k1, k2⟩ := trod_struct3 Tryz.underlying41 g2
    simp only [c3, cellsS] at k0 k1 k2
    obtain ⟨vk, f0, f0', wvk⟩ := DataW.trod_int Tryz.underlying3 k0
    obtain ⟨vn, f1, f1', wvn⟩ := DataW.trod_int Tryz.underlying3 k1
    obtain ⟨vs, f2, f2', wvs⟩ := DataW.trod_string Tryz.underlying9 k2
    simp at e0 e1 f0 f1 f2
    subst e0 e1 f0 f1 f2
    have hw3 : ∀ n ∈ y3.1.weights Tryz.prog 42, n ≤ reachBytes := fun n hn => hw n (by
      rw [hx]
      simp only [DataW.weights, Tryz.underlying44]
      exact DataW.weights_mem_each (j := 3) (t := 42) rfl rfl _ hn)
    have hb : Rows.uptoBulk y3.1 + 1 ≤ Rows.uptoBulk x.1 := by
      rw [hx]; simp only [Rows.uptoBulk, Rows.uptoBulkAll]; omega
    have hI : inI ⟨vk, vn, vs⟩ := ⟨(bounds_i64 wvn).1, (bounds_i64 wvn).2, wvs⟩
    rcases open_slice Tryz.underlying42 g3 with ⟨hcs, _⟩ | ⟨a, len, cap, m, n3, D, Pl, hcs, _, hl, hm, hmm, hdx, hi⟩
    · obtain rfl : u5 = .slice none 0 0 := by simpa using hcs
      exact ⟨.mk k q ⟨vk, vn, vs⟩ none 0 [], rfl, ⟨⟨hI, (bounds_i64 wk).1, (bounds_i64 wk).2, (bounds_i64 wq).1, (bounds_i64 wq).2, Nat.le_refl _, by simp, ⟨fun i hi => absurd hi (by simp)⟩⟩, fun x hx => absurd hx (by simp)⟩, by rw [sizeC, sizeCL]; have := bulk_one x.1; omega⟩
    · obtain rfl : u5 = .slice (some a) len cap := by simpa using hcs
      have hlm : len ≤ m := by rw [hmm]; split <;> omega
      have hd : y3.1 = .slice ((List.range len).map D) ((List.range (m - len)).map fun j => D (len + j)) := congrArg Prod.fst hdx
      rw [hd] at hw3 hb
      simp only [DataW.weights, Tryz.underlying42] at hw3
      simp only [Rows.uptoBulk] at hb
      have hbytes : len * 72 ≤ 140737488351232 := by
        have h := hw3 _ List.mem_cons_self
        rw [bytesX] at h
        simp [reachBytes] at h
        omega
      have each : ∀ i, i < len → ∃ y : Cx, (∀ j v, y.cells[j]? = some v → w.cell? ((a.add (i * 6)).add j) = some v) ∧ CxAt w N y ∧ sizeC y ≤ Rows.uptoBulk (D i) := by
        intro i hil
        obtain ⟨cs', hc, ht⟩ := hi i (by omega)
        rw [cellsX] at hc
        have hmem : D i ∈ (List.range len).map D := List.mem_map.2 ⟨i, List.mem_range.2 hil, rfl⟩
        have hbi := bulk_mem hmem
        obtain ⟨y, rfl, hy, hs⟩ := open_cx N (x := (D i, Pl i)) (by show Rows.uptoBulk (D i) ≤ N; omega) ht (fun n hn => hw3 n (List.mem_cons_of_mem _ (List.mem_append.2 (.inl (weights_mem_all11 hmem n hn)))))
        obtain ⟨_, hcl, hat⟩ := World.cells?_some hc
        refine ⟨y, fun j v hv => ?_, hy, hs⟩
        have hj : j < y.cells.length := (List.getElem?_eq_some_iff.1 hv).1
        rw [hat j (by rw [← hcl]; exact hj)]
        exact hv
      obtain ⟨l, hll, hp⟩ := list_of_each len each
      subst hll
      refine ⟨.mk k q ⟨vk, vn, vs⟩ (some a) cap l, rfl, ⟨⟨hI, (bounds_i64 wk).1, (bounds_i64 wk).2, (bounds_i64 wq).1, (bounds_i64 wq).2, hl, hbytes, rowc_of (by omega) (fun x hx => ?_) (fun i hi j v hv => ?_)⟩, fun y hy => ?_⟩, ?_⟩
      · obtain ⟨c, _, rfl⟩ := List.mem_map.1 hx; exact c.cells_len
      · have hi' : i < l.length := by simpa using hi
        exact (hp i hi').1 j v (by simpa using hv)
      · obtain ⟨i, hi', rfl⟩ := List.mem_iff_getElem.1 hy
        exact (hp i hi').2.1
      · have := bulk_sum sizeC sizeCL (by rw [sizeCL]) (fun x l => by rw [sizeCL]) l ((List.range l.length).map D) (by simp) (fun i h h' => by simpa using (hp i h).2.2)
        rw [sizeC]; omega
set_option maxRecDepth 1000000 in
set_option maxHeartbeats 2000000 in
theorem open_tx : ∀ (N : Nat) {fuel : Nat} {cs : List Value} {x : DataW H × List MemPlace}, Rows.uptoBulk x.1 ≤ N → DataW.trod enc Tryz.prog w base sp held fuel 47 cs = some x → (∀ n ∈ x.1.weights Tryz.prog 47, n ≤ reachBytes) →
    ∃ c : Tx, cs = c.cells ∧ TxAt w N c ∧ sizeT c ≤ Rows.uptoBulk x.1
  | 0, _, _, x, hN, _, _ => absurd hN (by have := bulk_one x.1; omega)
  | N + 1, fuel, cs, x, hN, h, hw => by
    obtain ⟨y0, y1, y2, y3, y4, n, hx, hlen, g0, g1, g2, g3, g4⟩ := trod_s5 Tryz.underlying47 h
    obtain ⟨u0, u1, u2, u3, u4, u5, u6, u7, u8, u9, u10, u11, u12, u13, u14, rfl⟩ := fifteen_of (hlen.trans cellsT)
    have c3 : Tryz.prog.cellsOf 3 = 1 := cells3
    simp only [c3, cellsX, cellsLT] at g0 g1 g2 g3 g4
    obtain ⟨k, e0, e0', wk⟩ := DataW.trod_int Tryz.underlying3 g0
    obtain ⟨q, e1, e1', wq⟩ := DataW.trod_int Tryz.underlying3 g1
    simp at e0 e1
    subst e0 e1
    have hwj : ∀ (j : Nat) (t : TypeId) (d : DataW H), [3, 3, 44, 44, 45][j]? = some t → [y0.1, y1.1, y2.1, y3.1, y4.1][j]? = some d → ∀ n ∈ d.weights Tryz.prog t, n ≤ reachBytes := fun j t d h1 h2 n hn => hw n (by
      rw [hx]
      simp only [DataW.weights, Tryz.underlying47]
      exact DataW.weights_mem_each (j := j) (t := t) h1 h2 _ hn)
    have hb : Rows.uptoBulk y2.1 + Rows.uptoBulk y3.1 + Rows.uptoBulk y4.1 + 1 ≤ Rows.uptoBulk x.1 := by
      rw [hx]; simp only [Rows.uptoBulk, Rows.uptoBulkAll]; omega
    have b4 := bulk_one y4.1
    obtain ⟨cl, hcl, hL, sL⟩ := open_cx N (by omega) g2 (hwj 2 _ _ rfl rfl)
    obtain ⟨cr, hcr, hR, sR⟩ := open_cx N (by omega) g3 (hwj 3 _ _ rfl rfl)
    have hw4 := hwj 4 _ _ rfl rfl
    have hcells : ∀ u, ([Value.int .i64 k, .int .i64 q, u2, u3, u4, u5, u6, u7, u8, u9, u10, u11, u12, u13, u] : List Value) = .int .i64 k :: .int .i64 q :: (cl.cells ++ cr.cells ++ [u]) := fun u => by
      rw [← hcl, ← hcr]; rfl
    rcases open_slice Tryz.underlying45 g4 with ⟨hcs, _⟩ | ⟨a, len, cap, m, n3, D, Pl, hcs, _, hl, hm, hmm, hdx, hi⟩
    · obtain rfl : u14 = .slice none 0 0 := by simpa using hcs
      exact ⟨.mk k q cl cr none 0 [], hcells _, ⟨⟨hL, hR⟩, ⟨Nat.le_refl _, by simp, ⟨fun i hi => absurd hi (by simp)⟩⟩, fun x hx => absurd hx (by simp)⟩, by rw [sizeT, sizeTL]; omega⟩
    · obtain rfl : u14 = .slice (some a) len cap := by simpa using hcs
      have hlm : len ≤ m := by rw [hmm]; split <;> omega
      have hd : y4.1 = .slice ((List.range len).map D) ((List.range (m - len)).map fun j => D (len + j)) := congrArg Prod.fst hdx
      rw [hd] at hw4 hb
      simp only [DataW.weights, Tryz.underlying45] at hw4
      simp only [Rows.uptoBulk] at hb
      have hbytes : len * 184 ≤ 140737488351232 := by
        have h := hw4 _ List.mem_cons_self
        rw [bytesT] at h
        simp [reachBytes] at h
        omega
      have each : ∀ i, i < len → ∃ y : Tx, (∀ j v, y.cells[j]? = some v → w.cell? ((a.add (i * 15)).add j) = some v) ∧ TxAt w N y ∧ sizeT y ≤ Rows.uptoBulk (D i) := by
        intro i hil
        obtain ⟨cs', hc, ht⟩ := hi i (by omega)
        rw [cellsT] at hc
        have hmem : D i ∈ (List.range len).map D := List.mem_map.2 ⟨i, List.mem_range.2 hil, rfl⟩
        have hbi := bulk_mem hmem
        obtain ⟨y, rfl, hy, hs⟩ := open_tx N (x := (D i, Pl i)) (by show Rows.uptoBulk (D i) ≤ N; omega) ht (fun n hn => hw4 n (List.mem_cons_of_mem _ (List.mem_append.2 (.inl (weights_mem_all11 hmem n hn)))))
        obtain ⟨_, hcl', hat⟩ := World.cells?_some hc
        refine ⟨y, fun j v hv => ?_, hy, hs⟩
        have hj : j < y.cells.length := (List.getElem?_eq_some_iff.1 hv).1
        rw [hat j (by rw [← hcl']; exact hj)]
        exact hv
      obtain ⟨l, hll, hp⟩ := list_of_each len each
      subst hll
      refine ⟨.mk k q cl cr (some a) cap l, hcells _, ⟨⟨hL, hR⟩, ⟨hl, hbytes, rowc_of (by omega) (fun x hx => ?_) (fun i hi j v hv => ?_)⟩, fun y hy => ?_⟩, ?_⟩
      · obtain ⟨c, _, rfl⟩ := List.mem_map.1 hx; exact c.cells_len
      · have hi' : i < l.length := by simpa using hi
        exact (hp i hi').1 j v (by simpa using hv)
      · obtain ⟨i, hi', rfl⟩ := List.mem_iff_getElem.1 hy
        exact (hp i hi').2.1
      · have := bulk_sum sizeT sizeTL (by rw [sizeTL]) (fun x l => by rw [sizeTL]) l ((List.range l.length).map D) (by simp) (fun i h h' => by simpa using (hp i h).2.2)
        rw [sizeT]; omega
set_option maxRecDepth 1000000 in
/-- An expression that came in. -/
theorem open_calc {r : Reach} {b0 : Nat} {v : Value} {d : DataW H} {p : List MemPlace} (hv : Value.okWide Tryz.prog w r b0 44 v) (h : DataW.Trod enc Tryz.prog w base sp held 44 v d p) (hw : ∀ n ∈ d.weights Tryz.prog 44, n ≤ reachBytes) :
    ∃ c : Cx, v = c.val ∧ CxAt w (Rows.uptoBulk d) c ∧ sizeC c ≤ Rows.uptoBulk d := by
  obtain ⟨cs, rfl, hsz⟩ := okWide_struct Tryz.underlying44 hv
  obtain ⟨fuel, hf⟩ := h
  obtain ⟨c, hc, hA, hs⟩ := open_cx (Rows.uptoBulk d) (x := (d, p)) (Nat.le_refl _) hf hw
  refine ⟨c, ?_, hA, hs⟩
  have hc : cs.toList = c.cells := by simpa [Value.cells] using hc
  unfold Cx.val
  rw [← hc]
set_option maxRecDepth 1000000 in
theorem open_test {r : Reach} {b0 : Nat} {v : Value} {d : DataW H} {p : List MemPlace} (hv : Value.okWide Tryz.prog w r b0 47 v) (h : DataW.Trod enc Tryz.prog w base sp held 47 v d p) (hw : ∀ n ∈ d.weights Tryz.prog 47, n ≤ reachBytes) :
    ∃ c : Tx, v = c.val ∧ TxAt w (Rows.uptoBulk d) c ∧ sizeT c ≤ Rows.uptoBulk d := by
  obtain ⟨cs, rfl, hsz⟩ := okWide_struct Tryz.underlying47 hv
  obtain ⟨fuel, hf⟩ := h
  obtain ⟨c, hc, hA, hs⟩ := open_tx (Rows.uptoBulk d) (x := (d, p)) (Nat.le_refl _) hf hw
  refine ⟨c, ?_, hA, hs⟩
  have hc : cs.toList = c.cells := by simpa [Value.cells] using hc
  unfold Tx.val
  rw [← hc]
end
end Go.Proofs.YtfdkajefcplfjaaGreat
