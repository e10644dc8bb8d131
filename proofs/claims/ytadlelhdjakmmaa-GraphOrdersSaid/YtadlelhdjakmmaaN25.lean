/- Names and what they read that came in, opened: where they lie. Nothing of any program here but the types. Conditions: each names its own. -/
import Derived.Test.YtadlelhdjakmmaaZa
import Derived.Test.YtadlelhdjakmmaaN0
namespace Go.Proofs.Ytadlelhdjakmmaa
open Go.ChangeShapes Go.WideShapes Go.ChangeAt Go.RowKit Go.Joins Go.Deep

theorem bulk_one {H : Type} (d : DataW H) : 1 ≤ Rows.uptoBulk d := by
  cases d with
  | lit l => cases l <;> simp [Rows.uptoBulk]
  | nil => simp [Rows.uptoBulk]
  | ptr d => simp [Rows.uptoBulk]
  | slice elems spare => simp [Rows.uptoBulk]
  | agg parts => simp [Rows.uptoBulk]
  | iface t d => simp [Rows.uptoBulk]
  | map entries => simp [Rows.uptoBulk]
  | held h => simp [Rows.uptoBulk]
theorem bulk_mem {H : Type} {d : DataW H} {l : List (DataW H)} (h : d ∈ l) : Rows.uptoBulk d ≤ Rows.uptoBulkAll l := by
  induction l with
  | nil => cases h
  | cons x r ih =>
    simp only [Rows.uptoBulkAll]
    cases List.mem_cons.1 h with
    | inl e => subst e; omega
    | inr e => have := ih e; omega
set_option maxRecDepth 1000000 in
theorem cellsS : Try.prog.cellsOf 9 = 1 := by kernel_rfl
theorem weights_mem_all11 {H : Type} {P : Program} {e : TypeId} : ∀ {l : List (DataW H)} {d : DataW H}, d ∈ l → ∀ n ∈ d.weights P e, n ∈ DataW.weightsAll P e l
  | d0 :: l, d, hd, n, hn => by
    simp only [DataW.weightsAll, List.mem_append]
    rcases List.mem_cons.1 hd with rfl | hd
    · exact .inl hn
    · exact .inr (weights_mem_all11 hd n hn)
set_option maxRecDepth 1000000 in
theorem cellsLs12 : Try.prog.cellsOf 26 = 1 := by kernel_rfl
theorem bulk_len12 {H : Type} : ∀ l : List (DataW H), l.length ≤ Rows.uptoBulkAll l
  | [] => by simp
  | x :: l => by
    have := bulk_len12 l
    have := bulk_one x
    simp only [Rows.uptoBulkAll, List.length_cons]; omega
set_option maxRecDepth 1000000 in
theorem cellsNode : Try.prog.cellsOf 35 = 2 := by kernel_rfl
set_option maxRecDepth 1000000 in
theorem bytesNode : Try.prog.bytesOf 35 = 40 := by kernel_rfl
set_option maxRecDepth 1000000 in
theorem bytesStr : Try.prog.bytesOf 9 = 16 := by kernel_rfl
theorem two_cells {α : Type} : ∀ {l : List α}, l.length = 2 → ∃ a b, l = [a, b]
  | [a, b], _ => ⟨a, b, rfl⟩
theorem bulk_each {H : Type} {x : DataW H} {l : List (DataW H)} (h : x = .agg l) (hb : Rows.uptoBulk x ≤ 1048576) : ∀ d ∈ l, Rows.uptoBulk d ≤ 1048576 := fun d hd => by
  have := bulk_mem hd
  rw [h] at hb; simp only [Rows.uptoBulk] at hb; omega

section
variable {H : Type} {enc : TypeId × Value → H} {w : World} {base : Nat} {sp : Nat → Bool} {held : Bool}
theorem trod_s2 {P : Program} {t : TypeId} {f0 f1 : Field} {fuel : Nat} {cs : List Value} {x : DataW H × List MemPlace} (ht : P.underlying t = some (.struct #[f0, f1])) (h : DataW.trod enc P w base sp held fuel t cs = some x) :
    ∃ y0 y1 n, x.1 = .agg [y0.1, y1.1] ∧ cs.length = P.cellsOf t ∧ DataW.trod enc P w base sp held n f0.type ((cs.drop f0.offset).take (P.cellsOf f0.type)) = some y0 ∧
      DataW.trod enc P w base sp held n f1.type ((cs.drop f1.offset).take (P.cellsOf f1.type)) = some y1 := by
  obtain ⟨xs, n, _, rfl, hl, hlen, hf⟩ := DataW.trod_struct ht h
  match xs, hlen with
  | [y0, y1], _ => exact ⟨y0, y1, n, by simp, hl, by simpa using hf 0 f0 rfl, by simpa using hf 1 f1 rfl⟩
/-- The cells of a row's elements, each by itself. -/
theorem rowc_of {m : Nat} (hm : 0 < m) {a : Addr} {us : List (List Value)} (hl : ∀ x ∈ us, x.length = m) (h : ∀ i (hi : i < us.length) j v, (us[i])[j]? = some v → w.cell? ((a.add (i * m)).add j) = some v) : RowC w m (some a) us := by
  refine ⟨fun i hi => ?_⟩
  obtain ⟨b, off, spot⟩ := a
  have hl0 := hl _ (List.getElem_mem (show 0 < us.length by omega))
  obtain ⟨v1, hv1⟩ : ∃ v, (us[0]'(by omega))[0]? = some v := ⟨_, List.getElem?_eq_getElem (l := us[0]'(by omega)) (i := 0) (by omega)⟩
  have hspot : spot = none := by
    have := World.cell?_spot (h 0 (by omega) 0 v1 hv1)
    simpa [Addr.add] using this
  have h0 : ∀ j v, (us[i])[j]? = some v → w.cell? (((⟨b, off, spot⟩ : Addr).add (i * m)).add j) = some v := h i hi
  have hlen := hl _ (List.getElem_mem hi)
  obtain ⟨v0, hv0⟩ : ∃ v, (us[i])[0]? = some v := ⟨_, List.getElem?_eq_getElem (l := us[i]) (i := 0) (by omega)⟩
  subst hspot
  have hb := World.block_lt_of_cell? w _ (h0 0 v0 hv0)
  refine ⟨b, off, rfl, by rw [block_add, block_add] at hb; exact hb, fun j v hv => ?_⟩
  have := h0 j v hv
  simpa only [Go.WideShapes.add_plain] using this
/-- A row of structs that came in, opened. -/
theorem open_rows {α : Type} {t e : TypeId} {m : Nat} (cl : α → List Value) (R : α → Prop) (ht : Try.prog.underlying t = some (.slice e)) (hm : 0 < m) (hc : Try.prog.cellsOf e = m) (hcl : ∀ y, (cl y).length = m)
    (each : ∀ {fuel : Nat} {cs : List Value} {x : DataW H × List MemPlace}, Rows.uptoBulk x.1 ≤ 1048576 → DataW.trod enc Try.prog w base sp held fuel e cs = some x → (∀ n ∈ x.1.weights Try.prog e, n ≤ reachBytes) → ∃ y : α, cs = cl y ∧ R y)
    {fuel : Nat} {cs : List Value} {x : DataW H × List MemPlace} (hb : Rows.uptoBulk x.1 ≤ 1048576) (h : DataW.trod enc Try.prog w base sp held fuel t cs = some x) (hw : ∀ n ∈ x.1.weights Try.prog t, n ≤ reachBytes) :
    ∃ (a : Option Addr) (l : List α) (c : Nat), cs = [.slice a l.length c] ∧ l.length ≤ c ∧ RowC w m a (l.map cl) ∧ (∀ y ∈ l, R y) ∧ l.length ≤ 1048576 := by
  rcases open_slice ht h with ⟨hcs, _⟩ | ⟨a, len, cap, mm, n3, D, Pl, hcs, _, hl, hmx, hmm, hdx, hi⟩
  · exact ⟨none, [], 0, hcs, Nat.le_refl _, ⟨fun i hi => absurd hi (by simp)⟩, fun x hx => absurd hx (by simp), by simp⟩
  · have hlm : len ≤ mm := by rw [hmm]; split <;> omega
    have hd : x.1 = .slice ((List.range len).map D) ((List.range (mm - len)).map fun j => D (len + j)) := congrArg Prod.fst hdx
    rw [hd] at hw hb
    simp only [DataW.weights, ht] at hw
    simp only [Rows.uptoBulk] at hb
    have eachx : ∀ i, i < len → ∃ y : α, (∀ j v, (cl y)[j]? = some v → w.cell? ((a.add (i * m)).add j) = some v) ∧ R y := by
      intro i hil
      obtain ⟨cs', hc', ht'⟩ := hi i (by omega)
      rw [hc] at hc'
      have hmem : D i ∈ (List.range len).map D := List.mem_map.2 ⟨i, List.mem_range.2 hil, rfl⟩
      have hbi := bulk_mem hmem
      obtain ⟨y, rfl, hy⟩ := each (x := (D i, Pl i)) (by show Rows.uptoBulk (D i) ≤ _; omega) ht' (fun n hn => hw n (List.mem_cons_of_mem _ (List.mem_append.2 (.inl (weights_mem_all11 hmem n hn)))))
      obtain ⟨_, hcl', hat⟩ := World.cells?_some hc'
      refine ⟨y, fun j v hv => ?_, hy⟩
      have hj : j < (cl y).length := (List.getElem?_eq_some_iff.1 hv).1
      rw [hat j (by rw [← hcl']; exact hj)]
      exact hv
    obtain ⟨l, hll, hp⟩ := list_of_each len eachx
    subst hll
    have hbl := bulk_len12 ((List.range l.length).map D)
    rw [List.length_map, List.length_range] at hbl
    refine ⟨some a, l, cap, hcs, hl, rowc_of hm (fun x hx => ?_) (fun i hi j v hv => ?_), fun y hy => ?_, by omega⟩
    · obtain ⟨c, _, rfl⟩ := List.mem_map.1 hx; exact hcl c
    · have hi' : i < l.length := by simpa using hi
      exact (hp i hi').1 j v (by simpa using hv)
    · obtain ⟨i, hi', rfl⟩ := List.mem_iff_getElem.1 hy
      exact (hp i hi').2
theorem rowc_all {m : Nat} {a : Option Addr} {us : List (List Value)} (h : RowC w m a us) (hn : us ≠ []) : ∃ b o, a = some ⟨b, o, none⟩ ∧ ∀ i (hi : i < us.length), w.rangeAt b (o + i * m) us[i] := by
  obtain ⟨b, o, e, _, _⟩ := h.out 0 (List.length_pos_iff.2 hn)
  refine ⟨b, o, e, fun i hi => ?_⟩
  obtain ⟨b2, o2, e2, _, hR⟩ := h.out i hi
  rw [e] at e2
  obtain ⟨rfl, rfl⟩ : b = b2 ∧ o = o2 := by simpa using e2
  exact hR
theorem open_strs {fuel : Nat} {cs : List Value} {x : DataW H × List MemPlace} (hb : Rows.uptoBulk x.1 ≤ 1048576) (h : DataW.trod enc Try.prog w base sp held fuel 26 cs = some x) (hw : ∀ n ∈ x.1.weights Try.prog 26, n ≤ reachBytes) :
    ∃ (a : Option Addr) (l : List ByteArray) (c : Nat), cs = [.slice a l.length c] ∧ l.length ≤ c ∧ StrsA w a l ∧ l.length ≤ 1048576 := by
  obtain ⟨a, l, c, hcs, hc, hR, hA, hl⟩ := open_rows (fun s : ByteArray => [Value.string s]) (fun s => s.size ≤ maxLen) Try.underlying26 (by omega) cellsS (fun _ => rfl) (fun _ h _ => by
    obtain ⟨s, e, _, ws⟩ := DataW.trod_string Try.underlying9 h
    exact ⟨s, e, ws⟩) hb h hw
  refine ⟨a, l, c, hcs, hc, ⟨fun hn => ?_, hA⟩, hl⟩
  obtain ⟨b, o, e, hx⟩ := rowc_all hR (by simpa using hn)
  exact ⟨b, o, e, fun i hi => by
    have := hx i (by simpa using hi) 0 (.string l[i]) (by simp)
    simpa using this⟩
/-- A row of structs that came in, opened, however great it is. -/
theorem open_rowsR {α : Type} {t e : TypeId} {m : Nat} (cl : α → List Value) (R : α → Prop) (ht : Try.prog.underlying t = some (.slice e)) (hm : 0 < m) (hc : Try.prog.cellsOf e = m) (hcl : ∀ y, (cl y).length = m)
    (each : ∀ {fuel : Nat} {cs : List Value} {x : DataW H × List MemPlace}, DataW.trod enc Try.prog w base sp held fuel e cs = some x → (∀ n ∈ x.1.weights Try.prog e, n ≤ reachBytes) → ∃ y : α, cs = cl y ∧ R y)
    {fuel : Nat} {cs : List Value} {x : DataW H × List MemPlace} (h : DataW.trod enc Try.prog w base sp held fuel t cs = some x) (hw : ∀ n ∈ x.1.weights Try.prog t, n ≤ reachBytes) :
    ∃ (a : Option Addr) (l : List α) (c : Nat), cs = [.slice a l.length c] ∧ l.length ≤ c ∧ RowC w m a (l.map cl) ∧ (∀ y ∈ l, R y) ∧ l.length * Try.prog.bytesOf e ≤ 140737488351232 := by
  rcases open_slice ht h with ⟨hcs, _⟩ | ⟨a, len, cap, mm, n3, D, Pl, hcs, _, hl, hmx, hmm, hdx, hi⟩
  · exact ⟨none, [], 0, hcs, Nat.le_refl _, ⟨fun i hi => absurd hi (by simp)⟩, fun x hx => absurd hx (by simp), by simp⟩
  · have hlm : len ≤ mm := by rw [hmm]; split <;> omega
    have hd : x.1 = .slice ((List.range len).map D) ((List.range (mm - len)).map fun j => D (len + j)) := congrArg Prod.fst hdx
    rw [hd] at hw
    simp only [DataW.weights, ht] at hw
    have eachx : ∀ i, i < len → ∃ y : α, (∀ j v, (cl y)[j]? = some v → w.cell? ((a.add (i * m)).add j) = some v) ∧ R y := by
      intro i hil
      obtain ⟨cs', hc', ht'⟩ := hi i (by omega)
      rw [hc] at hc'
      have hmem : D i ∈ (List.range len).map D := List.mem_map.2 ⟨i, List.mem_range.2 hil, rfl⟩
      obtain ⟨y, rfl, hy⟩ := each (x := (D i, Pl i)) ht' (fun n hn => hw n (List.mem_cons_of_mem _ (List.mem_append.2 (.inl (weights_mem_all11 hmem n hn)))))
      obtain ⟨_, hcl', hat⟩ := World.cells?_some hc'
      refine ⟨y, fun j v hv => ?_, hy⟩
      have hj : j < (cl y).length := (List.getElem?_eq_some_iff.1 hv).1
      rw [hat j (by rw [← hcl']; exact hj)]
      exact hv
    obtain ⟨l, hll, hp⟩ := list_of_each len eachx
    subst hll
    have hbytes : l.length * Try.prog.bytesOf e ≤ 140737488351232 := by
      have h := hw _ List.mem_cons_self
      simp [reachBytes] at h
      exact Nat.le_trans (Nat.mul_le_mul_right _ (Nat.le_add_right _ _)) h
    refine ⟨some a, l, cap, hcs, hl, rowc_of hm (fun x hx => ?_) (fun i hi j v hv => ?_), fun y hy => ?_, hbytes⟩
    · obtain ⟨c, _, rfl⟩ := List.mem_map.1 hx; exact hcl c
    · have hi' : i < l.length := by simpa using hi
      exact (hp i hi').1 j v (by simpa using hv)
    · obtain ⟨i, hi', rfl⟩ := List.mem_iff_getElem.1 hy
      exact (hp i hi').2
theorem open_strsR {fuel : Nat} {cs : List Value} {x : DataW H × List MemPlace} (h : DataW.trod enc Try.prog w base sp held fuel 26 cs = some x) (hw : ∀ n ∈ x.1.weights Try.prog 26, n ≤ reachBytes) :
    ∃ (a : Option Addr) (l : List ByteArray) (c : Nat), cs = [.slice a l.length c] ∧ l.length ≤ c ∧ StrsA w a l ∧ l.length ≤ 8796093022208 := by
  obtain ⟨a, l, c, hcs, hc, hR, hA, hl⟩ := open_rowsR (fun s : ByteArray => [Value.string s]) (fun s => s.size ≤ maxLen) Try.underlying26 (by omega) cellsS (fun _ => rfl) (fun h _ => by
    obtain ⟨s, e, _, ws⟩ := DataW.trod_string Try.underlying9 h
    exact ⟨s, e, ws⟩) h hw
  refine ⟨a, l, c, hcs, hc, ⟨fun hn => ?_, hA⟩, by rw [bytesStr] at hl; omega⟩
  obtain ⟨b, o, e, hx⟩ := rowc_all hR (by simpa using hn)
  exact ⟨b, o, e, fun i hi => by
    have := hx i (by simpa using hi) 0 (.string l[i]) (by simp)
    simpa using this⟩
theorem open_node {fuel : Nat} {cs : List Value} {x : DataW H × List MemPlace} (hb : Rows.uptoBulk x.1 ≤ 1048576) (h : DataW.trod enc Try.prog w base sp held fuel 35 cs = some x) (hw : ∀ n ∈ x.1.weights Try.prog 35, n ≤ reachBytes) :
    ∃ y : Nn, cs = y.cells ∧ NodeOk w y ∧ y.rs.length ≤ 1048576 := by
  obtain ⟨y0, y1, n, hx, hlen, g0, g1⟩ := trod_s2 Try.underlying35 h
  obtain ⟨u0, u1, rfl⟩ := two_cells (hlen.trans cellsNode)
  simp only [cellsS, cellsLs12] at g0 g1
  have hbe := bulk_each hx hb
  have hw1 : ∀ n ∈ y1.1.weights Try.prog 26, n ≤ reachBytes := fun n hn => hw n (by
    rw [hx]
    simp only [DataW.weights, Try.underlying35]
    exact DataW.weights_mem_each (j := 1) (t := 26) rfl rfl _ hn)
  obtain ⟨s, e0, _, ws⟩ := DataW.trod_string Try.underlying9 g0
  obtain ⟨a, l, c, e1, hc, hS, hl⟩ := open_strs (hbe y1.1 (by simp)) g1 hw1
  simp at e0 e1
  subst e0 e1
  exact ⟨⟨s, a, c, l⟩, rfl, ⟨hS, hc, by show l.length ≤ _; omega, ws⟩, hl⟩
theorem open_nodeR {fuel : Nat} {cs : List Value} {x : DataW H × List MemPlace} (h : DataW.trod enc Try.prog w base sp held fuel 35 cs = some x) (hw : ∀ n ∈ x.1.weights Try.prog 35, n ≤ reachBytes) :
    ∃ y : Nn, cs = y.cells ∧ NodeOk w y := by
  obtain ⟨y0, y1, n, hx, hlen, g0, g1⟩ := trod_s2 Try.underlying35 h
  obtain ⟨u0, u1, rfl⟩ := two_cells (hlen.trans cellsNode)
  simp only [cellsS, cellsLs12] at g0 g1
  have hw1 : ∀ n ∈ y1.1.weights Try.prog 26, n ≤ reachBytes := fun n hn => hw n (by
    rw [hx]
    simp only [DataW.weights, Try.underlying35]
    exact DataW.weights_mem_each (j := 1) (t := 26) rfl rfl _ hn)
  obtain ⟨s, e0, _, ws⟩ := DataW.trod_string Try.underlying9 g0
  obtain ⟨a, l, c, e1, hc, hS, hl⟩ := open_strsR g1 hw1
  simp at e0 e1
  subst e0 e1
  exact ⟨⟨s, a, c, l⟩, rfl, hS, hc, hl, ws⟩
set_option maxRecDepth 1000000 in
/-- Names that came in. -/
theorem open_nodes {r : Reach} {b0 : Nat} {v : Value} {d : DataW H} {p : List MemPlace} (hv : Value.okWide Try.prog w r b0 22 v) (h : DataW.Trod enc Try.prog w base sp held 22 v d p) (hw : ∀ n ∈ d.weights Try.prog 22, n ≤ reachBytes) (hb : Rows.uptoBulk d ≤ 1048576) :
    ∃ (a : Option Addr) (l : List Nn) (c : Nat), v = .slice a l.length c ∧ NodesAt w a c l ∧ ∀ x ∈ l, x.rs.length ≤ 1048576 := by
  obtain ⟨a0, len, cap, rfl⟩ := okWide_slice Try.underlying22 hv
  obtain ⟨fuel, hf⟩ := h
  obtain ⟨a, l, c, hcs, hc, hR, hA, hl⟩ := open_rows Nn.cells (fun y => NodeOk w y ∧ y.rs.length ≤ 1048576) Try.underlying22 (by omega) cellsNode (fun _ => rfl) (fun hb h hw => open_node hb h hw) (x := (d, p)) hb hf hw
  simp [Value.cells] at hcs
  obtain ⟨rfl, rfl, rfl⟩ := hcs
  exact ⟨a0, l, cap, rfl, ⟨hR, fun x hx => (hA x hx).1, by omega, hc⟩, fun x hx => (hA x hx).2⟩
set_option maxRecDepth 1000000 in
/-- Names that came in. -/
theorem open_nodesR {r : Reach} {b0 : Nat} {v : Value} {d : DataW H} {p : List MemPlace} (hv : Value.okWide Try.prog w r b0 22 v) (h : DataW.Trod enc Try.prog w base sp held 22 v d p) (hw : ∀ n ∈ d.weights Try.prog 22, n ≤ reachBytes) :
    ∃ (a : Option Addr) (l : List Nn) (c : Nat), v = .slice a l.length c ∧ NodesAt w a c l := by
  obtain ⟨a0, len, cap, rfl⟩ := okWide_slice Try.underlying22 hv
  obtain ⟨fuel, hf⟩ := h
  obtain ⟨a, l, c, hcs, hc, hR, hA, hl⟩ := open_rowsR Nn.cells (fun y => NodeOk w y) Try.underlying22 (by omega) cellsNode (fun _ => rfl) (fun h hw => open_nodeR h hw) (x := (d, p)) hf hw
  simp [Value.cells] at hcs
  obtain ⟨rfl, rfl, rfl⟩ := hcs
  exact ⟨a0, l, cap, rfl, hR, hA, by rw [bytesNode] at hl; omega, hc⟩
end
end Go.Proofs.Ytadlelhdjakmmaa
