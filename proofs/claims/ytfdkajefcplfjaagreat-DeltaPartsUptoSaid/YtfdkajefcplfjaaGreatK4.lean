/- Several of my texts laid together, each as it was: X7. Conditions: each names its own. -/
import Derived.Test.YtfdkajefcplfjaaGreatK3
import Derived.Test.YtfdkajefcplfjaaGreatH8
import Derived.Test.YtfdkajefcplfjaaGreatH3
/- Plans, and what is there, that came in, opened: where they lie. Nothing of any program here but the types. Conditions: they hold at most 1048576 values and letters. -/
namespace Go.Proofs.YtfdkajefcplfjaaGreat
open Go.ChangeShapes Go.WideShapes Go.ChangeAt Go.RowKit Go.Joins Go.Deep

set_option maxRecDepth 1000000 in
theorem cellsP12 : Tryz.prog.cellsOf 50 = 20 := by kernel_rfl
set_option maxRecDepth 1000000 in
theorem cellsO12 : Tryz.prog.cellsOf 55 = 9 := by kernel_rfl
set_option maxRecDepth 1000000 in
theorem cellsN12 : Tryz.prog.cellsOf 65 = 2 := by kernel_rfl
set_option maxRecDepth 1000000 in
theorem cellsM12 : Tryz.prog.cellsOf 80 = 2 := by kernel_rfl
set_option maxRecDepth 1000000 in
theorem cellsPl12 : Tryz.prog.cellsOf 24 = 1 := by kernel_rfl
set_option maxRecDepth 1000000 in
theorem cellsLs12 : Tryz.prog.cellsOf 38 = 1 := by kernel_rfl
set_option maxRecDepth 1000000 in
theorem cellsLi12 : Tryz.prog.cellsOf 39 = 1 := by kernel_rfl
set_option maxRecDepth 1000000 in
theorem cellsLo12 : Tryz.prog.cellsOf 48 = 1 := by kernel_rfl
set_option maxRecDepth 1000000 in
theorem cellsLp12 : Tryz.prog.cellsOf 22 = 1 := by kernel_rfl
set_option maxRecDepth 1000000 in
theorem cellsLm12 : Tryz.prog.cellsOf 57 = 1 := by kernel_rfl
set_option maxRecDepth 1000000 in
theorem cellsLv12 : Tryz.prog.cellsOf 35 = 1 := by kernel_rfl
set_option maxRecDepth 1000000 in
theorem cellsB12 : Tryz.prog.cellsOf 4 = 1 := by kernel_rfl
theorem bulk_len12 {H : Type} : ∀ l : List (DataW H), l.length ≤ Rows.uptoBulkAll l
  | [] => by simp
  | x :: l => by
    have := bulk_len12 l
    have := bulk_one x
    simp only [Rows.uptoBulkAll, List.length_cons]; omega
theorem CxAt.deep {w : World} : ∀ {n m : Nat} {c : Cx}, CxAt w n c → n ≤ m → CxAt w m c
  | 0, _, _, h, _ => h.elim
  | n + 1, 0, _, _, hl => absurd hl (by omega)
  | n + 1, m + 1, .mk _ _ _ _ _ _, ⟨h1, h2⟩, hl => ⟨h1, fun x hx => (h2 x hx).deep (by omega)⟩
theorem TxAt.deep {w : World} : ∀ {n m : Nat} {c : Tx}, TxAt w n c → n ≤ m → TxAt w m c
  | 0, _, _, h, _ => h.elim
  | n + 1, 0, _, _, hl => absurd hl (by omega)
  | n + 1, m + 1, .mk _ _ _ _ _ _ _, ⟨⟨hl1, hl2⟩, h1, h2⟩, hl => ⟨⟨hl1.deep (by omega), hl2.deep (by omega)⟩, h1, fun x hx => (h2 x hx).deep (by omega)⟩
theorem twenty_of {α : Type} : ∀ {l : List α}, l.length = 20 → ∃ a b c d e, ∃ r : List α, l = a :: b :: c :: (r ++ [d, e]) ∧ r.length = 15
  | [u0, u1, u2, u3, u4, u5, u6, u7, u8, u9, u10, u11, u12, u13, u14, u15, u16, u17, u18, u19], _ => ⟨u0, u1, u2, u18, u19, [u3, u4, u5, u6, u7, u8, u9, u10, u11, u12, u13, u14, u15, u16, u17], rfl, rfl⟩

section
variable {H : Type} {enc : TypeId × Value → H} {w : World} {base : Nat} {sp : Nat → Bool} {held : Bool}
theorem trod_s1 {P : Program} {t : TypeId} {f0 : Field} {fuel : Nat} {cs : List Value} {x : DataW H × List MemPlace} (ht : P.underlying t = some (.struct #[f0])) (h : DataW.trod enc P w base sp held fuel t cs = some x) :
    ∃ y0 n, x.1 = .agg [y0.1] ∧ cs.length = P.cellsOf t ∧ DataW.trod enc P w base sp held n f0.type ((cs.drop f0.offset).take (P.cellsOf f0.type)) = some y0 := by
  obtain ⟨xs, n, _, rfl, hl, hlen, hf⟩ := DataW.trod_struct ht h
  match xs, hlen with
  | [y0], _ => exact ⟨y0, n, by simp, hl, by simpa using hf 0 f0 rfl⟩
theorem trod_s2 {P : Program} {t : TypeId} {f0 f1 : Field} {fuel : Nat} {cs : List Value} {x : DataW H × List MemPlace} (ht : P.underlying t = some (.struct #[f0, f1])) (h : DataW.trod enc P w base sp held fuel t cs = some x) :
    ∃ y0 y1 n, x.1 = .agg [y0.1, y1.1] ∧ cs.length = P.cellsOf t ∧ DataW.trod enc P w base sp held n f0.type ((cs.drop f0.offset).take (P.cellsOf f0.type)) = some y0 ∧
      DataW.trod enc P w base sp held n f1.type ((cs.drop f1.offset).take (P.cellsOf f1.type)) = some y1 := by
  obtain ⟨xs, n, _, rfl, hl, hlen, hf⟩ := DataW.trod_struct ht h
  match xs, hlen with
  | [y0, y1], _ => exact ⟨y0, y1, n, by simp, hl, by simpa using hf 0 f0 rfl, by simpa using hf 1 f1 rfl⟩
theorem trod_s6 {P : Program} {t : TypeId} {f0 f1 f2 f3 f4 f5 : Field} {fuel : Nat} {cs : List Value} {x : DataW H × List MemPlace} (ht : P.underlying t = some (.struct #[f0, f1, f2, f3, f4, f5])) (h : DataW.trod enc P w base sp held fuel t cs = some x) :
    ∃ y0 y1 y2 y3 y4 y5 n, x.1 = .agg [y0.1, y1.1, y2.1, y3.1, y4.1, y5.1] ∧ cs.length = P.cellsOf t ∧ DataW.trod enc P w base sp held n f0.type ((cs.drop f0.offset).take (P.cellsOf f0.type)) = some y0 ∧
      DataW.trod enc P w base sp held n f1.type ((cs.drop f1.offset).take (P.cellsOf f1.type)) = some y1 ∧ DataW.trod enc P w base sp held n f2.type ((cs.drop f2.offset).take (P.cellsOf f2.type)) = some y2 ∧ DataW.trod enc P w base sp held n f3.type ((cs.drop f3.offset).take (P.cellsOf f3.type)) = some y3 ∧
      DataW.trod enc P w base sp held n f4.type ((cs.drop f4.offset).take (P.cellsOf f4.type)) = some y4 ∧ DataW.trod enc P w base sp held n f5.type ((cs.drop f5.offset).take (P.cellsOf f5.type)) = some y5 := by
  obtain ⟨xs, n, _, rfl, hl, hlen, hf⟩ := DataW.trod_struct ht h
  match xs, hlen with
  | [y0, y1, y2, y3, y4, y5], _ => exact ⟨y0, y1, y2, y3, y4, y5, n, by simp, hl, by simpa using hf 0 f0 rfl, by simpa using hf 1 f1 rfl, by simpa using hf 2 f2 rfl, by simpa using hf 3 f3 rfl, by simpa using hf 4 f4 rfl, by simpa using hf 5 f5 rfl⟩
/-- A row of structs that came in, opened. -/
theorem open_rows {α : Type} {t e : TypeId} {m : Nat} (cl : α → List Value) (R : α → Prop) (ht : Tryz.prog.underlying t = some (.slice e)) (hm : 0 < m) (hc : Tryz.prog.cellsOf e = m) (hcl : ∀ y, (cl y).length = m)
    (each : ∀ {fuel : Nat} {cs : List Value} {x : DataW H × List MemPlace}, Rows.uptoBulk x.1 ≤ 1048576 → DataW.trod enc Tryz.prog w base sp held fuel e cs = some x → (∀ n ∈ x.1.weights Tryz.prog e, n ≤ reachBytes) → ∃ y : α, cs = cl y ∧ R y)
    {fuel : Nat} {cs : List Value} {x : DataW H × List MemPlace} (hb : Rows.uptoBulk x.1 ≤ 1048576) (h : DataW.trod enc Tryz.prog w base sp held fuel t cs = some x) (hw : ∀ n ∈ x.1.weights Tryz.prog t, n ≤ reachBytes) :
    ∃ (a : Option Addr) (l : List α) (c : Nat), cs = [.slice a l.length c] ∧ l.length ≤ c ∧ RowC w m a (l.map cl) ∧ (∀ y ∈ l, R y) ∧ l.length ≤ 1048576 := by
  rcases open_slice ht h with ⟨hcs, _⟩ | ⟨a, len, cap, mm, n3, D, Pl, hcs, _, hl, hmx, hmm, hdx, hi⟩
  · exact ⟨none, [], 0, hcs, Nat.le_refl _, ⟨fun i hi => absurd hi (by simp)⟩, fun x hx => absurd hx (by simp), by simp⟩
  · have hlm : len ≤ mm := by rw [hmm]; split <;> omega
    have hd : x.1 = .slice ((List.range len).map D) ((List.range (mm - len)).map fun j => D (len + j)) := congrArg Prod.fst hdx
    rw [hd] at hw hb
    simp only [DataW.weights, ht] at hw
    simp only [Rows.uptoBulk] at hb
    have eachx : ∀ i, i < len → ∃ y : α, (∀ j v, (cl y)[j]? = some v → w.cell? ((a.add (i * m)).add j) = some v) ∧ R y := by
      intro i hil
      obtain ⟨cs', hc', ht'⟩ := hi i (by omega)
      rw [hc] at hc'
      have hmem : D i ∈ (List.range len).map D := List.mem_map.2 ⟨i, List.mem_range.2 hil, rfl⟩
      have hbi := bulk_mem hmem
      obtain ⟨y, rfl, hy⟩ := each (x := (D i, Pl i)) (by show Rows.uptoBulk (D i) ≤ _; omega) ht' (fun n hn => hw n (List.mem_cons_of_mem _ (List.mem_append.2 (.inl (weights_mem_all11 hmem n hn)))))
      obtain ⟨_, hcl', hat⟩ := World.cells?_some hc'
      refine ⟨y, fun j v hv => ?_, hy⟩
      have hj : j < (cl y).length := (List.getElem?_eq_some_iff.1 hv).1
      rw [hat j (by rw [← hcl']; exact hj)]
      exact hv
    obtain ⟨l, hll, hp⟩ := list_of_each len eachx
    subst hll
    have hbl := bulk_len12 ((List.range l.length).map D)
    rw [List.length_map, List.length_range] at hbl
    refine ⟨some a, l, cap, hcs, hl, rowc_of hm (fun x hx => ?_) (fun i hi j v hv => ?_), fun y hy => ?_, by omega⟩
    · obtain ⟨c, _, rfl⟩ := List.mem_map.1 hx; exact hcl c
    · have hi' : i < l.length := by simpa using hi
      exact (hp i hi').1 j v (by simpa using hv)
    · obtain ⟨i, hi', rfl⟩ := List.mem_iff_getElem.1 hy
      exact (hp i hi').2
theorem rowc_all {m : Nat} {a : Option Addr} {us : List (List Value)} (h : RowC w m a us) (hn : us ≠ []) : ∃ b o, a = some ⟨b, o, none⟩ ∧ ∀ i (hi : i < us.length), w.rangeAt b (o + i * m) us[i] := by
  obtain ⟨b, o, e, _, _⟩ := h.out 0 (List.length_pos_iff.2 hn)
  refine ⟨b, o, e, fun i hi => ?_⟩
  obtain ⟨b2, o2, e2, _, hR⟩ := h.out i hi
  rw [e] at e2
  obtain ⟨rfl, rfl⟩ : b = b2 ∧ o = o2 := by simpa using e2
  exact hR
theorem open_strs {fuel : Nat} {cs : List Value} {x : DataW H × List MemPlace} (hb : Rows.uptoBulk x.1 ≤ 1048576) (h : DataW.trod enc Tryz.prog w base sp held fuel 38 cs = some x) (hw : ∀ n ∈ x.1.weights Tryz.prog 38, n ≤ reachBytes) :
    ∃ (a : Option Addr) (l : List ByteArray) (c : Nat), cs = [.slice a l.length c] ∧ l.length ≤ c ∧ StrsA w a l ∧ l.length ≤ 1048576 := by
  obtain ⟨a, l, c, hcs, hc, hR, hA, hl⟩ := open_rows (fun s : ByteArray => [Value.string s]) (fun s => s.size ≤ maxLen) Tryz.underlying38 (by omega) cellsS (fun _ => rfl) (fun _ h _ => by
    obtain ⟨s, e, _, ws⟩ := DataW.trod_string Tryz.underlying9 h
    exact ⟨s, e, ws⟩) hb h hw
  refine ⟨a, l, c, hcs, hc, ⟨fun hn => ?_, hA⟩, hl⟩
  obtain ⟨b, o, e, hx⟩ := rowc_all hR (by simpa using hn)
  exact ⟨b, o, e, fun i hi => by
    have := hx i (by simpa using hi) 0 (.string l[i]) (by simp)
    simpa using this⟩
theorem open_ints {fuel : Nat} {cs : List Value} {x : DataW H × List MemPlace} (hb : Rows.uptoBulk x.1 ≤ 1048576) (h : DataW.trod enc Tryz.prog w base sp held fuel 39 cs = some x) (hw : ∀ n ∈ x.1.weights Tryz.prog 39, n ≤ reachBytes) :
    ∃ (a : Option Addr) (l : List Int) (c : Nat), cs = [.slice a l.length c] ∧ l.length ≤ c ∧ IntsI w a l := by
  obtain ⟨a, l, c, hcs, hc, hR, hA, hl⟩ := open_rows (fun s : Int => [Value.int .i64 s]) (fun s => in64 s) Tryz.underlying39 (by omega) cells3 (fun _ => rfl) (fun _ h _ => by
    obtain ⟨s, e, _, ws⟩ := DataW.trod_int Tryz.underlying3 h
    exact ⟨s, e, bounds_i64 ws⟩) hb h hw
  refine ⟨a, l, c, hcs, hc, ⟨fun hn => ?_, hA, by omega⟩⟩
  obtain ⟨b, o, e, hx⟩ := rowc_all hR (by simpa using hn)
  exact ⟨b, o, e, fun i hi => by
    have := hx i (by simpa using hi) 0 (.int .i64 l[i]) (by simp)
    simpa using this⟩
set_option maxRecDepth 1000000 in
theorem open_row_at12 {fuel : Nat} {cs : List Value} {x : DataW H × List MemPlace} (hf : DataW.trod enc Tryz.prog w base sp held fuel 35 cs = some x) :
    ∃ (a : Option Addr) (l : List Val) (c : Nat), cs = [.slice a l.length c] ∧ l.length ≤ maxLen ∧ l.length ≤ c ∧ RowAt w a l ∧ (∀ x ∈ l, inI x) ∧ (l ≠ [] → ∃ es sp', x.1 = .slice es sp' ∧ l.length ≤ es.length) := by
  rcases open_slice Tryz.underlying35 hf with ⟨hcs, _⟩ | ⟨a, len, cap, m, n, D, Pl, hcs, _, hl, hm, hmm, hdx, hi⟩
  · subst hcs
    exact ⟨none, [], 0, rfl, by unfold maxLen; simp, Nat.le_refl _, fun h => absurd rfl h, fun x hx => absurd hx (by simp), fun h => absurd rfl h⟩
  · subst hcs
    have hlm : len ≤ m := by rw [hmm]; split <;> omega
    have each : ∀ i, i < len → ∃ x : Val, (w.cell? (a.add (i * 3)) = some (.int .i64 x.k) ∧ w.cell? (a.add (i * 3 + 1)) = some (.int .i64 x.n) ∧ w.cell? (a.add (i * 3 + 2)) = some (.string x.s)) ∧ inI x := by
      intro i hil
      obtain ⟨cs', hc, ht⟩ := hi i (by omega)
      rw [cells23] at hc
      obtain ⟨y0, y1, y2, n', _, hlen, g0, g1, g2⟩ := trod_struct3 Tryz.underlying41 ht
      obtain ⟨_, hcl, hat⟩ := World.cells?_some hc
      obtain ⟨x0, x1, x2, rfl⟩ := three_of hcl
      have c3 : Tryz.prog.cellsOf 3 = 1 := by kernel_rfl
      have c9 : Tryz.prog.cellsOf 9 = 1 := by kernel_rfl
      simp only [c3, c9] at g0 g1 g2
      obtain ⟨k, e0, _, _⟩ := DataW.trod_int Tryz.underlying3 g0
      obtain ⟨nn, e1, _, wn⟩ := DataW.trod_int Tryz.underlying3 g1
      obtain ⟨s, e2, _, ws⟩ := DataW.trod_string Tryz.underlying9 g2
      simp at e0 e1 e2
      subst e0 e1 e2
      have h0 := hat 0 (by omega)
      have h1 := hat 1 (by omega)
      have h2 := hat 2 (by omega)
      rw [add_add] at h0 h1 h2
      exact ⟨⟨k, nn, s⟩, ⟨by simpa using h0, by simpa using h1, by simpa using h2⟩, (bounds_i64 wn).1, (bounds_i64 wn).2, ws⟩
    obtain ⟨l, hll, hp⟩ := list_of_each len each
    subst hll
    refine ⟨some a, l, cap, rfl, by omega, by omega, fun hne => ?_, fun x hx => ?_, fun _ => ?_⟩
    rotate_left
    · obtain ⟨i, hi', rfl⟩ := List.mem_iff_getElem.1 hx
      exact (hp i hi').2
    · exact ⟨_, _, congrArg Prod.fst hdx, by simp⟩
    have hpos : 0 < l.length := by
      cases l with
      | nil => exact absurd rfl hne
      | cons _ _ => simp
    obtain ⟨b, off, spot⟩ := a
    have hspot : spot = none := by simpa [Addr.add] using World.cell?_spot (hp 0 hpos).1.1
    subst hspot
    refine ⟨b, off, rfl, fun i hi' => ?_⟩
    have := (hp i hi').1
    simp only [Go.WideShapes.add_plain] at this
    refine ⟨this.1, ?_, ?_⟩
    · rw [Nat.add_assoc]; exact this.2.1
    · rw [Nat.add_assoc]; exact this.2.2

theorem bulk_each {H : Type} {x : DataW H} {l : List (DataW H)} (h : x = .agg l) (hb : Rows.uptoBulk x ≤ 1048576) : ∀ d ∈ l, Rows.uptoBulk d ≤ 1048576 := fun d hd => by
  have := bulk_mem hd
  rw [h] at hb; simp only [Rows.uptoBulk] at hb; omega
theorem nine_of {α : Type} : ∀ {l : List α}, l.length = 9 → ∃ a b c, ∃ r : List α, l = a :: (r ++ [b, c]) ∧ r.length = 6
  | [u0, u1, u2, u3, u4, u5, u6, u7, u8], _ => ⟨u0, u7, u8, [u1, u2, u3, u4, u5, u6], rfl, rfl⟩
theorem two_cells {α : Type} : ∀ {l : List α}, l.length = 2 → ∃ a b, l = [a, b]
  | [a, b], _ => ⟨a, b, rfl⟩
set_option maxRecDepth 1000000 in
theorem open_elem {fuel : Nat} {cs : List Value} {x : DataW H × List MemPlace} (hb : Rows.uptoBulk x.1 ≤ 1048576) (h : DataW.trod enc Tryz.prog w base sp held fuel 80 cs = some x) :
    ∃ e : Elem, cs = cellsOne e ∧ (RowAt w e.a e.r ∧ rowOK e.r) ∧ (∀ x ∈ e.r, inI x) ∧ in64 e.n ∧ e.r.length ≤ e.c := by
  obtain ⟨y0, y1, n, hx, hlen, g0, g1⟩ := trod_s2 Tryz.underlying80 h
  obtain ⟨u0, u1, rfl⟩ := two_cells (hlen.trans cellsM12)
  have c3 : Tryz.prog.cellsOf 3 = 1 := cells3
  simp only [c3, cellsLv12] at g0 g1
  have hbe := bulk_each hx hb
  obtain ⟨a, l, c, e0, _, hc, hr, hi, hd⟩ := open_row_at12 g0
  obtain ⟨m, e1, _, wm⟩ := DataW.trod_int Tryz.underlying3 g1
  simp at e0 e1
  subst e0 e1
  refine ⟨⟨a, c, l, m⟩, rfl, ⟨hr, ?_⟩, hi, bounds_i64 wm, hc⟩
  by_cases hne : l = []
  · show l.length * 32 ≤ _; rw [hne]; simp
  · obtain ⟨es, sp', e, hle⟩ := hd hne
    have h1 := hbe y0.1 (by simp)
    have h2 := bulk_len12 es
    rw [e] at h1; simp only [Rows.uptoBulk] at h1
    show l.length * 32 ≤ _; omega
set_option maxRecDepth 1000000 in
theorem open_elems {fuel : Nat} {cs : List Value} {x : DataW H × List MemPlace} (hb : Rows.uptoBulk x.1 ≤ 1048576) (h : DataW.trod enc Tryz.prog w base sp held fuel 57 cs = some x) (hw : ∀ n ∈ x.1.weights Tryz.prog 57, n ≤ reachBytes) :
    ∃ (a : Option Addr) (E : List Elem) (c : Nat), cs = [.slice a E.length c] ∧ ElemsI w a c E := by
  obtain ⟨a, l, c, hcs, hc, hR, hA, hl⟩ := open_rows cellsOne (fun e => (RowAt w e.a e.r ∧ rowOK e.r) ∧ (∀ x ∈ e.r, inI x) ∧ in64 e.n ∧ e.r.length ≤ e.c) Tryz.underlying57 (by omega) cellsM12 (fun _ => rfl) (fun hb h _ => open_elem hb h) hb h hw
  refine ⟨a, l, c, hcs, ⟨⟨fun hn => ?_, fun e he => (hA e he).1⟩, fun e he => (hA e he).2, by omega, hc⟩⟩
  obtain ⟨b, o, e, hx⟩ := rowc_all hR (by simpa using hn)
  refine ⟨b, o, e, fun i hi => ?_⟩
  have h0 := hx i (by simpa using hi) 0 (.slice l[i].a l[i].r.length l[i].c) (by simp [cellsOne])
  have h1 := hx i (by simpa using hi) 1 (.int .i64 l[i].n) (by simp [cellsOne])
  exact ⟨by simpa using h0, h1⟩
set_option maxRecDepth 1000000 in
theorem open_named {fuel : Nat} {cs : List Value} {x : DataW H × List MemPlace} (hb : Rows.uptoBulk x.1 ≤ 1048576) (h : DataW.trod enc Tryz.prog w base sp held fuel 65 cs = some x) (hw : ∀ n ∈ x.1.weights Tryz.prog 65, n ≤ reachBytes) :
    ∃ y : Nx, cs = y.cells ∧ ElemsI w y.a y.c y.E ∧ y.s.size ≤ maxLen := by
  obtain ⟨y0, y1, n, hx, hlen, g0, g1⟩ := trod_s2 Tryz.underlying65 h
  obtain ⟨u0, u1, rfl⟩ := two_cells (hlen.trans cellsN12)
  simp only [cellsS, cellsLm12] at g0 g1
  have hbe := bulk_each hx hb
  have hw1 : ∀ n ∈ y1.1.weights Tryz.prog 57, n ≤ reachBytes := fun n hn => hw n (by
    rw [hx]
    simp only [DataW.weights, Tryz.underlying65]
    exact DataW.weights_mem_each (j := 1) (t := 57) rfl rfl _ hn)
  obtain ⟨s, e0, _, ws⟩ := DataW.trod_string Tryz.underlying9 g0
  obtain ⟨a, E, c, e1, hE⟩ := open_elems (hbe y1.1 (by simp)) g1 hw1
  simp at e0 e1
  subst e0 e1
  exact ⟨⟨s, a, c, E⟩, rfl, hE, ws⟩
set_option maxRecDepth 1000000 in
/-- What is there that came in. -/
theorem open_names {r : Reach} {b0 : Nat} {v : Value} {d : DataW H} {p : List MemPlace} (hv : Value.okWide Tryz.prog w r b0 25 v) (h : DataW.Trod enc Tryz.prog w base sp held 25 v d p) (hw : ∀ n ∈ d.weights Tryz.prog 25, n ≤ reachBytes) (hb : Rows.uptoBulk d ≤ 1048576) :
    ∃ (a : Option Addr) (l : List Nx) (c : Nat), v = .slice a l.length c ∧ NsOk w a l := by
  obtain ⟨a0, len, cap, rfl⟩ := okWide_slice Tryz.underlying25 hv
  obtain ⟨fuel, hf⟩ := h
  obtain ⟨a, l, c, hcs, _, hR, hA, hl⟩ := open_rows Nx.cells (fun y => ElemsI w y.a y.c y.E ∧ y.s.size ≤ maxLen) Tryz.underlying25 (by omega) cellsN12 (fun _ => rfl) (fun hb h hw => open_named hb h hw) (x := (d, p)) hb hf hw
  simp [Value.cells] at hcs
  obtain ⟨rfl, rfl, rfl⟩ := hcs
  exact ⟨a0, l, cap, rfl, hR, hA, by omega⟩
set_option maxRecDepth 1000000 in
theorem open_out {fuel : Nat} {cs : List Value} {x : DataW H × List MemPlace} (hb : Rows.uptoBulk x.1 ≤ 1048576) (h : DataW.trod enc Tryz.prog w base sp held fuel 55 cs = some x) (hw : ∀ n ∈ x.1.weights Tryz.prog 55, n ≤ reachBytes) :
    ∃ o : Ox, cs = o.cells ∧ (CxAt w 1048576 o.e ∧ in64 o.g) ∧ sizeC o.e ≤ 8000000 := by
  obtain ⟨y0, y1, y2, y3, n, hx, hlen, g0, g1, g2, g3⟩ := trod_s4 Tryz.underlying55 h
  obtain ⟨u0, u1, u2, rr, rfl, hrr⟩ := nine_of (hlen.trans cellsO12)
  have c3 : Tryz.prog.cellsOf 3 = 1 := cells3
  simp only [c3, cellsX, cellsS] at g0 g1 g2 g3
  have hbe := bulk_each hx hb
  have hw1 : ∀ n ∈ y1.1.weights Tryz.prog 44, n ≤ reachBytes := fun n hn => hw n (by
    rw [hx]
    simp only [DataW.weights, Tryz.underlying55]
    exact DataW.weights_mem_each (j := 1) (t := 44) rfl rfl _ hn)
  have t1 : ((u0 :: (rr ++ [u1, u2])).drop 1).take 6 = rr := by obtain ⟨r0, r1, r2, r3, r4, r5, rfl⟩ := six_of hrr; rfl
  have t2 : ((u0 :: (rr ++ [u1, u2])).drop 7).take 1 = [u1] := by obtain ⟨r0, r1, r2, r3, r4, r5, rfl⟩ := six_of hrr; rfl
  have t3 : ((u0 :: (rr ++ [u1, u2])).drop 8).take 1 = [u2] := by obtain ⟨r0, r1, r2, r3, r4, r5, rfl⟩ := six_of hrr; rfl
  have g1' := g1
  have g2' := g2
  have g3' := g3
  rw [t1] at g1'
  rw [t2] at g2'
  rw [t3] at g3'
  obtain ⟨k, e0, _, wk⟩ := DataW.trod_int Tryz.underlying3 g0
  have hb1 := hbe y1.1 (by simp)
  obtain ⟨c, rfl, hC, hs⟩ := open_cx (Rows.uptoBulk y1.1) (Nat.le_refl _) g1' hw1
  obtain ⟨s, e2, _, _⟩ := DataW.trod_string Tryz.underlying9 g2'
  obtain ⟨ty, e3, _, _⟩ := DataW.trod_int Tryz.underlying3 g3'
  simp at e0 e2 e3
  subst e0 e2 e3
  exact ⟨⟨k, c, s, ty⟩, rfl, ⟨hC.deep hb1, bounds_i64 wk⟩, by show sizeC c ≤ _; omega⟩
set_option maxRecDepth 1000000 in
set_option maxHeartbeats 1000000 in
theorem open_part {fuel : Nat} {cs : List Value} {x : DataW H × List MemPlace} (hb : Rows.uptoBulk x.1 ≤ 1048576) (h : DataW.trod enc Tryz.prog w base sp held fuel 50 cs = some x) (hw : ∀ n ∈ x.1.weights Tryz.prog 50, n ≤ reachBytes) :
    ∃ p : Px, cs = p.cells ∧ PxOk w 1048576 p := by
  obtain ⟨y0, y1, y2, y3, y4, y5, n, hx, hlen, g0, g1, g2, g3, g4, g5⟩ := trod_s6 Tryz.underlying50 h
  obtain ⟨u0, u1, u2, u3, u4, rr, rfl, hrr⟩ := twenty_of (hlen.trans cellsP12)
  simp only [cellsB12, cellsLs12, cellsLi12, cellsLo12, cellsT] at g0 g1 g2 g3 g4 g5
  have hbe := bulk_each hx hb
  have hwj : ∀ (j : Nat) (t : TypeId) (d : DataW H), [4, 38, 39, 47, 39, 48][j]? = some t → [y0.1, y1.1, y2.1, y3.1, y4.1, y5.1][j]? = some d → ∀ n ∈ d.weights Tryz.prog t, n ≤ reachBytes := fun j t d h1 h2 n hn => hw n (by
    rw [hx]
    simp only [DataW.weights, Tryz.underlying50]
    exact DataW.weights_mem_each (j := j) (t := t) h1 h2 _ hn)
  have t3 : ((u0 :: u1 :: u2 :: (rr ++ [u3, u4])).drop 3).take 15 = rr := by obtain ⟨r0, r1, r2, r3, r4, r5, r6, r7, r8, r9, r10, r11, r12, r13, r14, rfl⟩ := fifteen_of hrr; rfl
  have t4 : ((u0 :: u1 :: u2 :: (rr ++ [u3, u4])).drop 18).take 1 = [u3] := by obtain ⟨r0, r1, r2, r3, r4, r5, r6, r7, r8, r9, r10, r11, r12, r13, r14, rfl⟩ := fifteen_of hrr; rfl
  have t5 : ((u0 :: u1 :: u2 :: (rr ++ [u3, u4])).drop 19).take 1 = [u4] := by obtain ⟨r0, r1, r2, r3, r4, r5, r6, r7, r8, r9, r10, r11, r12, r13, r14, rfl⟩ := fifteen_of hrr; rfl
  have g3' := g3
  have g4' := g4
  have g5' := g5
  rw [t3] at g3'
  rw [t4] at g4'
  rw [t5] at g5'
  obtain ⟨d, e0, _⟩ := DataW.trod_bool Tryz.underlying4 g0
  obtain ⟨fp, fs, fc, e1, hf1, hf2, hf3⟩ := open_strs (hbe y1.1 (by simp)) g1 (hwj 1 _ _ rfl rfl)
  obtain ⟨wp, ws, wc, e2, hw1, hw2⟩ := open_ints (hbe y2.1 (by simp)) g2 (hwj 2 _ _ rfl rfl)
  have hb3 := hbe y3.1 (by simp)
  obtain ⟨t, rfl, hT, hs⟩ := open_tx (Rows.uptoBulk y3.1) (Nat.le_refl _) g3' (hwj 3 _ _ rfl rfl)
  obtain ⟨gp, gs, gc, e4, hg1, hg2⟩ := open_ints (hbe y4.1 (by simp)) g4' (hwj 4 _ _ rfl rfl)
  obtain ⟨op, os, oc, e5, ho1, hoR, hoA, ho2⟩ := open_rows Ox.cells (fun o => (CxAt w 1048576 o.e ∧ in64 o.g) ∧ sizeC o.e ≤ 8000000) Tryz.underlying48 (by omega) cellsO12 (fun o => o.cells_len) (fun hb h hw => open_out hb h hw) (hbe y5.1 (by simp)) g5' (hwj 5 _ _ rfl rfl)
  simp at e0 e1 e2 e4 e5
  subst e0 e1 e2 e4 e5
  exact ⟨⟨d, fp, fc, fs, wp, wc, ws, t, gp, gc, gs, op, oc, os⟩, rfl, hf2, hw2, hT.deep hb3, hg2, hoR, fun o ho => (hoA o ho).1, by show fs.length ≤ _; omega, by show os.length ≤ _; omega, hf1, hw1, hg1, ho1, by show sizeT t ≤ _; omega, fun o ho => (hoA o ho).2⟩
set_option maxRecDepth 1000000 in
/-- A plan that came in. -/
theorem open_plan {r : Reach} {b0 : Nat} {v : Value} {d : DataW H} {p : List MemPlace} (hv : Value.okWide Tryz.prog w r b0 24 v) (h : DataW.Trod enc Tryz.prog w base sp held 24 v d p) (hw : ∀ n ∈ d.weights Tryz.prog 24, n ≤ reachBytes) (hb : Rows.uptoBulk d ≤ 1048576) :
    ∃ (a : Option Addr) (ps : List Px) (c : Nat), v = .agg #[.slice a ps.length c] ∧ PsOk w 1048576 a c ps := by
  obtain ⟨cs, rfl, hsz⟩ := okWide_struct Tryz.underlying24 hv
  obtain ⟨fuel, hf⟩ := h
  obtain ⟨y0, n, hx, hlen, g0⟩ := trod_s1 (x := (d, p)) Tryz.underlying24 hf
  have hx : d = .agg [y0.1] := hx
  have hbe := bulk_each hx hb
  have hw0 : ∀ n ∈ y0.1.weights Tryz.prog 22, n ≤ reachBytes := fun n hn => hw n (by
    rw [hx]
    simp only [DataW.weights, Tryz.underlying24]
    exact DataW.weights_mem_each (j := 0) (t := 22) rfl rfl _ hn)
  simp only [cellsLp12] at g0
  have hl1 : cs.toList.length = 1 := by simpa [Value.cells] using hlen.trans cellsPl12
  obtain ⟨a, l, c, hcs, hc, hR, hA, hl⟩ := open_rows Px.cells (fun p => PxOk w 1048576 p) Tryz.underlying22 (by omega) cellsP12 (fun p => p.cells_len) (fun hb h hw => open_part hb h hw) (hbe y0.1 (by simp)) g0 hw0
  have hcs2 : cs.toList = [.slice a l.length c] := by
    have h2 : (cs.toList.drop 0).take 1 = [.slice a l.length c] := by simpa [Value.cells] using hcs
    rwa [List.drop_zero, List.take_of_length_le (by omega)] at h2
  refine ⟨a, l, c, ?_, hR, hA, by omega, hc⟩
  rw [← Array.toArray_toList (xs := cs), hcs2]
end
end Go.Proofs.YtfdkajefcplfjaaGreat
