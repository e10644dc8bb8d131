/- Several of my texts laid together, each as it was: D44, D53, D57, D62. Conditions: each names its own. -/
import Derived.Test.YtfdkajefcplfjaaGreatK4
import Derived.Test.YtfdkajefcplfjaaGreatK3
import Derived.Deep.CondSized
import Derived.JoinedCond
import Derived.Test.YtfdkajefcplfjaaGreatWS
/- Named selects that came in, opened: where they lie, and that few rows are in each. Nothing of any program here but the types. Conditions: they hold at most 1048576 values and letters. -/
namespace Go.Proofs.YtfdkajefcplfjaaGreat
open Go.ChangeShapes Go.WideShapes Go.ChangeAt Go.RowKit Go.Joins Go.Deep

theorem bulk_three {H : Type} : ∀ l : List (DataW H), (∀ d ∈ l, 3 ≤ Rows.uptoBulk d) → l.length * 3 ≤ Rows.uptoBulkAll l
  | [], _ => by simp [Rows.uptoBulkAll]
  | x :: l, h => by
    have h1 := bulk_three l (fun d hd => h d (by simp [hd]))
    have h2 := h x (by simp)
    simp only [Rows.uptoBulkAll, List.length_cons]; omega
section
variable {H : Type} {enc : TypeId × Value → H} {w : World} {base : Nat} {sp : Nat → Bool} {held : Bool}
end
end Go.Proofs.YtfdkajefcplfjaaGreat

/- Named selects that came in, opened: where they lie, and how many rows are in each, measured by what came in. Nothing of any program here but the types. Conditions: they hold at most 1048576 values and letters. -/
namespace Go.Proofs.YtfdkajefcplfjaaGreat
open Go.ChangeShapes Go.WideShapes Go.ChangeAt Go.RowKit Go.Joins Go.Deep

theorem sum_le {α : Type} {mu : α → Nat} : ∀ (l : List α) (f : Nat → Nat), (∀ i (h : i < l.length), mu l[i] ≤ f i) → (l.map mu).sum ≤ ((List.range l.length).map f).sum
  | [], _, _ => by simp
  | x :: l, f, h => by
    have h0 := h 0 (by simp)
    have ih := sum_le l (fun i => f (i + 1)) (fun i hi => h (i + 1) (by simp; omega))
    rw [List.map_cons, List.sum_cons, List.length_cons, List.range_succ_eq_map, List.map_cons, List.sum_cons, List.map_map]
    have e : ((List.range l.length).map (f ∘ Nat.succ)).sum = ((List.range l.length).map (fun i => f (i + 1))).sum := rfl
    rw [e]
    have h0' : mu x ≤ f 0 := h0
    omega
theorem mem_sum : ∀ {l : List Nat} {x : Nat}, x ∈ l → x ≤ l.sum
  | y :: l, x, h => by
    rw [List.sum_cons]
    rcases List.mem_cons.1 h with rfl | h
    · omega
    · have := mem_sum h; omega
theorem bulk_sum12 {H : Type} : ∀ l : List (DataW H), (l.map Rows.uptoBulk).sum ≤ Rows.uptoBulkAll l
  | [] => by simp
  | x :: l => by
    have := bulk_sum12 l
    simp only [Rows.uptoBulkAll, List.map_cons, List.sum_cons]; omega
section
variable {H : Type} {enc : TypeId × Value → H} {w : World} {base : Nat} {sp : Nat → Bool} {held : Bool}
theorem open_rowsB {α : Type} {BB : Nat} {t e : TypeId} {m : Nat} (cl : α → List Value) (R : α → Prop) (mu : α → Nat) (ht : Tryz.prog.underlying t = some (.slice e)) (hm : 0 < m) (hc : Tryz.prog.cellsOf e = m) (hcl : ∀ y, (cl y).length = m)
    (each : ∀ {fuel : Nat} {cs : List Value} {x : DataW H × List MemPlace}, Rows.uptoBulk x.1 ≤ BB → DataW.trod enc Tryz.prog w base sp held fuel e cs = some x → (∀ n ∈ x.1.weights Tryz.prog e, n ≤ reachBytes) → ∃ y : α, cs = cl y ∧ R y ∧ mu y ≤ Rows.uptoBulk x.1)
    {fuel : Nat} {cs : List Value} {x : DataW H × List MemPlace} (hb : Rows.uptoBulk x.1 ≤ BB) (h : DataW.trod enc Tryz.prog w base sp held fuel t cs = some x) (hw : ∀ n ∈ x.1.weights Tryz.prog t, n ≤ reachBytes) :
    ∃ (a : Option Addr) (l : List α) (c : Nat), cs = [.slice a l.length c] ∧ l.length ≤ c ∧ RowC w m a (l.map cl) ∧ (∀ y ∈ l, R y) ∧ l.length ≤ BB ∧ (l.map mu).sum ≤ BB := by
  rcases open_slice ht h with ⟨hcs, _⟩ | ⟨a, len, cap, mm, n3, D, Pl, hcs, _, hl, hmx, hmm, hdx, hi⟩
  · exact ⟨none, [], 0, hcs, Nat.le_refl _, ⟨fun i hi => absurd hi (by simp)⟩, fun x hx => absurd hx (by simp), by simp, by simp⟩
  · have hlm : len ≤ mm := by rw [hmm]; split <;> omega
    have hd : x.1 = .slice ((List.range len).map D) ((List.range (mm - len)).map fun j => D (len + j)) := congrArg Prod.fst hdx
    rw [hd] at hw hb
    simp only [DataW.weights, ht] at hw
    simp only [Rows.uptoBulk] at hb
    have eachx : ∀ i, i < len → ∃ y : α, (∀ j v, (cl y)[j]? = some v → w.cell? ((a.add (i * m)).add j) = some v) ∧ R y ∧ mu y ≤ Rows.uptoBulk (D i) := by
      intro i hil
      obtain ⟨cs', hc', ht'⟩ := hi i (by omega)
      rw [hc] at hc'
      have hmem : D i ∈ (List.range len).map D := List.mem_map.2 ⟨i, List.mem_range.2 hil, rfl⟩
      have hbi := bulk_mem hmem
      obtain ⟨y, rfl, hy⟩ := each (x := (D i, Pl i)) (by show Rows.uptoBulk (D i) ≤ _; omega) ht' (fun n hn => hw n (List.mem_cons_of_mem _ (List.mem_append.2 (.inl (weights_mem_all11 hmem n hn)))))
      obtain ⟨_, hcl', hat⟩ := World.cells?_some hc'
      refine ⟨y, fun j v hv => ?_, hy⟩
      have hj : j < (cl y).length := (List.getElem?_eq_some_iff.1 hv).1
      rw [hat j (by rw [← hcl']; exact hj)]
      exact hv
    obtain ⟨l, hll, hp⟩ := list_of_each len eachx
    subst hll
    have hbl := bulk_len12 ((List.range l.length).map D)
    rw [List.length_map, List.length_range] at hbl
    refine ⟨some a, l, cap, hcs, hl, rowc_of hm (fun x hx => ?_) (fun i hi j v hv => ?_), fun y hy => ?_, by omega, ?_⟩
    · obtain ⟨c, _, rfl⟩ := List.mem_map.1 hx; exact hcl c
    · have hi' : i < l.length := by simpa using hi
      exact (hp i hi').1 j v (by simpa using hv)
    · obtain ⟨i, hi', rfl⟩ := List.mem_iff_getElem.1 hy
      exact (hp i hi').2.1
    · have hs := sum_le l (fun i => Rows.uptoBulk (D i)) (fun i hi' => (hp i hi').2.2)
      have hb3 := bulk_sum12 ((List.range l.length).map D)
      rw [List.map_map] at hb3
      have hb4 : ((List.range l.length).map (Rows.uptoBulk ∘ D)).sum ≤ BB := by omega
      exact Nat.le_trans hs hb4
theorem elems_bulk {fuel : Nat} {cs : List Value} {x : DataW H × List MemPlace} (hb : Rows.uptoBulk x.1 ≤ 1048576) (h : DataW.trod enc Tryz.prog w base sp held fuel 57 cs = some x) : ∀ (a : Option Addr) (n c : Nat), cs = [.slice a n c] → n * 3 ≤ Rows.uptoBulk x.1 := fun a' n' c' e' => by
  rcases open_slice Tryz.underlying57 h with ⟨hcs, _⟩ | ⟨a, len, cap, mm, n3, D, Pl, hcs, _, hl, hmx, hmm, hdx, hi⟩
  · rw [hcs] at e'; simp at e'; omega
  · have hlm : len ≤ mm := by rw [hmm]; split <;> omega
    have hd : x.1 = .slice ((List.range len).map D) ((List.range (mm - len)).map fun j => D (len + j)) := congrArg Prod.fst hdx
    rw [hd] at hb ⊢
    simp only [Rows.uptoBulk] at hb ⊢
    have h3 := bulk_three ((List.range len).map D) (fun d hd => by
      obtain ⟨i, hi2, rfl⟩ := List.mem_map.1 hd
      have hil := List.mem_range.1 hi2
      obtain ⟨cs', _, ht'⟩ := hi i (by omega)
      obtain ⟨y0, y1, n, hx, _⟩ := trod_s2 Tryz.underlying80 ht'
      have hx : D i = .agg [y0.1, y1.1] := hx
      have b0 := bulk_one y0.1
      have b1 := bulk_one y1.1
      rw [hx]
      simp only [Rows.uptoBulk, Rows.uptoBulkAll]; omega)
    rw [List.length_map, List.length_range] at h3
    rw [hcs] at e'
    simp at e'
    omega
set_option maxRecDepth 1000000 in
theorem open_named3 {fuel : Nat} {cs : List Value} {x : DataW H × List MemPlace} (hb : Rows.uptoBulk x.1 ≤ 1048576) (h : DataW.trod enc Tryz.prog w base sp held fuel 65 cs = some x) (hw : ∀ n ∈ x.1.weights Tryz.prog 65, n ≤ reachBytes) :
    ∃ y : Nx, cs = y.cells ∧ (ElemsI w y.a y.c y.E ∧ y.s.size ≤ maxLen) ∧ y.E.length * 3 ≤ Rows.uptoBulk x.1 := by
  obtain ⟨y0, y1, n, hx, hlen, g0, g1⟩ := trod_s2 Tryz.underlying65 h
  obtain ⟨u0, u1, rfl⟩ := two_cells (hlen.trans cellsN12)
  simp only [cellsS, cellsLm12] at g0 g1
  have hbe := bulk_each hx hb
  have hw1 : ∀ n ∈ y1.1.weights Tryz.prog 57, n ≤ reachBytes := fun n hn => hw n (by
    rw [hx]
    simp only [DataW.weights, Tryz.underlying65]
    exact DataW.weights_mem_each (j := 1) (t := 57) rfl rfl _ hn)
  obtain ⟨s, e0, _, ws⟩ := DataW.trod_string Tryz.underlying9 g0
  obtain ⟨a, E, c, e1, hE⟩ := open_elems (hbe y1.1 (by simp)) g1 hw1
  have hfw := elems_bulk (hbe y1.1 (by simp)) g1 a E.length c e1
  simp at e0 e1
  subst e0 e1
  exact ⟨⟨s, a, c, E⟩, rfl, ⟨hE, ws⟩, by
    have hx' : x.1 = .agg [y0.1, y1.1] := hx
    rw [hx']; simp only [Rows.uptoBulk, Rows.uptoBulkAll]; show E.length * 3 ≤ _; omega⟩
set_option maxRecDepth 1000000 in
theorem open_namesV {r : Reach} {b0 : Nat} {v : Value} {d : DataW H} {p : List MemPlace} (hv : Value.okWide Tryz.prog w r b0 25 v) (h : DataW.Trod enc Tryz.prog w base sp held 25 v d p) (hw : ∀ n ∈ d.weights Tryz.prog 25, n ≤ reachBytes) (hb : Rows.uptoBulk d ≤ 1048576) :
    ∃ (a : Option Addr) (l : List Nx) (c : Nat), v = .slice a l.length c ∧ NsOk w a l ∧ (l.length ≤ 1048576 ∧ ∀ y ∈ l, y.E.length * 3 ≤ Rows.uptoBulk d) := by
  obtain ⟨a0, len, cap, rfl⟩ := okWide_slice Tryz.underlying25 hv
  obtain ⟨fuel, hf⟩ := h
  obtain ⟨a, l, c, hcs, _, hR, hA, hl, hs⟩ := open_rowsB (BB := Rows.uptoBulk d) Nx.cells (fun y => ElemsI w y.a y.c y.E ∧ y.s.size ≤ maxLen) (fun y => y.E.length * 3) Tryz.underlying25 (by omega) cellsN12 (fun _ => rfl) (fun hb2 h hw => open_named3 (Nat.le_trans hb2 hb) h hw) (x := (d, p)) (Nat.le_refl _) hf hw
  simp [Value.cells] at hcs
  obtain ⟨rfl, rfl, rfl⟩ := hcs
  refine ⟨a0, l, cap, rfl, ⟨hR, hA, by omega⟩, by omega, fun y hy => ?_⟩
  have := mem_sum (List.mem_map_of_mem (f := fun y : Nx => y.E.length * 3) hy)
  omega
end
end Go.Proofs.YtfdkajefcplfjaaGreat

/- Two lists of named selects that came in as an array, opened: where they lie, and how many rows are in each, measured by what came in. Nothing of any program here but the types. Conditions: they hold at most 1048576 values and letters. -/
namespace Go.Proofs.YtfdkajefcplfjaaGreat
open Go.ChangeShapes Go.WideShapes Go.ChangeAt Go.RowKit Go.Joins Go.Deep

section
variable {H : Type} {enc : TypeId × Value → H} {w : World} {base : Nat} {sp : Nat → Bool} {held : Bool}
set_option maxRecDepth 1000000 in
theorem open_names3 {fuel : Nat} {cs : List Value} {x : DataW H × List MemPlace} (hb : Rows.uptoBulk x.1 ≤ 1048576) (h : DataW.trod enc Tryz.prog w base sp held fuel 25 cs = some x) (hw : ∀ n ∈ x.1.weights Tryz.prog 25, n ≤ reachBytes) :
    ∃ (a : Option Addr) (l : List Nx) (c : Nat), cs = [.slice a l.length c] ∧ NsOk w a l ∧ (l.length ≤ 1048576 ∧ ∀ y ∈ l, y.E.length * 3 ≤ Rows.uptoBulk x.1) := by
  obtain ⟨a, l, c, hcs, _, hR, hA, hl, hs⟩ := open_rowsB (BB := Rows.uptoBulk x.1) Nx.cells (fun y => ElemsI w y.a y.c y.E ∧ y.s.size ≤ maxLen) (fun y => y.E.length * 3) Tryz.underlying25 (by omega) cellsN12 (fun _ => rfl) (fun hb2 h hw => open_named3 (Nat.le_trans hb2 hb) h hw) (Nat.le_refl _) h hw
  refine ⟨a, l, c, hcs, ⟨hR, hA, by omega⟩, by omega, fun y hy => ?_⟩
  have := mem_sum (List.mem_map_of_mem (f := fun y : Nx => y.E.length * 3) hy)
  omega
set_option maxRecDepth 1000000 in
theorem cellsPair12 : Tryz.prog.cellsOf 73 = 2 := by kernel_rfl
set_option maxRecDepth 1000000 in
theorem cellsLn13 : Tryz.prog.cellsOf 25 = 1 := by kernel_rfl
theorem okWide_array {P : Program} {w : World} {r : Reach} {base : Nat} {t e : TypeId} {n : Nat} {v : Value} (ht : P.underlying t = some (.array n e)) (h : Value.okWide P w r base t v) : ∃ cs, v = .agg cs ∧ cs.size = P.cellsOf t := by
  simp only [Value.okWide, ht] at h
  obtain ⟨cs, h1, h2, _⟩ := h
  exact ⟨cs, h1, h2⟩
set_option maxRecDepth 1000000 in
theorem open_pair {r : Reach} {b0 : Nat} {v : Value} {d : DataW H} {p : List MemPlace} (hv : Value.okWide Tryz.prog w r b0 73 v) (h : DataW.Trod enc Tryz.prog w base sp held 73 v d p) (hw : ∀ n ∈ d.weights Tryz.prog 73, n ≤ reachBytes) (hb : Rows.uptoBulk d ≤ 1048576) :
    ∃ (a1 : Option Addr) (l1 : List Nx) (c1 : Nat) (a2 : Option Addr) (l2 : List Nx) (c2 k1 k2 : Nat), v = .agg #[.slice a1 l1.length c1, .slice a2 l2.length c2] ∧ NsOk w a1 l1 ∧ NsOk w a2 l2 ∧ k1 + k2 ≤ Rows.uptoBulk d ∧ (∀ y ∈ l1, y.E.length * 3 ≤ k1) ∧ (∀ y ∈ l2, y.E.length * 3 ≤ k2) := by
  obtain ⟨cs, rfl, hsz⟩ := okWide_array Tryz.underlying73 hv
  obtain ⟨fuel, hf⟩ := h
  obtain ⟨xs, m, _, hx, hlen, hl2, hi⟩ := DataW.trod_array Tryz.underlying73 hf
  simp only [Value.cells] at hlen hi
  obtain ⟨u0, u1, hu⟩ := two_cells (hlen.trans cellsPair12)
  match xs, hl2 with
  | [y0, y1], _ =>
    have g0 := hi 0 (by omega)
    have g1 := hi 1 (by omega)
    rw [hu, cellsLn13] at g0 g1
    simp at g0 g1
    have hx : d = .agg [y0.1, y1.1] := congrArg Prod.fst hx
    have hwj : ∀ (j : Nat) (y : DataW H), [y0.1, y1.1][j]? = some y → ∀ n ∈ y.weights Tryz.prog 25, n ≤ reachBytes := fun j y hy n hn => hw n (by
      rw [hx]
      simp only [DataW.weights, Tryz.underlying73]
      exact weights_mem_all11 (List.mem_of_getElem? hy) n hn)
    have hbd : Rows.uptoBulk y0.1 + Rows.uptoBulk y1.1 ≤ Rows.uptoBulk d := by
      rw [hx]; simp only [Rows.uptoBulk, Rows.uptoBulkAll]; omega
    obtain ⟨a1, l1, c1, e1, n1, _, k1⟩ := open_names3 (by omega) g0 (hwj 0 _ rfl)
    obtain ⟨a2, l2, c2, e2, n2, _, k2⟩ := open_names3 (by omega) g1 (hwj 1 _ rfl)
    simp at e1 e2
    subst e1 e2
    refine ⟨a1, l1, c1, a2, l2, c2, _, _, ?_, n1, n2, hbd, k1, k2⟩
    rw [← hu, Array.toArray_toList]
end
end Go.Proofs.YtfdkajefcplfjaaGreat

/- DeltaParts: changes one after the other come to what all of them come to: the row. Conditions: what comes in holds at most 1048576 values and letters. -/
namespace Go.Proofs.YtfdkajefcplfjaaGreat
open Go.ChangeShapes Go.WideShapes Go.ChangeAt Go.RowKit Go.Joins

set_option maxRecDepth 1000000 in
theorem dparts_contract (H : Type) (enc : TypeId × Value → H) (W : World) (base : Nat) (args : Array Value) (ds gs : List (DataW H)) (before : List MemPlace)
    (hval0 : ∀ (j : Nat) t v, Tryz.f8.params[j]? = some t → args[j]? = some v → Value.okWide Tryz.prog W .any base t v)
    (hW : DataW.Whole enc Tryz.prog Tryz.f8.params.toList Rows.deltaPartsSpec.vars false W args.toList ds gs before) (hk : Rows.uptoSmall H (ds ++ gs) = true)
    (hsz0 : (DataW.weightsEach Tryz.prog (Tryz.f8.params.toList ++ Rows.deltaPartsSpec.plain.varTypes Tryz.prog) (ds ++ gs)).all (· ≤ reachBytes) = true) :
    Calls Tryz.prog 8 args W fun e W' => ∃ v, e = .returned v ∧ Rows.deltaPartsSpec.post enc Tryz.prog Tryz.f8 false true false false W args v W' := by
  have hval : ∀ (j : Nat) t v, Tryz.f8.params[j]? = some t → args[j]? = some v → Value.okWide Tryz.prog W .any base t v := hval0
  have hbk : Rows.uptoBulkAll (ds ++ gs) ≤ 1048576 := of_decide_eq_true hk
  have hsz : (DataW.weightsEach Tryz.prog (Tryz.f8.params.toList ++ Rows.deltaPartsSpec.plain.varTypes Tryz.prog) (ds ++ gs)).all (· ≤ reachBytes) = true := hsz0
  clear hsz0
  have hW' := hW
  obtain ⟨p, q, hA0, hV, rfl, _, _⟩ := hW
  have hA : DataW.TrodAll enc Tryz.prog W 0 (fun _ => true) true Tryz.f8.params.toList args.toList ds p := hA0
  rw [Tryz.params8] at hA hval hsz
  obtain ⟨v0, v1, v2, d0, d1, d2, p0, p1, p2, rfl, rfl, rfl, h0, h1, h2⟩ := trodAll_three hA
  obtain ⟨rfl, rfl⟩ := trodVars_none hV
  simp only [List.append_nil, Rows.uptoBulkAll] at hbk
  have hlt : ∀ x ∈ p0 ++ (p1 ++ p2), x.block < W.heap.size := fun x hx => hW'.lt x (by simpa using hx)
  have h0k := h0
  have hw0 : ∀ n ∈ d0.weights Tryz.prog 24, n ≤ reachBytes := fun n hn => by
    have := List.all_eq_true.1 hsz n (DataW.weights_mem_each (j := 0) (t := 24) rfl rfl n hn)
    simpa using this
  obtain ⟨a0, ps0, c0, rfl, hP0⟩ := open_plan (hval 0 24 v0 rfl rfl) h0 hw0 (by omega)
  have h1k := h1
  have hw1 : ∀ n ∈ d1.weights Tryz.prog 25, n ≤ reachBytes := fun n hn => by
    have := List.all_eq_true.1 hsz n (DataW.weights_mem_each (j := 1) (t := 25) rfl rfl n hn)
    simpa using this
  obtain ⟨a1, l1, c1, rfl, hN1, hl1⟩ := open_namesV (hval 1 25 v1 rfl rfl) h1 hw1 (by omega)
  have h2k := h2
  have hw2 : ∀ n ∈ d2.weights Tryz.prog 73, n ≤ reachBytes := fun n hn => by
    have := List.all_eq_true.1 hsz n (DataW.weights_mem_each (j := 2) (t := 73) rfl rfl n hn)
    simpa using this
  obtain ⟨a2, l2, c2, a3, l3, c3, k2, k3, rfl, hN2, hN3, hk23, hl2, hl3⟩ := open_pair (hval 2 73 v2 rfl rfl) h2 hw2 (by omega)
  refine (lawDeltaParts a0 c0 ps0 a1 c1 l1 a2 c2 l2 a3 c3 l3 W hP0 ⟨hN1, hN2, hN3, fun x hx => by have := hl1.2 x hx; omega, fun x hx => by have := hl2 x hx; omega, fun x hx => by have := hl3 x hx; omega, hl1.1, fun x hx z hz => by have := hl1.2 x hx; have := hl2 z hz; omega, fun x hx z hz => by have := hl2 x hx; have := hl3 z hz; omega⟩).mono fun e W' ⟨he, hb⟩ => ?_
  subst he
  have shP : ∀ {v : Value} {d : DataW H} {ps : List MemPlace}, DataW.Trod enc Tryz.prog W 0 (fun _ => true) true 24 v d ps → (∀ x ∈ ps, x.block < W.heap.size) → DataW.Trod enc Tryz.prog W' 0 (fun b => decide (b < W.heap.size)) true 24 v d ps :=
    fun h hl => Below.trod laidOut (by kernel_rfl) (of_decide_eq_true (by kernel_rfl)) h hb hl
  have shB : ∀ {v : Value} {d : DataW H} {ps : List MemPlace}, DataW.Trod enc Tryz.prog W 0 (fun _ => true) true 25 v d ps → (∀ x ∈ ps, x.block < W.heap.size) → DataW.Trod enc Tryz.prog W' 0 (fun b => decide (b < W.heap.size)) true 25 v d ps :=
    fun h hl => Below.trod laidOut (by kernel_rfl) (of_decide_eq_true (by kernel_rfl)) h hb hl
  have shT : ∀ {v : Value} {d : DataW H} {ps : List MemPlace}, DataW.Trod enc Tryz.prog W 0 (fun _ => true) true 73 v d ps → (∀ x ∈ ps, x.block < W.heap.size) → DataW.Trod enc Tryz.prog W' 0 (fun b => decide (b < W.heap.size)) true 73 v d ps :=
    fun h hl => Below.trod laidOut (by kernel_rfl) (of_decide_eq_true (by kernel_rfl)) h hb hl
  exact ⟨_, rfl, _, _, _, [], _, [], hW', trodAll_mk1 (shut_bool Tryz.underlying4 true), trodAll_mk3 (shP h0k (fun x hx => hlt x (by simp [hx]))) (shB h1k (fun x hx => hlt x (by simp [hx]))) (shT h2k (fun x hx => hlt x (by simp [hx]))), rfl, hb.frame _, fun h => by cases h⟩

set_option maxRecDepth 1000000 in
theorem dparts_lifted (os : Os) (started : os.Started) (H : Type) (enc : TypeId × Value → H) (F : Stop.Interp) :
    ReturnsInHanded {} Tryz.checked os 8 .any ((Rows.OpenSpec.upto Rows.deltaPartsSpec).pre6 enc Tryz.prog Tryz.f8 Rows.deltaPartsUptoRow.domain false) (((Rows.OpenSpec.upto Rows.deltaPartsSpec).at F).post enc Tryz.prog Tryz.f8 false true false false) := by
  refine returnsInHanded_of_cond_sized (C := Tryz.checked) (s := Rows.OpenSpec.upto Rows.deltaPartsSpec) (k := Rows.uptoSmall) rfl own started (by kernel_rfl) Tryz.func8
    (OpenSpec.witness (enc := enc) (C := Tryz.checked) (s := Rows.OpenSpec.upto Rows.deltaPartsSpec) (k := Rows.uptoSmall) rfl false ⟨#[], #[.agg #[.slice none 0 0], .slice none 0 0, .agg #[.slice none 0 0, .slice none 0 0]], []⟩ 8 (by kernel_rfl) (by kernel_rfl) (by kernel_rfl) (by kernel_rfl)
      (x := ([.agg [.nil], .nil, .agg [.nil, .nil]], [], [])) (by kernel_rfl) rfl (by kernel_rfl)) ?_
  intro W base args ds gs before hval hW _ hk hsz _
  exact dparts_contract H enc W base args ds gs before hval hW hk hsz

theorem and2 {a b : Bool} (h1 : a = true) (h2 : b = true) : (a && b) = true := by rw [h1, h2]; rfl
set_option maxHeartbeats 4000000 in
theorem dparts_row : Rows.DeltaPartsUptoSaid :=
  OpenClaim.holds_of_cond 8 Tryz.f8 rfl rfl rfl rfl rfl rfl rfl ⟨rfl, rfl, rfl, rfl, rfl⟩ rfl rfl rfl rfl rfl (by kernel_rfl) Tryz.func8 (by unfold joinedFacts; (repeat' (with_reducible refine and2 ?_ ?_)); (all_goals (as_aux_lemma => kernel_rfl)))
    (of_decide_eq_true (by kernel_rfl)) (by unfold Func.isWrapper; first | (rw [if_pos (by decide +kernel)]; kernel_rfl) | (rw [if_neg (by decide +kernel)]; exact ⟨rfl, rfl⟩))
    (fun os started H enc _ F => dparts_lifted os started H enc F)
end Go.Proofs.YtfdkajefcplfjaaGreat
