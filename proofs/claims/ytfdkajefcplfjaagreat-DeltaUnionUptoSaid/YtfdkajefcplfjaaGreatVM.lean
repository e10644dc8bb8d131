/- Several of my texts laid together, each as it was: D44, D43. Conditions: each names its own. -/
import Derived.Test.YtfdkajefcplfjaaGreatK4
import Derived.Test.YtfdkajefcplfjaaGreatK3
import Derived.Deep.CondSized
import Derived.JoinedCond
import Derived.Test.YtfdkajefcplfjaaGreatVL
/- Named selects that came in, opened: where they lie, and that few rows are in each. Nothing of any program here but the types. Conditions: they hold at most 1048576 values and letters. -/
namespace Go.Proofs.YtfdkajefcplfjaaGreat
open Go.ChangeShapes Go.WideShapes Go.ChangeAt Go.RowKit Go.Joins Go.Deep

theorem bulk_three {H : Type} : ∀ l : List (DataW H), (∀ d ∈ l, 3 ≤ Rows.uptoBulk d) → l.length * 3 ≤ Rows.uptoBulkAll l
  | [], _ => by simp [Rows.uptoBulkAll]
  | x :: l, h => by
    have h1 := bulk_three l (fun d hd => h d (by simp [hd]))
    have h2 := h x (by simp)
    simp only [Rows.uptoBulkAll, List.length_cons]; omega
section
variable {H : Type} {enc : TypeId × Value → H} {w : World} {base : Nat} {sp : Nat → Bool} {held : Bool}
theorem elems_few {fuel : Nat} {cs : List Value} {x : DataW H × List MemPlace} (hb : Rows.uptoBulk x.1 ≤ 1048576) (h : DataW.trod enc Tryz.prog w base sp held fuel 57 cs = some x) : ∀ (a : Option Addr) (n c : Nat), cs = [.slice a n c] → n ≤ 400000 := fun a' n' c' e' => by
  rcases open_slice Tryz.underlying57 h with ⟨hcs, _⟩ | ⟨a, len, cap, mm, n3, D, Pl, hcs, _, hl, hmx, hmm, hdx, hi⟩
  · rw [hcs] at e'; simp at e'; omega
  · have hlm : len ≤ mm := by rw [hmm]; split <;> omega
    have hd : x.1 = .slice ((List.range len).map D) ((List.range (mm - len)).map fun j => D (len + j)) := congrArg Prod.fst hdx
    rw [hd] at hb
    simp only [Rows.uptoBulk] at hb
    have h3 := bulk_three ((List.range len).map D) (fun d hd => by
      obtain ⟨i, hi2, rfl⟩ := List.mem_map.1 hd
      have hil := List.mem_range.1 hi2
      obtain ⟨cs', _, ht'⟩ := hi i (by omega)
      obtain ⟨y0, y1, n, hx, _⟩ := trod_s2 Tryz.underlying80 ht'
      have hx : D i = .agg [y0.1, y1.1] := hx
      have b0 := bulk_one y0.1
      have b1 := bulk_one y1.1
      rw [hx]
      simp only [Rows.uptoBulk, Rows.uptoBulkAll]; omega)
    rw [List.length_map, List.length_range] at h3
    rw [hcs] at e'
    simp at e'
    omega
set_option maxRecDepth 1000000 in
theorem open_named2 {fuel : Nat} {cs : List Value} {x : DataW H × List MemPlace} (hb : Rows.uptoBulk x.1 ≤ 1048576) (h : DataW.trod enc Tryz.prog w base sp held fuel 65 cs = some x) (hw : ∀ n ∈ x.1.weights Tryz.prog 65, n ≤ reachBytes) :
    ∃ y : Nx, cs = y.cells ∧ (ElemsI w y.a y.c y.E ∧ y.s.size ≤ maxLen) ∧ y.E.length ≤ 400000 := by
  obtain ⟨y0, y1, n, hx, hlen, g0, g1⟩ := trod_s2 Tryz.underlying65 h
  obtain ⟨u0, u1, rfl⟩ := two_cells (hlen.trans cellsN12)
  simp only [cellsS, cellsLm12] at g0 g1
  have hbe := bulk_each hx hb
  have hw1 : ∀ n ∈ y1.1.weights Tryz.prog 57, n ≤ reachBytes := fun n hn => hw n (by
    rw [hx]
    simp only [DataW.weights, Tryz.underlying65]
    exact DataW.weights_mem_each (j := 1) (t := 57) rfl rfl _ hn)
  obtain ⟨s, e0, _, ws⟩ := DataW.trod_string Tryz.underlying9 g0
  obtain ⟨a, E, c, e1, hE⟩ := open_elems (hbe y1.1 (by simp)) g1 hw1
  have hfw := elems_few (hbe y1.1 (by simp)) g1 a E.length c e1
  simp at e0 e1
  subst e0 e1
  exact ⟨⟨s, a, c, E⟩, rfl, ⟨hE, ws⟩, hfw⟩
set_option maxRecDepth 1000000 in
/-- What is there that came in: few rows each. -/
theorem open_namesU {r : Reach} {b0 : Nat} {v : Value} {d : DataW H} {p : List MemPlace} (hv : Value.okWide Tryz.prog w r b0 25 v) (h : DataW.Trod enc Tryz.prog w base sp held 25 v d p) (hw : ∀ n ∈ d.weights Tryz.prog 25, n ≤ reachBytes) (hb : Rows.uptoBulk d ≤ 1048576) :
    ∃ (a : Option Addr) (l : List Nx) (c : Nat), v = .slice a l.length c ∧ NsOk w a l ∧ ∀ y ∈ l, y.E.length ≤ 400000 := by
  obtain ⟨a0, len, cap, rfl⟩ := okWide_slice Tryz.underlying25 hv
  obtain ⟨fuel, hf⟩ := h
  obtain ⟨a, l, c, hcs, _, hR, hA, hl⟩ := open_rows Nx.cells (fun y => (ElemsI w y.a y.c y.E ∧ y.s.size ≤ maxLen) ∧ y.E.length ≤ 400000) Tryz.underlying25 (by omega) cellsN12 (fun _ => rfl) (fun hb h hw => open_named2 hb h hw) (x := (d, p)) hb hf hw
  simp [Value.cells] at hcs
  obtain ⟨rfl, rfl, rfl⟩ := hcs
  exact ⟨a0, l, cap, rfl, ⟨hR, fun y hy => (hA y hy).1, by omega⟩, fun y hy => (hA y hy).2⟩
end
end Go.Proofs.YtfdkajefcplfjaaGreat

/- DeltaUnion: what came and went of selects together is what came and went of each, together: the row. Conditions: what comes in holds at most 1048576 values and letters. -/
namespace Go.Proofs.YtfdkajefcplfjaaGreat
open Go.ChangeShapes Go.WideShapes Go.ChangeAt Go.RowKit Go.Joins

set_option maxRecDepth 1000000 in
theorem dunion_contract (H : Type) (enc : TypeId × Value → H) (W : World) (base : Nat) (args : Array Value) (ds gs : List (DataW H)) (before : List MemPlace)
    (hval0 : ∀ (j : Nat) t v, Tryz.f9.params[j]? = some t → args[j]? = some v → Value.okWide Tryz.prog W .any base t v)
    (hW : DataW.Whole enc Tryz.prog Tryz.f9.params.toList Rows.deltaUnionSpec.vars false W args.toList ds gs before) (hk : Rows.uptoSmall H (ds ++ gs) = true)
    (hsz0 : (DataW.weightsEach Tryz.prog (Tryz.f9.params.toList ++ Rows.deltaUnionSpec.plain.varTypes Tryz.prog) (ds ++ gs)).all (· ≤ reachBytes) = true) :
    Calls Tryz.prog 9 args W fun e W' => ∃ v, e = .returned v ∧ Rows.deltaUnionSpec.post enc Tryz.prog Tryz.f9 false true false false W args v W' := by
  have hval : ∀ (j : Nat) t v, Tryz.f9.params[j]? = some t → args[j]? = some v → Value.okWide Tryz.prog W .any base t v := hval0
  have hbk : Rows.uptoBulkAll (ds ++ gs) ≤ 1048576 := of_decide_eq_true hk
  have hsz : (DataW.weightsEach Tryz.prog (Tryz.f9.params.toList ++ Rows.deltaUnionSpec.plain.varTypes Tryz.prog) (ds ++ gs)).all (· ≤ reachBytes) = true := hsz0
  clear hsz0
  have hW' := hW
  obtain ⟨p, q, hA0, hV, rfl, _, _⟩ := hW
  have hA : DataW.TrodAll enc Tryz.prog W 0 (fun _ => true) true Tryz.f9.params.toList args.toList ds p := hA0
  rw [Tryz.params9] at hA hval hsz
  obtain ⟨v0, v1, v2, d0, d1, d2, p0, p1, p2, rfl, rfl, rfl, h0, h1, h2⟩ := trodAll_three hA
  obtain ⟨rfl, rfl⟩ := trodVars_none hV
  simp only [List.append_nil, Rows.uptoBulkAll] at hbk
  have hlt : ∀ x ∈ p0 ++ (p1 ++ p2), x.block < W.heap.size := fun x hx => hW'.lt x (by simpa using hx)
  have h0k := h0
  have hw0 : ∀ n ∈ d0.weights Tryz.prog 24, n ≤ reachBytes := fun n hn => by
    have := List.all_eq_true.1 hsz n (DataW.weights_mem_each (j := 0) (t := 24) rfl rfl n hn)
    simpa using this
  obtain ⟨a0, ps0, c0, rfl, hP0⟩ := open_plan (hval 0 24 v0 rfl rfl) h0 hw0 (by omega)
  have h1k := h1
  have hw1 : ∀ n ∈ d1.weights Tryz.prog 25, n ≤ reachBytes := fun n hn => by
    have := List.all_eq_true.1 hsz n (DataW.weights_mem_each (j := 1) (t := 25) rfl rfl n hn)
    simpa using this
  obtain ⟨a1, l1, c1, rfl, hN1, hl1⟩ := open_namesU (hval 1 25 v1 rfl rfl) h1 hw1 (by omega)
  have h2k := h2
  have hw2 : ∀ n ∈ d2.weights Tryz.prog 25, n ≤ reachBytes := fun n hn => by
    have := List.all_eq_true.1 hsz n (DataW.weights_mem_each (j := 2) (t := 25) rfl rfl n hn)
    simpa using this
  obtain ⟨a2, l2, c2, rfl, hN2, hl2⟩ := open_namesU (hval 2 25 v2 rfl rfl) h2 hw2 (by omega)
  refine (lawDeltaUnion a0 c0 ps0 a1 c1 l1 a2 c2 l2 W hP0 ⟨hN1, hN2, hl1, hl2⟩).mono fun e W' ⟨he, hb⟩ => ?_
  subst he
  have shP : ∀ {v : Value} {d : DataW H} {ps : List MemPlace}, DataW.Trod enc Tryz.prog W 0 (fun _ => true) true 24 v d ps → (∀ x ∈ ps, x.block < W.heap.size) → DataW.Trod enc Tryz.prog W' 0 (fun b => decide (b < W.heap.size)) true 24 v d ps :=
    fun h hl => Below.trod laidOut (by kernel_rfl) (of_decide_eq_true (by kernel_rfl)) h hb hl
  have shB : ∀ {v : Value} {d : DataW H} {ps : List MemPlace}, DataW.Trod enc Tryz.prog W 0 (fun _ => true) true 25 v d ps → (∀ x ∈ ps, x.block < W.heap.size) → DataW.Trod enc Tryz.prog W' 0 (fun b => decide (b < W.heap.size)) true 25 v d ps :=
    fun h hl => Below.trod laidOut (by kernel_rfl) (of_decide_eq_true (by kernel_rfl)) h hb hl
  exact ⟨_, rfl, _, _, _, [], _, [], hW', trodAll_mk1 (shut_bool Tryz.underlying4 true), trodAll_mk3 (shP h0k (fun x hx => hlt x (by simp [hx]))) (shB h1k (fun x hx => hlt x (by simp [hx]))) (shB h2k (fun x hx => hlt x (by simp [hx]))), rfl, hb.frame _, fun h => by cases h⟩

set_option maxRecDepth 1000000 in
theorem dunion_lifted (os : Os) (started : os.Started) (H : Type) (enc : TypeId × Value → H) (F : Stop.Interp) :
    ReturnsInHanded {} Tryz.checked os 9 .any ((Rows.OpenSpec.upto Rows.deltaUnionSpec).pre6 enc Tryz.prog Tryz.f9 Rows.deltaUnionUptoRow.domain false) (((Rows.OpenSpec.upto Rows.deltaUnionSpec).at F).post enc Tryz.prog Tryz.f9 false true false false) := by
  refine returnsInHanded_of_cond_sized (C := Tryz.checked) (s := Rows.OpenSpec.upto Rows.deltaUnionSpec) (k := Rows.uptoSmall) rfl own started (by kernel_rfl) Tryz.func9
    (OpenSpec.witness (enc := enc) (C := Tryz.checked) (s := Rows.OpenSpec.upto Rows.deltaUnionSpec) (k := Rows.uptoSmall) rfl false ⟨#[], #[.agg #[.slice none 0 0], .slice none 0 0, .slice none 0 0], []⟩ 8 (by kernel_rfl) (by kernel_rfl) (by kernel_rfl) (by kernel_rfl)
      (x := ([.agg [.nil], .nil, .nil], [], [])) (by kernel_rfl) rfl (by kernel_rfl)) ?_
  intro W base args ds gs before hval hW _ hk hsz _
  exact dunion_contract H enc W base args ds gs before hval hW hk hsz

theorem and2 {a b : Bool} (h1 : a = true) (h2 : b = true) : (a && b) = true := by rw [h1, h2]; rfl
set_option maxHeartbeats 4000000 in
theorem dunion_row : Rows.DeltaUnionUptoSaid :=
  OpenClaim.holds_of_cond 9 Tryz.f9 rfl rfl rfl rfl rfl rfl rfl ⟨rfl, rfl, rfl, rfl, rfl⟩ rfl rfl rfl rfl rfl (by kernel_rfl) Tryz.func9 (by unfold joinedFacts; (repeat' (with_reducible refine and2 ?_ ?_)); (all_goals (as_aux_lemma => kernel_rfl)))
    (of_decide_eq_true (by kernel_rfl)) (by unfold Func.isWrapper; first | (rw [if_pos (by decide +kernel)]; kernel_rfl) | (rw [if_neg (by decide +kernel)]; exact ⟨rfl, rfl⟩))
    (fun os started H enc _ F => dunion_lifted os started H enc F)
end Go.Proofs.YtfdkajefcplfjaaGreat
