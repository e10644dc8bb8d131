/- Several of my texts laid together, each as it was: S18, S16, S19. Conditions: each names its own. -/
import Derived.Test.YtfdkajefcplfjaaB2
import Derived.Test.YtfdkajefcplfjaaC7
import Derived.Test.YtfdkajefcplfjaaE1
import Derived.Test.YtfdkajefcplfjaaB1
import Derived.Deep.CondSized
import Derived.JoinedCond
/- A plan that came in, opened, with how many names it reads in all. Nothing of any program here but the types. Conditions: it holds at most 1048576 values and letters. -/
namespace Go.Proofs.Ytfdkajefcplfjaa
open Go.ChangeShapes Go.WideShapes Go.ChangeAt Go.RowKit Go.Joins Go.Deep

theorem sum_le {α : Type} {mu : α → Nat} : ∀ (l : List α) (f : Nat → Nat), (∀ i (h : i < l.length), mu l[i] ≤ f i) → (l.map mu).sum ≤ ((List.range l.length).map f).sum
  | [], _, _ => by simp
  | x :: l, f, h => by
    have h0 := h 0 (by simp)
    have ih := sum_le l (fun i => f (i + 1)) (fun i hi => h (i + 1) (by simp; omega))
    rw [List.map_cons, List.sum_cons, List.length_cons, List.range_succ_eq_map, List.map_cons, List.sum_cons, List.map_map]
    have e : ((List.range l.length).map (f ∘ Nat.succ)).sum = ((List.range l.length).map (fun i => f (i + 1))).sum := rfl
    rw [e]
    have h0' : mu x ≤ f 0 := h0
    omega
theorem names_sum : ∀ ps : List Px, (namesF ps).length = (ps.map (fun p => p.fs.length)).sum
  | [] => rfl
  | p :: ps => by
    have e : namesF (p :: ps) = p.fs ++ namesF ps := rfl
    rw [e, List.length_append, names_sum ps, List.map_cons, List.sum_cons]
theorem bulk_sum12 {H : Type} : ∀ l : List (DataW H), (l.map Rows.uptoBulk).sum ≤ Rows.uptoBulkAll l
  | [] => by simp
  | x :: l => by
    have := bulk_sum12 l
    simp only [Rows.uptoBulkAll, List.map_cons, List.sum_cons]; omega
section
variable {H : Type} {enc : TypeId × Value → H} {w : World} {base : Nat} {sp : Nat → Bool} {held : Bool}
theorem open_rowsB {α : Type} {BB : Nat} {t e : TypeId} {m : Nat} (cl : α → List Value) (R : α → Prop) (mu : α → Nat) (ht : Try.prog.underlying t = some (.slice e)) (hm : 0 < m) (hc : Try.prog.cellsOf e = m) (hcl : ∀ y, (cl y).length = m)
    (each : ∀ {fuel : Nat} {cs : List Value} {x : DataW H × List MemPlace}, Rows.uptoBulk x.1 ≤ BB → DataW.trod enc Try.prog w base sp held fuel e cs = some x → (∀ n ∈ x.1.weights Try.prog e, n ≤ reachBytes) → ∃ y : α, cs = cl y ∧ R y ∧ mu y ≤ Rows.uptoBulk x.1)
    {fuel : Nat} {cs : List Value} {x : DataW H × List MemPlace} (hb : Rows.uptoBulk x.1 ≤ BB) (h : DataW.trod enc Try.prog w base sp held fuel t cs = some x) (hw : ∀ n ∈ x.1.weights Try.prog t, n ≤ reachBytes) :
    ∃ (a : Option Addr) (l : List α) (c : Nat), cs = [.slice a l.length c] ∧ l.length ≤ c ∧ RowC w m a (l.map cl) ∧ (∀ y ∈ l, R y) ∧ l.length ≤ BB ∧ (l.map mu).sum ≤ BB := by
  rcases open_slice ht h with ⟨hcs, _⟩ | ⟨a, len, cap, mm, n3, D, Pl, hcs, _, hl, hmx, hmm, hdx, hi⟩
  · exact ⟨none, [], 0, hcs, Nat.le_refl _, ⟨fun i hi => absurd hi (by simp)⟩, fun x hx => absurd hx (by simp), by simp, by simp⟩
  · have hlm : len ≤ mm := by rw [hmm]; split <;> omega
    have hd : x.1 = .slice ((List.range len).map D) ((List.range (mm - len)).map fun j => D (len + j)) := congrArg Prod.fst hdx
    rw [hd] at hw hb
    simp only [DataW.weights, ht] at hw
    simp only [Rows.uptoBulk] at hb
    have eachx : ∀ i, i < len → ∃ y : α, (∀ j v, (cl y)[j]? = some v → w.cell? ((a.add (i * m)).add j) = some v) ∧ R y ∧ mu y ≤ Rows.uptoBulk (D i) := by
      intro i hil
      obtain ⟨cs', hc', ht'⟩ := hi i (by omega)
      rw [hc] at hc'
      have hmem : D i ∈ (List.range len).map D := List.mem_map.2 ⟨i, List.mem_range.2 hil, rfl⟩
      have hbi := bulk_mem hmem
      obtain ⟨y, rfl, hy⟩ := each (x := (D i, Pl i)) (by show Rows.uptoBulk (D i) ≤ _; omega) ht' (fun n hn => hw n (List.mem_cons_of_mem _ (List.mem_append.2 (.inl (weights_mem_all11 hmem n hn)))))
      obtain ⟨_, hcl', hat⟩ := World.cells?_some hc'
      refine ⟨y, fun j v hv => ?_, hy⟩
      have hj : j < (cl y).length := (List.getElem?_eq_some_iff.1 hv).1
      rw [hat j (by rw [← hcl']; exact hj)]
      exact hv
    obtain ⟨l, hll, hp⟩ := list_of_each len eachx
    subst hll
    have hbl := bulk_len12 ((List.range l.length).map D)
    rw [List.length_map, List.length_range] at hbl
    refine ⟨some a, l, cap, hcs, hl, rowc_of hm (fun x hx => ?_) (fun i hi j v hv => ?_), fun y hy => ?_, by omega, ?_⟩
    · obtain ⟨c, _, rfl⟩ := List.mem_map.1 hx; exact hcl c
    · have hi' : i < l.length := by simpa using hi
      exact (hp i hi').1 j v (by simpa using hv)
    · obtain ⟨i, hi', rfl⟩ := List.mem_iff_getElem.1 hy
      exact (hp i hi').2.1
    · have hs := sum_le l (fun i => Rows.uptoBulk (D i)) (fun i hi' => (hp i hi').2.2)
      have hb3 := bulk_sum12 ((List.range l.length).map D)
      rw [List.map_map] at hb3
      have hb4 : ((List.range l.length).map (Rows.uptoBulk ∘ D)).sum ≤ BB := by omega
      exact Nat.le_trans hs hb4
theorem open_strsB {BB : Nat} {fuel : Nat} {cs : List Value} {x : DataW H × List MemPlace} (hb : Rows.uptoBulk x.1 ≤ BB) (h : DataW.trod enc Try.prog w base sp held fuel 25 cs = some x) (hw : ∀ n ∈ x.1.weights Try.prog 25, n ≤ reachBytes) :
    ∃ (a : Option Addr) (l : List ByteArray) (c : Nat), cs = [.slice a l.length c] ∧ l.length ≤ c ∧ StrsA w a l ∧ l.length ≤ BB := by
  obtain ⟨a, l, c, hcs, hc, hR, hA, hl, _⟩ := open_rowsB (fun s : ByteArray => [Value.string s]) (fun s => s.size ≤ maxLen) (fun _ => 0) Try.underlying25 (by omega) cellsS (fun _ => rfl) (fun _ h _ => by
    obtain ⟨s, e, _, ws⟩ := DataW.trod_string Try.underlying9 h
    exact ⟨s, e, ws, Nat.zero_le _⟩) hb h hw
  refine ⟨a, l, c, hcs, hc, ⟨fun hn => ?_, hA⟩, hl⟩
  obtain ⟨b, o, e, hx⟩ := rowc_all hR (by simpa using hn)
  exact ⟨b, o, e, fun i hi => by
    have := hx i (by simpa using hi) 0 (.string l[i]) (by simp)
    simpa using this⟩
set_option maxRecDepth 1000000 in
theorem part_names {fuel : Nat} {cs : List Value} {x : DataW H × List MemPlace} {p : Px} (e : cs = p.cells) (h : DataW.trod enc Try.prog w base sp held fuel 40 cs = some x) (hw : ∀ n ∈ x.1.weights Try.prog 40, n ≤ reachBytes) : p.fs.length ≤ Rows.uptoBulk x.1 := by
  obtain ⟨y0, y1, y2, y3, y4, y5, n, hx, hlen, g0, g1, g2, g3, g4, g5⟩ := trod_s6 Try.underlying40 h
  subst e
  simp only [cellsLs12] at g1
  have hw1 : ∀ n ∈ y1.1.weights Try.prog 25, n ≤ reachBytes := fun n hn => hw n (by
    rw [hx]
    simp only [DataW.weights, Try.underlying40]
    exact DataW.weights_mem_each (j := 1) (t := 25) rfl rfl _ hn)
  obtain ⟨a, l, c, e1, _, _, hl⟩ := open_strsB (BB := Rows.uptoBulk y1.1) (Nat.le_refl _) g1 hw1
  have e2 : (p.cells.drop 1).take 1 = [.slice p.fp p.fs.length p.fc] := rfl
  have e3 : [Value.slice p.fp p.fs.length p.fc] = [.slice a l.length c] := e2.symm.trans e1
  have e4 : p.fs.length = l.length := by simpa using (Value.slice.inj (List.cons.inj e3).1).2.1
  have hm : y1.1 ∈ [y0.1, y1.1, y2.1, y3.1, y4.1, y5.1] := by simp
  have hb := bulk_mem hm
  rw [hx]
  simp only [Rows.uptoBulk]
  omega
set_option maxRecDepth 1000000 in
/-- A plan that came in. -/
theorem open_planB {r : Reach} {b0 : Nat} {v : Value} {d : DataW H} {p : List MemPlace} (hv : Value.okWide Try.prog w r b0 24 v) (h : DataW.Trod enc Try.prog w base sp held 24 v d p) (hw : ∀ n ∈ d.weights Try.prog 24, n ≤ reachBytes) (hb : Rows.uptoBulk d ≤ 1048576) :
    ∃ (a : Option Addr) (ps : List Px) (c : Nat), v = .agg #[.slice a ps.length c] ∧ PsOk w 1048576 a c ps ∧ (namesF ps).length ≤ 1048576 := by
  obtain ⟨cs, rfl, hsz⟩ := okWide_struct Try.underlying24 hv
  obtain ⟨fuel, hf⟩ := h
  obtain ⟨y0, n, hx, hlen, g0⟩ := trod_s1 (x := (d, p)) Try.underlying24 hf
  have hx : d = .agg [y0.1] := hx
  have hbe := bulk_each hx hb
  have hw0 : ∀ n ∈ y0.1.weights Try.prog 22, n ≤ reachBytes := fun n hn => hw n (by
    rw [hx]
    simp only [DataW.weights, Try.underlying24]
    exact DataW.weights_mem_each (j := 0) (t := 22) rfl rfl _ hn)
  simp only [cellsLp12] at g0
  have hl1 : cs.toList.length = 1 := by simpa [Value.cells] using hlen.trans cellsPl12
  obtain ⟨a, l, c, hcs, hc, hR, hA, hl, hsum⟩ := open_rowsB Px.cells (fun p => PxOk w 1048576 p) (fun p => p.fs.length) Try.underlying22 (by omega) cellsP12 (fun p => p.cells_len) (fun hb h hw => by
    obtain ⟨p, e, hp⟩ := open_part hb h hw
    exact ⟨p, e, hp, part_names e h hw⟩) (hbe y0.1 (by simp)) g0 hw0
  have hcs2 : cs.toList = [.slice a l.length c] := by
    have h2 : (cs.toList.drop 0).take 1 = [.slice a l.length c] := by simpa [Value.cells] using hcs
    rwa [List.drop_zero, List.take_of_length_le (by omega)] at h2
  refine ⟨a, l, c, ?_, ⟨hR, hA, by omega, hc⟩, by rw [names_sum]; exact hsum⟩
  rw [← Array.toArray_toList (xs := cs), hcs2]
end
end Go.Proofs.Ytfdkajefcplfjaa

/- ShapeRefs: the law's call, in whatever memory: it is true. Conditions: the plan's cells are known, it reads not too many names. -/
namespace Go.Proofs.Ytfdkajefcplfjaa
open Go.RowKit

set_option maxHeartbeats 8000000 in
set_option maxRecDepth 1000000 in
theorem lawShapeRefs {n : Nat} (a : Option Addr) (c : Nat) (ps : List Px) (w : World) (hP : PsOk w n a c ps) (hN : (namesF ps).length ≤ 4000000) :
    Calls Try.prog 3 #[planV a ps.length c] w fun e w' => e = .returned (.bool true) ∧ Below w.heap.size w w' := by
  have CA := hid0 (fun W => awake15_any W)
  have C1 := hid0 (fun (W : World) (hW : Below w.heap.size w W) => (shRefs_any a c ps W (hP.later hW) hN).mono (R' := fun e w' => (∃ a c, e = .returned (.slice a (riseB (namesF ps)).length c) ∧ StrsA w' a (riseB (namesF ps))) ∧ Below W.heap.size W w') (fun _ _ h => h))
  have C2 := hid0 (fun (W : World) (hW : Below w.heap.size w W) => (refRefs_any a c ps W (hP.later hW) hN).mono (R' := fun e w' => (∃ a c, e = .returned (.slice a (riseB (namesF ps)).length c) ∧ StrsA w' a (riseB (namesF ps))) ∧ Below W.heap.size W w') (by
    rintro e w' ⟨⟨v, rfl, hv⟩, hb⟩
    obtain ⟨a', c', rfl, _, hA⟩ := hv.out
    exact ⟨⟨a', c', rfl, hA⟩, hb⟩))
  have HS0 := hid0 (show SRf w [.slice a ps.length c] (w.alloc (.cells #[.slice a ps.length c] 24)) from ⟨VarB.new w [.slice a ps.length c] 24, (Below.refl _ _).alloc (Nat.le_refl _) _⟩)
  have hlen := riseB_len (namesF ps)
  have hlt0 := hid0 (riseB_lt (namesF ps))
  clear hP
  unfold planV at C1 C2 ⊢
  generalize riseB (namesF ps) = L at *
  obtain ⟨N, hNN⟩ : ∃ N, L.length = N := ⟨_, rfl⟩
  rw [hNN] at C1 C2 hlen
  have HN := hid0 hNN
  clear hNN
  go_enter Try.func3, Try.ntmps3
  go_wp2_with fail
  have hS : SRf w [.slice a ps.length c] _ := HS0.out.below (Below.drew (Below.refl _ _))
  clear HS0
  refine wp_region_held_drew (S := SRf w [.slice a ps.length c]) (by kernel_rfl) hS (fun hHeld => ?_)
  refine wpAnyH_take (i := 0) (v := .agg [.slice a ps.length c].toArray) rfl (by kernel_rfl) (by kernel_rfl) (by kernel_rfl) (fun _ _ _ h => h) (yieldsIf_load_mid rfl 24 _ rfl w.heap.size (0) rfl [.slice a ps.length c] _ (fun w h => h.v.at_) Try.underlying24 rfl (sizePlan)) (by assumption) ?_
  (try simp only [Act.put, List.setIfInBounds_toArray, List.set_cons_zero, List.set_cons_succ, List.getElem_toArray, List.getElem_cons_zero])
  refine wpAnyH_take (i := 2) (v := .agg [.slice a ps.length c].toArray) rfl (by kernel_rfl) (by kernel_rfl) (by kernel_rfl) (fun _ _ _ h => h) (yieldsIf_load_mid rfl 24 _ rfl w.heap.size (0) rfl [.slice a ps.length c] _ (fun w h => h.v.at_) Try.underlying24 rfl (sizePlan)) (by assumption) ?_
  (try simp only [Act.put, List.setIfInBounds_toArray, List.set_cons_zero, List.set_cons_succ, List.getElem_toArray, List.getElem_cons_zero, List.getElem_cons_succ])
  refine wpAnyH_ready (rs := [1]) (by kernel_rfl) (by simp) ?_
  refine AllReadyH.cons rfl (fun K hK => ?_) AllReadyH.nil
  go_simp
  refine (C1.out _ hS.b).mono ?_
  rintro e v1 ⟨⟨a1, c1, rfl, hA1⟩, hbx⟩
  have hS := hS.below hbx
  clear hbx
  refine hK.out _ _ hS (fun hHeld => ?_)
  clear hK K
  (try simp only [Act.put, List.setIfInBounds_toArray, List.set_cons_zero, List.set_cons_succ, List.getElem_toArray, List.getElem_cons_zero, List.getElem_cons_succ])
  refine wpAnyH_ready (rs := [3]) (by kernel_rfl) (by simp) ?_
  refine AllReadyH.cons rfl (fun K hK => ?_) AllReadyH.nil
  go_simp
  refine (C2.out _ hS.b).mono ?_
  rintro e v2 ⟨⟨a2, c2, rfl, hA2⟩, hbx⟩
  have hA1 := hA1.later hbx
  have hS := hS.below hbx
  clear hbx
  refine hK.out _ _ hS (fun hHeld => ?_)
  clear hK K
  (try simp only [Act.put, List.setIfInBounds_toArray, List.set_cons_zero, List.set_cons_succ, List.getElem_toArray, List.getElem_cons_zero, List.getElem_cons_succ])
  refine wpAnyH_take (i := 4) (v := ?_) rfl (by kernel_rfl) (by kernel_rfl) (by kernel_rfl) (fun _ _ _ h => h) (Or.inl ⟨by rfl, ?_⟩) (by assumption) ?_
  rotate_left
  · (intro wx hSw; go_simp; (try with_reducible rfl); (try omega))
  (try simp only [Act.put, List.setIfInBounds_toArray, List.set_cons_zero, List.set_cons_succ, List.getElem_toArray, List.getElem_cons_zero, List.getElem_cons_succ])
  refine wpAnyH_take (i := 5) (v := ?_) rfl (by kernel_rfl) (by kernel_rfl) (by kernel_rfl) (fun _ _ _ h => h) (Or.inl ⟨by rfl, ?_⟩) (by assumption) ?_
  rotate_left
  · (intro wx hSw; go_simp; (try with_reducible rfl); (try omega))
  (try simp only [Act.put, List.setIfInBounds_toArray, List.set_cons_zero, List.set_cons_succ, List.getElem_toArray, List.getElem_cons_zero, List.getElem_cons_succ])
  refine wpAnyH_done (by kernel_rfl) ?_ _
  have hbS := hid0 hS
  have HA1 := hid0 hA1
  have HA2 := hid0 hA2
  clear hS hHeld hA1 hA2
  go_wp2_with (first | (go_at_call 8; go_must (refine (CA.out _).mono ?_; rintro e w3 ⟨rfl, hb3⟩)) | fail)
  have HA1 := hid0 (HA1.out.later hb3)
  have HA2 := hid0 (HA2.out.later hb3)
  have hB3 := hid0 (hbS.out.below hb3).b
  clear hbS hb3
  go_loopw [5] (fun iv wr => ∃ i : Nat, i ≤ N ∧ iv = .int .i64 i ∧ Below w3.heap.size w3 wr) (fun iv _ => N - (intOf iv).toNat)
  case atStart => exact ⟨0, Nat.zero_le _, rfl, Below.refl _ _⟩
  case round =>
    obtain ⟨i, hi, rfl, hB⟩ := hrel
    by_cases hlt : i < N
    · have hlt' : (i : Int) < (N : Int) := by omega
      have hi1 : i < L.length := by rw [HN.out]; exact hlt
      obtain ⟨b1, o1, rfl, hc1⟩ := (HA1.out.later hB).out (fun e => by rw [e] at hi1; exact absurd hi1 (by simp))
      obtain ⟨b2, o2, rfl, hc2⟩ := (HA2.out.later hB).out (fun e => by rw [e] at hi1; exact absurd hi1 (by simp))
      have x1 : wr.drew.cell? ⟨b1, o1 + i, none⟩ = some (.string L[i]) := cell_later (Below.drew (Below.refl _ _)) (hc1 i hi1)
      have x2 : wr.drew.cell? ⟨b2, o2 + i, none⟩ = some (.string L[i]) := cell_later (Below.drew (Below.refl _ _)) (hc2 i hi1)
      have HX := hid0 hB
      have hB : Below wr.drew.heap.size wr.drew wr.drew := Below.refl _ _
      by_cases h0 : i = 0
      · have hi0 : ¬ (0 : Int) < (i : Int) := by omega
        generalize L[i] = x at x1 x2
        clear hc1 hc2 hi1 h0
        go_wp2_with fail
        refine wp_region_held_drew (S := (fun W => Below wr.drew.heap.size wr.drew W)) (by kernel_rfl) hB (fun hHeld => ?_)
        refine wpAnyH_take (i := 0) (v := ?_) rfl (by kernel_rfl) (by kernel_rfl) (by kernel_rfl) (fun _ _ _ h => h) (Or.inl ⟨by rfl, ?_⟩) (by assumption) ?_
        rotate_left
        · (intro wx hSw; have q1 := cell_later hSw x1; have q2 := cell_later hSw x2; go_simp; (try with_reducible rfl); (try omega))
        (try simp only [Act.put, List.setIfInBounds_toArray, List.set_cons_zero, List.set_cons_succ, List.getElem_toArray, List.getElem_cons_zero])
        refine wpAnyH_take (i := 1) (v := ?_) rfl (by kernel_rfl) (by kernel_rfl) (by kernel_rfl) (fun _ _ _ h => h) (Or.inl ⟨by rfl, ?_⟩) (by assumption) ?_
        rotate_left
        · (intro wx hSw; have q1 := cell_later hSw x1; have q2 := cell_later hSw x2; go_simp; (try with_reducible rfl); (try omega))
        (try simp only [Act.put, List.setIfInBounds_toArray, List.set_cons_zero, List.set_cons_succ, List.getElem_toArray, List.getElem_cons_zero, List.getElem_cons_succ])
        refine wpAnyH_take (i := 2) (v := ?_) rfl (by kernel_rfl) (by kernel_rfl) (by kernel_rfl) (fun _ _ _ h => h) (Or.inl ⟨by rfl, ?_⟩) (by assumption) ?_
        rotate_left
        · (intro wx hSw; have q1 := cell_later hSw x1; have q2 := cell_later hSw x2; go_simp; (try with_reducible rfl); (try omega))
        (try simp only [Act.put, List.setIfInBounds_toArray, List.set_cons_zero, List.set_cons_succ, List.getElem_toArray, List.getElem_cons_zero, List.getElem_cons_succ])
        refine wpAnyH_take (i := 3) (v := ?_) rfl (by kernel_rfl) (by kernel_rfl) (by kernel_rfl) (fun _ _ _ h => h) (Or.inl ⟨by rfl, ?_⟩) (by assumption) ?_
        rotate_left
        · (intro wx hSw; have q1 := cell_later hSw x1; have q2 := cell_later hSw x2; go_simp; (try with_reducible rfl); (try omega))
        (try simp only [Act.put, List.setIfInBounds_toArray, List.set_cons_zero, List.set_cons_succ, List.getElem_toArray, List.getElem_cons_zero, List.getElem_cons_succ])
        refine wpAnyH_take (i := 4) (v := ?_) rfl (by kernel_rfl) (by kernel_rfl) (by kernel_rfl) (fun _ _ _ h => h) (Or.inl ⟨by rfl, ?_⟩) (by assumption) ?_
        rotate_left
        · (intro wx hSw; have q1 := cell_later hSw x1; have q2 := cell_later hSw x2; go_simp; (try with_reducible rfl); (try omega))
        (try simp only [Act.put, List.setIfInBounds_toArray, List.set_cons_zero, List.set_cons_succ, List.getElem_toArray, List.getElem_cons_zero, List.getElem_cons_succ])
        refine wpAnyH_take (i := 5) (v := ?_) rfl (by kernel_rfl) (by kernel_rfl) (by kernel_rfl) (fun _ _ _ h => h) (Or.inl ⟨by rfl, ?_⟩) (by assumption) ?_
        rotate_left
        · (intro wx hSw; have q1 := cell_later hSw x1; have q2 := cell_later hSw x2; go_simp; (try with_reducible rfl); (try omega))
        (try simp only [Act.put, List.setIfInBounds_toArray, List.set_cons_zero, List.set_cons_succ, List.getElem_toArray, List.getElem_cons_zero, List.getElem_cons_succ])
        refine wpAnyH_take (i := 6) (v := ?_) rfl (by kernel_rfl) (by kernel_rfl) (by kernel_rfl) (fun _ _ _ h => h) (Or.inl ⟨by rfl, ?_⟩) (by assumption) ?_
        rotate_left
        · (intro wx hSw; have q1 := cell_later hSw x1; have q2 := cell_later hSw x2; go_simp; (try with_reducible rfl); (try omega))
        (try simp only [Act.put, List.setIfInBounds_toArray, List.set_cons_zero, List.set_cons_succ, List.getElem_toArray, List.getElem_cons_zero, List.getElem_cons_succ])
        refine wpAnyH_take (i := 7) (v := ?_) rfl (by kernel_rfl) (by kernel_rfl) (by kernel_rfl) (fun _ _ _ h => h) (Or.inl ⟨by rfl, ?_⟩) (by assumption) ?_
        rotate_left
        · (intro wx hSw; have q1 := cell_later hSw x1; have q2 := cell_later hSw x2; go_simp; (try with_reducible rfl); (try omega))
        (try simp only [Act.put, List.setIfInBounds_toArray, List.set_cons_zero, List.set_cons_succ, List.getElem_toArray, List.getElem_cons_zero, List.getElem_cons_succ])
        refine wpAnyH_take (i := 8) (v := .bool false) rfl (by kernel_rfl) (by kernel_rfl) (by kernel_rfl) (fun _ _ _ h => h) (Or.inl ⟨by rfl, ?_⟩) (by assumption) ?_
        · (intro wx hSw; have q1 := cell_later hSw x1; have q2 := cell_later hSw x2; go_simp; (try with_reducible rfl); (try simp))
        (try simp only [Act.put, List.setIfInBounds_toArray, List.set_cons_zero, List.set_cons_succ, List.getElem_toArray, List.getElem_cons_zero, List.getElem_cons_succ])
        refine wpAnyH_take (i := 9) (v := ?_) rfl (by kernel_rfl) (by kernel_rfl) (by kernel_rfl) (fun _ _ _ h => h) (Or.inl ⟨by rfl, ?_⟩) (by assumption) ?_
        rotate_left
        · (intro wx hSw; have q1 := cell_later hSw x1; have q2 := cell_later hSw x2; go_simp; (try with_reducible rfl); (try omega))
        (try simp only [Act.put, List.setIfInBounds_toArray, List.set_cons_zero, List.set_cons_succ, List.getElem_toArray, List.getElem_cons_zero, List.getElem_cons_succ])
        refine wpAnyH_take (i := 10) (v := ?_) rfl (by kernel_rfl) (by kernel_rfl) (by kernel_rfl) (fun _ _ _ h => h) (Or.inl ⟨by rfl, ?_⟩) (by assumption) ?_
        rotate_left
        · (intro wx hSw; have q1 := cell_later hSw x1; have q2 := cell_later hSw x2; go_simp; (try with_reducible rfl); (try omega))
        (try simp only [Act.put, List.setIfInBounds_toArray, List.set_cons_zero, List.set_cons_succ, List.getElem_toArray, List.getElem_cons_zero, List.getElem_cons_succ])
        refine wpAnyH_take (i := 11) (v := .bool false) rfl (by kernel_rfl) (by kernel_rfl) (by kernel_rfl) (fun _ _ _ h => h) (Or.inl ⟨by rfl, ?_⟩) (by assumption) ?_
        · (intro wx hSw; have q1 := cell_later hSw x1; have q2 := cell_later hSw x2; go_simp; (try with_reducible rfl); (try first | omega | (simp; omega)))
        (try simp only [Act.put, List.setIfInBounds_toArray, List.set_cons_zero, List.set_cons_succ, List.getElem_toArray, List.getElem_cons_zero, List.getElem_cons_succ])
        refine wpAnyH_take (i := 12) (v := ?_) rfl (by kernel_rfl) (by kernel_rfl) (by kernel_rfl) (fun _ _ _ h => h) (Or.inl ⟨by rfl, ?_⟩) (by assumption) ?_
        rotate_left
        · (intro wx hSw; have q1 := cell_later hSw x1; have q2 := cell_later hSw x2; go_simp; (try with_reducible rfl); (try omega))
        (try simp only [Act.put, List.setIfInBounds_toArray, List.set_cons_zero, List.set_cons_succ, List.getElem_toArray, List.getElem_cons_zero, List.getElem_cons_succ])
        refine wpAnyH_take (i := 13) (v := undef) rfl (by kernel_rfl) (by kernel_rfl) (by kernel_rfl) (fun _ _ _ h => h) (Or.inr ⟨by rfl, rfl⟩) (by assumption) ?_
        (try simp only [Act.put, List.setIfInBounds_toArray, List.set_cons_zero, List.set_cons_succ, List.getElem_toArray, List.getElem_cons_zero, List.getElem_cons_succ])
        refine wpAnyH_take (i := 14) (v := undef) rfl (by kernel_rfl) (by kernel_rfl) (by kernel_rfl) (fun _ _ _ h => h) (Or.inr ⟨by rfl, rfl⟩) (by assumption) ?_
        (try simp only [Act.put, List.setIfInBounds_toArray, List.set_cons_zero, List.set_cons_succ, List.getElem_toArray, List.getElem_cons_zero, List.getElem_cons_succ])
        refine wpAnyH_take (i := 15) (v := undef) rfl (by kernel_rfl) (by kernel_rfl) (by kernel_rfl) (fun _ _ _ h => h) (Or.inr ⟨by rfl, rfl⟩) (by assumption) ?_
        (try simp only [Act.put, List.setIfInBounds_toArray, List.set_cons_zero, List.set_cons_succ, List.getElem_toArray, List.getElem_cons_zero, List.getElem_cons_succ])
        refine wpAnyH_take (i := 16) (v := undef) rfl (by kernel_rfl) (by kernel_rfl) (by kernel_rfl) (fun _ _ _ h => h) (Or.inr ⟨by rfl, rfl⟩) (by assumption) ?_
        (try simp only [Act.put, List.setIfInBounds_toArray, List.set_cons_zero, List.set_cons_succ, List.getElem_toArray, List.getElem_cons_zero, List.getElem_cons_succ])
        refine wpAnyH_take (i := 17) (v := undef) rfl (by kernel_rfl) (by kernel_rfl) (by kernel_rfl) (fun _ _ _ h => h) (Or.inr ⟨by rfl, rfl⟩) (by assumption) ?_
        (try simp only [Act.put, List.setIfInBounds_toArray, List.set_cons_zero, List.set_cons_succ, List.getElem_toArray, List.getElem_cons_zero, List.getElem_cons_succ])
        refine wpAnyH_take (i := 18) (v := undef) rfl (by kernel_rfl) (by kernel_rfl) (by kernel_rfl) (fun _ _ _ h => h) (Or.inr ⟨by rfl, rfl⟩) (by assumption) ?_
        (try simp only [Act.put, List.setIfInBounds_toArray, List.set_cons_zero, List.set_cons_succ, List.getElem_toArray, List.getElem_cons_zero, List.getElem_cons_succ])
        refine wpAnyH_take (i := 19) (v := undef) rfl (by kernel_rfl) (by kernel_rfl) (by kernel_rfl) (fun _ _ _ h => h) (Or.inr ⟨by rfl, rfl⟩) (by assumption) ?_
        (try simp only [Act.put, List.setIfInBounds_toArray, List.set_cons_zero, List.set_cons_succ, List.getElem_toArray, List.getElem_cons_zero, List.getElem_cons_succ])
        refine wpAnyH_take (i := 20) (v := undef) rfl (by kernel_rfl) (by kernel_rfl) (by kernel_rfl) (fun _ _ _ h => h) (Or.inr ⟨by rfl, rfl⟩) (by assumption) ?_
        (try simp only [Act.put, List.setIfInBounds_toArray, List.set_cons_zero, List.set_cons_succ, List.getElem_toArray, List.getElem_cons_zero, List.getElem_cons_succ])
        refine wpAnyH_take (i := 21) (v := undef) rfl (by kernel_rfl) (by kernel_rfl) (by kernel_rfl) (fun _ _ _ h => h) (Or.inr ⟨by rfl, rfl⟩) (by assumption) ?_
        (try simp only [Act.put, List.setIfInBounds_toArray, List.set_cons_zero, List.set_cons_succ, List.getElem_toArray, List.getElem_cons_zero, List.getElem_cons_succ])
        refine wpAnyH_take (i := 22) (v := undef) rfl (by kernel_rfl) (by kernel_rfl) (by kernel_rfl) (fun _ _ _ h => h) (Or.inr ⟨by rfl, rfl⟩) (by assumption) ?_
        (try simp only [Act.put, List.setIfInBounds_toArray, List.set_cons_zero, List.set_cons_succ, List.getElem_toArray, List.getElem_cons_zero, List.getElem_cons_succ])
        refine wpAnyH_take (i := 23) (v := ?_) rfl (by kernel_rfl) (by kernel_rfl) (by kernel_rfl) (fun _ _ _ h => h) (Or.inl ⟨by rfl, ?_⟩) (by assumption) ?_
        rotate_left
        · (intro wx hSw; have q1 := cell_later hSw x1; have q2 := cell_later hSw x2; go_simp; (try with_reducible rfl); (try omega))
        (try simp only [Act.put, List.setIfInBounds_toArray, List.set_cons_zero, List.set_cons_succ, List.getElem_toArray, List.getElem_cons_zero, List.getElem_cons_succ])
        refine wpAnyH_take (i := 24) (v := ?_) rfl (by kernel_rfl) (by kernel_rfl) (by kernel_rfl) (fun _ _ _ h => h) (Or.inl ⟨by rfl, ?_⟩) (by assumption) ?_
        rotate_left
        · (intro wx hSw; have q1 := cell_later hSw x1; have q2 := cell_later hSw x2; go_simp; (try with_reducible rfl); (try omega))
        (try simp only [Act.put, List.setIfInBounds_toArray, List.set_cons_zero, List.set_cons_succ, List.getElem_toArray, List.getElem_cons_zero, List.getElem_cons_succ])
        refine wpAnyH_done (by kernel_rfl) ?_ _
        go_wp2_with fail
        exact ⟨⟨i + 1, by omega, by go_num, Below.drew HX.out⟩, by simp [intOf]; omega⟩
      · obtain ⟨k, hk⟩ : ∃ k, i = k + 1 := ⟨i - 1, by omega⟩
        have hk1 : k < L.length := by omega
        have x0 : wr.drew.cell? ⟨b1, o1 + k, none⟩ = some (.string L[k]) := cell_later (Below.drew (Below.refl _ _)) (hc1 k hk1)
        have hbl : Op.bytesLess L[k].toList L[i].toList = true := by
          rw [less_bl]
          have := List.pairwise_iff_getElem.1 hlt0.out k i hk1 hi1 (by omega)
          simpa using this
        have hwk : IntKind.i64.wrap ((i : Int) - 1) = (k : Int) := by rw [IntWalk.i64_in _ (by omega)]; omega
        have hkN : (k : Int) < (N : Int) := by omega
        have hi0 : (0 : Int) < (i : Int) := by omega
        clear hk h0
        generalize L[i] = x at x1 x2 hbl
        generalize L[k] = y at x0 hbl
        clear hc1 hc2 hi1
        go_wp2_with fail
        refine wp_region_held_drew (S := (fun W => Below wr.drew.heap.size wr.drew W)) (by kernel_rfl) hB (fun hHeld => ?_)
        refine wpAnyH_take (i := 0) (v := ?_) rfl (by kernel_rfl) (by kernel_rfl) (by kernel_rfl) (fun _ _ _ h => h) (Or.inl ⟨by rfl, ?_⟩) (by assumption) ?_
        rotate_left
        · (intro wx hSw; have q1 := cell_later hSw x1; have q2 := cell_later hSw x2; have q0 := cell_later hSw x0; go_simp; (try with_reducible rfl); (try omega))
        (try simp only [Act.put, List.setIfInBounds_toArray, List.set_cons_zero, List.set_cons_succ, List.getElem_toArray, List.getElem_cons_zero])
        refine wpAnyH_take (i := 1) (v := ?_) rfl (by kernel_rfl) (by kernel_rfl) (by kernel_rfl) (fun _ _ _ h => h) (Or.inl ⟨by rfl, ?_⟩) (by assumption) ?_
        rotate_left
        · (intro wx hSw; have q1 := cell_later hSw x1; have q2 := cell_later hSw x2; have q0 := cell_later hSw x0; go_simp; (try with_reducible rfl); (try omega))
        (try simp only [Act.put, List.setIfInBounds_toArray, List.set_cons_zero, List.set_cons_succ, List.getElem_toArray, List.getElem_cons_zero, List.getElem_cons_succ])
        refine wpAnyH_take (i := 2) (v := ?_) rfl (by kernel_rfl) (by kernel_rfl) (by kernel_rfl) (fun _ _ _ h => h) (Or.inl ⟨by rfl, ?_⟩) (by assumption) ?_
        rotate_left
        · (intro wx hSw; have q1 := cell_later hSw x1; have q2 := cell_later hSw x2; have q0 := cell_later hSw x0; go_simp; (try with_reducible rfl); (try omega))
        (try simp only [Act.put, List.setIfInBounds_toArray, List.set_cons_zero, List.set_cons_succ, List.getElem_toArray, List.getElem_cons_zero, List.getElem_cons_succ])
        refine wpAnyH_take (i := 3) (v := ?_) rfl (by kernel_rfl) (by kernel_rfl) (by kernel_rfl) (fun _ _ _ h => h) (Or.inl ⟨by rfl, ?_⟩) (by assumption) ?_
        rotate_left
        · (intro wx hSw; have q1 := cell_later hSw x1; have q2 := cell_later hSw x2; have q0 := cell_later hSw x0; go_simp; (try with_reducible rfl); (try omega))
        (try simp only [Act.put, List.setIfInBounds_toArray, List.set_cons_zero, List.set_cons_succ, List.getElem_toArray, List.getElem_cons_zero, List.getElem_cons_succ])
        refine wpAnyH_take (i := 4) (v := ?_) rfl (by kernel_rfl) (by kernel_rfl) (by kernel_rfl) (fun _ _ _ h => h) (Or.inl ⟨by rfl, ?_⟩) (by assumption) ?_
        rotate_left
        · (intro wx hSw; have q1 := cell_later hSw x1; have q2 := cell_later hSw x2; have q0 := cell_later hSw x0; go_simp; (try with_reducible rfl); (try omega))
        (try simp only [Act.put, List.setIfInBounds_toArray, List.set_cons_zero, List.set_cons_succ, List.getElem_toArray, List.getElem_cons_zero, List.getElem_cons_succ])
        refine wpAnyH_take (i := 5) (v := ?_) rfl (by kernel_rfl) (by kernel_rfl) (by kernel_rfl) (fun _ _ _ h => h) (Or.inl ⟨by rfl, ?_⟩) (by assumption) ?_
        rotate_left
        · (intro wx hSw; have q1 := cell_later hSw x1; have q2 := cell_later hSw x2; have q0 := cell_later hSw x0; go_simp; (try with_reducible rfl); (try omega))
        (try simp only [Act.put, List.setIfInBounds_toArray, List.set_cons_zero, List.set_cons_succ, List.getElem_toArray, List.getElem_cons_zero, List.getElem_cons_succ])
        refine wpAnyH_take (i := 6) (v := ?_) rfl (by kernel_rfl) (by kernel_rfl) (by kernel_rfl) (fun _ _ _ h => h) (Or.inl ⟨by rfl, ?_⟩) (by assumption) ?_
        rotate_left
        · (intro wx hSw; have q1 := cell_later hSw x1; have q2 := cell_later hSw x2; have q0 := cell_later hSw x0; go_simp; (try with_reducible rfl); (try omega))
        (try simp only [Act.put, List.setIfInBounds_toArray, List.set_cons_zero, List.set_cons_succ, List.getElem_toArray, List.getElem_cons_zero, List.getElem_cons_succ])
        refine wpAnyH_take (i := 7) (v := ?_) rfl (by kernel_rfl) (by kernel_rfl) (by kernel_rfl) (fun _ _ _ h => h) (Or.inl ⟨by rfl, ?_⟩) (by assumption) ?_
        rotate_left
        · (intro wx hSw; have q1 := cell_later hSw x1; have q2 := cell_later hSw x2; have q0 := cell_later hSw x0; go_simp; (try with_reducible rfl); (try omega))
        (try simp only [Act.put, List.setIfInBounds_toArray, List.set_cons_zero, List.set_cons_succ, List.getElem_toArray, List.getElem_cons_zero, List.getElem_cons_succ])
        refine wpAnyH_take (i := 8) (v := .bool false) rfl (by kernel_rfl) (by kernel_rfl) (by kernel_rfl) (fun _ _ _ h => h) (Or.inl ⟨by rfl, ?_⟩) (by assumption) ?_
        · (intro wx hSw; have q1 := cell_later hSw x1; have q2 := cell_later hSw x2; have q0 := cell_later hSw x0; go_simp; (try with_reducible rfl); (try simp))
        (try simp only [Act.put, List.setIfInBounds_toArray, List.set_cons_zero, List.set_cons_succ, List.getElem_toArray, List.getElem_cons_zero, List.getElem_cons_succ])
        refine wpAnyH_take (i := 9) (v := ?_) rfl (by kernel_rfl) (by kernel_rfl) (by kernel_rfl) (fun _ _ _ h => h) (Or.inl ⟨by rfl, ?_⟩) (by assumption) ?_
        rotate_left
        · (intro wx hSw; have q1 := cell_later hSw x1; have q2 := cell_later hSw x2; have q0 := cell_later hSw x0; go_simp; (try with_reducible rfl); (try omega))
        (try simp only [Act.put, List.setIfInBounds_toArray, List.set_cons_zero, List.set_cons_succ, List.getElem_toArray, List.getElem_cons_zero, List.getElem_cons_succ])
        refine wpAnyH_take (i := 10) (v := ?_) rfl (by kernel_rfl) (by kernel_rfl) (by kernel_rfl) (fun _ _ _ h => h) (Or.inl ⟨by rfl, ?_⟩) (by assumption) ?_
        rotate_left
        · (intro wx hSw; have q1 := cell_later hSw x1; have q2 := cell_later hSw x2; have q0 := cell_later hSw x0; go_simp; (try with_reducible rfl); (try omega))
        (try simp only [Act.put, List.setIfInBounds_toArray, List.set_cons_zero, List.set_cons_succ, List.getElem_toArray, List.getElem_cons_zero, List.getElem_cons_succ])
        refine wpAnyH_take (i := 11) (v := .bool true) rfl (by kernel_rfl) (by kernel_rfl) (by kernel_rfl) (fun _ _ _ h => h) (Or.inl ⟨by rfl, ?_⟩) (by assumption) ?_
        · (intro wx hSw; have q1 := cell_later hSw x1; have q2 := cell_later hSw x2; have q0 := cell_later hSw x0; go_simp; (try with_reducible rfl); (try first | omega | (simp; omega)))
        (try simp only [Act.put, List.setIfInBounds_toArray, List.set_cons_zero, List.set_cons_succ, List.getElem_toArray, List.getElem_cons_zero, List.getElem_cons_succ])
        refine wpAnyH_take (i := 12) (v := ?_) rfl (by kernel_rfl) (by kernel_rfl) (by kernel_rfl) (fun _ _ _ h => h) (Or.inl ⟨by rfl, ?_⟩) (by assumption) ?_
        rotate_left
        · (intro wx hSw; have q1 := cell_later hSw x1; have q2 := cell_later hSw x2; have q0 := cell_later hSw x0; go_simp; (try with_reducible rfl); (try omega))
        (try simp only [Act.put, List.setIfInBounds_toArray, List.set_cons_zero, List.set_cons_succ, List.getElem_toArray, List.getElem_cons_zero, List.getElem_cons_succ])
        refine wpAnyH_take (i := 13) (v := ?_) rfl (by kernel_rfl) (by kernel_rfl) (by kernel_rfl) (fun _ _ _ h => h) (Or.inl ⟨by rfl, ?_⟩) (by assumption) ?_
        rotate_left
        · (intro wx hSw; have q1 := cell_later hSw x1; have q2 := cell_later hSw x2; have q0 := cell_later hSw x0; go_simp; (try with_reducible rfl); (try omega))
        (try simp only [Act.put, List.setIfInBounds_toArray, List.set_cons_zero, List.set_cons_succ, List.getElem_toArray, List.getElem_cons_zero, List.getElem_cons_succ])
        refine wpAnyH_take (i := 14) (v := ?_) rfl (by kernel_rfl) (by kernel_rfl) (by kernel_rfl) (fun _ _ _ h => h) (Or.inl ⟨by rfl, ?_⟩) (by assumption) ?_
        rotate_left
        · (intro wx hSw; have q1 := cell_later hSw x1; have q2 := cell_later hSw x2; have q0 := cell_later hSw x0; go_simp; (try with_reducible rfl); (try omega))
        (try simp only [Act.put, List.setIfInBounds_toArray, List.set_cons_zero, List.set_cons_succ, List.getElem_toArray, List.getElem_cons_zero, List.getElem_cons_succ])
        refine wpAnyH_take (i := 15) (v := .int .i64 k) rfl (by kernel_rfl) (by kernel_rfl) (by kernel_rfl) (fun _ _ _ h => h) (Or.inl ⟨by rfl, ?_⟩) (by assumption) ?_
        · (intro wx hSw; have q1 := cell_later hSw x1; have q2 := cell_later hSw x2; have q0 := cell_later hSw x0; go_simp; (try with_reducible rfl); (try exact hwk))
        (try simp only [Act.put, List.setIfInBounds_toArray, List.set_cons_zero, List.set_cons_succ, List.getElem_toArray, List.getElem_cons_zero, List.getElem_cons_succ])
        refine wpAnyH_take (i := 16) (v := ?_) rfl (by kernel_rfl) (by kernel_rfl) (by kernel_rfl) (fun _ _ _ h => h) (Or.inl ⟨by rfl, ?_⟩) (by assumption) ?_
        rotate_left
        · (intro wx hSw; have q1 := cell_later hSw x1; have q2 := cell_later hSw x2; have q0 := cell_later hSw x0; go_simp; (try with_reducible rfl); (try omega))
        (try simp only [Act.put, List.setIfInBounds_toArray, List.set_cons_zero, List.set_cons_succ, List.getElem_toArray, List.getElem_cons_zero, List.getElem_cons_succ])
        refine wpAnyH_take (i := 17) (v := ?_) rfl (by kernel_rfl) (by kernel_rfl) (by kernel_rfl) (fun _ _ _ h => h) (Or.inl ⟨by rfl, ?_⟩) (by assumption) ?_
        rotate_left
        · (intro wx hSw; have q1 := cell_later hSw x1; have q2 := cell_later hSw x2; have q0 := cell_later hSw x0; go_simp; (try with_reducible rfl); (try omega))
        (try simp only [Act.put, List.setIfInBounds_toArray, List.set_cons_zero, List.set_cons_succ, List.getElem_toArray, List.getElem_cons_zero, List.getElem_cons_succ])
        refine wpAnyH_take (i := 18) (v := ?_) rfl (by kernel_rfl) (by kernel_rfl) (by kernel_rfl) (fun _ _ _ h => h) (Or.inl ⟨by rfl, ?_⟩) (by assumption) ?_
        rotate_left
        · (intro wx hSw; have q1 := cell_later hSw x1; have q2 := cell_later hSw x2; have q0 := cell_later hSw x0; go_simp; (try with_reducible rfl); (try omega))
        (try simp only [Act.put, List.setIfInBounds_toArray, List.set_cons_zero, List.set_cons_succ, List.getElem_toArray, List.getElem_cons_zero, List.getElem_cons_succ])
        refine wpAnyH_take (i := 19) (v := ?_) rfl (by kernel_rfl) (by kernel_rfl) (by kernel_rfl) (fun _ _ _ h => h) (Or.inl ⟨by rfl, ?_⟩) (by assumption) ?_
        rotate_left
        · (intro wx hSw; have q1 := cell_later hSw x1; have q2 := cell_later hSw x2; have q0 := cell_later hSw x0; go_simp; (try with_reducible rfl); (try omega))
        (try simp only [Act.put, List.setIfInBounds_toArray, List.set_cons_zero, List.set_cons_succ, List.getElem_toArray, List.getElem_cons_zero, List.getElem_cons_succ])
        refine wpAnyH_take (i := 20) (v := ?_) rfl (by kernel_rfl) (by kernel_rfl) (by kernel_rfl) (fun _ _ _ h => h) (Or.inl ⟨by rfl, ?_⟩) (by assumption) ?_
        rotate_left
        · (intro wx hSw; have q1 := cell_later hSw x1; have q2 := cell_later hSw x2; have q0 := cell_later hSw x0; go_simp; (try with_reducible rfl); (try omega))
        (try simp only [Act.put, List.setIfInBounds_toArray, List.set_cons_zero, List.set_cons_succ, List.getElem_toArray, List.getElem_cons_zero, List.getElem_cons_succ])
        refine wpAnyH_take (i := 21) (v := ?_) rfl (by kernel_rfl) (by kernel_rfl) (by kernel_rfl) (fun _ _ _ h => h) (Or.inl ⟨by rfl, ?_⟩) (by assumption) ?_
        rotate_left
        · (intro wx hSw; have q1 := cell_later hSw x1; have q2 := cell_later hSw x2; have q0 := cell_later hSw x0; go_simp; (try with_reducible rfl); (try omega))
        (try simp only [Act.put, List.setIfInBounds_toArray, List.set_cons_zero, List.set_cons_succ, List.getElem_toArray, List.getElem_cons_zero, List.getElem_cons_succ])
        refine wpAnyH_take (i := 22) (v := .bool false) rfl (by kernel_rfl) (by kernel_rfl) (by kernel_rfl) (fun _ _ _ h => h) (Or.inl ⟨by rfl, ?_⟩) (by assumption) ?_
        · (intro wx hSw; have q1 := cell_later hSw x1; have q2 := cell_later hSw x2; have q0 := cell_later hSw x0; go_simp; (try with_reducible rfl); (try simp [hbl]))
        (try simp only [Act.put, List.setIfInBounds_toArray, List.set_cons_zero, List.set_cons_succ, List.getElem_toArray, List.getElem_cons_zero, List.getElem_cons_succ])
        refine wpAnyH_take (i := 23) (v := ?_) rfl (by kernel_rfl) (by kernel_rfl) (by kernel_rfl) (fun _ _ _ h => h) (Or.inl ⟨by rfl, ?_⟩) (by assumption) ?_
        rotate_left
        · (intro wx hSw; have q1 := cell_later hSw x1; have q2 := cell_later hSw x2; have q0 := cell_later hSw x0; go_simp; (try with_reducible rfl); (try omega))
        (try simp only [Act.put, List.setIfInBounds_toArray, List.set_cons_zero, List.set_cons_succ, List.getElem_toArray, List.getElem_cons_zero, List.getElem_cons_succ])
        refine wpAnyH_take (i := 24) (v := ?_) rfl (by kernel_rfl) (by kernel_rfl) (by kernel_rfl) (fun _ _ _ h => h) (Or.inl ⟨by rfl, ?_⟩) (by assumption) ?_
        rotate_left
        · (intro wx hSw; have q1 := cell_later hSw x1; have q2 := cell_later hSw x2; have q0 := cell_later hSw x0; go_simp; (try with_reducible rfl); (try omega))
        (try simp only [Act.put, List.setIfInBounds_toArray, List.set_cons_zero, List.set_cons_succ, List.getElem_toArray, List.getElem_cons_zero, List.getElem_cons_succ])
        refine wpAnyH_done (by kernel_rfl) ?_ _
        go_wp2_with fail
        exact ⟨⟨i + 1, by omega, by go_num, Below.drew HX.out⟩, by simp [intOf]; omega⟩
    · have hie : ¬ (i : Int) < (N : Int) := by omega
      have HX := hid0 hB
      clear hB
      go_wp2_with fail
      go_ret
      exact ⟨rfl, below_through HX.out hB3.out.size hB3.out⟩
end Go.Proofs.Ytfdkajefcplfjaa

/- ShapeRefs: the names that any plan reads are the document's, rising, each once: the row. Conditions: what comes in holds at most 1048576 values and letters. -/
namespace Go.Proofs.Ytfdkajefcplfjaa
open Go.ChangeShapes Go.WideShapes Go.ChangeAt Go.RowKit Go.Joins

set_option maxRecDepth 1000000 in
theorem refs_contract (H : Type) (enc : TypeId × Value → H) (W : World) (base : Nat) (args : Array Value) (ds gs : List (DataW H)) (before : List MemPlace)
    (hval0 : ∀ (j : Nat) t v, Try.f3.params[j]? = some t → args[j]? = some v → Value.okWide Try.prog W .any base t v)
    (hW : DataW.Whole enc Try.prog Try.f3.params.toList Rows.shapeRefsSpec.vars false W args.toList ds gs before) (hk : Rows.uptoSmall H (ds ++ gs) = true)
    (hsz0 : (DataW.weightsEach Try.prog (Try.f3.params.toList ++ Rows.shapeRefsSpec.plain.varTypes Try.prog) (ds ++ gs)).all (· ≤ reachBytes) = true) :
    Calls Try.prog 3 args W fun e W' => ∃ v, e = .returned v ∧ Rows.shapeRefsSpec.post enc Try.prog Try.f3 false true false false W args v W' := by
  have hval : ∀ (j : Nat) t v, Try.f3.params[j]? = some t → args[j]? = some v → Value.okWide Try.prog W .any base t v := hval0
  have hbk : Rows.uptoBulkAll (ds ++ gs) ≤ 1048576 := of_decide_eq_true hk
  have hsz : (DataW.weightsEach Try.prog (Try.f3.params.toList ++ Rows.shapeRefsSpec.plain.varTypes Try.prog) (ds ++ gs)).all (· ≤ reachBytes) = true := hsz0
  clear hsz0
  have hW' := hW
  obtain ⟨p, q, hA0, hV, rfl, _, _⟩ := hW
  have hA : DataW.TrodAll enc Try.prog W 0 (fun _ => true) true Try.f3.params.toList args.toList ds p := hA0
  rw [Try.params3] at hA hval hsz
  obtain ⟨v0, d0, rfl, rfl, h0⟩ := trodAll_one hA
  obtain ⟨rfl, rfl⟩ := trodVars_none hV
  simp only [List.append_nil, Rows.uptoBulkAll] at hbk
  have hlt : ∀ x ∈ p, x.block < W.heap.size := fun x hx => hW'.lt x (by simpa using hx)
  have h0k := h0
  have hw0 : ∀ n ∈ d0.weights Try.prog 24, n ≤ reachBytes := fun n hn => by
    have := List.all_eq_true.1 hsz n (DataW.weights_mem_each (j := 0) (t := 24) rfl rfl n hn)
    simpa using this
  obtain ⟨a0, ps0, c0, rfl, hP0, hn0⟩ := open_planB (hval 0 24 v0 rfl rfl) h0 hw0 (by omega)
  refine (lawShapeRefs a0 c0 ps0 W hP0 (by omega)).mono fun e W' ⟨he, hb⟩ => ?_
  subst he
  have shP : ∀ {v : Value} {d : DataW H} {ps : List MemPlace}, DataW.Trod enc Try.prog W 0 (fun _ => true) true 24 v d ps → (∀ x ∈ ps, x.block < W.heap.size) → DataW.Trod enc Try.prog W' 0 (fun b => decide (b < W.heap.size)) true 24 v d ps :=
    fun h hl => Below.trod laidOut (by kernel_rfl) (of_decide_eq_true (by kernel_rfl)) h hb hl
  exact ⟨_, rfl, _, _, _, [], _, [], hW', trodAll_mk1 (shut_bool Try.underlying4 true), trodAll_mk1 (shP h0k (fun x hx => hlt x (by simp [hx]))), rfl, hb.frame _, fun h => by cases h⟩

set_option maxRecDepth 1000000 in
theorem refs_lifted (os : Os) (started : os.Started) (H : Type) (enc : TypeId × Value → H) (F : Stop.Interp) :
    ReturnsInHanded {} Try.checked os 3 .any ((Rows.OpenSpec.upto Rows.shapeRefsSpec).pre6 enc Try.prog Try.f3 Rows.shapeRefsUptoRow.domain false) (((Rows.OpenSpec.upto Rows.shapeRefsSpec).at F).post enc Try.prog Try.f3 false true false false) := by
  refine returnsInHanded_of_cond_sized (C := Try.checked) (s := Rows.OpenSpec.upto Rows.shapeRefsSpec) (k := Rows.uptoSmall) rfl own started (by kernel_rfl) Try.func3
    (OpenSpec.witness (enc := enc) (C := Try.checked) (s := Rows.OpenSpec.upto Rows.shapeRefsSpec) (k := Rows.uptoSmall) rfl false ⟨#[], #[.agg #[.slice none 0 0]], []⟩ 8 (by kernel_rfl) (by kernel_rfl) (by kernel_rfl) (by kernel_rfl)
      (x := ([.agg [.nil]], [], [])) (by kernel_rfl) rfl (by kernel_rfl)) ?_
  intro W base args ds gs before hval hW _ hk hsz _
  exact refs_contract H enc W base args ds gs before hval hW hk hsz

theorem refs_row : Rows.ShapeRefsUptoSaid :=
  OpenClaim.holds_of_cond 3 Try.f3 rfl rfl rfl rfl rfl rfl rfl ⟨rfl, rfl, rfl, rfl, rfl⟩ rfl rfl rfl rfl rfl (by kernel_rfl) Try.func3 (by kernel_rfl)
    (of_decide_eq_true (by kernel_rfl)) (by unfold Func.isWrapper; first | (rw [if_pos (by decide +kernel)]; kernel_rfl) | (rw [if_neg (by decide +kernel)]; exact ⟨rfl, rfl⟩))
    (fun os started H enc _ F => refs_lifted os started H enc F)
end Go.Proofs.Ytfdkajefcplfjaa
