/- Several of my texts laid together, each as it was: D19, D20, D21. Conditions: each names its own. -/
import Derived.Test.YtfdkajefcplfjaaGreatVG
import Derived.Test.YtfdkajefcplfjaaGreatVC
import Derived.Test.YtfdkajefcplfjaaGreatVA
import Derived.Test.YtfdkajefcplfjaaGreatH8
/- The project's layer 14 (delta): what a part's net rows cost: the contract of the call, in whatever memory. Conditions: the part's cells are known, and the names' numbers. -/
namespace Go.Proofs.YtfdkajefcplfjaaGreat
open Go.RowKit

/-- How many rows a name had, how many of it come and go, how many it has now. -/
structure Sz where
  o : Int
  c : Int
  m : Int
def Sz.val (z : Sz) : Value := .agg #[.int .i64 z.o, .int .i64 z.c, .int .i64 z.m]
def Sz.Ok (z : Sz) : Prop := (0 ≤ z.o ∧ z.o ≤ maxMany) ∧ (0 ≤ z.c ∧ z.c ≤ maxMany) ∧ (0 ≤ z.m ∧ z.m ≤ maxMany)
/-- What the net rows cost, place by place: what they cost so far, and what those ahead were. -/
def pcD (f : List UInt8 → Sz) (st : Int × Int) (fs : List ByteArray) : Int × Int := fs.foldl (fun st s => (addMany (timesM st.1 (f s.data.toList).m) (timesM st.2 (f s.data.toList).c), timesM st.2 (f s.data.toList).o)) st
theorem pcD_take (f : List UInt8 → Sz) (st : Int × Int) {fs : List ByteArray} {i : Nat} (h : i < fs.length) : pcD f st (fs.take (i + 1)) = (addMany (timesM (pcD f st (fs.take i)).1 (f fs[i].data.toList).m) (timesM (pcD f st (fs.take i)).2 (f fs[i].data.toList).c), timesM (pcD f st (fs.take i)).2 (f fs[i].data.toList).o) := by
  unfold pcD
  rw [List.take_succ_eq_append_getElem h, List.foldl_append]
  rfl
theorem pcD_in {f : List UInt8 → Sz} (hf : ∀ s, (f s).Ok) : ∀ (fs : List ByteArray) (st : Int × Int), (0 ≤ st.1 ∧ st.1 ≤ maxMany) → (0 ≤ st.2 ∧ st.2 ≤ maxMany) → (0 ≤ (pcD f st fs).1 ∧ (pcD f st fs).1 ≤ maxMany) ∧ (0 ≤ (pcD f st fs).2 ∧ (pcD f st fs).2 ≤ maxMany)
  | [], _, h1, h2 => ⟨h1, h2⟩
  | s :: fs, st, h1, h2 => by
    obtain ⟨ho, hc, hm⟩ := hf s.data.toList
    exact pcD_in hf fs _ (addMany_in (timesM_in h1.1 hm.1) (timesM_in h2.1 hc.1).1) (timesM_in h2.1 ho.1)
/-- The numbers of a name, in their box. -/
structure SPc (w0 : World) (vb : Nat) (o c m : Int) (w : World) : Prop where
  v : VarB w vb [.int .i64 o, .int .i64 c, .int .i64 m]
  b : Below w0.heap.size w0 w
theorem sizeSz : (Tryz.prog.info? 166).map (·.size) = some 3 := by kernel_rfl
theorem zeroSz (w : World) : (zeroValue 166).run Tryz.prog w = .ok (.agg #[.int .i64 0, .int .i64 0, .int .i64 0]) w := by kernel_rfl
theorem sz_one (o c m : Int) : ∀ v ∈ [Value.int .i64 o, .int .i64 c, .int .i64 m], v.oneCell' = true := by
  intro v hv
  simp at hv
  rcases hv with rfl | rfl | rfl <;> rfl
set_option maxRecDepth 100000 in
set_option maxHeartbeats 4000000 in
theorem dPartCost_any {k : Nat} (p : Px) (b mn : Nat) (g : List UInt8 → Option Value) (f : List UInt8 → Sz) (w : World) (hp : PxOk w k p) (hM : MapS Tryz.prog 9 w b mn g) (hg : ∀ s ∈ p.fs, g s.data.toList = some (f s.data.toList).val) (hf : ∀ s, (f s).Ok) :
    Calls Tryz.prog 96 #[p.val, .map (some b)] w fun e w' => e = .returned (.int .i64 (pcD f (0, 1) p.fs).1) ∧ Below w.heap.size w w' := by
  obtain ⟨V, hB0⟩ := part_box p w
  have a1 : _ = some (Value.slice p.fp p.fs.length p.fc) := V.cell 1 rfl
  have HP := hid0 hp.fs
  have hfew := hp.fewF
  have HM := hid0 hM
  have HG := hid0 hg
  have HF := hid0 hf
  have hl := p.cells_len
  unfold Px.val
  generalize p.cells = us at *
  generalize p.fs = fs at *
  generalize p.fp = fp at *
  generalize p.fc = fc at *
  clear hp hM hg hf V
  obtain ⟨N, hN⟩ : ∃ N, fs.length = N := ⟨_, rfl⟩
  rw [hN] at a1 hfew
  have HN := hid0 hN
  clear hN
  go_enter Tryz.func96, Tryz.ntmps96
  go_wp2
  go_loopw [5, 6, 13] (fun nv av iv wr => ∃ i : Nat, i ≤ N ∧ iv = .int .i64 i ∧ nv = .int .i64 (pcD f (0, 1) (fs.take i)).1 ∧ av = .int .i64 (pcD f (0, 1) (fs.take i)).2 ∧ Below w.heap.size w wr) (fun _ _ iv _ => N - (intOf iv).toNat)
  case atStart => exact ⟨0, Nat.zero_le _, rfl, rfl, rfl, hB0⟩
  case round =>
    obtain ⟨i, hi, rfl, rfl, rfl, hB⟩ := hrel
    clear hB0
    have hsz := hB.size
    by_cases hlt : i < N
    · have g1 : i < fs.length := by rw [HN.out]; exact hlt
      obtain ⟨b3, o3, rfl, hcl⟩ := (HP.out.later hB).out (fun e => by rw [e] at g1; simp at g1)
      have q0 := hcl i g1
      have hss := HP.out.small _ (List.getElem_mem g1)
      have hst := pcD_take f (0, 1) g1
      have hgs := HG.out _ (List.getElem_mem g1)
      obtain ⟨hin1, hin2⟩ := pcD_in HF.out (fs.take i) (0, 1) (by unfold maxMany; omega) (by unfold maxMany; omega)
      have hz := HF.out fs[i].data.toList
      generalize f fs[i].data.toList = z at hst hgs hz
      generalize pcD f (0, 1) (fs.take i) = st at hst hin1 hin2 ⊢
      generalize fs[i] = s at q0 hss hgs
      obtain ⟨o, c, m⟩ := z
      obtain ⟨n, a⟩ := st
      obtain ⟨ho, hc, hm⟩ := hz
      dsimp only at hst hin1 hin2 ho hc hm ⊢
      have hlk := (HM.out.later hB).look (t := 130) (e := 166) false Tryz.underlying9 Tryz.underlying130 (zeroSz _) hss
      rw [hgs] at hlk
      simp only [Option.getD_some, Bool.false_eq_true, if_false, Sz.val] at hlk
      have HST := hid0 hst
      have htn := hid0 (timesM_in hin1.1 hm.1)
      have htc := hid0 (show 0 ≤ timesM a c ∧ timesM a c ≤ 9223372036854775807 from by have := timesM_in hin2.1 hc.1; unfold maxMany at this; omega)
      have hn := hid0 hin1
      have ha := hid0 hin2
      have hm := hid0 hm
      have hc := hid0 hc
      have ho := hid0 ho
      have V0 := VarB.new wr [.int .i64 o, .int .i64 c, .int .i64 m] 166
      have hBA := Below.alloc hB hsz (Obj.cells #[.int .i64 o, .int .i64 c, .int .i64 m] 166)
      clear hst hss hgs hin1 hin2 hcl
      by_cases hlt' : (i : Int) < (N : Int)
      · go_wp2_with fail
        have hS : SPc w wr.heap.size o c m (wr.alloc (Obj.cells #[.int .i64 o, .int .i64 c, .int .i64 m] 166)).drew := ⟨V0.drew, Below.drew hBA⟩
        clear V0 hBA q0 hlk
        refine wp_region_held_drew (S := SPc w wr.heap.size o c m) (by kernel_rfl) hS (fun hHeld => ?_)
        refine wpAnyH_take (i := 0) (v := ?_) rfl (by kernel_rfl) (by kernel_rfl) (by kernel_rfl) (fun _ _ _ h => h) (Or.inl ⟨by rfl, ?_⟩) (by assumption) ?_
        rotate_left
        · (intro wx hSw; have q2 := hSw.v.cell 2 rfl; have q1 := hSw.v.cell 1 rfl; go_simp; (try with_reducible rfl); (try omega))
        (try simp only [Act.put, List.setIfInBounds_toArray, List.set_cons_zero, List.set_cons_succ, List.getElem_toArray, List.getElem_cons_zero])
        refine wpAnyH_take (i := 1) (v := ?_) rfl (by kernel_rfl) (by kernel_rfl) (by kernel_rfl) (fun _ _ _ h => h) (Or.inl ⟨by rfl, ?_⟩) (by assumption) ?_
        rotate_left
        · (intro wx hSw; have q2 := hSw.v.cell 2 rfl; have q1 := hSw.v.cell 1 rfl; go_simp; (try with_reducible rfl); (try omega))
        (try simp only [Act.put, List.setIfInBounds_toArray, List.set_cons_zero, List.set_cons_succ, List.getElem_toArray, List.getElem_cons_zero, List.getElem_cons_succ])
        refine wpAnyH_take (i := 2) (v := ?_) rfl (by kernel_rfl) (by kernel_rfl) (by kernel_rfl) (fun _ _ _ h => h) (Or.inl ⟨by rfl, ?_⟩) (by assumption) ?_
        rotate_left
        · (intro wx hSw; have q2 := hSw.v.cell 2 rfl; have q1 := hSw.v.cell 1 rfl; go_simp; (try with_reducible rfl); (try omega))
        (try simp only [Act.put, List.setIfInBounds_toArray, List.set_cons_zero, List.set_cons_succ, List.getElem_toArray, List.getElem_cons_zero, List.getElem_cons_succ])
        refine wpAnyH_take (i := 4) (v := ?_) rfl (by kernel_rfl) (by kernel_rfl) (by kernel_rfl) (fun _ _ _ h => h) (Or.inl ⟨by rfl, ?_⟩) (by assumption) ?_
        rotate_left
        · (intro wx hSw; have q2 := hSw.v.cell 2 rfl; have q1 := hSw.v.cell 1 rfl; go_simp; (try with_reducible rfl); (try omega))
        (try simp only [Act.put, List.setIfInBounds_toArray, List.set_cons_zero, List.set_cons_succ, List.getElem_toArray, List.getElem_cons_zero, List.getElem_cons_succ])
        refine wpAnyH_take (i := 5) (v := ?_) rfl (by kernel_rfl) (by kernel_rfl) (by kernel_rfl) (fun _ _ _ h => h) (Or.inl ⟨by rfl, ?_⟩) (by assumption) ?_
        rotate_left
        · (intro wx hSw; have q2 := hSw.v.cell 2 rfl; have q1 := hSw.v.cell 1 rfl; go_simp; (try with_reducible rfl); (try omega))
        (try simp only [Act.put, List.setIfInBounds_toArray, List.set_cons_zero, List.set_cons_succ, List.getElem_toArray, List.getElem_cons_zero, List.getElem_cons_succ])
        refine wpAnyH_take (i := 6) (v := ?_) rfl (by kernel_rfl) (by kernel_rfl) (by kernel_rfl) (fun _ _ _ h => h) (Or.inl ⟨by rfl, ?_⟩) (by assumption) ?_
        rotate_left
        · (intro wx hSw; have q2 := hSw.v.cell 2 rfl; have q1 := hSw.v.cell 1 rfl; go_simp; (try with_reducible rfl); (try omega))
        (try simp only [Act.put, List.setIfInBounds_toArray, List.set_cons_zero, List.set_cons_succ, List.getElem_toArray, List.getElem_cons_zero, List.getElem_cons_succ])
        refine wpAnyH_ready (rs := [3]) (by kernel_rfl) (by simp) ?_
        refine AllReadyH.cons rfl (fun K hK => ?_) AllReadyH.nil
        go_simp
        refine (dTimes_any n m _ hn.out hm.out).mono ?_
        rintro e w9 ⟨rfl, hw9⟩
        subst hw9
        refine hK.out _ _ hS (fun hHeld => ?_)
        clear hK K
        (try simp only [Act.put, List.setIfInBounds_toArray, List.set_cons_zero, List.set_cons_succ, List.getElem_toArray, List.getElem_cons_zero, List.getElem_cons_succ])
        refine wpAnyH_ready (rs := [7]) (by kernel_rfl) (by simp) ?_
        refine AllReadyH.cons rfl (fun K hK => ?_) AllReadyH.nil
        go_simp
        refine (dTimes_any a c _ ha.out hc.out).mono ?_
        rintro e w9 ⟨rfl, hw9⟩
        subst hw9
        refine hK.out _ _ hS (fun hHeld => ?_)
        clear hK K
        (try simp only [Act.put, List.setIfInBounds_toArray, List.set_cons_zero, List.set_cons_succ, List.getElem_toArray, List.getElem_cons_zero, List.getElem_cons_succ])
        refine wpAnyH_ready (rs := [8]) (by kernel_rfl) (by simp) ?_
        refine AllReadyH.cons rfl (fun K hK => ?_) AllReadyH.nil
        go_simp
        refine (dPlus_any (timesM n m) (timesM a c) _ htn.out htc.out).mono ?_
        rintro e w9 ⟨rfl, hw9⟩
        subst hw9
        refine hK.out _ _ hS (fun hHeld => ?_)
        clear hK K
        (try simp only [Act.put, List.setIfInBounds_toArray, List.set_cons_zero, List.set_cons_succ, List.getElem_toArray, List.getElem_cons_zero, List.getElem_cons_succ])
        refine wpAnyH_take (i := 9) (v := ?_) rfl (by kernel_rfl) (by kernel_rfl) (by kernel_rfl) (fun _ _ _ h => h) (Or.inl ⟨by rfl, ?_⟩) (by assumption) ?_
        rotate_left
        · (intro wx hSw; have q2 := hSw.v.cell 2 rfl; have q1 := hSw.v.cell 1 rfl; go_simp; (try with_reducible rfl); (try omega))
        (try simp only [Act.put, List.setIfInBounds_toArray, List.set_cons_zero, List.set_cons_succ, List.getElem_toArray, List.getElem_cons_zero, List.getElem_cons_succ])
        refine wpAnyH_done (by kernel_rfl) ?_ _
        have r0 := hS.v.cell 0 rfl
        have hb9 := hS.b
        clear hHeld
        go_wp2_with (first | (go_at_call 136; go_must (refine (dTimes_any a o _ ha.out ho.out).mono ?_; rintro e w9 ⟨rfl, hw9⟩; subst hw9)) | fail)
        exact ⟨⟨i + 1, by omega, by go_num, by rw [HST.out], by rw [HST.out], hb9⟩, by simp [intOf]; omega⟩
      · omega
    · have hie : ¬ (i : Int) < (N : Int) := by omega
      rw [List.take_of_length_le (by rw [HN.out]; omega)]
      go_wp2
      go_ret
      exact ⟨rfl, hB⟩
end Go.Proofs.YtfdkajefcplfjaaGreat

/- The project's layer 14 (delta): the numbers of all names that a plan reads: the contract of the call, in whatever memory. Conditions: the plan's and the names' cells are known. -/
namespace Go.Proofs.YtfdkajefcplfjaaGreat
open Go.RowKit

/-- What is there of a name now, counted. -/
def nowN (old ch : List Nx) (s : List UInt8) : Int := match findN old s with
  | some x => nowC (x.E.map pr ++ bagN ch s)
  | none => 0
def szD (old ch : List Nx) (s : List UInt8) : Sz := ⟨sizeN old s, sizeA (bagN ch s), nowN old ch s⟩
theorem szD_ok (old ch : List Nx) (s : List UInt8) : (szD old ch s).Ok := by
  refine ⟨sizeN_in old s, sizeA_in _, ?_⟩
  show 0 ≤ nowN old ch s ∧ nowN old ch s ≤ maxMany
  unfold nowN
  split
  · exact nowC_in _
  · unfold maxMany; omega
/-- The numbers of the names that have been met. -/
def szF (old ch : List Nx) (L : List ByteArray) (s : List UInt8) : Option Value := if s ∈ L.map (·.data.toList) then some (szD old ch s).val else none
theorem szF_take {old ch : List Nx} {L : List ByteArray} {i : Nat} (h : i < L.length) : szF old ch (L.take (i + 1)) = fun x => if x = L[i].data.toList then some (szD old ch L[i].data.toList).val else szF old ch (L.take i) x := by
  funext x
  unfold szF
  rw [List.take_succ_eq_append_getElem h, List.map_append, List.map_singleton]
  by_cases e : x = L[i].data.toList
  · subst e; simp
  · rw [if_neg e]; simp [e]
/-- A name's numbers, in their box. -/
structure SSz (w0 : World) (o c m : Int) (w : World) : Prop where
  v : VarB w w0.heap.size [.int .i64 o, .int .i64 c, .int .i64 m]
  b : Below w0.heap.size w0 w
theorem SSz.below {w0 : World} {o c m : Int} {w w' : World} (h : SSz w0 o c m w) (hb : Below w.heap.size w w') : SSz w0 o c m w' := ⟨h.v.below hb, below_through hb h.b.size h.b⟩
theorem SSz.put0 {w0 : World} {o c m : Int} {w : World} (h : SSz w0 o c m w) (x : Int) : SSz w0 x c m (w.setCell ⟨w0.heap.size, 0, none⟩ (.int .i64 x)) := ⟨h.v.setQ (i := 0) (.int .i64 x) (by simp), h.b.setCell (Nat.le_refl _) _⟩
theorem SSz.put2 {w0 : World} {o c m : Int} {w : World} (h : SSz w0 o c m w) (x : Int) : SSz w0 o c x (w.setCell ⟨w0.heap.size, 2, none⟩ (.int .i64 x)) := ⟨h.v.setQ (i := 2) (.int .i64 x) (by simp), h.b.setCell (Nat.le_refl _) _⟩
theorem MapS.noCell {P : Program} {k : TypeId} {w : World} {b n : Nat} {f : List UInt8 → Option Value} (h : MapS P k w b n f) (o : Nat) : w.cell? ⟨b, o, none⟩ = none := by
  obtain ⟨D, ⟨es, clock, hb, _⟩, _⟩ := h.out
  simp [World.cell?, hb]
theorem StrsA.grownM {P : Program} {k : TypeId} {w w' : World} {b n : Nat} {f : List UInt8 → Option Value} {a : Option Addr} {L : List ByteArray} (h : StrsA w a L) (hM : MapS P k w b n f) (hg : w.grownBy w' (some b)) : StrsA w' a L := by
  refine ⟨fun hn => ?_, h.small⟩
  obtain ⟨c, off, e, hc⟩ := h.out hn
  have hne : c ≠ b := fun e => by
    have h1 := hc 0 (List.length_pos_iff.2 hn)
    rw [e, hM.noCell] at h1
    cases h1
  refine ⟨c, off, e, fun i hi => ?_⟩
  have h1 := hc i hi
  have hlt : c < w.heap.size := by
    unfold World.cell? at h1
    cases hh : w.heap[c]? with
    | none => simp [hh] at h1
    | some o => exact (Array.getElem?_eq_some_iff.1 hh).1
  rw [← h1]
  exact World.cell?_of_block (a := ⟨c, off + i, none⟩) (hg.block c hlt (fun e => hne (Option.some.inj e)))
set_option maxRecDepth 100000 in
set_option maxHeartbeats 4000000 in
theorem dSizes_any {k : Nat} (a : Option Addr) (c : Nat) (ps : List Px) (b1 b2 : Nat) (old ch : List Nx) (w : World) (hp : PsOk w k a c ps) (hN : (namesF ps).length ≤ 4000000) (h1 : SrcD w b1 old) (h2 : SrcD w b2 ch) (ho : ∀ x ∈ old, ElemsI w x.a x.c x.E) (hc : ∀ x ∈ ch, ElemsI w x.a x.c x.E) (hs : ∀ s ∈ namesF ps, FewN old ch s) :
    Calls Tryz.prog 94 #[planV a ps.length c, .map (some b1), .map (some b2)] w fun e w' => (∃ b n, e = .returned (.map (some b)) ∧ MapS Tryz.prog 9 w' b n (szF old ch (riseB (namesF ps)))) ∧ Below w.heap.size w w' := by
  have hB0 : Below w.heap.size w (w.alloc (.cells #[.slice a ps.length c] 24)) := (Below.refl _ _).alloc (Nat.le_refl _) _
  have hB1 : Below w.heap.size w ((w.alloc (.cells #[.slice a ps.length c] 24)).alloc (.map #[] 0)) := hB0.alloc hB0.size _
  have hM0 : MapS Tryz.prog 9 ((w.alloc (.cells #[.slice a ps.length c] 24)).alloc (.map #[] 0)) (w.heap.size + 1) 0 (szF old ch []) := by
    have := MapS.made Tryz.prog 9 (w.alloc (.cells #[.slice a ps.length c] 24))
    have e : szF old ch [] = fun _ => none := by funext x; simp [szF]
    rw [e]
    simpa using this
  have CN := hid0 (fun (W : World) (hW : Below w.heap.size w W) => dNames_any a c ps W (hp.later hW) hN)
  have hlen := riseB_len (namesF ps)
  have HFS := hid0 (show ∀ s ∈ riseB (namesF ps), FewN old ch s from fun s h => hs s ((mem_riseB _ _).1 h))
  have HO := hid0 h1
  have HC := hid0 h2
  have HOK := hid0 ho
  have HCK := hid0 hc
  have hmm : ∀ W : World, (Instr.makeMap 130 none).run Tryz.prog W = .ok (.map (some W.heap.size)) (W.alloc (.map #[] 0)) := fun W => rfl
  generalize riseB (namesF ps) = L at CN HFS hlen ⊢
  have hLn : L.length ≤ 4000000 := by omega
  clear hp h1 h2 ho hc hs hlen hN
  unfold planV
  unfold planV at CN
  go_enter Tryz.func94, Tryz.ntmps94
  go_wp2_with (first | (go_at_call 54; go_must (refine (CN.out _ hB1).mono ?_; rintro e w1 ⟨⟨aL, cL, rfl, hL⟩, hb1⟩; (have hM1 := hM0.later hb1); (have hBw := below_through hb1 hB1.size hB1); (have HL := hid0 hL))) | fail)
  obtain ⟨N, hNN⟩ : ∃ N, L.length = N := ⟨_, rfl⟩
  rw [hNN] at hLn
  have HN := hid0 hNN
  rw [hNN]
  clear hM0 hb1 hB0 hB1 CN hL hmm hNN
  go_loopw [17] (fun iv wr => ∃ i n : Nat, i ≤ N ∧ n ≤ i ∧ iv = .int .i64 i ∧ MapS Tryz.prog 9 wr (w.heap.size + 1) n (szF old ch (L.take i)) ∧ StrsA wr aL L ∧ Below w.heap.size w wr) (fun iv _ => N - (intOf iv).toNat)
  case atStart => exact ⟨0, 0, Nat.zero_le _, Nat.le_refl _, rfl, hM1, HL.out, hBw⟩
  case round =>
    obtain ⟨i, n, hi, hni, rfl, hM, hL, hB⟩ := hrel
    clear hM1
    have hml := hM.lt
    by_cases hlt : i < N
    · have g1 : i < L.length := by rw [HN.out]; exact hlt
      obtain ⟨b3, o3, rfl, hcl⟩ := hL.out (fun e => by rw [e] at g1; simp at g1)
      have q0 := hcl i g1
      have hss := hL.small _ (List.getElem_mem g1)
      have HL := hid0 hL
      have htk := szF_take (old := old) (ch := ch) g1
      obtain ⟨k1, k2, k3⟩ := HFS.out _ (List.getElem_mem g1)
      generalize L[i] = s at q0 hss htk k1 k2 k3
      obtain ⟨aB, cB, B, eB, hBB, mB⟩ := slc_at HCK.out s.data.toList
      have hk2 := (HC.out.later hB).look false hss
      rw [eB] at hk2
      simp only [Bool.false_eq_true, if_false] at hk2
      have HLK := fun (W : World) (hW : Below wr.heap.size wr W) => (HC.out.later (below_through hW hB.size hB)).look false hss
      simp only [eB, Bool.false_eq_true, if_false] at HLK
      rw [← mB, List.length_map] at k2
      rw [← mB] at k3
      have hlt' : (i : Int) < (N : Int) := by omega
      have hsz := hB.size
      have HSS := hid0 hss
      have HTK := hid0 htk
      have hzC : (szD old ch s.data.toList).c = sizeA (B.map pr) := by show sizeA (bagN ch s.data.toList) = _; rw [mB]
      have CB := hid0 (fun (W : World) (hW : Below w.heap.size w W) => dCountAll_any aB cB B W (hBB.later hW))
      generalize sizeA (B.map pr) = cc at hzC CB
      have HM := hid0 hM
      have hBB := hid0 hBB
      cases hf : findN old s.data.toList with
      | none =>
        have e1 : slcOf old s.data.toList = .slice none 0 0 := by unfold slcOf; rw [hf]
        have HLO := fun (W : World) (hW : Below wr.heap.size wr W) => (HO.out.later (below_through hW hB.size hB)).look true hss
        simp only [e1, hf, if_true, Option.isSome_none] at HLO
        have HV := hid0 (show (szD old ch s.data.toList).val = .agg #[.int .i64 0, .int .i64 cc, .int .i64 0] from by
          unfold Sz.val
          rw [hzC]
          show Value.agg #[.int .i64 (sizeN old _), _, .int .i64 (nowN old ch _)] = _
          unfold sizeN nowN
          rw [hf])
        clear hM hL hf e1 hcl htk hss k1 k2 k3 mB eB hzC g1 HLK
        go_wp2_with (first | (go_at_call 133; go_must (refine (CB.out _ hB).mono ?_; rintro e w5 ⟨rfl, hb5⟩; (have hb6 := hb5.alloc hb5.size (Obj.cells #[.int .i64 0, .int .i64 cc, .int .i64 0] 166)); (have l1 := HLO _ hb6); (obtain ⟨w9, hput, hM9, hg9⟩ := (HM.out.later hb6).put (t := 130) (e := 166) Tryz.underlying9 Tryz.underlying130 (by unfold maxLen; omega) HSS.out (.agg #[.int .i64 0, .int .i64 cc, .int .i64 0])))) | fail)
        exact ⟨⟨i + 1, n + 1, by omega, by omega, by go_num, by rw [HTK.out, HV.out]; exact hM9, (HL.out.later hb6).grownM (HM.out.later hb6) hg9, (below_through hb6 hB.size hB).grown hg9 (below_through hb6 hB.size hB).size (fun k hk => by cases hk; omega)⟩, by simp [intOf]; omega⟩
      | some x =>
        have HA := hid0 (HOK.out x (findN_mem hf))
        have HBB := hid0 hBB
        have e1 : slcOf old s.data.toList = .slice x.a x.E.length x.c := by unfold slcOf; rw [hf]; rfl
        have e2 : bagN old s.data.toList = x.E.map pr := by unfold bagN; rw [hf]
        rw [e2, List.length_map] at k1
        rw [e2] at k3
        have hlen : x.E.length + B.length ≤ 1000000 := by omega
        have habs := hid0 (show absS (x.E.map pr ++ B.map pr) ≤ 4611686018427387904 by rw [absS_append]; exact k3)
        have HLO := fun (W : World) (hW : Below wr.heap.size wr W) => (HO.out.later (below_through hW hB.size hB)).look true hss
        simp only [e1, hf, if_true, Option.isSome_some] at HLO
        have HV := hid0 (show (szD old ch s.data.toList).val = .agg #[.int .i64 (sizeB (x.E.map pr)), .int .i64 cc, .int .i64 (nowC (x.E.map pr ++ B.map pr))] from by
          unfold Sz.val
          rw [hzC]
          show Value.agg #[.int .i64 (sizeN old _), _, .int .i64 (nowN old ch _)] = _
          unfold sizeN nowN
          rw [hf, ← mB])
        clear hM hL hf e1 e2 hcl htk hss k1 k2 k3 mB eB hzC g1
        go_wp2_with (first | (go_at_call 133; go_must (refine (CB.out _ hB).mono ?_; rintro e w5 ⟨rfl, hb5⟩; (have hb6 := hb5.alloc hb5.size (Obj.cells #[.int .i64 0, .int .i64 cc, .int .i64 0] 166)); (have l1 := HLO _ hb6))) | fail)
        have HLK5 := fun (W : World) (hW : Below w5.heap.size w5 W) => HLK W (below_through hW hb5.size hb5)
        have hS : SSz w5 0 cc 0 (w5.alloc (Obj.cells #[.int .i64 0, .int .i64 cc, .int .i64 0] 166)).drew := ⟨(VarB.new w5 [.int .i64 0, .int .i64 cc, .int .i64 0] 166).drew, Below.drew ((Below.refl _ _).alloc (Nat.le_refl _) _)⟩
        clear HLK HLO l1 hk2 q0
        refine wp_region_held_drew (S := fun w => Below w5.heap.size w5 w) (by kernel_rfl) hS.b (fun hHeld => ?_)
        refine wpAnyH_take (i := 0) (v := ?_) rfl (by kernel_rfl) (by kernel_rfl) (by kernel_rfl) (fun _ _ _ h => h) (Or.inl ⟨by rfl, ?_⟩) (by assumption) ?_
        rotate_left
        · (intro wx hSw; have l5 := HLK5 wx hSw; go_simp; (try with_reducible rfl); (try omega))
        (try simp only [Act.put, List.setIfInBounds_toArray, List.set_cons_zero, List.set_cons_succ, List.getElem_toArray, List.getElem_cons_zero])
        refine wpAnyH_take (i := 2) (v := ?_) rfl (by kernel_rfl) (by kernel_rfl) (by kernel_rfl) (fun _ _ _ h => h) (Or.inl ⟨by rfl, ?_⟩) (by assumption) ?_
        rotate_left
        · (intro wx hSw; have l5 := HLK5 wx hSw; go_simp; (try with_reducible rfl); (try omega))
        (try simp only [Act.put, List.setIfInBounds_toArray, List.set_cons_zero, List.set_cons_succ, List.getElem_toArray, List.getElem_cons_zero, List.getElem_cons_succ])
        refine wpAnyH_take (i := 3) (v := ?_) rfl (by kernel_rfl) (by kernel_rfl) (by kernel_rfl) (fun _ _ _ h => h) (Or.inl ⟨by rfl, ?_⟩) (by assumption) ?_
        rotate_left
        · (intro wx hSw; have l5 := HLK5 wx hSw; go_simp; (try with_reducible rfl); (try omega))
        (try simp only [Act.put, List.setIfInBounds_toArray, List.set_cons_zero, List.set_cons_succ, List.getElem_toArray, List.getElem_cons_zero, List.getElem_cons_succ])
        refine wpAnyH_take (i := 4) (v := ?_) rfl (by kernel_rfl) (by kernel_rfl) (by kernel_rfl) (fun _ _ _ h => h) (Or.inl ⟨by rfl, ?_⟩) (by assumption) ?_
        rotate_left
        · (intro wx hSw; have l5 := HLK5 wx hSw; go_simp; (try with_reducible rfl); (try omega))
        (try simp only [Act.put, List.setIfInBounds_toArray, List.set_cons_zero, List.set_cons_succ, List.getElem_toArray, List.getElem_cons_zero, List.getElem_cons_succ])
        refine wpAnyH_take (i := 5) (v := ?_) rfl (by kernel_rfl) (by kernel_rfl) (by kernel_rfl) (fun _ _ _ h => h) (Or.inl ⟨by rfl, ?_⟩) (by assumption) ?_
        rotate_left
        · (intro wx hSw; have l5 := HLK5 wx hSw; go_simp; (try with_reducible rfl); (try omega))
        (try simp only [Act.put, List.setIfInBounds_toArray, List.set_cons_zero, List.set_cons_succ, List.getElem_toArray, List.getElem_cons_zero, List.getElem_cons_succ])
        refine wpAnyH_ready (rs := [1]) (by kernel_rfl) (by simp) ?_
        refine AllReadyH.cons rfl (fun K hK => ?_) AllReadyH.nil
        go_simp
        refine (dCount_any x.a x.c x.E _ (HA.out.later (below_through (below_through hS.b hb5.size hb5) hB.size hB))).mono ?_
        rintro e w9 ⟨rfl, hb9⟩
        have hS := hS.below hb9
        refine hK.out _ _ hS.b (fun hHeld => ?_)
        clear hK K
        (try simp only [Act.put, List.setIfInBounds_toArray, List.set_cons_zero, List.set_cons_succ, List.getElem_toArray, List.getElem_cons_zero, List.getElem_cons_succ])
        refine wpAnyH_take (i := 7) (v := ?_) rfl (by kernel_rfl) (by kernel_rfl) (by kernel_rfl) (fun _ _ _ h => h) (Or.inl ⟨by rfl, ?_⟩) (by assumption) ?_
        rotate_left
        · (intro wx hSw; have l5 := HLK5 wx hSw; go_simp; (try with_reducible rfl); (try omega))
        (try simp only [Act.put, List.setIfInBounds_toArray, List.set_cons_zero, List.set_cons_succ, List.getElem_toArray, List.getElem_cons_zero, List.getElem_cons_succ])
        refine wpAnyH_ready (rs := [6]) (by kernel_rfl) (by simp) ?_
        refine AllReadyH.cons rfl (fun K hK => ?_) AllReadyH.nil
        go_simp
        refine (dCountNow_any x.a aB x.c cB x.E B _ (HA.out.later (below_through (below_through hS.b hb5.size hb5) hB.size hB)) (HBB.out.later (below_through (below_through hS.b hb5.size hb5) hB.size hB)) hlen habs.out).mono ?_
        rintro e w9 ⟨rfl, hb9⟩
        have hS := hS.below hb9
        have s0 := hS.v.cell 0 rfl
        have f0 := hS.v.frz 0 (by simp)
        refine hK.out _ _ hS.b (fun hHeld => ?_)
        clear hK K
        (try simp only [Act.put, List.setIfInBounds_toArray, List.set_cons_zero, List.set_cons_succ, List.getElem_toArray, List.getElem_cons_zero, List.getElem_cons_succ])
        refine wpAnyH_ready (rs := [8]) (by kernel_rfl) (by simp) ?_
        refine AllReadyH.cons rfl (fun K hK => ?_) AllReadyH.nil
        go_simp
        have hS := hS.put0 (sizeB (x.E.map pr))
        clear s0 f0
        have s2 := hS.v.cell 2 rfl
        have f2 := hS.v.frz 2 (by simp)
        refine hK.out _ _ hS.b (fun hHeld => ?_)
        clear hK K
        (try simp only [Act.put, List.setIfInBounds_toArray, List.set_cons_zero, List.set_cons_succ, List.getElem_toArray, List.getElem_cons_zero, List.getElem_cons_succ])
        refine wpAnyH_take (i := 9) (v := ?_) rfl (by kernel_rfl) (by kernel_rfl) (by kernel_rfl) (fun _ _ _ h => h) (Or.inl ⟨by rfl, ?_⟩) (by assumption) ?_
        rotate_left
        · (intro wx hSw; have l5 := HLK5 wx hSw; go_simp; (try with_reducible rfl); (try omega))
        (try simp only [Act.put, List.setIfInBounds_toArray, List.set_cons_zero, List.set_cons_succ, List.getElem_toArray, List.getElem_cons_zero, List.getElem_cons_succ])
        refine wpAnyH_ready (rs := [10]) (by kernel_rfl) (by simp) ?_
        refine AllReadyH.cons rfl (fun K hK => ?_) AllReadyH.nil
        go_simp
        have hS := hS.put2 (nowC (x.E.map pr ++ B.map pr))
        clear s2 f2
        refine hK.out _ _ hS.b (fun hHeld => ?_)
        clear hK K
        (try simp only [Act.put, List.setIfInBounds_toArray, List.set_cons_zero, List.set_cons_succ, List.getElem_toArray, List.getElem_cons_zero, List.getElem_cons_succ])
        refine wpAnyH_done (by kernel_rfl) ?_ _
        have hb6 := below_through hS.b hb5.size hb5
        have v0 := hS.v.cell 0 rfl
        have v1 := hS.v.cell 1 rfl
        have v2 := hS.v.cell 2 rfl
        obtain ⟨w9, hput, hM9, hg9⟩ := (HM.out.later hb6).put (t := 130) (e := 166) Tryz.underlying9 Tryz.underlying130 (by unfold maxLen; omega) HSS.out (.agg #[.int .i64 (sizeB (x.E.map pr)), .int .i64 cc, .int .i64 (nowC (x.E.map pr ++ B.map pr))])
        clear hHeld hS
        go_wp2_with fail
        exact ⟨⟨i + 1, n + 1, by omega, by omega, by go_num, by rw [HTK.out, HV.out]; exact hM9, (HL.out.later hb6).grownM (HM.out.later hb6) hg9, (below_through hb6 hB.size hB).grown hg9 (below_through hb6 hB.size hB).size (fun k hk => by cases hk; omega)⟩, by simp [intOf]; omega⟩
    · have hie : ¬ (i : Int) < (N : Int) := by omega
      rw [List.take_of_length_le (by rw [HN.out]; omega)] at hM
      have HM := hid0 hM
      have hB := hB
      clear hM
      go_wp2
      go_ret
      exact ⟨⟨_, rfl, n, HM.out⟩, hB⟩
end Go.Proofs.YtfdkajefcplfjaaGreat

/- The project's layer 14 (delta): Cost: the contract of the call, in whatever memory. Conditions: the plan's and the names' cells are known, and what is read is not too much. -/
namespace Go.Proofs.YtfdkajefcplfjaaGreat
open Go.RowKit

/-- What the net rows of all parts cost. -/
def costD (old ch : List Nx) (ps : List Px) : Int := ps.foldl (fun n p => addMany n (pcD (szD old ch) (0, 1) p.fs).1) 0
theorem costD_take {old ch : List Nx} {ps : List Px} {i : Nat} (h : i < ps.length) : costD old ch (ps.take (i + 1)) = addMany (costD old ch (ps.take i)) (pcD (szD old ch) (0, 1) ps[i].fs).1 := by
  unfold costD
  rw [List.take_succ_eq_append_getElem h, List.foldl_append]
  rfl
theorem pc_in (old ch : List Nx) (fs : List ByteArray) : 0 ≤ (pcD (szD old ch) (0, 1) fs).1 ∧ (pcD (szD old ch) (0, 1) fs).1 ≤ maxMany := (pcD_in (szD_ok old ch) fs (0, 1) (by unfold maxMany; omega) (by unfold maxMany; omega)).1
theorem costD_in' (old ch : List Nx) : ∀ (ps : List Px) (n : Int), 0 ≤ n ∧ n ≤ maxMany → 0 ≤ ps.foldl (fun n p => addMany n (pcD (szD old ch) (0, 1) p.fs).1) n ∧ ps.foldl (fun n p => addMany n (pcD (szD old ch) (0, 1) p.fs).1) n ≤ maxMany
  | [], _, h => h
  | p :: ps, _, h => costD_in' old ch ps _ (addMany_in h (pc_in old ch p.fs).1)
theorem costD_in (old ch : List Nx) (ps : List Px) : 0 ≤ costD old ch ps ∧ costD old ch ps ≤ maxMany := costD_in' old ch ps 0 (by unfold maxMany; omega)
theorem szF_at {old ch : List Nx} {L : List ByteArray} {s : ByteArray} (h : s ∈ L) : szF old ch L s.data.toList = some (szD old ch s.data.toList).val := by
  unfold szF
  rw [if_pos (List.mem_map_of_mem h)]
set_option maxRecDepth 100000 in
set_option maxHeartbeats 4000000 in
theorem dCost_any {k : Nat} (a : Option Addr) (c : Nat) (ps : List Px) (a1 : Option Addr) (c1 : Nat) (old : List Nx) (a2 : Option Addr) (c2 : Nat) (ch : List Nx) (w : World) (hp : PsOk w k a c ps) (hN : (namesF ps).length ≤ 4000000) (ho : NsOk w a1 old) (hc : NsOk w a2 ch) (hs : ∀ s ∈ namesF ps, FewN old ch s) :
    Calls Tryz.prog 57 #[planV a ps.length c, .slice a1 old.length c1, .slice a2 ch.length c2] w fun e w' => e = .returned (.int .i64 (costD old ch ps)) ∧ Below w.heap.size w w' := by
  have hS := (⟨VarB.new w [.slice a ps.length c] 24, (Below.refl _ _).alloc (Nat.le_refl _) _⟩ : SPlan w w.heap.size [.slice a ps.length c] _).below (Below.drew (Below.refl _ _))
  unfold planV
  go_enter Tryz.func57, Tryz.ntmps57
  go_wp2_with fail
  refine wp_region_held_drew (S := SPlan w w.heap.size [.slice a ps.length c]) (by kernel_rfl) hS (fun hHeld => ?_)
  refine wpAnyH_take (i := 0) (v := .agg [.slice a ps.length c].toArray) rfl (by kernel_rfl) (by kernel_rfl) (by kernel_rfl) (fun _ _ _ h => h) (yieldsIf_load_mid rfl 24 _ rfl w.heap.size (0) rfl [.slice a ps.length c] _ (fun w h => h.v.at_) Tryz.underlying24 rfl (sizePlan)) (by assumption) ?_
  (try simp only [Act.put, List.setIfInBounds_toArray, List.set_cons_zero, List.set_cons_succ, List.getElem_toArray, List.getElem_cons_zero])
  refine wpAnyH_take (i := 1) (v := ?_) rfl (by kernel_rfl) (by kernel_rfl) (by kernel_rfl) (fun _ _ _ h => h) (Or.inl ⟨by rfl, ?_⟩) (by assumption) ?_
  rotate_left
  · (intro wx hSw; go_simp; (try with_reducible rfl); (try omega))
  (try simp only [Act.put, List.setIfInBounds_toArray, List.set_cons_zero, List.set_cons_succ, List.getElem_toArray, List.getElem_cons_zero, List.getElem_cons_succ])
  refine wpAnyH_take (i := 3) (v := ?_) rfl (by kernel_rfl) (by kernel_rfl) (by kernel_rfl) (fun _ _ _ h => h) (Or.inl ⟨by rfl, ?_⟩) (by assumption) ?_
  rotate_left
  · (intro wx hSw; go_simp; (try with_reducible rfl); (try omega))
  (try simp only [Act.put, List.setIfInBounds_toArray, List.set_cons_zero, List.set_cons_succ, List.getElem_toArray, List.getElem_cons_zero, List.getElem_cons_succ])
  refine wpAnyH_ready (rs := [2]) (by kernel_rfl) (by simp) ?_
  refine AllReadyH.cons rfl (fun K hK => ?_) AllReadyH.nil
  go_simp
  refine (dThere_any _ _ _ _ (ho.later hS.b)).mono ?_
  rintro e W3 ⟨⟨b1, rfl, hT1⟩, hb⟩
  have hS := hS.below hb
  clear hb
  refine hK.out _ _ hS (fun hHeld => ?_)
  clear hK K
  (try simp only [Act.put, List.setIfInBounds_toArray, List.set_cons_zero, List.set_cons_succ, List.getElem_toArray, List.getElem_cons_zero, List.getElem_cons_succ])
  refine wpAnyH_ready (rs := [4]) (by kernel_rfl) (by simp) ?_
  refine AllReadyH.cons rfl (fun K hK => ?_) AllReadyH.nil
  go_simp
  refine (dThere_any _ _ _ _ (hc.later hS.b)).mono ?_
  rintro e W4 ⟨⟨b2, rfl, hT2⟩, hb⟩
  have hS := hS.below hb
  have hT1 := hT1.later hb
  clear hb
  refine hK.out _ _ hS (fun hHeld => ?_)
  clear hK K
  (try simp only [Act.put, List.setIfInBounds_toArray, List.set_cons_zero, List.set_cons_succ, List.getElem_toArray, List.getElem_cons_zero, List.getElem_cons_succ])
  refine wpAnyH_ready (rs := [5]) (by kernel_rfl) (by simp) ?_
  refine AllReadyH.cons rfl (fun K hK => ?_) AllReadyH.nil
  go_simp
  refine (dSizes_any a c ps b1 b2 old ch _ (hp.later hS.b) hN hT1 hT2 (fun x hx => ((ho.later hS.b).ok x hx).1) (fun x hx => ((hc.later hS.b).ok x hx).1) hs).mono ?_
  rintro e W5 ⟨⟨bm, mn, rfl, hM⟩, hb⟩
  have hS := hS.below hb
  clear hb
  refine hK.out _ _ hS (fun hHeld => ?_)
  clear hK K
  (try simp only [Act.put, List.setIfInBounds_toArray, List.set_cons_zero, List.set_cons_succ, List.getElem_toArray, List.getElem_cons_zero, List.getElem_cons_succ])
  refine wpAnyH_take (i := 6) (v := ?_) rfl (by kernel_rfl) (by kernel_rfl) (by kernel_rfl) (fun _ _ _ h => h) (Or.inl ⟨by rfl, ?_⟩) (by assumption) ?_
  rotate_left
  · (intro wx hSw; go_simp; (try with_reducible rfl); (try omega))
  (try simp only [Act.put, List.setIfInBounds_toArray, List.set_cons_zero, List.set_cons_succ, List.getElem_toArray, List.getElem_cons_zero, List.getElem_cons_succ])
  refine wpAnyH_done (by kernel_rfl) ?_ _
  have hB0 := hS.b
  have p0 := hS.v.cell 0 rfl
  have hfew := hp.few
  have HP := hid0 hp
  have HM := hid0 hM
  have HG := hid0 (show ∀ p ∈ ps, ∀ s ∈ p.fs, szF old ch (riseB (namesF ps)) s.data.toList = some (szD old ch s.data.toList).val from fun p hp s hs => szF_at ((mem_riseB _ _).2 (List.mem_flatMap.2 ⟨p, hp, hs⟩)))
  clear hS hHeld hp hM ho hc hs hN
  go_wp2_with fail
  go_loopw [8, 20] (fun nv iv wr => ∃ i : Nat, i ≤ ps.length ∧ iv = .int .i64 i ∧ nv = .int .i64 (costD old ch (ps.take i)) ∧ Below W5.heap.size W5 wr) (fun _ iv _ => ps.length - (intOf iv).toNat)
  case atStart => exact ⟨0, Nat.zero_le _, rfl, rfl, Below.refl _ _⟩
  case round =>
    obtain ⟨i, hi, rfl, rfl, hB5⟩ := hrel
    have hB := below_through hB5 hB0.size hB0
    have hsz := hB.size
    by_cases hlt : i < ps.length
    · obtain ⟨b1, o1, rfl, hb1, hR⟩ := (HP.out.later hB).part i hlt
      have hm := List.getElem_mem hlt
      have hok := HP.out.ok _ hm
      have hgs := HG.out _ hm
      have hst := costD_take (old := old) (ch := ch) hlt
      clear hm
      generalize ps[i] = p at hR hok hst hgs
      have hin := costD_in old ch (ps.take i)
      have hinF := pc_in old ch p.fs
      have C : ∀ W, Below W5.heap.size W5 W → Calls Tryz.prog 96 #[.agg p.cells.toArray, .map (some bm)] W fun e w' => e = .returned (.int .i64 (pcD (szD old ch) (0, 1) p.fs).1) ∧ Below W.heap.size W w' := fun W hW => dPartCost_any p bm mn _ _ W (hok.later (below_through hW hB0.size hB0)) (HM.out.later hW) hgs (szD_ok old ch)
      generalize costD old ch (ps.take i) = N at hst hin ⊢
      have hinF2 : 0 ≤ (pcD (szD old ch) (0, 1) p.fs).1 ∧ (pcD (szD old ch) (0, 1) p.fs).1 ≤ 9223372036854775807 := by unfold maxMany at hinF; omega
      have HST := hid0 hst
      have HIN := hid0 hin
      have V0 : VarB (wr.alloc (Obj.cells #[.bool false, .slice none 0 0, .slice none 0 0, .int .i64 0, .int .i64 0, .int .i64 0, .int .i64 0, .int .i64 0, .int .i64 0, .string ⟨#[]⟩, .slice none 0 0, .int .i64 0, .int .i64 0, .int .i64 0, .int .i64 0, .string ⟨#[]⟩, .slice none 0 0, .slice none 0 0, .slice none 0 0, .slice none 0 0] 50)) wr.heap.size zPx := VarB.new wr zPx 50
      have hl := p.cells_len
      have h1' := p.one
      have hB5s := hB5.size
      have hBA := Below.alloc hB5 hB5s (Obj.cells #[.bool false, .slice none 0 0, .slice none 0 0, .int .i64 0, .int .i64 0, .int .i64 0, .int .i64 0, .int .i64 0, .int .i64 0, .string ⟨#[]⟩, .slice none 0 0, .int .i64 0, .int .i64 0, .int .i64 0, .int .i64 0, .string ⟨#[]⟩, .slice none 0 0, .slice none 0 0, .slice none 0 0, .slice none 0 0] 50)
      have HC := hid0 C
      clear hst hB C hok hin hinF hgs
      generalize p.cells = us at hR hl h1' HC
      generalize (pcD (szD old ch) (0, 1) p.fs).1 = X at *
      have HX := hid0 hinF2
      clear hinF2
      go_wp2_with (first | ((with_reducible refine wp_getB hR Tryz.underlying50 ?_ ?_ ?_ ?_); (rfl); (rw [hl]; exact sizePx); (rfl); simp only [Act.put]) | ((with_reducible refine wp_putB V0 h1' ?_ ?_ ?_ ?_ ?_); (exact hl); (exact sizePx); (rfl); (rfl); intro w5 hV5 hw5; (have hb5 : Below W5.heap.size W5 w5 := by rw [hw5.out]; exact below_setCells _ 0 hBA hB5s); clear hw5; simp only [Act.put]) | ((with_reducible refine wp_getB hV5.at_ Tryz.underlying50 ?_ ?_ ?_ ?_); (rfl); (rw [hl]; exact sizePx); (rfl); simp only [Act.put]) | (go_at_call 96; go_must (refine (HC.out _ hb5).mono ?_; rintro e w6 ⟨rfl, hb6⟩; (have hb7 := below_through hb6 hb5.size hb5); clear hb6)) | (go_at_call 95; go_must (refine (dPlus_any N X _ HIN.out HX.out).mono ?_; rintro e w8 ⟨rfl, hw8⟩; subst hw8)) | fail)
      exact ⟨⟨i + 1, by omega, by go_num, by rw [HST.out], hb7⟩, by simp [intOf]; omega⟩
    · have hie : ¬ (i : Int) < ps.length := by omega
      go_wp2
      go_ret
      exact ⟨ret_i64 (by rw [List.take_of_length_le (by omega)]), hB⟩
end Go.Proofs.YtfdkajefcplfjaaGreat
