/- Several of my texts laid together, each as it was: U3, P5. Conditions: each names its own. -/
import Derived.Test.YtjmoegcfgadjiaaGreatG8
import Derived.Test.YtjmoegcfgadjiaaGreatG9
import Derived.Test.YtjmoegcfgadjiaaGreatJ2
import Derived.Test.YtjmoegcfgadjiaaGreatH5
import Derived.Test.YtjmoegcfgadjiaaGreatL2
import Derived.Test.YtjmoegcfgadjiaaGreatH8
/- What a plan tells hangs, plainly, on the names alone that it reads. Nothing of any program here. Conditions: each lemma names its own. -/
namespace Go.Proofs.YtjmoegcfgadjiaaGreat
open Go.RowKit

/-- The same rows under each name that is read. -/
def Alike1 (l l' : List Nx) (fs : List ByteArray) : Prop := ∀ s ∈ fs, findN l s.data.toList = findN l' s.data.toList
theorem alike_ready {l l' : List Nx} : ∀ {fs : List ByteArray} {ws : List Int}, Alike1 l l' fs → readyFE l fs ws = readyFE l' fs ws
  | [], _, _ => by simp [readyFE]
  | _ :: _, [], _ => by simp [readyFE]
  | s :: fs, w :: ws, h => by
    have e : fitsE l s.data.toList w = fitsE l' s.data.toList w := by unfold fitsE; rw [h s (by simp)]
    unfold readyFE
    rw [e, alike_ready (fun t ht => h t (List.mem_cons_of_mem _ ht))]
theorem alike_cost {l l' : List Nx} {fs : List ByteArray} (h : Alike1 l l' fs) : costF l fs = costF l' fs := by
  have : ∀ (fs : List ByteArray) (n : Int), Alike1 l l' fs → fs.foldl (fun n s => timesM n (sizeN l s.data.toList)) n = fs.foldl (fun n s => timesM n (sizeN l' s.data.toList)) n := by
    intro fs
    induction fs with
    | nil => intro n _; rfl
    | cons s fs ih =>
      intro n h
      have e : sizeN l s.data.toList = sizeN l' s.data.toList := by unfold sizeN; rw [h s (by simp)]
      rw [List.foldl_cons, List.foldl_cons, e]
      exact ih _ (fun t ht => h t (List.mem_cons_of_mem _ ht))
  exact this fs 1 h
theorem alike_prod {l l' : List Nx} {fs : List ByteArray} (h : Alike1 l l' fs) : prodB l fs = prodB l' fs := by
  have : ∀ (fs : List ByteArray) (R : List Pair), Alike1 l l' fs → fs.foldl (fun R s => pairsB R (rowsN l s.data.toList)) R = fs.foldl (fun R s => pairsB R (rowsN l' s.data.toList)) R := by
    intro fs
    induction fs with
    | nil => intro R _; rfl
    | cons s fs ih =>
      intro R h
      have e : rowsN l s.data.toList = rowsN l' s.data.toList := by unfold rowsN; rw [h s (by simp)]
      rw [List.foldl_cons, List.foldl_cons, e]
      exact ih _ (fun t ht => h t (List.mem_cons_of_mem _ ht))
  exact this fs oneB h
theorem alike_kept {l l' : List Nx} {p : Px} (h : Alike1 l l' p.fs) : keptB l p = keptB l' p := by
  unfold keptB sideB; rw [alike_cost h, alike_prod h]
theorem alike_rows {l l' : List Nx} {ps : List Px} (h : ∀ p ∈ ps, Alike1 l l' p.fs) : rowsM l ps = rowsM l' ps ∧ costP l ps = costP l' ps := by
  have e1 : readyE l ps = readyE l' ps := by
    unfold readyE
    have : readyLE l ps = readyLE l' ps := by
      induction ps with
      | nil => rfl
      | cons p ps ih =>
        unfold readyLE
        rw [alike_ready (h p (by simp)), ih (fun q hq => h q (List.mem_cons_of_mem _ hq))]
    rw [this]
  have e2 : costP l ps = costP l' ps := by
    have : ∀ (ps : List Px) (n : Int), (∀ p ∈ ps, Alike1 l l' p.fs) → ps.foldl (fun n p => addMany n (costF l p.fs)) n = ps.foldl (fun n p => addMany n (costF l' p.fs)) n := by
      intro ps
      induction ps with
      | nil => intro n _; rfl
      | cons p ps ih =>
        intro n h
        rw [List.foldl_cons, List.foldl_cons, alike_cost (h p (by simp))]
        exact ih _ (fun q hq => h q (List.mem_cons_of_mem _ hq))
    exact this ps 0 h
  have e3 : allE l ps = allE l' ps := by
    unfold allE
    rw [List.map_congr_left (fun p hp => by rw [alike_kept (h p hp)])]
  have e4 : allL l ps = allL l' ps := by
    unfold allL
    clear e1 e2 e3
    induction ps with
    | nil => rfl
    | cons p ps ih => rw [List.flatMap_cons, List.flatMap_cons, alike_kept (h p (by simp)), ih (fun q hq => h q (List.mem_cons_of_mem _ hq))]
  refine ⟨?_, e2⟩
  unfold rowsM
  rw [e1, e2, e3, e4]
/-- No name twice. -/
def Sole (l : List Nx) : Prop := l.Pairwise fun x y => x.s.data.toList ≠ y.s.data.toList
theorem find_rev {l : List Nx} (h : Sole l) (s : List UInt8) : findN l.reverse s = findN l s := by
  unfold findN
  induction l with
  | nil => rfl
  | cons x l ih =>
    obtain ⟨h1, h2⟩ := List.pairwise_cons.1 h
    rw [List.reverse_cons, List.find?_append, ih h2]
    by_cases hx : (x.s.data.toList == s) = true
    · have hn : l.find? (fun x => x.s.data.toList == s) = none := List.find?_eq_none.2 fun y hy => by
        have := h1 y hy
        have hxs : x.s.data.toList = s := by simpa using hx
        rw [hxs] at this
        simpa using fun e => this e.symm
      rw [hn, List.find?_cons, List.find?_cons, hx]; rfl
    · have hx' : (x.s.data.toList == s) = false := by simpa using hx
      rw [List.find?_cons, List.find?_cons, hx', List.find?_nil, Option.or_none]
theorem find_other {l : List Nx} (h : Sole l) (x : Nx) (hx : x.s.data.toList = []) {s : List UInt8} (hs : s ≠ []) : findN (x :: l.reverse) s = findN l s := by
  rw [← find_rev h]
  unfold findN
  rw [List.find?_cons, show (x.s.data.toList == s) = false by rw [hx]; cases s with
    | nil => exact absurd rfl hs
    | cons a s => rfl]
/-- In another order, with a name more that isn't read. -/
theorem names_law {l : List Nx} (h : Sole l) (x : Nx) (hx : x.s.data.toList = []) {ps : List Px} (hp : ∀ p ∈ ps, ∀ s ∈ p.fs, s.data.toList ≠ []) : rowsM l ps = rowsM (x :: l.reverse) ps ∧ costP l ps = costP (x :: l.reverse) ps :=
  alike_rows fun p hm s hs => (find_other h x hx (hp p hm s hs)).symm
end Go.Proofs.YtjmoegcfgadjiaaGreat

/- PlanNames: the law's call, in whatever memory: it is true. Conditions: the plan's, the names' and the rows' cells are known. -/
namespace Go.Proofs.YtjmoegcfgadjiaaGreat
open Go.RowKit

theorem rows_few4 {l : List Nx} {ps : List Px} (hv : ∀ x ∈ l, ∀ e ∈ x.E, ∀ v ∈ e.r, inI v) : (rowsM l ps).1.length ≤ 10000 := by
  by_cases h : (rowsM l ps).2 = 0
  · obtain ⟨h4, hs⟩ := allL_small4 h hv
    obtain ⟨_, _, _, e⟩ := rowsM_ok h
    have h1 := (hs ps.length).2
    rw [List.take_of_length_le (Nat.le_refl _)] at h1
    rw [e]
    have h2 := len_ofB (allL l ps)
    omega
  · rw [rowsM_none h]; simp
/-- A list of one name, just laid. -/
theorem WideAt.one (W : World) (x : Nx) (hs : x.s.size ≤ maxLen) (hx : ElemsI W x.a x.c x.E) : WideAt W (W.alloc (Obj.cells #[.string x.s, .slice x.a x.E.length x.c] 59)) (.slice (some ⟨W.heap.size, 0, none⟩) 1 1) [x] :=
  ⟨⟨by simp [cellsNx, Nx.cells], .inr ⟨W.heap.size, 1, #[.string x.s, .slice x.a x.E.length x.c], rfl, Nat.le_refl _, heap_alloc_new W _, Nat.le_refl _, by unfold maxLen; omega, rfl, by simp [cellsNx, Nx.cells]⟩⟩, fun y hy => by obtain rfl := List.mem_singleton.1 hy; exact ⟨hs, .inl hx⟩, (Below.refl _ _).alloc (Nat.le_refl _) _⟩
/-- The plan's box. -/
structure SNm (w : World) (us : List Value) (W : World) : Prop where
  v : VarB W w.heap.size us
  b : Below w.heap.size w W
theorem SNm.below {w : World} {us : List Value} {W W' : World} (h : SNm w us W) (hb : Below W.heap.size W W') : SNm w us W' := ⟨h.v.below hb, below_through hb h.b.size h.b⟩
/-- The plan's box, while elder worlds' memory stays. -/
structure SNn (w W9 w2 : World) (us : List Value) (W : World) : Prop where
  v : VarB W w.heap.size us
  b : Below w.heap.size w W
  b9 : Below W9.heap.size W9 W
  b2 : Below w2.heap.size w2 W
theorem SNn.below {w W9 w2 : World} {us : List Value} {W W' : World} (h : SNn w W9 w2 us W) (hb : Below W.heap.size W W') : SNn w W9 w2 us W' := ⟨h.v.below hb, below_through hb h.b.size h.b, below_through hb h.b9.size h.b9, below_through hb h.b2.size h.b2⟩
theorem sole_snoc {l : List Nx} {i : Nat} (hi : i < l.length) (h : Sole (l.take i)) (hk : ∀ k (hk : k < i), (l[k]'(by omega)).s.data.toList ≠ l[i].s.data.toList) : Sole (l.take (i + 1)) := by
  rw [List.take_succ_eq_append_getElem hi]
  refine List.pairwise_append.2 ⟨h, List.pairwise_singleton _ _, fun x hx y hy => ?_⟩
  obtain rfl := List.mem_singleton.1 hy
  obtain ⟨k, hk2, rfl⟩ := List.mem_take_iff_getElem.1 hx
  exact hk k (by omega)
theorem str_facts {s t : ByteArray} : (s = t → (s.toList == t.toList) = true) ∧ (s ≠ t → (s.toList == t.toList) = false ∧ s.data.toList ≠ t.data.toList) := by
  refine ⟨fun e => by rw [e]; simp, fun hs => ?_⟩
  have hne : ¬ s.data.toList = t.data.toList := fun e => hs (ByteArray.ext (Array.ext' e))
  have hne2 : ¬ s.toList = t.toList := fun e => hne (by rw [ByteArray.toList_eq, ByteArray.toList_eq] at e; exact e)
  exact ⟨by simpa using hne2, hne⟩
set_option maxHeartbeats 8000000 in
set_option maxRecDepth 1000000 in
theorem lawPlanNames {n : Nat} (a : Option Addr) (c : Nat) (ps : List Px) (a2 : Option Addr) (c2 : Nat) (l : List Nx) (a3 : Option Addr) (c3 : Nat) (M : List Elem) (w : World) (hP : PsOk w n a c ps) (hL : NsOk w a2 l) (hM : ElemsI w a3 c3 M) (hlL : l.length ≤ 1048576) :
    Calls Tryz.prog 6 #[planV a ps.length c, .slice a2 l.length c2, .slice a3 M.length c3] w fun e w' => e = .returned (.bool true) ∧ Below w.heap.size w w' := by
  have hfew := hP.few
  have hlf := hL.few
  have HP := hid0 hP
  have HL := hid0 hL
  have HM := hid0 hM
  have CA := hid0 (fun W => awake12_any W)
  have hvI : ∀ x ∈ l, ∀ e ∈ x.E, ∀ v ∈ e.r, inI v := fun x hx e he v hv => ((hL.ok x hx).1.i e he).1 v hv
  have HV := hid0 hvI
  have hS0 : SNm w [.slice a ps.length c] (w.alloc (Obj.cells #[.slice a ps.length c] 24)) := ⟨VarB.new w [.slice a ps.length c] 24, (Below.refl _ _).alloc (Nat.le_refl _) _⟩
  clear hP hL hM hvI
  unfold planV
  go_enter Tryz.func6, Tryz.ntmps6
  go_wp2
  go_loopw [7] (fun iv wr => ∃ i : Nat, i ≤ l.length ∧ iv = .int .i64 i ∧ Hid (Sole (l.take i)) ∧ SNm w [.slice a ps.length c] wr) (fun iv _ => l.length - (intOf iv).toNat)
  case atStart => exact ⟨0, Nat.zero_le _, rfl, hid0 (by simp [Sole]), hS0⟩
  case round =>
    clear hS0
    obtain ⟨i, hi, rfl, hSo, hS⟩ := hrel
    by_cases hlt : i < l.length
    · obtain ⟨b1, o1, rfl, hbb, hR⟩ := HL.out.name i hlt
      have hRi := fun (W : World) (hW : Below w.heap.size w W) => cell_later hW (hR 0 (.string l[i].s) rfl)
      simp only [Nat.add_zero] at hRi
      obtain ⟨si, hsi⟩ : ∃ si, l[i].s = si := ⟨_, rfl⟩
      rw [hsi] at hRi
      have HSI := hid0 hsi
      have HRI := hid0 hRi
      have hin : (i : Int) < (l.length : Int) := by omega
      have HLT := hid0 hlt
      clear hR hsi hRi
      go_wp2
      go_loopw [8] (fun kv wr => ∃ k : Nat, k ≤ i ∧ kv = .int .i64 k ∧ Hid (∀ j (hj : j < k) (hl : j < l.length), l[j].s.data.toList ≠ si.data.toList) ∧ SNm w [.slice a ps.length c] wr) (fun kv _ => i - (intOf kv).toNat)
      case atStart => exact ⟨0, Nat.zero_le _, rfl, hid0 (fun j hj => absurd hj (Nat.not_lt_zero _)), hS⟩
      case round =>
        clear hS
        obtain ⟨k, hk, rfl, hD, hS⟩ := hrel
        by_cases hlk : k < i
        · have hkl : k < l.length := by omega
          obtain ⟨b2, o2, e2, hbb2, hR2⟩ := HL.out.name k hkl
          cases e2
          have hRk := fun (W : World) (hW : Below w.heap.size w W) => cell_later hW (hR2 0 (.string l[k].s) rfl)
          simp only [Nat.add_zero] at hRk
          have HNX := hid0 (fun (h : l[k].s ≠ si) => (show ∀ j (hj : j < k + 1) (hl : j < l.length), l[j].s.data.toList ≠ si.data.toList from fun j hj hl => by
            rcases Nat.lt_or_ge j k with h1 | h1
            · exact hD.out j h1 hl
            · obtain rfl : j = k := by omega
              exact (str_facts.2 h).2))
          generalize l[k].s = sk at hRk HNX
          have HRK := hid0 hRk
          have hkn : (k : Int) < (i : Int) := by omega
          have hknl : (k : Int) < (l.length : Int) := by omega
          have hS := hS.below (Below.drew (Below.refl _ _))
          clear hR2 hRk
          go_wp2_with fail
          refine wp_region_held_drew (S := SNm w [.slice a ps.length c]) (by kernel_rfl) hS (fun hHeld => ?_)
          refine wpAnyH_take (i := 0) (v := ?_) rfl (by kernel_rfl) (by kernel_rfl) (by kernel_rfl) (fun _ _ _ h => h) (Or.inl ⟨by rfl, ?_⟩) (by assumption) ?_
          rotate_left
          · (intro wx hSw; have z0 := HRI.out _ hSw.b; have z1 := HRK.out _ hSw.b; go_simp; (try with_reducible rfl); (try omega))
          (try simp only [Act.put, List.setIfInBounds_toArray, List.set_cons_zero, List.set_cons_succ, List.getElem_toArray, List.getElem_cons_zero])
          refine wpAnyH_take (i := 1) (v := ?_) rfl (by kernel_rfl) (by kernel_rfl) (by kernel_rfl) (fun _ _ _ h => h) (Or.inl ⟨by rfl, ?_⟩) (by assumption) ?_
          rotate_left
          · (intro wx hSw; have z0 := HRI.out _ hSw.b; have z1 := HRK.out _ hSw.b; go_simp; (try with_reducible rfl); (try omega))
          (try simp only [Act.put, List.setIfInBounds_toArray, List.set_cons_zero, List.set_cons_succ, List.getElem_toArray, List.getElem_cons_zero, List.getElem_cons_succ])
          refine wpAnyH_take (i := 2) (v := ?_) rfl (by kernel_rfl) (by kernel_rfl) (by kernel_rfl) (fun _ _ _ h => h) (Or.inl ⟨by rfl, ?_⟩) (by assumption) ?_
          rotate_left
          · (intro wx hSw; have z0 := HRI.out _ hSw.b; have z1 := HRK.out _ hSw.b; go_simp; (try with_reducible rfl); (try omega))
          (try simp only [Act.put, List.setIfInBounds_toArray, List.set_cons_zero, List.set_cons_succ, List.getElem_toArray, List.getElem_cons_zero, List.getElem_cons_succ])
          refine wpAnyH_take (i := 3) (v := ?_) rfl (by kernel_rfl) (by kernel_rfl) (by kernel_rfl) (fun _ _ _ h => h) (Or.inl ⟨by rfl, ?_⟩) (by assumption) ?_
          rotate_left
          · (intro wx hSw; have z0 := HRI.out _ hSw.b; have z1 := HRK.out _ hSw.b; go_simp; (try with_reducible rfl); (try omega))
          (try simp only [Act.put, List.setIfInBounds_toArray, List.set_cons_zero, List.set_cons_succ, List.getElem_toArray, List.getElem_cons_zero, List.getElem_cons_succ])
          refine wpAnyH_take (i := 4) (v := ?_) rfl (by kernel_rfl) (by kernel_rfl) (by kernel_rfl) (fun _ _ _ h => h) (Or.inl ⟨by rfl, ?_⟩) (by assumption) ?_
          rotate_left
          · (intro wx hSw; have z0 := HRI.out _ hSw.b; have z1 := HRK.out _ hSw.b; go_simp; (try with_reducible rfl); (try omega))
          (try simp only [Act.put, List.setIfInBounds_toArray, List.set_cons_zero, List.set_cons_succ, List.getElem_toArray, List.getElem_cons_zero, List.getElem_cons_succ])
          refine wpAnyH_take (i := 5) (v := ?_) rfl (by kernel_rfl) (by kernel_rfl) (by kernel_rfl) (fun _ _ _ h => h) (Or.inl ⟨by rfl, ?_⟩) (by assumption) ?_
          rotate_left
          · (intro wx hSw; have z0 := HRI.out _ hSw.b; have z1 := HRK.out _ hSw.b; go_simp; (try with_reducible rfl); (try omega))
          (try simp only [Act.put, List.setIfInBounds_toArray, List.set_cons_zero, List.set_cons_succ, List.getElem_toArray, List.getElem_cons_zero, List.getElem_cons_succ])
          refine wpAnyH_take (i := 6) (v := ?_) rfl (by kernel_rfl) (by kernel_rfl) (by kernel_rfl) (fun _ _ _ h => h) (Or.inl ⟨by rfl, ?_⟩) (by assumption) ?_
          rotate_left
          · (intro wx hSw; have z0 := HRI.out _ hSw.b; have z1 := HRK.out _ hSw.b; go_simp; (try with_reducible rfl); (try omega))
          (try simp only [Act.put, List.setIfInBounds_toArray, List.set_cons_zero, List.set_cons_succ, List.getElem_toArray, List.getElem_cons_zero, List.getElem_cons_succ])
          refine wpAnyH_take (i := 7) (v := ?_) rfl (by kernel_rfl) (by kernel_rfl) (by kernel_rfl) (fun _ _ _ h => h) (Or.inl ⟨by rfl, ?_⟩) (by assumption) ?_
          rotate_left
          · (intro wx hSw; have z0 := HRI.out _ hSw.b; have z1 := HRK.out _ hSw.b; go_simp; (try with_reducible rfl); (try omega))
          (try simp only [Act.put, List.setIfInBounds_toArray, List.set_cons_zero, List.set_cons_succ, List.getElem_toArray, List.getElem_cons_zero, List.getElem_cons_succ])
          refine wpAnyH_take (i := 8) (v := ?_) rfl (by kernel_rfl) (by kernel_rfl) (by kernel_rfl) (fun _ _ _ h => h) (Or.inl ⟨by rfl, ?_⟩) (by assumption) ?_
          rotate_left
          · (intro wx hSw; have z0 := HRI.out _ hSw.b; have z1 := HRK.out _ hSw.b; go_simp; (try with_reducible rfl); (try omega))
          (try simp only [Act.put, List.setIfInBounds_toArray, List.set_cons_zero, List.set_cons_succ, List.getElem_toArray, List.getElem_cons_zero, List.getElem_cons_succ])
          refine wpAnyH_take (i := 9) (v := ?_) rfl (by kernel_rfl) (by kernel_rfl) (by kernel_rfl) (fun _ _ _ h => h) (Or.inl ⟨by rfl, ?_⟩) (by assumption) ?_
          rotate_left
          · (intro wx hSw; have z0 := HRI.out _ hSw.b; have z1 := HRK.out _ hSw.b; go_simp; (try with_reducible rfl); (try omega))
          (try simp only [Act.put, List.setIfInBounds_toArray, List.set_cons_zero, List.set_cons_succ, List.getElem_toArray, List.getElem_cons_zero, List.getElem_cons_succ])
          by_cases hs : sk = si
          · have hse := str_facts.1 hs
            have hse2 := str_facts.1 hs.symm
            clear hs
            refine wpAnyH_take (i := 10) (v := ?_) rfl (by kernel_rfl) (by kernel_rfl) (by kernel_rfl) (fun _ _ _ h => h) (Or.inl ⟨by rfl, ?_⟩) (by assumption) ?_
            rotate_left
            · (intro wx hSw; have z0 := HRI.out _ hSw.b; have z1 := HRK.out _ hSw.b; go_simp; (try with_reducible rfl); (try omega))
            (try simp only [Act.put, List.setIfInBounds_toArray, List.set_cons_zero, List.set_cons_succ, List.getElem_toArray, List.getElem_cons_zero, List.getElem_cons_succ])
            refine wpAnyH_done (by kernel_rfl) ?_ _
            clear hHeld
            go_wp2_with (first | (go_at_call 15; go_must (refine (CA.out _).mono ?_; rintro e w2 ⟨rfl, hb2⟩; (have hS2 := hS.below hb2))) | fail)
            go_ret
            exact ⟨rfl, hS2.b⟩
          · have hse := (str_facts.2 hs).1
            have hse2 := (str_facts.2 (fun e => hs e.symm)).1
            have HNX2 := hid0 (HNX.out hs)
            clear hs
            refine wpAnyH_take (i := 10) (v := ?_) rfl (by kernel_rfl) (by kernel_rfl) (by kernel_rfl) (fun _ _ _ h => h) (Or.inl ⟨by rfl, ?_⟩) (by assumption) ?_
            rotate_left
            · (intro wx hSw; have z0 := HRI.out _ hSw.b; have z1 := HRK.out _ hSw.b; go_simp; (try with_reducible rfl); (try omega))
            (try simp only [Act.put, List.setIfInBounds_toArray, List.set_cons_zero, List.set_cons_succ, List.getElem_toArray, List.getElem_cons_zero, List.getElem_cons_succ])
            refine wpAnyH_done (by kernel_rfl) ?_ _
            have hS2 := hS
            clear hHeld hS
            go_wp2_with fail
            exact ⟨⟨k + 1, by omega, by go_num, HNX2, hS2⟩, by simp [intOf]; omega⟩
        · have hie : ¬ (k : Int) < (i : Int) := by omega
          have hSo2 := hid0 (sole_snoc HLT.out hSo.out (fun j hj => by rw [HSI.out]; exact hD.out j (by omega) _))
          have hlt2 := HLT.out
          clear hD hSo
          go_wp2
          exact ⟨⟨i + 1, by omega, by go_num, hSo2, hS⟩, by simp [intOf]; omega⟩
    · obtain rfl : i = l.length := by omega
      have hie : ¬ (l.length : Int) < (l.length : Int) := by omega
      have hSL := hid0 (show Sole l by have := hSo.out; rwa [List.take_of_length_le (Nat.le_refl _)] at this)
      clear hSo
      generalize wr = W5 at hS ⊢
      have hwl : IntKind.i64.wrap ((l.length : Int) - 1) = (l.length : Int) - 1 := IntWalk.i64_in _ (by omega)
      have hW0 : WideAt W5 (W5.alloc (Obj.cells #[.string ⟨#[]⟩, .slice a3 M.length c3] 59)) (.slice (some ⟨W5.heap.size, 0, none⟩) 1 1) [⟨⟨#[]⟩, a3, c3, M⟩] := WideAt.one W5 ⟨⟨#[]⟩, a3, c3, M⟩ (Nat.zero_le _) (HM.out.later hS.b)
      go_wp2
      go_loopw [9, 10] (fun vv iv wq => ∃ (k : Nat) (l' : List Nx), k ≤ l.length ∧ iv = .int .i64 ((k : Int) - 1) ∧ WideAt W5 wq vv l' ∧ Hid (l' = ⟨⟨#[]⟩, a3, c3, M⟩ :: (l.drop k).reverse)) (fun _ iv _ => (intOf iv + 1).toNat)
      case atStart => exact ⟨l.length, _, Nat.le_refl _, rfl, hW0, hid0 (by simp)⟩
      case round =>
        clear hW0 hwl
        obtain ⟨k, l', hk, rfl, hW, hEq⟩ := hrel
        by_cases hk0 : 0 < k
        · obtain ⟨j, rfl⟩ : ∃ j, k = j + 1 := ⟨k - 1, by omega⟩
          have hjl : j < l.length := by omega
          have hcast : (((j + 1 : Nat) : Int) - 1) = (j : Int) := by omega
          rw [hcast]
          have hS3 := hS.below hW.b
          obtain ⟨b1, o1, rfl, hbb, hR⟩ := HL.out.name j hjl
          have hx := HL.out.ok _ (List.getElem_mem hjl)
          have q0 := cell_later hS3.b (hR 0 (.string l[j].s) rfl)
          have q1 := cell_later hS3.b (hR 1 (.slice l[j].a l[j].E.length l[j].c) rfl)
          simp only [Nat.add_zero] at q0
          have HX := hid0 (show l[j].s.size ≤ maxLen ∧ ElemsI W5 l[j].a l[j].c l[j].E from ⟨hx.2, hx.1.later hS.b⟩)
          have HQ := hid0 (show l' ++ [l[j]] = ⟨⟨#[]⟩, a3, c3, M⟩ :: (l.drop j).reverse by
            rw [hEq.out, List.drop_eq_getElem_cons hjl, List.reverse_cons]; rfl)
          have hll : (l'.length + 1) * 40 ≤ 140737488355328 := by
            rw [hEq.out, List.length_cons, List.length_reverse, List.length_drop]; omega
          clear hR hx hEq hcast
          generalize l[j] = x at q0 q1 HX HQ
          have hge : (0 : Int) ≤ (j : Int) := by omega
          have hjn : (j : Int) < (l.length : Int) := by omega
          go_wp2_with (first | (at_builtin; refine wp_nx rfl _ _ rfl rfl (hW.below ((Below.refl _ _).alloc (Nat.le_refl _) _)) x _ rfl (by simp) (by simp) ⟨HX.out.1, .inl HX.out.2⟩ hll ?_; intro v9 w9 hm9 _) | fail)
          exact ⟨⟨j, _, by omega, by go_num, hm9, HQ⟩, by simp [intOf]⟩
        · obtain rfl : k = 0 := by omega
          have hge : ¬ (0 : Int) ≤ ((0 : Nat) : Int) - 1 := by decide
          have hl' : l'.length = l.length + 1 := by rw [hEq.out]; simp
          obtain ⟨a4, c4, rfl, hN4⟩ := hW.names (by omega)
          clear hl'
          have hEq2 := hEq.out
          rw [List.drop_zero] at hEq2
          have HEQ := hid0 hEq2
          have HN4 := hid0 hN4
          have hS9 := hS.below hW.b
          clear hW hEq hN4 hEq2 hS
          have hRW := names_law hSL.out ⟨⟨#[]⟩, a3, c3, M⟩ rfl (ps := ps)
          have HRW := hid0 (fun h => hRW h)
          rw [← HEQ.out] at hRW
          generalize wr = W9 at hS9 HN4
          have hB99 : Below W9.heap.size W9 W9 := Below.refl _ _
          clear HRW
          have HRW := hid0 hRW
          clear hRW HEQ hSL
          go_wp2
          go_loopw [11] (fun iv wq => ∃ i : Nat, i ≤ ps.length ∧ iv = .int .i64 i ∧ Hid (∀ p ∈ ps.take i, ∀ s ∈ p.fs, s.data.toList ≠ []) ∧ SNm w [.slice a ps.length c] wq ∧ Below W9.heap.size W9 wq) (fun iv _ => ps.length - (intOf iv).toNat)
          case atStart => exact ⟨0, Nat.zero_le _, rfl, hid0 (by simp), hS9, hB99⟩
          case round =>
            clear hS9 hB99
            obtain ⟨i, hi, rfl, hE0, hS, hB9⟩ := hrel
            have x0 := hS.v.cell 0 rfl
            by_cases hlt : i < ps.length
            · obtain ⟨b1, o1, rfl, hbb, hR⟩ := HP.out.part i hlt
              have hpk := HP.out.ok _ (List.getElem_mem hlt)
              have hPF := hid0 (fun (W : World) (hW : Below w.heap.size w W) => cell_later hW (hR 1 (.slice ps[i].fp ps[i].fs.length ps[i].fc) rfl))
              have hFS := hid0 (fun (W : World) (hW : Below w.heap.size w W) => (hpk.fs.later hW))
              have hff := hpk.fewF
              have hNX := hid0 (fun (h : ∀ s ∈ ps[i].fs, s.data.toList ≠ []) => (show ∀ p ∈ ps.take (i + 1), ∀ s ∈ p.fs, s.data.toList ≠ [] from fun p hp => by
                rw [List.take_succ_eq_append_getElem hlt] at hp
                rcases List.mem_append.1 hp with hp | hp
                · exact hE0.out p hp
                · obtain rfl := List.mem_singleton.1 hp; exact h))
              have hin : (i : Int) < (ps.length : Int) := by omega
              clear hR hpk hE0
              generalize ps[i].fp = fp at hPF hFS
              generalize ps[i].fc = fc at hPF
              generalize ps[i].fs = fs at hPF hFS hff hNX
              go_wp2
              go_loopw [12] (fun kv wq => ∃ k : Nat, k ≤ fs.length ∧ kv = .int .i64 k ∧ Hid (∀ s ∈ fs.take k, s.data.toList ≠ []) ∧ SNm w [.slice (some ⟨b1, o1, none⟩) ps.length c] wq ∧ Below W9.heap.size W9 wq) (fun kv _ => fs.length - (intOf kv).toNat)
              case atStart => exact ⟨0, Nat.zero_le _, rfl, hid0 (by simp), hS, hB9⟩
              case round =>
                clear hS hB9 x0
                obtain ⟨k, hk, rfl, hD, hS, hB9⟩ := hrel
                have x0 := hS.v.cell 0 rfl
                have q1 := hPF.out _ hS.b
                by_cases hlk : k < fs.length
                · obtain ⟨b5, o5, rfl, hc5⟩ := (hFS.out _ hS.b).out (by intro e; rw [e] at hlk; exact absurd hlk (by simp))
                  have q2 := hc5 k hlk
                  have hDX := hid0 (fun (h : fs[k].data.toList ≠ []) => (show ∀ s ∈ fs.take (k + 1), s.data.toList ≠ [] from fun s hs => by
                    rw [List.take_succ_eq_append_getElem hlk] at hs
                    rcases List.mem_append.1 hs with hs | hs
                    · exact hD.out s hs
                    · obtain rfl := List.mem_singleton.1 hs; exact h))
                  generalize fs[k] = s at q2 hDX
                  have hkn : (k : Int) < (fs.length : Int) := by omega
                  clear hc5 hD
                  by_cases hse : s.data.toList = []
                  · have he1 : s.toList.isEmpty = true := by rw [ByteArray.toList_eq, hse]; rfl
                    have he2 : (s.toList == []) = true := by rw [ByteArray.toList_eq, hse]; rfl
                    have he3 : s.toList = [] := by rw [ByteArray.toList_eq, hse]
                    clear hse
                    go_wp2_with (first | (go_at_call 15; go_must (refine (CA.out _).mono ?_; rintro e w2 ⟨rfl, hb2⟩; (have hS2 := hS.below hb2))) | fail)
                    go_ret
                    exact ⟨rfl, hS2.b⟩
                  · have hDX2 := hid0 (hDX.out hse)
                    have he3 : ¬ s.toList = [] := by rw [ByteArray.toList_eq]; exact hse
                    have he1 : s.toList.isEmpty = false := by simpa using he3
                    have he2 : (s.toList == []) = false := by simpa using he3
                    clear hse
                    go_wp2
                    exact ⟨⟨k + 1, by omega, by go_num, hDX2, hS, hB9⟩, by simp [intOf]; omega⟩
                · have hie2 : ¬ (k : Int) < (fs.length : Int) := by omega
                  have hN2 := hid0 (hNX.out (by have := hD.out; rwa [List.take_of_length_le (by omega)] at this))
                  clear hD hNX
                  go_wp2
                  exact ⟨⟨i + 1, by omega, by go_num, hN2, hS, hB9⟩, by simp [intOf]; omega⟩
            · have hie2 : ¬ (i : Int) < (ps.length : Int) := by omega
              obtain ⟨hr1, hr2⟩ := HRW.out (by have := hE0.out; rwa [List.take_of_length_le (by omega)] at this)
              have C1 := fun (W : World) (hW : Below w.heap.size w W) => planRows_all a c ps a2 c2 l W (HP.out.later hW) (HL.out.later hW)
              have C2 := fun (W : World) (hW : Below w.heap.size w W) (hW9 : Below W9.heap.size W9 W) => planRows_all a c ps a4 c4 l' W (HP.out.later hW) (HN4.out.later hW9)
              have K1 := fun (W : World) (hW : Below w.heap.size w W) => planCost_any a c ps a2 c2 l W (HP.out.later hW) (HL.out.later hW)
              have K2 := fun (W : World) (hW : Below w.heap.size w W) (hW9 : Below W9.heap.size W9 W) => planCost_any a c ps a4 c4 l' W (HP.out.later hW) (HN4.out.later hW9)
              have hRf := rows_few4 (ps := ps) HV.out
              rw [← hr1] at C2
              rw [← hr2] at K2
              unfold planV at C1 C2 K1 K2
              generalize costP l ps = CC at K1 K2
              generalize rowsM l ps = RR at C1 C2 hRf
              obtain ⟨RA, f⟩ := RR
              have C1 := hid0 C1
              have C2 := hid0 C2
              have K1 := hid0 K1
              have K2 := hid0 K2
              have HRF := hid0 hRf
              clear hE0 hr1 hr2 hRf
              go_wp2_with (first | ((with_reducible refine wp_getB hS.v.at_ Tryz.underlying24 ?_ ?_ ?_ ?_); (rfl); (exact sizePlan); (rfl); simp only [Act.put]) | ((with_reducible refine wp_getB hS1.v.at_ Tryz.underlying24 ?_ ?_ ?_ ?_); (rfl); (exact sizePlan); (rfl); simp only [Act.put]) | (go_at_call 14; ((with_reducible refine (C1.out _ hS.b).mono ?_); rintro e w1 ⟨⟨a5, c5, E5, rfl, hc5, hE5, hm5⟩, hb1⟩; (have hS1 := hS.below hb1); (have hB1 := below_through hb1 hB9.size hB9); (have HE5 := hid0 hE5); (have Hm5 := hid0 hm5); clear hE5 hm5)) | (go_at_call 14; ((with_reducible refine (C2.out _ hS1.b hB1).mono ?_); rintro e w2 ⟨⟨a6, c6, E6, rfl, hc6, hE6, hm6⟩, hb2⟩; (have hS2 := hS1.below hb2); (have hB2 := below_through hb2 hB1.size hB1); (have HE6 := hid0 hE6); (have Hm6 := hid0 hm6); (have HE52 := hid0 (HE5.out.later hb2)); clear hE6 hm6)) | fail)
              have CSm := hid0 (fun (W : World) (hW : Below w2.heap.size w2 W) => refSame_any a5 a6 c5 c6 E5 E6 W (HE52.out.later hW) (HE6.out.later hW) (by have h1 := congrArg List.length Hm5.out; rw [List.length_map] at h1; have h2 := HRF.out; omega) (by rw [Hm5.out, Hm6.out]))
              have hS : SNn w W9 w2 [.slice a ps.length c] w2.drew := (SNn.mk hS2.v hS2.b hB2 (Below.refl _ _) : SNn w W9 w2 [.slice a ps.length c] w2).below (Below.drew (Below.refl _ _))
              clear HE5 HE6 HE52 hS1 hB1 hS2 hB2 hB9 C1 C2 HRF x0 hb1 hb2
              refine wp_region_held_drew (S := SNn w W9 w2 [.slice a ps.length c]) (by kernel_rfl) hS (fun hHeld => ?_)
              refine wpAnyH_ready (rs := [0]) (by kernel_rfl) (by simp) ?_
              refine AllReadyH.cons rfl (fun K hK => ?_) ?_
              · (try simp only [Act.put, List.setIfInBounds_toArray, List.set_cons_zero, List.set_cons_succ, List.getElem_toArray, List.getElem_cons_zero])
                go_simp
                refine (CA.out _).mono ?_
                rintro e v0 ⟨rfl, hbx⟩
                have hS := hS.below hbx
                clear hbx
                refine hK.out _ _ hS (fun hHeld => ?_)
                clear hK K
                (try simp only [Act.put, List.setIfInBounds_toArray, List.set_cons_zero, List.set_cons_succ, List.getElem_toArray, List.getElem_cons_zero, List.getElem_cons_succ])
                refine wpAnyH_take (i := 1) (v := ?_) rfl (by kernel_rfl) (by kernel_rfl) (by kernel_rfl) (fun _ _ _ h => h) (Or.inl ⟨by rfl, ?_⟩) (by assumption) ?_
                rotate_left
                · (intro wx hSw; go_simp; (try with_reducible rfl); (try omega))
                (try simp only [Act.put, List.setIfInBounds_toArray, List.set_cons_zero, List.set_cons_succ, List.getElem_toArray, List.getElem_cons_zero, List.getElem_cons_succ])
                refine wpAnyH_take (i := 2) (v := ?_) rfl (by kernel_rfl) (by kernel_rfl) (by kernel_rfl) (fun _ _ _ h => h) (Or.inl ⟨by rfl, ?_⟩) (by assumption) ?_
                rotate_left
                · (intro wx hSw; go_simp; (try with_reducible rfl); (try omega))
                (try simp only [Act.put, List.setIfInBounds_toArray, List.set_cons_zero, List.set_cons_succ, List.getElem_toArray, List.getElem_cons_zero, List.getElem_cons_succ])
                refine wpAnyH_take (i := 3) (v := ?_) rfl (by kernel_rfl) (by kernel_rfl) (by kernel_rfl) (fun _ _ _ h => h) (Or.inl ⟨by rfl, ?_⟩) (by assumption) ?_
                rotate_left
                · (intro wx hSw; go_simp; (try with_reducible rfl); (try omega))
                (try simp only [Act.put, List.setIfInBounds_toArray, List.set_cons_zero, List.set_cons_succ, List.getElem_toArray, List.getElem_cons_zero, List.getElem_cons_succ])
                refine wpAnyH_take (i := 4) (v := ?_) rfl (by kernel_rfl) (by kernel_rfl) (by kernel_rfl) (fun _ _ _ h => h) (Or.inl ⟨by rfl, ?_⟩) (by assumption) ?_
                rotate_left
                · (intro wx hSw; go_simp; (try with_reducible rfl); (try omega))
                (try simp only [Act.put, List.setIfInBounds_toArray, List.set_cons_zero, List.set_cons_succ, List.getElem_toArray, List.getElem_cons_zero, List.getElem_cons_succ])
                refine wpAnyH_take (i := 5) (v := ?_) rfl (by kernel_rfl) (by kernel_rfl) (by kernel_rfl) (fun _ _ _ h => h) (Or.inl ⟨by rfl, ?_⟩) (by assumption) ?_
                rotate_left
                · (intro wx hSw; go_simp; (try with_reducible rfl); (try omega))
                (try simp only [Act.put, List.setIfInBounds_toArray, List.set_cons_zero, List.set_cons_succ, List.getElem_toArray, List.getElem_cons_zero, List.getElem_cons_succ])
                refine wpAnyH_take (i := 6) (v := ?_) rfl (by kernel_rfl) (by kernel_rfl) (by kernel_rfl) (fun _ _ _ h => h) (Or.inl ⟨by rfl, ?_⟩) (by assumption) ?_
                rotate_left
                · (intro wx hSw; go_simp; (try with_reducible rfl); (try omega))
                (try simp only [Act.put, List.setIfInBounds_toArray, List.set_cons_zero, List.set_cons_succ, List.getElem_toArray, List.getElem_cons_zero, List.getElem_cons_succ])
                refine wpAnyH_take (i := 7) (v := ?_) rfl (by kernel_rfl) (by kernel_rfl) (by kernel_rfl) (fun _ _ _ h => h) (Or.inl ⟨by rfl, ?_⟩) (by assumption) ?_
                rotate_left
                · (intro wx hSw; go_simp; (try with_reducible rfl); (try omega))
                (try simp only [Act.put, List.setIfInBounds_toArray, List.set_cons_zero, List.set_cons_succ, List.getElem_toArray, List.getElem_cons_zero, List.getElem_cons_succ])
                refine wpAnyH_take (i := 8) (v := ?_) rfl (by kernel_rfl) (by kernel_rfl) (by kernel_rfl) (fun _ _ _ h => h) (Or.inl ⟨by rfl, ?_⟩) (by assumption) ?_
                rotate_left
                · (intro wx hSw; go_simp; (try with_reducible rfl); (try omega))
                (try simp only [Act.put, List.setIfInBounds_toArray, List.set_cons_zero, List.set_cons_succ, List.getElem_toArray, List.getElem_cons_zero, List.getElem_cons_succ])
                refine wpAnyH_ready (rs := [9]) (by kernel_rfl) (by simp) ?_
                refine AllReadyH.cons rfl (fun K hK => ?_) ?_
                · (try simp only [Act.put, List.setIfInBounds_toArray, List.set_cons_zero, List.set_cons_succ, List.getElem_toArray, List.getElem_cons_zero, List.getElem_cons_succ])
                  go_simp
                  refine (CSm.out _ hS.b2).mono ?_
                  rintro e v9 ⟨rfl, hbx⟩
                  have hS := hS.below hbx
                  clear hbx
                  refine hK.out _ _ hS (fun hHeld => ?_)
                  clear hK K
                  (try simp only [Act.put, List.setIfInBounds_toArray, List.set_cons_zero, List.set_cons_succ, List.getElem_toArray, List.getElem_cons_zero, List.getElem_cons_succ])
                  refine wpAnyH_take (i := 10) (v := ?_) rfl (by kernel_rfl) (by kernel_rfl) (by kernel_rfl) (fun _ _ _ h => h) (Or.inl ⟨by rfl, ?_⟩) (by assumption) ?_
                  rotate_left
                  · (intro wx hSw; go_simp; (try with_reducible rfl); (try omega))
                  (try simp only [Act.put, List.setIfInBounds_toArray, List.set_cons_zero, List.set_cons_succ, List.getElem_toArray, List.getElem_cons_zero, List.getElem_cons_succ])
                  refine wpAnyH_take (i := 11) (v := ?_) rfl (by kernel_rfl) (by kernel_rfl) (by kernel_rfl) (fun _ _ _ h => h) (Or.inl ⟨by rfl, ?_⟩) (by assumption) ?_
                  rotate_left
                  · (intro wx hSw; go_simp; (try with_reducible rfl); (try omega))
                  (try simp only [Act.put, List.setIfInBounds_toArray, List.set_cons_zero, List.set_cons_succ, List.getElem_toArray, List.getElem_cons_zero, List.getElem_cons_succ])
                  refine wpAnyH_take (i := 12) (v := .agg [.slice a ps.length c].toArray) rfl (by kernel_rfl) (by kernel_rfl) (by kernel_rfl) (fun _ _ _ h => h) (yieldsIf_load_mid rfl 24 _ rfl w.heap.size (0) rfl [.slice a ps.length c] _ (fun w h => h.v.at_) Tryz.underlying24 rfl (sizePlan)) (by assumption) ?_
                  (try simp only [Act.put, List.setIfInBounds_toArray, List.set_cons_zero, List.set_cons_succ, List.getElem_toArray, List.getElem_cons_zero, List.getElem_cons_succ])
                  refine wpAnyH_take (i := 13) (v := ?_) rfl (by kernel_rfl) (by kernel_rfl) (by kernel_rfl) (fun _ _ _ h => h) (Or.inl ⟨by rfl, ?_⟩) (by assumption) ?_
                  rotate_left
                  · (intro wx hSw; go_simp; (try with_reducible rfl); (try omega))
                  (try simp only [Act.put, List.setIfInBounds_toArray, List.set_cons_zero, List.set_cons_succ, List.getElem_toArray, List.getElem_cons_zero, List.getElem_cons_succ])
                  refine wpAnyH_take (i := 15) (v := .agg [.slice a ps.length c].toArray) rfl (by kernel_rfl) (by kernel_rfl) (by kernel_rfl) (fun _ _ _ h => h) (yieldsIf_load_mid rfl 24 _ rfl w.heap.size (0) rfl [.slice a ps.length c] _ (fun w h => h.v.at_) Tryz.underlying24 rfl (sizePlan)) (by assumption) ?_
                  (try simp only [Act.put, List.setIfInBounds_toArray, List.set_cons_zero, List.set_cons_succ, List.getElem_toArray, List.getElem_cons_zero, List.getElem_cons_succ])
                  refine wpAnyH_take (i := 16) (v := ?_) rfl (by kernel_rfl) (by kernel_rfl) (by kernel_rfl) (fun _ _ _ h => h) (Or.inl ⟨by rfl, ?_⟩) (by assumption) ?_
                  rotate_left
                  · (intro wx hSw; go_simp; (try with_reducible rfl); (try omega))
                  (try simp only [Act.put, List.setIfInBounds_toArray, List.set_cons_zero, List.set_cons_succ, List.getElem_toArray, List.getElem_cons_zero, List.getElem_cons_succ])
                  refine wpAnyH_ready (rs := [14]) (by kernel_rfl) (by simp) ?_
                  refine AllReadyH.cons rfl (fun K hK => ?_) ?_
                  · (try simp only [Act.put, List.setIfInBounds_toArray, List.set_cons_zero, List.set_cons_succ, List.getElem_toArray, List.getElem_cons_zero, List.getElem_cons_succ])
                    go_simp
                    refine (K1.out _ hS.b).mono ?_
                    rintro e v14 ⟨rfl, hbx⟩
                    have hS := hS.below hbx
                    clear hbx
                    refine hK.out _ _ hS (fun hHeld => ?_)
                    clear hK K
                    (try simp only [Act.put, List.setIfInBounds_toArray, List.set_cons_zero, List.set_cons_succ, List.getElem_toArray, List.getElem_cons_zero, List.getElem_cons_succ])
                    refine wpAnyH_ready (rs := [17]) (by kernel_rfl) (by simp) ?_
                    refine AllReadyH.cons rfl (fun K hK => ?_) ?_
                    · (try simp only [Act.put, List.setIfInBounds_toArray, List.set_cons_zero, List.set_cons_succ, List.getElem_toArray, List.getElem_cons_zero, List.getElem_cons_succ])
                      go_simp
                      refine (K2.out _ hS.b hS.b9).mono ?_
                      rintro e v17 ⟨rfl, hbx⟩
                      have hS := hS.below hbx
                      clear hbx
                      refine hK.out _ _ hS (fun hHeld => ?_)
                      clear hK K
                      (try simp only [Act.put, List.setIfInBounds_toArray, List.set_cons_zero, List.set_cons_succ, List.getElem_toArray, List.getElem_cons_zero, List.getElem_cons_succ])
                      refine wpAnyH_take (i := 18) (v := ?_) rfl (by kernel_rfl) (by kernel_rfl) (by kernel_rfl) (fun _ _ _ h => h) (Or.inl ⟨by rfl, ?_⟩) (by assumption) ?_
                      rotate_left
                      · (intro wx hSw; go_simp; (try with_reducible rfl); (try omega))
                      (try simp only [Act.put, List.setIfInBounds_toArray, List.set_cons_zero, List.set_cons_succ, List.getElem_toArray, List.getElem_cons_zero, List.getElem_cons_succ])
                      refine wpAnyH_take (i := 19) (v := ?_) rfl (by kernel_rfl) (by kernel_rfl) (by kernel_rfl) (fun _ _ _ h => h) (Or.inl ⟨by rfl, ?_⟩) (by assumption) ?_
                      rotate_left
                      · (intro wx hSw; go_simp; (try with_reducible rfl); (try omega))
                      (try simp only [Act.put, List.setIfInBounds_toArray, List.set_cons_zero, List.set_cons_succ, List.getElem_toArray, List.getElem_cons_zero, List.getElem_cons_succ])
                      refine wpAnyH_take (i := 20) (v := ?_) rfl (by kernel_rfl) (by kernel_rfl) (by kernel_rfl) (fun _ _ _ h => h) (Or.inl ⟨by rfl, ?_⟩) (by assumption) ?_
                      rotate_left
                      · (intro wx hSw; go_simp; (try with_reducible rfl); (try omega))
                      (try simp only [Act.put, List.setIfInBounds_toArray, List.set_cons_zero, List.set_cons_succ, List.getElem_toArray, List.getElem_cons_zero, List.getElem_cons_succ])
                      refine wpAnyH_done (by kernel_rfl) ?_ _
                      have hb := hS.b
                      clear hS hHeld
                      go_wp2_with fail
                      go_ret
                      exact ⟨rfl, hb⟩
                    exact AllReadyH.nil
                  exact AllReadyH.nil
                exact AllReadyH.nil
              exact AllReadyH.nil
end Go.Proofs.YtjmoegcfgadjiaaGreat
