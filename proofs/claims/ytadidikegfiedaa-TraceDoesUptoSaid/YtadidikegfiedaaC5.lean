/- Several of my texts laid together, each as it was: T7, T8, T5, T6. Conditions: each names its own. -/
import Derived.Test.YtadidikegfiedaaC4
import Derived.Deep.RegionHeld3
/- slices.DeleteFunc over a list of entries of one's own; the entries behind a time (trace.behind): contracts of the calls, in whatever memory. Conditions: the list's cells are known. -/
namespace Go.Proofs.Ytadidikegfiedaa
open Go.RowKit

/-- What is left of a list in which k of the first j stay. -/
structure DelN (E : List Ent) (q : Ent → Bool) (j k : Nat) (F : List Ent) : Prop where
  len : F.length = E.length
  kj : k < j
  jn : j ≤ E.length
  tk : F.take k = (E.take j).filter fun x => !q x
  dr : F.drop j = E.drop j
theorem DelN.skip {E : List Ent} {q : Ent → Bool} {j k : Nat} {F : List Ent} (h : DelN E q j k F) (hj : j < E.length) (hq : q E[j] = true) : DelN E q (j + 1) k F :=
  ⟨h.len, by have := h.kj; omega, hj, by rw [h.tk, List.take_succ_eq_append_getElem hj, List.filter_append]; simp [hq], by
    have := congrArg (List.drop 1) h.dr
    rw [List.drop_drop, List.drop_drop] at this
    exact this⟩
theorem DelN.put {E : List Ent} {q : Ent → Bool} {j k : Nat} {F : List Ent} (h : DelN E q j k F) (hj : j < E.length) (hq : q E[j] = false) : DelN E q (j + 1) (k + 1) (F.set k E[j]) := by
  have hk := h.kj
  have hl := h.len
  refine ⟨by rw [List.length_set]; exact h.len, by omega, hj, ?_, ?_⟩
  · rw [List.take_succ_eq_append_getElem (by rw [List.length_set]; omega), List.take_set_of_le (by omega), h.tk, List.take_succ_eq_append_getElem hj, List.filter_append]
    simp [hq]
  · rw [List.drop_set_of_lt (by omega)]
    have := congrArg (List.drop 1) h.dr
    rw [List.drop_drop, List.drop_drop] at this
    exact this
theorem DelN.at_ {E : List Ent} {q : Ent → Bool} {j k : Nat} {F : List Ent} (h : DelN E q j k F) (hj : j < E.length) : ∃ h' : j < F.length, F[j] = E[j] := by
  have hl := h.len
  have := congrArg (fun l => l[0]?) h.dr
  simp only [List.getElem?_drop, Nat.add_zero] at this
  refine ⟨by omega, ?_⟩
  rw [List.getElem?_eq_getElem (by omega), List.getElem?_eq_getElem hj] at this
  simpa using this
theorem filter_allN {E : List Ent} {q : Ent → Bool} (h : E.all (fun x => !q x) = true) : (E.filter fun x => !q x) = E := List.filter_eq_self.2 (fun x hx => List.all_eq_true.1 h x hx)
theorem DelN.start {E : List Ent} {q : Ent → Bool} {i : Nat} (hi : i < E.length) (hq : q E[i] = true) (h : (E.take i).all (fun x => !q x) = true) : DelN E q (i + 1) i E :=
  ⟨rfl, by omega, hi, by rw [List.take_succ_eq_append_getElem hi, List.filter_append, filter_allN h]; simp [hq], rfl⟩
theorem first_ofN {E : List Ent} {q : Ent → Bool} (h : ¬ E.all (fun x => !q x) = true) : ∃ i, ∃ hi : i < E.length, q E[i] = true ∧ (E.take i).all (fun x => !q x) = true := by
  have h1 : ∃ x ∈ E, q x = true := by
    by_cases hh : ∃ x ∈ E, q x = true
    · exact hh
    · exact absurd (List.all_eq_true.2 (fun x hx => by cases hq : q x; rfl; exact absurd ⟨x, hx, hq⟩ hh)) h
  have hlt : E.findIdx q < E.length := List.findIdx_lt_length_of_exists h1
  refine ⟨E.findIdx q, hlt, List.findIdx_getElem, List.all_eq_true.2 (fun x hx => ?_)⟩
  obtain ⟨k, hk, rfl⟩ := List.mem_take_iff_getElem.1 hx
  have := List.not_of_lt_findIdx (p := q) (xs := E) (i := k) (by omega)
  simpa using this
theorem first_isN {E : List Ent} {q : Ent → Bool} {r : Int} {i : Nat} (hF : FirstN E q r) (hi : i < E.length) (hq : q E[i] = true) (h : (E.take i).all (fun x => !q x) = true) : r = i := by
  rcases hF with ⟨_, ha⟩ | ⟨k, rfl, hk, hqk, hak⟩
  · have := List.all_eq_true.1 ha _ (List.getElem_mem hi)
    rw [hq] at this; cases this
  · rcases Nat.lt_trichotomy k i with hlt | rfl | hlt
    · have := List.all_eq_true.1 h _ (List.mem_take_iff_getElem.2 ⟨k, by omega, rfl⟩)
      rw [hqk] at this; cases this
    · rfl
    · have := List.all_eq_true.1 hak _ (List.mem_take_iff_getElem.2 ⟨i, by omega, rfl⟩)
      rw [hq] at this; cases this
set_option maxHeartbeats 4000000 in
set_option maxRecDepth 1000000 in
theorem deleteN_any {rb : Nat} (vb : Nat) (v : Value) (E : List Ent) (q : Ent → Bool) (w0 w : World) (hM : MkN rb w0 w v E) (hfew : E.length ≤ 1100000) (CP : AskG w0 vb E q) :
    Calls Try.prog 40 #[v, .func (.func 41) #[] #[.pointer (some ⟨vb, 0, none⟩)]] w fun e w' => ∃ v', e = .returned v' ∧ MkN rb w0 w' v' (E.filter fun x => !q x) := by
  have HC := hid0 CP
  have HM := hid0 hM
  by_cases hall : E.all (fun x => !q x) = true
  · obtain ⟨a, c, rfl, hcap, hel⟩ := hM.ents
    have IX := hid0 (fun cc => (indexG_any vb a cc E q w0 w hel hfew hM.b CP).mono (R' := fun e w' => e = .returned (.int .i64 (-1)) ∧ Below w.heap.size w w') (by
      rintro e w' ⟨⟨r, rfl, hF⟩, hb⟩
      rcases hF with ⟨rfl, _⟩ | ⟨i, rfl, hi, hq, _⟩
      · exact ⟨rfl, hb⟩
      · have := List.all_eq_true.1 hall _ (List.getElem_mem hi)
        rw [hq] at this; cases this))
    have R := hid0 (filter_allN hall)
    clear hel CP hM hall
    go_enter Try.func40, Try.ntmps40
    go_wp2_with (first | (go_at_call 47; go_must (refine (IX.out _).mono ?_; rintro e w1 ⟨rfl, hb1⟩)) | fail)
    go_ret
    exact ⟨_, rfl, by rw [R.out]; exact HM.out.below hb1⟩
  · obtain ⟨i, hi, hqi, hai⟩ := first_ofN hall
    obtain ⟨a, c, rfl, hcap, hel⟩ := hM.ents
    obtain ⟨g, rfl⟩ : ∃ g, a = some ⟨g, 0, none⟩ := by
      rcases hM.own.out.2 with ⟨_, h0⟩ | ⟨g, cap', cur, e, _⟩
      · omega
      · cases e; exact ⟨_, rfl⟩
    have IX := hid0 (fun cc => (indexG_any vb (some ⟨g, 0, none⟩) cc E q w0 w hel hfew hM.b CP).mono (R' := fun e w' => e = .returned (.int .i64 (i : Int)) ∧ Below w.heap.size w w') (by
      rintro e w' ⟨⟨r, rfl, hF⟩, hb⟩
      rw [first_isN hF hi hqi hai]
      exact ⟨rfl, hb⟩))
    have HD := hid0 (DelN.start hi hqi hai)
    clear hel CP hM hall hqi hai
    obtain ⟨n, hn⟩ : ∃ n, E.length = n := ⟨_, rfl⟩
    rw [hn] at hi hfew hcap HM IX ⊢
    have HN := hid0 hn
    have hne : ((i : Int) == -1) = false := by simp
    clear hn
    go_enter Try.func40, Try.ntmps40
    go_wp2_with (first | (go_at_call 47; go_must (refine (IX.out _).mono ?_; rintro e w1 ⟨rfl, hb1⟩; (have HM1 := hid0 (HM.out.below hb1)))) | fail)
    clear HM hb1
    go_loopw [5, 6] (fun kv jv wr => ∃ (k j : Nat) (F : List Ent), kv = .int .i64 k ∧ jv = .int .i64 j ∧ j ≤ n ∧ k < j ∧ Hid (DelN E q j k F) ∧ Hid (MkN rb w0 wr (.slice (some ⟨g, 0, none⟩) n c) F)) (fun _ jv _ => n - (intOf jv).toNat)
    case atStart => exact ⟨i, i + 1, E, rfl, by go_num, by omega, by omega, HD, HM1⟩
    case round =>
      obtain ⟨k, j, F, rfl, rfl, hj, hk, hD, hM⟩ := hrel
      clear HM1 HD
      have hFl : F.length = n := by rw [hD.out.len, HN.out]
      by_cases hlt : j < n
      · have VF := varB_ownN hM.out.own.out (g := g) rfl
        obtain ⟨hj', hFj⟩ := hD.out.at_ (show j < E.length by rw [HN.out]; exact hlt)
        obtain ⟨r0, r1, r2⟩ := cellsN_at F j hj'
        have q0 := VF.cell _ r0
        have q1 := VF.cell _ r1
        have q2 := VF.cell _ r2
        have hth : wr.there g (k * 3) 3 := fun t ht => by
          have := VF.there (k * 3 + t) (by rw [cellsN_len]; omega)
          rwa [Nat.zero_add] at this
        have hmemF := List.getElem_mem hj'
        have hmem : F[j] ∈ E := by rw [hFj]; exact List.getElem_mem _
        have HQ1 := hid0 (fun hq : q F[j] = true => hD.out.skip (by rw [HN.out]; exact hlt) (by rw [← hFj]; exact hq))
        have HQ2 := hid0 (fun hq : q F[j] = false => by have := hD.out.put (by rw [HN.out]; exact hlt) (by rw [← hFj]; exact hq); rw [← hFj] at this; exact this)
        have HCX := hid0 (HC.out.out _ hmem)
        clear hFj r0 r1 r2 VF
        generalize F[j] = x at q0 q1 q2 hmemF hmem HQ1 HQ2 HCX
        have VX := VarB.new wr [.int .i64 x.s, .int .i64 x.n, .slice x.a x.r.length x.c] 49
        have hbx : Below wr.heap.size wr (wr.alloc (Obj.cells #[.int .i64 x.s, .int .i64 x.n, .slice x.a x.r.length x.c] 49)) := (Below.refl _ _).alloc (Nat.le_refl _) _
        have CX := hid0 (HCX.out (wr.alloc (Obj.cells #[.int .i64 x.s, .int .i64 x.n, .slice x.a x.r.length x.c] 49)) (hM.out.b.alloc hM.out.b.size _))
        have hgl : g < wr.heap.size := hM.out.hi g rfl
        have x0 := VX.cell 0 rfl
        have x1 := VX.cell 1 rfl
        have x2 := VX.cell 2 rfl
        have hmF := hid0 hmemF
        clear HCX hmem VX hmemF
        generalize q x = ra at CX HQ1 HQ2
        cases ra with
        | true =>
          go_wp2_with (first | (go_at_call 41; go_must (refine CX.out.mono ?_; rintro e wn ⟨rfl, hbn⟩; (have hbw := below_through hbn (by simp) hbx))) | fail)
          exact ⟨⟨k, j + 1, F, rfl, by go_num, by omega, by omega, hid0 (HQ1.out (by trivial)), hid0 (hM.out.below hbw)⟩, by simp [intOf]; omega⟩
        | false =>
          go_wp2_with (first | (go_at_call 41; go_must (refine CX.out.mono ?_; rintro e wn ⟨rfl, hbn⟩; (have hbw := below_through hbn (by simp) hbx); (have y0 := cell_later hbn x0); (have y1 := cell_later hbn x1); (have y2 := cell_later hbn x2); (have hthn : wn.there g (k * 3) 3 := fun t ht => ⟨by rw [hbw.cell (p := ⟨g, k * 3 + t, none⟩) hgl]; exact (hth t ht).1, by rw [hbw.frozen (p := ⟨g, k * 3 + t, none⟩) hgl]; exact (hth t ht).2⟩))) | ((with_reducible refine wp_putN (vs := [.int .i64 x.s, .int .i64 x.n, .slice x.a x.r.length x.c]) hthn ?_ ?_ ?_ ?_ ?_ ?_); (rfl); (intro v hv; simp at hv; rcases hv with rfl | rfl | rfl <;> rfl); (exact sizeEnt); (rfl); (rfl); simp only [Act.put]) | fail)
          exact ⟨⟨k + 1, j + 1, F.set k x, by go_num, by go_num, by omega, by omega, hid0 (HQ2.out (by trivial)), hid0 ((hM.out.below hbw).set hFl (by omega) hmF.out)⟩, by simp [intOf]; omega⟩
      · obtain rfl : j = n := by omega
        have hltz : ¬ (j : Int) < (j : Int) := by omega
        have hth : wr.there g (k * 3) ((j - k) * 3) := fun t ht => by
          have := (varB_ownN hM.out.own.out (g := g) rfl).there (k * 3 + t) (by rw [cellsN_len]; omega)
          rwa [Nat.zero_add] at this
        have hcl : ∃ zs, ∀ ty, (Builtin.clear_ #[22] ty #[.slice (some ⟨g, k * 3, none⟩) (j - k) (c - k)]).run Try.prog wr = .ok (.tuple #[]) (wr.setCells g (k * 3) zs) := clear_ents wr g (k * 3) (j - k) (c - k) (by omega) hth
        obtain ⟨zs, hcl⟩ := hcl
        have HR := hid0 (show F.take k = E.filter fun x => !q x by rw [hD.out.tk, List.take_of_length_le (by rw [HN.out]; omega)])
        have HC2 := hid0 (hM.out.cut hFl (show k ≤ j by omega) zs)
        clear hth
        go_wp2
        go_ret
        exact ⟨_, rfl, by rw [← HR.out]; exact HC2.out⟩
theorem MkN.reRow {rb r2 : Nat} {w0 w1 w : World} {v : Value} {E : List Ent} (h : MkN rb w1 w v E) (hb : Below w0.heap.size w0 w1) (hg : ∀ e ∈ E, RowG w1 r2 e.a e.r) (h2 : r2 ≤ w0.heap.size) : MkN r2 w0 w v E :=
  ⟨⟨own_lowerN h.own.out hb.size⟩, fun e he => (hg e he).later h.b, below_through h.b hb.size hb, h2⟩
/-- The entries behind a time. -/
def keepN (k : Int) (E : List Ent) : List Ent := E.filter fun x => !decide (x.s ≤ k)
theorem keepN_dat (k : Int) (E : List Ent) : (keepN k E).map dat = keepD k (E.map dat) := by
  unfold keepN keepD
  rw [List.filter_map]
  congr 1
  congr 1
  funext x
  show (!decide (x.s ≤ k)) = decide (k < x.s)
  rw [← decide_not]
  congr 1
  apply propext
  omega
set_option maxHeartbeats 1000000 in
theorem behind_any (a : Option Addr) (c : Nat) (E : List Ent) (k : Int) (w : World) (h : EntsAt w a E) (hfew : E.length ≤ 1100000) :
    Calls Try.prog 28 #[.slice a E.length c, .int .i64 k] w fun e w' => ∃ v, e = .returned v ∧ MkN w.heap.size w w' v (keepN k E) := by
  have V := VarB.new w [.int .i64 k] 3
  have hb1 : Below w.heap.size w (w.alloc (Obj.cells #[.int .i64 k] 3)) := (Below.refl _ _).alloc (Nat.le_refl _) _
  have C1 := hid0 (cloneN_any a c E _ (h.later hb1) hfew)
  have HG := hid0 (fun e (he : e ∈ E) => (RowG.of (h.2 e he).1 (h.2 e he).2).later hb1)
  obtain ⟨w1, hw1⟩ : ∃ w1, w.alloc (Obj.cells #[.int .i64 k] 3) = w1 := ⟨_, rfl⟩
  have hc : w1.cell? ⟨w.heap.size, 0, none⟩ = some (.int .i64 k) := by rw [← hw1]; exact V.cell 0 rfl
  have C2 := hid0 (fun v W (hM : MkN w1.heap.size w1 W v E) => deleteN_any w.heap.size v E (fun x => decide (x.s ≤ k)) w1 W hM hfew ⟨fun e _ W2 hb2 => goes_any k w.heap.size e W2 (cell_later hb2 hc)⟩)
  rw [hw1] at hb1 C1 HG
  have HB := hid0 hb1
  have HW := hid0 hw1
  clear V hb1 h hc hw1
  go_enter Try.func28, Try.ntmps28
  go_wp2_with fail
  rw [HW.out]
  go_wp2_with (first | (go_at_call 37; go_must (refine C1.out.mono ?_; rintro e w2 ⟨v2, rfl, hM2⟩)) | (go_at_call 40; go_must (refine (C2.out _ _ hM2).mono ?_; rintro e w3 ⟨v3, rfl, hM3⟩)) | fail)
  go_ret
  exact ⟨_, rfl, hM3.reRow HB.out (fun e he => HG.out e (List.mem_filter.1 he).1) (Nat.le_refl _)⟩
end Go.Proofs.Ytadidikegfiedaa

/- A log in new memory, its rows too (trace.copied): a contract of the call, in whatever memory. Conditions: the log's cells are known. -/
namespace Go.Proofs.Ytadidikegfiedaa
open Go.RowKit

/-- A variable's block, of a type that is known. -/
structure VarT (w : World) (B : Nat) (us : List Value) (t : TypeId) : Prop where
  v : VarB w B us
  t : ∃ cs fz, w.heap[B]? = some (Obj.cells cs t fz)
theorem VarT.new (w : World) (us : List Value) (t : TypeId) : VarT (w.alloc (.cells us.toArray t)) w.heap.size us t := ⟨VarB.new w us t, ⟨us.toArray, (0, 0), by show (w.heap.push (Obj.cells us.toArray t))[w.heap.size]? = some (Obj.cells us.toArray t); simp⟩⟩
theorem VarT.newAt (w : World) (us : List Value) (t : TypeId) {B : Nat} (hB : B = w.heap.size) : VarT (w.alloc (.cells us.toArray t)) B us t := by subst hB; exact VarT.new w us t
theorem VarT.keep {w w' : World} {B : Nat} {us : List Value} {t : TypeId} (h : VarT w B us t) (hb : w'.heap[B]? = w.heap[B]?) (hs : w.heap.size ≤ w'.heap.size) : VarT w' B us t := ⟨h.v.keep hb hs, by rw [hb]; exact h.t⟩
theorem VarT.below {w w' : World} {B : Nat} {us : List Value} {t : TypeId} (h : VarT w B us t) (hb : Below w.heap.size w w') : VarT w' B us t := h.keep (hb.block B h.v.lt) hb.size
theorem VarT.under {n : Nat} {w w' : World} {B : Nat} {us : List Value} {t : TypeId} (h : VarT w B us t) (hb : Below n w w') (hn : B < n) : VarT w' B us t := h.keep (hb.block B hn) hb.size
theorem VarT.alloc {w : World} {B : Nat} {us : List Value} {t : TypeId} (h : VarT w B us t) (o : Obj) : VarT (w.alloc o) B us t := h.keep (Below.heap_alloc w o B h.v.lt) (by simp)
theorem VarT.drew {w : World} {B : Nat} {us : List Value} {t : TypeId} (h : VarT w B us t) : VarT w.drew B us t := h.keep rfl (Nat.le_refl _)
theorem VarT.keptT {w w' : World} {B base : Nat} {us : List Value} {t e : TypeId} (h : VarT w B us t) (ht : t ≠ e) (hK : KeptT e base w w') : VarT w' B us t := by
  obtain ⟨cs, fz, hh⟩ := h.t
  exact h.keep (by rw [hh, hK.other B cs fz t ht hh]) hK.below.size
theorem RowG.puts {w : World} {rb : Nat} {a : Option Addr} {r : List Val} (h : RowG w rb a r) {B : Nat} {us : List Value} {t : TypeId} (hV : VarT w B us t) (hB : rb ≤ B) (ht : 62 ≠ t) (o : Nat) (vs : List Value) : RowG (w.setCells B o vs) rb a r := by
  by_cases hn : r = []
  · subst hn; exact ⟨fun h => absurd rfl h, h.ok, fun h => absurd rfl h⟩
  obtain ⟨ad, e, hh⟩ := h.blk hn
  have hne : ad.block ≠ B := by
    intro hx
    rcases hh with hh | ⟨cs, fz, hh⟩
    · omega
    · obtain ⟨cs2, fz2, h2⟩ := hV.t
      rw [hx, h2] at hh
      obtain ⟨-, h3, -⟩ := Obj.cells.inj (Option.some.inj hh)
      exact ht h3.symm
  have heq := heap_setCells B vs o w ad.block hne
  refine ⟨fun _ => ?_, h.ok, fun _ => ⟨ad, e, hh.imp id (fun ⟨cs, fz, hh⟩ => ⟨cs, fz, heq.trans hh⟩)⟩⟩
  obtain ⟨b, off, e', hc⟩ := h.row hn
  obtain rfl : ad = ⟨b, off, none⟩ := by rw [e] at e'; simpa using e'
  have hcell : ∀ o', (w.setCells B o vs).cell? ⟨b, o', none⟩ = w.cell? ⟨b, o', none⟩ := fun o' => World.cell?_of_block heq
  exact ⟨b, off, e, fun i hi => by rw [hcell, hcell, hcell]; exact hc i hi⟩
theorem MkN.puts {rb : Nat} {w0 w : World} {v : Value} {E : List Ent} (h : MkN rb w0 w v E) {B : Nat} {us : List Value} {t : TypeId} (hV : VarT w B us t) (hB : w0.heap.size ≤ B) (ht : 62 ≠ t) (hv : v.ownBlock ≠ some B) (vs : List Value) (o : Nat := 0) : MkN rb w0 (w.setCells B o vs) v E :=
  ⟨⟨h.own.out.kept (row := some B) ⟨(below_setCells vs o (Below.refl 0 w) (Nat.zero_le B)).os, (below_setCells vs o (Below.refl 0 w) (Nat.zero_le B)).tape, (below_setCells vs o (Below.refl 0 w) (Nat.zero_le B)).output, Nat.le_of_eq (size_setCells B vs o w).symm, fun j _ hj => heap_setCells B vs o w j (fun e => hj (by rw [e]))⟩ (Or.inr hv)⟩, fun e he => (h.g e he).puts hV (Nat.le_trans h.hr hB) ht o vs, below_setCells vs o h.b hB, h.hr⟩
theorem MkN.apart {rb : Nat} {w0 w : World} {v : Value} {E : List Ent} (h : MkN rb w0 w v E) {B : Nat} {us : List Value} {t : TypeId} (hV : VarT w B us t) (ht : t ≠ 49) : v.ownBlock ≠ some B := fun e => by
  rcases h.own.out.2 with ⟨rfl, _⟩ | ⟨g, cap', cur, rfl, _, hh, _⟩
  · cases e
  · obtain ⟨cs, fz, h2⟩ := hV.t
    obtain rfl : g = B := Option.some.inj e
    rw [hh] at h2
    obtain ⟨-, h3, -⟩ := Obj.cells.inj (Option.some.inj h2)
    exact ht h3.symm
theorem VarB.setT {w : World} {B i : Nat} {us : List Value} (h : VarB w B us) (u : Value) (hi : i < us.length) : VarB (w.setCell ⟨B, i, none⟩ u) B (us.set i u) := by
  refine ⟨fun j v hv => ?_, fun j hj => ⟨?_, ?_⟩, by simpa using h.lt⟩
  · rw [List.getElem?_set] at hv
    by_cases e : i = j
    · subst e
      simp [hi] at hv
      subst hv
      rw [Nat.zero_add]
      obtain ⟨u0, hu0⟩ := Option.isSome_iff_exists.1 (h.there i hi).1
      rw [Nat.zero_add] at hu0
      exact World.cell?_setCell_same _ _ _ hu0
    · rw [if_neg e] at hv
      rw [World.cell?_setCell_other _ _ _ _ (by simp)]
      exact h.at_ j v hv
  · exact World.isSome_setCells B [u] i w _ (h.there j (by simpa using hj)).1
  · rw [World.frozen?_setCell]; exact (h.there j (by simpa using hj)).2
theorem VarT.set {w : World} {B i : Nat} {us : List Value} {t : TypeId} (h : VarT w B us t) (u : Value) (hi : i < us.length) : VarT (w.setCell ⟨B, i, none⟩ u) B (us.set i u) t := ⟨h.v.setT u hi, by
  obtain ⟨cs, fz, hh⟩ := h.t
  exact ⟨cs.setIfInBounds i u, fz, by simp [World.setCell, Array.getElem?_modify, hh]⟩⟩
theorem VarT.other {w : World} {B b o : Nat} {us : List Value} {t : TypeId} (h : VarT w B us t) (vs : List Value) (hb : B ≠ b) : VarT (w.setCells b o vs) B us t := h.keep (heap_setCells b vs o w B hb) (Nat.le_of_eq (size_setCells b vs o w).symm)
theorem MkN.typed {rb : Nat} {w0 w : World} {v : Value} {E : List Ent} (h : MkN rb w0 w v E) (hg : ∀ e ∈ E, RowG w 0 e.a e.r) : MkN 0 w0 w v E := ⟨h.own, hg, h.b, Nat.zero_le _⟩
theorem MkN.low {w0 w1 w : World} {v : Value} {E : List Ent} (h : MkN 0 w1 w v E) (hb : Below w0.heap.size w0 w1) : MkN 0 w0 w v E := h.weak hb (Nat.le_refl _) (Nat.zero_le _)
theorem MkN.keptSet {rb : Nat} {w0 w : World} {g cap n : Nat} {F : List Ent} (h : MkN rb w0 w (.slice (some ⟨g, 0, none⟩) n cap) F) (hn : F.length = n) (j : Nat) (u : Value) : KeptT 49 w0.heap.size w (w.setCell ⟨g, j, none⟩ u) := by
  subst hn
  exact keptT_grown h.own.out h.b.size (World.ownsRow.stored h.own.out j u).2
/-- The first i rows lie in blocks of their own kind. -/
def TypedTo (w : World) (F : List Ent) (i : Nat) : Prop := ∀ k (h : k < F.length), k < i → RowG w 0 F[k].a F[k].r
theorem TypedTo.later {w w' : World} {F : List Ent} {i : Nat} (h : TypedTo w F i) (hb : Below w.heap.size w w') : TypedTo w' F i := fun k hk hi => (h k hk hi).later hb
theorem TypedTo.next {w w' : World} {base : Nat} {F : List Ent} {i : Nat} (h : TypedTo w F i) (hi : i < F.length) (hK : KeptT 49 base w w') {a : Option Addr} {c : Nat} (hR : RowG w 0 a F[i].r) : TypedTo w' (F.set i ⟨F[i].s, F[i].n, a, c, F[i].r⟩) (i + 1) := by
  intro k hk hki
  rw [List.getElem_set]
  by_cases hik : i = k
  · rw [if_pos hik]; exact hR.keptT (Nat.zero_le _) (by decide) hK
  · rw [if_neg hik]; exact (h k (by simpa using hk) (by omega)).keptT (Nat.zero_le _) (by decide) hK
theorem TypedTo.all {w : World} {F : List Ent} {i : Nat} (h : TypedTo w F i) (hi : F.length ≤ i) : ∀ e ∈ F, RowG w 0 e.a e.r := fun e he => by
  obtain ⟨k, hk, rfl⟩ := List.mem_iff_getElem.1 he
  exact h k hk (by omega)
theorem dat_setRow (F : List Ent) (i : Nat) (hi : i < F.length) (a : Option Addr) (c : Nat) : (F.set i ⟨F[i].s, F[i].n, a, c, F[i].r⟩).map dat = F.map dat := by
  rw [List.map_set]
  have : dat ⟨F[i].s, F[i].n, a, c, F[i].r⟩ = (F.map dat)[i]'(by simpa using hi) := by rw [List.getElem_map]; rfl
  rw [this]
  exact List.set_getElem_self _
theorem MkN.block {rb : Nat} {w0 w : World} {a : Option Addr} {n c : Nat} {F : List Ent} (h : MkN rb w0 w (.slice a n c) F) (hn : F.length = n) (hpos : 0 < n) : ∃ g, a = some ⟨g, 0, none⟩ := by
  subst hn
  rcases h.own.out.2 with ⟨_, h0⟩ | ⟨g, cap', cur, e, _⟩
  · omega
  · cases e; exact ⟨_, rfl⟩
set_option maxHeartbeats 4000000 in
set_option maxRecDepth 1000000 in
theorem copiedN_any (f : Int) (a : Option Addr) (c : Nat) (E : List Ent) (w : World) (h : EntsAt w a E) (hfew : E.length ≤ 1100000) :
    Calls Try.prog 21 #[.agg #[.int .i64 f, .slice a E.length c]] w fun e w' => ∃ v F, e = .returned (.agg #[.int .i64 f, v]) ∧ MkN 0 w w' v F ∧ F.map dat = E.map dat := by
  have V1 := (VarT.new w [.int .i64 f, .slice a E.length c] 24).alloc (Obj.cells #[.int .i64 0, .slice none 0 0] 24)
  have V2 := VarT.newAt (w.alloc (Obj.cells #[.int .i64 f, .slice a E.length c] 24)) [.int .i64 0, .slice none 0 0] 24 (B := w.heap.size + 1) (by simp)
  have hb1 : Below w.heap.size w ((w.alloc (Obj.cells #[.int .i64 f, .slice a E.length c] 24)).alloc (Obj.cells #[.int .i64 0, .slice none 0 0] 24)) := ((Below.refl _ _).alloc (Nat.le_refl _) _).alloc (by simp) _
  have hsz : ((w.alloc (Obj.cells #[.int .i64 f, .slice a E.length c] 24)).alloc (Obj.cells #[.int .i64 0, .slice none 0 0] 24)).heap.size = w.heap.size + 2 := by simp
  have C1 := hid0 (cloneN_any a c E _ (h.later hb1) hfew)
  have HR := hid0 (fun e (he : e ∈ E) => h.2 e he)
  obtain ⟨n, hn⟩ : ∃ n, E.length = n := ⟨_, rfl⟩
  have HN := hid0 hn
  rw [hn] at hfew C1 V1 V2 hb1 hsz ⊢
  clear h hn
  have a0 := V1.v.cell 0 rfl
  have a1 := V1.v.cell 1 rfl
  go_enter Try.func21, Try.ntmps21
  go_wp2_with fail
  generalize ((w.alloc (Obj.cells #[.int .i64 f, .slice a n c] 24)).alloc (Obj.cells #[.int .i64 0, .slice none 0 0] 24)) = w1 at *
  go_wp2_with (first | (go_at_call 37; go_must (refine C1.out.mono ?_; rintro e w2 ⟨v2, rfl, hM2⟩; (have U1 := V1.under hM2.b (by omega)); (have U2 := V2.under hM2.b (by omega)); (have hM0 := hM2.reRow (r2 := w.heap.size) hb1 (fun e he => ((RowG.of (HR.out e he).1 (HR.out e he).2).later hb1)) (Nat.le_refl _)); (have HLO := hid0 hM2.lo); obtain ⟨a2, c2, rfl, _, _⟩ := hM2.ents)) | fail)
  rw [HN.out] at hM0
  simp only [HN.out] at HLO ⊢
  have HNE := hid0 (show (Value.slice a2 n c2).ownBlock ≠ some (w.heap.size + 1) from fun e => by have := HLO.out _ e; omega)
  have HD0 := hid0 (rfl : E.map dat = E.map dat)
  have HT0 := hid0 (show TypedTo w2 E 0 from fun k _ hk => absurd hk (by omega))
  clear V1 V2 hb1 hsz C1 a0 a1 hM2 HR HLO
  go_loopw [10] (fun iv wr => ∃ (i : Nat) (F : List Ent), i ≤ n ∧ iv = .int .i64 i ∧ MkN w.heap.size w wr (.slice a2 n c2) F ∧ Hid (F.map dat = E.map dat) ∧ Hid (TypedTo wr F i) ∧ VarT wr w.heap.size [.int .i64 f, .slice a n c] 24 ∧ VarT wr (w.heap.size + 1) [.int .i64 0, .slice none 0 0] 24) (fun iv _ => n - (intOf iv).toNat)
  case atStart => exact ⟨0, E, Nat.zero_le _, rfl, hM0, HD0, HT0, U1, U2⟩
  case round =>
    obtain ⟨i, F, hi, rfl, hM, hD, hT, W1, W2⟩ := hrel
    clear hM0 U1 U2 HD0 HT0
    have hFl : F.length = n := by
      have := congrArg List.length hD.out
      rw [List.length_map, List.length_map] at this
      rw [this, HN.out]
    have HFL := hid0 hFl
    by_cases hlt : i < n
    · obtain ⟨g, rfl⟩ := hM.block hFl (by omega)
      have hiF : i < F.length := by rw [hFl]; exact hlt
      have VF := varB_ownN hM.own.out (g := g) rfl
      have q2 := VF.cell _ (cellsN_at F i hiF).2.2
      have hlen2 : i * 3 + 2 < (cellsN F).length := by rw [cellsN_len]; omega
      have hg := hM.g _ (List.getElem_mem hiF)
      have CC := hid0 (clone_any F[i].a F[i].c F[i].r wr hg.row hg.ok)
      have HOK := hid0 hg.ok
      have HN1 := hid0 (fun (w' : World) (a' : Option Addr) (c' : Nat) (hb : Below wr.heap.size wr w') (hR : RowG w' 0 a' F[i].r) => And.intro ((hM.below hb).setRow hFl hiF a' c' (hR.lift (Nat.zero_le _))) (And.intro ((hT.out.later hb).next hiF ((hM.below hb).keptSet hFl (i * 3 + 2) (.slice a' F[i].r.length c')) hR (c := c')) (And.intro ((W1.below hb).keptT (by decide) ((hM.below hb).keptSet hFl (i * 3 + 2) (.slice a' F[i].r.length c'))) ((W2.below hb).keptT (by decide) ((hM.below hb).keptSet hFl (i * 3 + 2) (.slice a' F[i].r.length c'))))))
      have HD1 := hid0 (fun a' c' => (dat_setRow F i hiF a' c').trans hD.out)
      have HVF := hid0 VF
      have HL := hid0 hlen2
      have hBr : Below wr.heap.size wr wr := Below.refl _ _
      clear hg VF hM hT hD W1 W2 hlen2 hFl
      go_wp2_with (first | (go_at_call 38; go_must (refine CC.out.mono ?_; rintro e wn ⟨⟨a', c', rfl, hrow, hblk⟩, hbn⟩; (have hR := hid0 (RowG.copied 0 (Copied.mk hrow hblk) HOK.out)); (have hx := (HVF.out.below hbn).frz _ HL.out); (have y2 := cell_later hbn q2); clear hrow hblk)) | fail)
      obtain ⟨h1, h2, h3, h4⟩ := HN1.out _ _ c' hbn hR.out
      exact ⟨⟨i + 1, _, by omega, by go_num, h1, hid0 (HD1.out _ _), hid0 h2, h3, h4⟩, by simp [intOf]; omega⟩
    · have hin : i = n := by omega
      have hM' := hid0 ((hM.typed (hT.out.all (by omega))))
      have a0 := W1.v.cell 0 rfl
      have z0 := W2.v.cell 0 rfl
      have z1 := W2.v.cell 1 rfl
      have y0 := W2.v.frz 0 (by simp)
      have y1 := W2.v.frz 1 (by simp)
      have HV := hid0 W2
      clear hM W1 W2 hT
      go_wp2_with fail
      refine end_blk (HV.out.v.puts [.int .i64 f, .slice a2 n c2] rfl) rfl rfl _ Try.underlying24 rfl sizeLog rfl ?_
      exact ⟨_, F, rfl, hM'.out.puts HV.out (by omega) (by decide) HNE.out [.int .i64 f, .slice a2 n c2], hD.out⟩
end Go.Proofs.Ytadidikegfiedaa

/- Whether any log may be (trace.Right): contracts of the calls, in whatever memory. Conditions: the list's cells are known. -/
namespace Go.Proofs.Ytadidikegfiedaa
open Go.RowKit

theorem isNaN_any (x : Int) (w : World) : Calls Try.prog 52 #[.int .i64 x] w fun e w' => e = .returned (.bool false) ∧ Below w.heap.size w w' := by
  go_enter Try.func52, Try.ntmps52
  go_wp2
  go_ret
  exact ⟨rfl, by go_grown⟩
/-- How two numbers stand to each other. -/
def cmpI (x y : Int) : Int := if x < y then -1 else if y < x then 1 else 0
theorem compareI_any (x y : Int) (w : World) : Calls Try.prog 48 #[.int .i64 x, .int .i64 y] w fun e w' => e = .returned (.int .i64 (cmpI x y)) ∧ Below w.heap.size w w' := by
  rcases Int.lt_trichotomy x y with h | h | h
  · have e : cmpI x y = -1 := if_pos h
    rw [e]
    go_enter Try.func48, Try.ntmps48
    go_wp2_with (go_at_call 52; go_must (refine (isNaN_any _ _).mono ?_; rintro e wn ⟨rfl, hbn⟩))
    go_ret
    exact ⟨rfl, below_through hbn (Below.size ‹Below w.heap.size w _›) ‹_›⟩
  · subst h
    have e : cmpI x x = 0 := by unfold cmpI; rw [if_neg (by omega), if_neg (by omega)]
    rw [e]
    go_enter Try.func48, Try.ntmps48
    go_wp2_with (go_at_call 52; go_must (refine (isNaN_any _ _).mono ?_; rintro e wn ⟨rfl, hbn⟩))
    go_ret
    exact ⟨rfl, below_through hbn (Below.size ‹Below w.heap.size w _›) ‹_›⟩
  · have e : cmpI x y = 1 := by unfold cmpI; rw [if_neg (by omega), if_pos h]
    have h1 : ¬ x < y := by omega
    have h2 : x > y := h
    rw [e]
    go_enter Try.func48, Try.ntmps48
    go_wp2_with (go_at_call 52; go_must (refine (isNaN_any _ _).mono ?_; rintro e wn ⟨rfl, hbn⟩))
    go_ret
    exact ⟨rfl, below_through hbn (Below.size ‹Below w.heap.size w _›) ‹_›⟩
theorem byTime_any (x y : Ent) (w : World) : Calls Try.prog 36 #[.agg #[.int .i64 x.s, .int .i64 x.n, .slice x.a x.r.length x.c], .agg #[.int .i64 y.s, .int .i64 y.n, .slice y.a y.r.length y.c]] w fun e w' => e = .returned (.int .i64 (cmpI x.s y.s)) ∧ Below w.heap.size w w' := by
  have V := VarB.two (w := w) [.int .i64 x.s, .int .i64 x.n, .slice x.a x.r.length x.c] [.int .i64 y.s, .int .i64 y.n, .slice y.a y.r.length y.c] 49 49
  have v0 := V.1.cell 0 rfl
  have v1 := V.2.cell 0 rfl
  have hb1 : Below w.heap.size w ((w.alloc (Obj.cells #[.int .i64 x.s, .int .i64 x.n, .slice x.a x.r.length x.c] 49)).alloc (Obj.cells #[.int .i64 y.s, .int .i64 y.n, .slice y.a y.r.length y.c] 49)) := ((Below.refl _ _).alloc (Nat.le_refl _) _).alloc (by simp) _
  clear V
  have CC := hid0 (compareI_any x.s y.s)
  generalize cmpI x.s y.s = R at CC ⊢
  go_enter Try.func36, Try.ntmps36
  go_wp2_with (first | (go_at_call 48; go_must (refine (CC.out _).mono ?_; rintro e wn ⟨rfl, hbn⟩)) | fail)
  go_ret
  exact ⟨rfl, below_through hbn (by simp; try omega) hb1⟩
/-- What a list's times are found to be: rising, from a place on. -/
def RiseFrom (E : List Ent) (i : Int) : Prop := ∀ k (h : k + 1 < E.length), i ≤ k → E[k].s ≤ E[k + 1].s
def SortAns (E : List Ent) (e : Ending) : Prop := ∃ R, e = .returned (.bool R) ∧ (R = true ↔ RiseFrom E 0)
set_option maxHeartbeats 4000000 in
theorem sortedN_any (a : Option Addr) (c : Nat) (E : List Ent) (w : World) (h : EntsAt w a E) (hfew : E.length ≤ 1100000) :
    Calls Try.prog 35 #[.slice a E.length c, .func (.func 36) #[] #[]] w fun e w' => SortAns E e ∧ Below w.heap.size w w' := by
  have A := hid0 h
  clear h
  obtain ⟨n, hn⟩ : ∃ n, E.length = n := ⟨_, rfl⟩
  have HN := hid0 hn
  rw [hn] at hfew ⊢
  clear hn
  have hw : IntKind.i64.wrap ((n : Int) - 1) = (n : Int) - 1 := IntWalk.i64_in _ (by omega)
  go_enter Try.func35, Try.ntmps35
  go_wp2
  go_loopw [5] (fun iv wr => ∃ i : Int, -1 ≤ i ∧ i ≤ (n : Int) - 1 ∧ iv = .int .i64 i ∧ Hid (RiseFrom E i) ∧ Below w.heap.size w wr) (fun iv _ => (intOf iv).toNat)
  case atStart => exact ⟨(n : Int) - 1, by omega, by omega, by go_num, hid0 (fun k hk hik => by have := HN.out; omega), Below.refl _ _⟩
  case round =>
    obtain ⟨i, hi0, hi1, rfl, hO, hB⟩ := hrel
    clear hw
    by_cases hlt : 0 < i
    · obtain ⟨j, hj⟩ : ∃ j : Nat, i = (j : Int) + 1 := ⟨(i - 1).toNat, by omega⟩
      have hjl : j + 1 < E.length := by have := HN.out; omega
      obtain ⟨b1, o1, rfl, hc1⟩ := (A.out.1.later hB) (by intro e; rw [e] at hjl; exact absurd hjl (by simp))
      obtain ⟨p0, p1, p2⟩ := hc1 j (by omega)
      obtain ⟨q0, q1, q2⟩ := hc1 (j + 1) hjl
      have HX := hid0 (fun (hx : E[j].s ≤ E[j + 1].s) => (show RiseFrom E (i - 1) from fun k hk hik => by
        by_cases hkj : k = j
        · subst hkj; exact hx
        · exact hO.out k hk (by omega)))
      have HY := hid0 (fun (hx : ¬ E[j].s ≤ E[j + 1].s) => (show ¬ RiseFrom E 0 from fun hr => hx (hr j hjl (by omega))))
      have CB := hid0 (byTime_any E[j + 1] E[j])
      clear hc1
      obtain ⟨m, hm⟩ : ∃ m, j + 1 = m := ⟨_, rfl⟩
      have hjm : (m : Int) = i := by omega
      have hmj : IntKind.i64.wrap ((m : Int) - 1) = (j : Int) := by rw [IntWalk.i64_in _ (by omega)]; omega
      have hcv : (cmpI E[j + 1].s E[j].s < 0) ↔ ¬ E[j].s ≤ E[j + 1].s := by unfold cmpI; split; omega; split <;> omega
      generalize E[j + 1] = y at q0 q1 q2 HX HY CB hcv
      generalize E[j] = x at p0 p1 p2 HX HY CB hcv
      rw [hm] at q0 q1 q2
      have hmn : m < n := by have := HN.out; omega
      have hjn : j < n := by omega
      have HJ := hid0 hm
      clear hm hj hjl
      subst hjm
      have hBd := Below.drew hB
      have p0 : wr.drew.cell? _ = _ := p0
      have p1 : wr.drew.cell? _ = _ := p1
      have p2 : wr.drew.cell? _ = _ := p2
      have q0 : wr.drew.cell? _ = _ := q0
      have q1 : wr.drew.cell? _ = _ := q1
      have q2 : wr.drew.cell? _ = _ := q2
      have HB := hid0 hB
      clear hB
      generalize cmpI y.s x.s = cv at CB hcv
      by_cases hneg : cv < 0
      · have HNR := hid0 (HY.out (hcv.1 hneg))
        go_wp2_with fail
        go_region_held3 (fun w' => w'.cell? ⟨b1, o1 + j * 3, none⟩ = some (.int .i64 x.s) ∧ w'.cell? ⟨b1, o1 + j * 3 + 1, none⟩ = some (.int .i64 x.n) ∧ w'.cell? ⟨b1, o1 + j * 3 + 2, none⟩ = some (.slice x.a x.r.length x.c) ∧ w'.cell? ⟨b1, o1 + m * 3, none⟩ = some (.int .i64 y.s) ∧ w'.cell? ⟨b1, o1 + m * 3 + 1, none⟩ = some (.int .i64 y.n) ∧ w'.cell? ⟨b1, o1 + m * 3 + 2, none⟩ = some (.slice y.a y.r.length y.c) ∧ Below w.heap.size w w')
          ((go_split_ands; (try dsimp only); (repeat' apply And.intro); all_goals (first
            | assumption
            | exact cell_later hbn ‹_›
            | exact below_through hbn (Below.size ‹Below w.heap.size w _›) ‹_›
            | go_keep)))
          (first
            | (go_at_call 36; (try go_split_ands); refine (CB.out _).mono ?_; rintro e wn ⟨rfl, hbn⟩))
        have HH := ‹wn.cell? ⟨b1, o1 + j * 3, none⟩ = some (.int .i64 x.s) ∧ _›
        have hBn := HH.2.2.2.2.2.2
        clear HH p0 p1 p2 q0 q1 q2 CB
        go_wp2
        go_ret
        exact ⟨⟨false, rfl, by constructor; (intro h; cases h); (intro h; exact absurd h HNR.out)⟩, hBn⟩
      · have HXR := hid0 (HX.out (by have := hcv.2; exact Classical.byContradiction (fun h => hneg (this h))))
        go_wp2_with fail
        go_region_held3 (fun w' => w'.cell? ⟨b1, o1 + j * 3, none⟩ = some (.int .i64 x.s) ∧ w'.cell? ⟨b1, o1 + j * 3 + 1, none⟩ = some (.int .i64 x.n) ∧ w'.cell? ⟨b1, o1 + j * 3 + 2, none⟩ = some (.slice x.a x.r.length x.c) ∧ w'.cell? ⟨b1, o1 + m * 3, none⟩ = some (.int .i64 y.s) ∧ w'.cell? ⟨b1, o1 + m * 3 + 1, none⟩ = some (.int .i64 y.n) ∧ w'.cell? ⟨b1, o1 + m * 3 + 2, none⟩ = some (.slice y.a y.r.length y.c) ∧ Below w.heap.size w w')
          ((go_split_ands; (try dsimp only); (repeat' apply And.intro); all_goals (first
            | assumption
            | exact cell_later hbn ‹_›
            | exact below_through hbn (Below.size ‹Below w.heap.size w _›) ‹_›
            | go_keep)))
          (first
            | (go_at_call 36; (try go_split_ands); refine (CB.out _).mono ?_; rintro e wn ⟨rfl, hbn⟩))
        have HH := ‹wn.cell? ⟨b1, o1 + j * 3, none⟩ = some (.int .i64 x.s) ∧ _›
        have hBn := HH.2.2.2.2.2.2
        clear HH p0 p1 p2 q0 q1 q2 CB
        go_wp2
        have hJ := HJ.out
        exact ⟨⟨(m : Int) - 1, by omega, by omega, by go_num, HXR, hBn⟩, by simp [intOf]; omega⟩
    · have HR := hid0 (show RiseFrom E 0 from fun k hk hik => hO.out k hk (by omega))
      go_wp2
      go_ret
      exact ⟨⟨true, rfl, by simp [HR.out]⟩, hB⟩
end Go.Proofs.Ytadidikegfiedaa

/- Whether any log may be (trace.Right): the document's answer, plainly: a contract of the call, in whatever memory. Conditions: the list's cells are known. -/
namespace Go.Proofs.Ytadidikegfiedaa
open Go.RowKit

theorem right_parts (f : Int) (E : List Ent) : rightD f (E.map dat) = true ↔ 0 ≤ f ∧ E.any (wrongN f) = false ∧ RiseFrom E 0 := by
  rw [rightD_iff]
  have h1 : (∀ x ∈ E.map dat, okD f x = true) ↔ E.any (wrongN f) = false := by
    constructor
    · intro h
      rw [← Bool.not_eq_true]
      intro hx
      obtain ⟨x, hx, hq⟩ := List.any_eq_true.1 hx
      have := h _ (List.mem_map_of_mem hx)
      unfold wrongN at hq
      rw [this] at hq; cases hq
    · intro h x hx
      obtain ⟨e, he, rfl⟩ := List.mem_map.1 hx
      by_cases hq : okD f (dat e) = true
      · exact hq
      · have : E.any (wrongN f) = true := List.any_eq_true.2 ⟨e, he, by unfold wrongN; simpa using hq⟩
        rw [h] at this; cases this
  have h2 : ((E.map dat).map (·.1)).Pairwise (· ≤ ·) ↔ RiseFrom E 0 := by
    constructor
    · intro h k hk _
      have := near_rise h k (by simpa using hk)
      simpa [dat] using this
    · intro h
      refine rise_near _ (fun i hi => ?_)
      have := h i (by simpa using hi) (by omega)
      simpa [dat] using this
  rw [h1, h2]
theorem logB_new (w : World) (f : Int) (u : Value) (t : TypeId) : LogB (w.alloc (Obj.cells #[.int .i64 f, u] t)) w.heap.size f u := ⟨VarB.new w [.int .i64 f, u] t⟩
set_option maxHeartbeats 4000000 in
theorem trRight_any (f : Int) (a : Option Addr) (c : Nat) (E : List Ent) (w : World) (h : EntsAt w a E) (hfew : E.length ≤ 1100000) :
    Calls Try.prog 15 #[.agg #[.int .i64 f, .slice a E.length c]] w fun e w' => e = .returned (.bool (rightD f (E.map dat))) ∧ Below w.heap.size w w' := by
  have L := logB_new w f (.slice a E.length c) 24
  have hb1 : Below w.heap.size w (w.alloc (Obj.cells #[.int .i64 f, .slice a E.length c] 24)) := (Below.refl _ _).alloc (Nat.le_refl _) _
  have CW := hid0 (fun W (hW : Below (w.alloc (Obj.cells #[.int .i64 f, .slice a E.length c] 24)).heap.size (w.alloc (Obj.cells #[.int .i64 f, .slice a E.length c] 24)) W) => containsW_any w.heap.size a c E (wrongN f) (w.alloc (Obj.cells #[.int .i64 f, .slice a E.length c] 24)) W ((h.later hb1).later hW) hfew hW ⟨fun e he W2 hb2 => wrong_any f _ w.heap.size e W2 (L.later hb2)⟩)
  have CS := hid0 (fun W (hW : Below (w.alloc (Obj.cells #[.int .i64 f, .slice a E.length c] 24)).heap.size (w.alloc (Obj.cells #[.int .i64 f, .slice a E.length c] 24)) W) => sortedN_any a c E W ((h.later hb1).later hW) hfew)
  have l0 := L.v.cell 0 rfl
  have l1 := L.v.cell 1 rfl
  obtain ⟨R, hR⟩ : ∃ R, rightD f (E.map dat) = R := ⟨_, rfl⟩
  have HR := hid0 (right_parts f E)
  rw [hR] at HR ⊢
  clear hR L h
  generalize E.any (wrongN f) = wq at CW HR
  have HB := hid0 hb1
  clear hb1
  by_cases hf : 0 ≤ f
  · cases wq with
    | true =>
      obtain rfl : R = false := by
        rw [← Bool.not_eq_true]
        intro hr
        have := (HR.out.1 hr).2.1
        cases this
      go_enter Try.func15, Try.ntmps15
      go_wp2_with (first | (go_at_call 34; go_must (refine (CW.out _ (Below.refl _ _)).mono ?_; rintro e w2 ⟨rfl, hb2⟩)) | fail)
      go_ret
      exact ⟨rfl, below_through hb2 HB.out.size HB.out⟩
    | false =>
      go_enter Try.func15, Try.ntmps15
      go_wp2_with (first | (go_at_call 34; go_must (refine (CW.out _ (Below.refl _ _)).mono ?_; rintro e w2 ⟨rfl, hb2⟩; (have l0 := cell_later hb2 l0); (have l1 := cell_later hb2 l1))) | (go_at_call 35; go_must (refine (CS.out _ hb2).mono ?_; rintro e w3 ⟨⟨RS, rfl, hRS⟩, hb3⟩)) | fail)
      obtain rfl : R = RS := by
        have h1 := HR.out
        rw [← hRS] at h1
        cases R <;> cases RS <;> simp [hf] at h1 ⊢
      go_ret
      exact ⟨rfl, below_through (below_through hb3 hb2.size hb2) HB.out.size HB.out⟩
  · obtain rfl : R = false := by
      rw [← Bool.not_eq_true]
      intro hr
      exact hf (HR.out.1 hr).1
    go_enter Try.func15, Try.ntmps15
    go_wp2_with fail
    go_ret
    exact ⟨rfl, HB.out⟩
end Go.Proofs.Ytadidikegfiedaa
