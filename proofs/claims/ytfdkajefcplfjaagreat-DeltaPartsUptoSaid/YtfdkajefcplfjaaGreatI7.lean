/- Several of my texts laid together, each as it was: XJ, XK, XL. Conditions: each names its own. -/
import Derived.Test.YtfdkajefcplfjaaGreatI3
import Derived.Test.YtfdkajefcplfjaaGreatI2
import Derived.Test.YtfdkajefcplfjaaGreatH9
import Derived.Test.YtfdkajefcplfjaaGreatH6
import Derived.Test.YtfdkajefcplfjaaGreatH5
import Derived.Test.YtfdkajefcplfjaaGreatI6
/- Which of the rows are kept: the predicate, slices.IndexFunc over it: contracts of the calls, in whatever memory. Conditions: the rows' cells are known. -/
namespace Go.Proofs.YtfdkajefcplfjaaGreat
open Go.RowKit

/-- What tells whether a row goes: whenever it is asked. -/
structure GoesC (w0 : World) (vb : Nat) (E : List Elem) (q : Elem → Bool) : Prop where
  out : ∀ e ∈ E, ∀ W, Below w0.heap.size w0 W → RowAt W e.a e.r → Calls Tryz.prog 278 #[.agg #[.slice e.a e.r.length e.c, .int .i64 e.n], .pointer (some ⟨vb, 0, none⟩)] W fun e' w' => e' = .returned (.bool (q e)) ∧ Below W.heap.size W w'
set_option maxRecDepth 100000 in
set_option maxHeartbeats 2000000 in
theorem kept1_any {n : Nat} (vb : Nat) (p : Px) (e : Elem) (w : World) (hV : w.rangeAt vb 0 p.cells) (_ : vb < w.heap.size) (ht : TxAt w n p.wh) (hr : RowIn w e.a e.r) :
    Calls Tryz.prog 278 #[.agg #[.slice e.a e.r.length e.c, .int .i64 e.n], .pointer (some ⟨vb, 0, none⟩)] w fun e' w' => e' = .returned (.bool (!keepT p.wh (pr e))) ∧ Below w.heap.size w w' := by
  have RW := p.where_at hV
  have V := VarB.new w [.slice e.a e.r.length e.c, .int .i64 e.n] 80
  have RW1 := hid0 (show (w.alloc (Obj.cells #[.slice e.a e.r.length e.c, .int .i64 e.n] 80)).rangeAt vb 3 p.wh.cells from fun j v hj => cell_later ((Below.refl _ _).alloc (Nat.le_refl _) _) (RW j v hj))
  have hb1 : Below w.heap.size w (w.alloc (Obj.cells #[.slice e.a e.r.length e.c, .int .i64 e.n] 80)) := (Below.refl _ _).alloc (Nat.le_refl _) _
  have CH := hid0 (holds_any e.c (ht.later hb1) (hr.later hb1))
  unfold Tx.val at CH
  have a0 := V.cell 0 rfl
  have hlt' := V.lt
  have hl := p.wh.cells_len
  obtain ⟨R, hR⟩ : ∃ R, (!keepT p.wh (pr e)) = R := ⟨_, rfl⟩
  have HR := hid0 hR
  rw [hR]
  clear hR RW V hV ht hr
  have HQ : Hid (R = decide (hoT e.r p.wh ≠ 2)) := hid0 (by rw [← HR.out]; unfold keepT pr; simp)
  generalize hoT e.r p.wh = h at CH HQ
  generalize p.wh.cells = us at RW1 hl CH
  by_cases h2 : h = 2
  · subst h2
    go_enter Tryz.func278, Tryz.ntmps278
    go_wp2_with (first | ((with_reducible refine wp_getB RW1.out Tryz.underlying47 ?_ ?_ ?_ ?_); (rfl); (rw [hl]; exact sizeTT); (rfl); simp only [Act.put]) | (go_at_call 121; refine CH.out.mono ?_; rintro e1 w1 ⟨rfl, hb2⟩) | fail)
    go_ret
    exact ⟨ret_bool (by rw [HQ.out]; simp), below_through hb2 (by simp) hb1⟩
  · have h2' : (h == 2) = false := by simpa using h2
    go_enter Tryz.func278, Tryz.ntmps278
    go_wp2_with (first | ((with_reducible refine wp_getB RW1.out Tryz.underlying47 ?_ ?_ ?_ ?_); (rfl); (rw [hl]; exact sizeTT); (rfl); simp only [Act.put]) | (go_at_call 121; refine CH.out.mono ?_; rintro e1 w1 ⟨rfl, hb2⟩) | fail)
    go_ret
    exact ⟨ret_bool (by rw [HQ.out]; simp [h2]), below_through hb2 (by simp) hb1⟩
/-- The first one's place, or -1. -/
def FirstAt (E : List Elem) (q : Elem → Bool) (r : Int) : Prop := (r = -1 ∧ E.all (fun x => !q x) = true) ∨ ∃ i : Nat, r = i ∧ ∃ h : i < E.length, q E[i] = true ∧ (E.take i).all (fun x => !q x) = true
set_option maxHeartbeats 1000000 in
theorem indexMany_kept (vb : Nat) (a : Option Addr) (c : Nat) (E : List Elem) (q : Elem → Bool) (w0 w : World) (h : ElemsAt w a E) (hfew : E.length ≤ 1000000) (hb0 : Below w0.heap.size w0 w) (CP : GoesC w0 vb E q) :
    Calls Tryz.prog 215 #[.slice a E.length c, .func (.func 278) #[] #[.pointer (some ⟨vb, 0, none⟩)]] w fun e w' => (∃ r : Int, e = .returned (.int .i64 r) ∧ FirstAt E q r) ∧ Below w.heap.size w w' := by
  have A := hid0 h
  have HC := hid0 CP
  have HB0 := hid0 hb0
  clear h CP hb0
  go_enter Tryz.func215, Tryz.ntmps215
  go_wp2
  go_loopw [8] (fun iv wr => ∃ i : Nat, i ≤ E.length ∧ iv = .int .i64 i ∧ Hid ((E.take i).all (fun x => !q x) = true) ∧ Below w.heap.size w wr) (fun iv _ => E.length - (intOf iv).toNat)
  case atStart => exact ⟨0, Nat.zero_le _, rfl, hid0 rfl, Below.refl _ _⟩
  case round =>
    obtain ⟨i, hi, rfl, hO, hB⟩ := hrel
    have hsz := hB.size
    by_cases hlt : i < E.length
    · obtain ⟨b1, o1, rfl, hc1⟩ := (A.out.1.later hB) (by intro e; rw [e] at hlt; exact absurd hlt (by simp))
      obtain ⟨q0, q1⟩ := hc1 i hlt
      clear hc1
      have hmem := List.getElem_mem hlt
      have hnext := hid0 (fun hf => all_take hlt hO.out hf)
      have CX := HC.out.out _ hmem wr (below_through hB HB0.out.size HB0.out) ((A.out.2 _ hmem).1.later hB)
      have HF := hid0 (fun hx : q E[i] = true => (Or.inr ⟨i, rfl, hlt, hx, hO.out⟩ : FirstAt E q (i : Int)))
      generalize E[i] = x at q0 q1 hmem hnext CX HF
      have CX := hid0 CX
      have hBZ := hB
      clear hmem
      generalize q x = ra at CX hnext HF
      cases ra with
      | true =>
        go_wp2_with (go_at_call 278; go_must (refine CX.out.mono ?_; rintro e wn ⟨rfl, hbn⟩))
        go_ret
        exact ⟨⟨i, rfl, HF.out (by trivial)⟩, below_through hbn hsz hB⟩
      | false =>
        go_wp2_with (go_at_call 278; go_must (refine CX.out.mono ?_; rintro e wn ⟨rfl, hbn⟩))
        exact ⟨⟨i + 1, by omega, by go_num, hid0 (hnext.out (by trivial)), below_through hbn hsz hB⟩, by simp [intOf]; omega⟩
    · have hie : ¬ (i : Int) < E.length := by omega
      rw [List.take_of_length_le (by omega)] at hO
      go_wp2
      go_ret
      exact ⟨⟨-1, rfl, Or.inl ⟨rfl, hO.out⟩⟩, hB⟩
end Go.Proofs.YtfdkajefcplfjaaGreat

/- slices.DeleteFunc over a list of one's own: a contract of the call, in whatever memory. Conditions: the rows' cells are known; the predicate answers whenever it is asked. -/
namespace Go.Proofs.YtfdkajefcplfjaaGreat
open Go.RowKit

/-- What is left of a list in which k of the first j stay. -/
structure DelS (E : List Elem) (q : Elem → Bool) (j k : Nat) (F : List Elem) : Prop where
  len : F.length = E.length
  kj : k < j
  jn : j ≤ E.length
  tk : F.take k = (E.take j).filter fun x => !q x
  dr : F.drop j = E.drop j
theorem DelS.skip {E : List Elem} {q : Elem → Bool} {j k : Nat} {F : List Elem} (h : DelS E q j k F) (hj : j < E.length) (hq : q E[j] = true) : DelS E q (j + 1) k F :=
  ⟨h.len, by have := h.kj; omega, hj, by rw [h.tk, List.take_succ_eq_append_getElem hj, List.filter_append]; simp [hq], by
    have := congrArg (List.drop 1) h.dr
    rw [List.drop_drop, List.drop_drop] at this
    exact this⟩
theorem DelS.put {E : List Elem} {q : Elem → Bool} {j k : Nat} {F : List Elem} (h : DelS E q j k F) (hj : j < E.length) (hq : q E[j] = false) : DelS E q (j + 1) (k + 1) (F.set k E[j]) := by
  have hk := h.kj
  have hl := h.len
  refine ⟨by rw [List.length_set]; exact h.len, by omega, hj, ?_, ?_⟩
  · rw [List.take_succ_eq_append_getElem (by rw [List.length_set]; omega), List.take_set_of_le (by omega), h.tk, List.take_succ_eq_append_getElem hj, List.filter_append]
    simp [hq]
  · rw [List.drop_set_of_lt (by omega)]
    have := congrArg (List.drop 1) h.dr
    rw [List.drop_drop, List.drop_drop] at this
    exact this
theorem DelS.at_ {E : List Elem} {q : Elem → Bool} {j k : Nat} {F : List Elem} (h : DelS E q j k F) (hj : j < E.length) : ∃ h' : j < F.length, F[j] = E[j] := by
  have hl := h.len
  have := congrArg (fun l => l[0]?) h.dr
  simp only [List.getElem?_drop, Nat.add_zero] at this
  refine ⟨by omega, ?_⟩
  rw [List.getElem?_eq_getElem (by omega), List.getElem?_eq_getElem hj] at this
  simpa using this
theorem filter_all {E : List Elem} {q : Elem → Bool} (h : E.all (fun x => !q x) = true) : (E.filter fun x => !q x) = E := List.filter_eq_self.2 (fun x hx => List.all_eq_true.1 h x hx)
theorem DelS.start {E : List Elem} {q : Elem → Bool} {i : Nat} (hi : i < E.length) (hq : q E[i] = true) (h : (E.take i).all (fun x => !q x) = true) : DelS E q (i + 1) i E :=
  ⟨rfl, by omega, hi, by rw [List.take_succ_eq_append_getElem hi, List.filter_append, filter_all h]; simp [hq], rfl⟩
theorem first_of {E : List Elem} {q : Elem → Bool} (h : ¬ E.all (fun x => !q x) = true) : ∃ i, ∃ hi : i < E.length, q E[i] = true ∧ (E.take i).all (fun x => !q x) = true := by
  have h1 : ∃ x ∈ E, q x = true := by
    by_cases hh : ∃ x ∈ E, q x = true
    · exact hh
    · exact absurd (List.all_eq_true.2 (fun x hx => by cases hq : q x; rfl; exact absurd ⟨x, hx, hq⟩ hh)) h
  have hlt : E.findIdx q < E.length := List.findIdx_lt_length_of_exists h1
  refine ⟨E.findIdx q, hlt, List.findIdx_getElem, List.all_eq_true.2 (fun x hx => ?_)⟩
  obtain ⟨k, hk, rfl⟩ := List.mem_take_iff_getElem.1 hx
  have := List.not_of_lt_findIdx (p := q) (xs := E) (i := k) (by omega)
  simpa using this
theorem first_is {E : List Elem} {q : Elem → Bool} {r : Int} {i : Nat} (hF : FirstAt E q r) (hi : i < E.length) (hq : q E[i] = true) (h : (E.take i).all (fun x => !q x) = true) : r = i := by
  rcases hF with ⟨_, ha⟩ | ⟨k, rfl, hk, hqk, hak⟩
  · have := List.all_eq_true.1 ha _ (List.getElem_mem hi)
    rw [hq] at this; cases this
  · rcases Nat.lt_trichotomy k i with hlt | rfl | hlt
    · have := List.all_eq_true.1 h _ (List.mem_take_iff_getElem.2 ⟨k, by omega, rfl⟩)
      rw [hqk] at this; cases this
    · rfl
    · have := List.all_eq_true.1 hak _ (List.mem_take_iff_getElem.2 ⟨i, by omega, rfl⟩)
      rw [hq] at this; cases this
set_option maxHeartbeats 4000000 in
set_option maxRecDepth 1000000 in
theorem deleteMany_any (vb : Nat) (v : Value) (E : List Elem) (q : Elem → Bool) (w0 w : World) (hM : MkE w0 w v E) (hfew : E.length ≤ 1000000) (CP : GoesC w0 vb E q) :
    Calls Tryz.prog 279 #[v, .func (.func 278) #[] #[.pointer (some ⟨vb, 0, none⟩)]] w fun e w' => ∃ v', e = .returned v' ∧ MkE w0 w' v' (E.filter fun x => !q x) := by
  have HC := hid0 CP
  have HM := hid0 hM
  by_cases hall : E.all (fun x => !q x) = true
  · obtain ⟨a, c, rfl, hcap, hel⟩ := hM.elems
    have IX := hid0 (fun cc => (indexMany_kept vb a cc E q w0 w hel hfew hM.b CP).mono (R' := fun e w' => e = .returned (.int .i64 (-1)) ∧ Below w.heap.size w w') (by
      rintro e w' ⟨⟨r, rfl, hF⟩, hb⟩
      rcases hF with ⟨rfl, _⟩ | ⟨i, rfl, hi, hq, _⟩
      · exact ⟨rfl, hb⟩
      · have := List.all_eq_true.1 hall _ (List.getElem_mem hi)
        rw [hq] at this; cases this))
    have R := hid0 (filter_all hall)
    clear hel CP hM hall
    go_enter Tryz.func279, Tryz.ntmps279
    go_wp2_with (first | (go_at_call 215; go_must (refine (IX.out _).mono ?_; rintro e w1 ⟨rfl, hb1⟩)) | fail)
    go_ret
    exact ⟨_, rfl, by rw [R.out]; exact HM.out.below hb1⟩
  · obtain ⟨i, hi, hqi, hai⟩ := first_of hall
    obtain ⟨a, c, rfl, hcap, hel⟩ := hM.elems
    obtain ⟨g, rfl⟩ : ∃ g, a = some ⟨g, 0, none⟩ := by
      rcases hM.own.out.2 with ⟨_, h0⟩ | ⟨g, cap', cur, e, _⟩
      · omega
      · cases e; exact ⟨_, rfl⟩
    have IX := hid0 (fun cc => (indexMany_kept vb (some ⟨g, 0, none⟩) cc E q w0 w hel hfew hM.b CP).mono (R' := fun e w' => e = .returned (.int .i64 (i : Int)) ∧ Below w.heap.size w w') (by
      rintro e w' ⟨⟨r, rfl, hF⟩, hb⟩
      rw [first_is hF hi hqi hai]
      exact ⟨rfl, hb⟩))
    have HD := hid0 (DelS.start hi hqi hai)
    clear hel CP hM hall hqi hai
    obtain ⟨n, hn⟩ : ∃ n, E.length = n := ⟨_, rfl⟩
    rw [hn] at hi hfew hcap HM IX ⊢
    have HN := hid0 hn
    have hne : ((i : Int) == -1) = false := by simp
    clear hn
    go_enter Tryz.func279, Tryz.ntmps279
    go_wp2_with (first | (go_at_call 215; go_must (refine (IX.out _).mono ?_; rintro e w1 ⟨rfl, hb1⟩; (have HM1 := hid0 (HM.out.below hb1)))) | fail)
    clear HM hb1
    go_loopw [5, 6] (fun kv jv wr => ∃ (k j : Nat) (F : List Elem), kv = .int .i64 k ∧ jv = .int .i64 j ∧ j ≤ n ∧ k < j ∧ Hid (DelS E q j k F) ∧ Hid (MkE w0 wr (.slice (some ⟨g, 0, none⟩) n c) F)) (fun _ jv _ => n - (intOf jv).toNat)
    case atStart => exact ⟨i, i + 1, E, rfl, by go_num, by omega, by omega, HD, HM1⟩
    case round =>
      obtain ⟨k, j, F, rfl, rfl, hj, hk, hD, hM⟩ := hrel
      clear HM1 HD
      have hFl : F.length = n := by rw [hD.out.len, HN.out]
      by_cases hlt : j < n
      · have VF := varB_ownE hM.out.own.out (g := g) rfl
        obtain ⟨hj', hFj⟩ := hD.out.at_ (show j < E.length by rw [HN.out]; exact hlt)
        obtain ⟨r0, r1⟩ := cellsE_at F j hj'
        have q0 := VF.cell _ r0
        have q1 := VF.cell _ r1
        have hth : wr.there g (k * 2) 2 := fun t ht => by
          have := VF.there (k * 2 + t) (by rw [cellsE_len]; omega)
          rwa [Nat.zero_add] at this
        have hmemF := List.getElem_mem hj'
        have hmem : F[j] ∈ E := by rw [hFj]; exact List.getElem_mem _
        have HQ1 := hid0 (fun hq : q F[j] = true => hD.out.skip (by rw [HN.out]; exact hlt) (by rw [← hFj]; exact hq))
        have HQ2 := hid0 (fun hq : q F[j] = false => by have := hD.out.put (by rw [HN.out]; exact hlt) (by rw [← hFj]; exact hq); rw [← hFj] at this; exact this)
        have hrow := ((hM.out.cp.out _ hmemF).1.row)
        have HCX := hid0 (HC.out.out _ hmem)
        clear hFj r0 r1 VF
        generalize F[j] = x at q0 q1 hmemF hmem HQ1 HQ2 hrow HCX
        have VX := VarB.new wr [.slice x.a x.r.length x.c, .int .i64 x.n] 80
        have hbx : Below wr.heap.size wr (wr.alloc (Obj.cells #[.slice x.a x.r.length x.c, .int .i64 x.n] 80)) := (Below.refl _ _).alloc (Nat.le_refl _) _
        have CX := hid0 (HCX.out (wr.alloc (Obj.cells #[.slice x.a x.r.length x.c, .int .i64 x.n] 80)) (hM.out.b.alloc hM.out.b.size _) (hrow.later hbx))
        have hgl : g < wr.heap.size := hM.out.hi g rfl
        have x0 := VX.cell 0 rfl
        have x1 := VX.cell 1 rfl
        have hmF := hid0 hmemF
        clear hrow HCX hmem VX hmemF
        generalize q x = ra at CX HQ1 HQ2
        cases ra with
        | true =>
          go_wp2_with (first | (go_at_call 278; go_must (refine CX.out.mono ?_; rintro e wn ⟨rfl, hbn⟩; (have hbw := below_through hbn (by simp) hbx))) | fail)
          exact ⟨⟨k, j + 1, F, rfl, by go_num, by omega, by omega, hid0 (HQ1.out (by trivial)), hid0 (hM.out.below hbw)⟩, by simp [intOf]; omega⟩
        | false =>
          go_wp2_with (first | (go_at_call 278; go_must (refine CX.out.mono ?_; rintro e wn ⟨rfl, hbn⟩; (have hbw := below_through hbn (by simp) hbx); (have y0 := cell_later hbn x0); (have y1 := cell_later hbn x1); (have hthn : wn.there g (k * 2) 2 := fun t ht => ⟨by rw [hbw.cell (p := ⟨g, k * 2 + t, none⟩) hgl]; exact (hth t ht).1, by rw [hbw.frozen (p := ⟨g, k * 2 + t, none⟩) hgl]; exact (hth t ht).2⟩))) | ((with_reducible refine wp_putE (vs := [.slice x.a x.r.length x.c, .int .i64 x.n]) hthn ?_ ?_ ?_ ?_ ?_ ?_); (rfl); (intro v hv; simp at hv; rcases hv with rfl | rfl <;> rfl); (exact sizeMany); (rfl); (rfl); simp only [Act.put]) | fail)
          exact ⟨⟨k + 1, j + 1, F.set k x, by go_num, by go_num, by omega, by omega, hid0 (HQ2.out (by trivial)), hid0 ((hM.out.below hbw).set hFl (by omega) hmF.out)⟩, by simp [intOf]; omega⟩
      · obtain rfl : j = n := by omega
        have hltz : ¬ (j : Int) < (j : Int) := by omega
        have hth : wr.there g (k * 2) ((j - k) * 2) := fun t ht => by
          have := (varB_ownE hM.out.own.out (g := g) rfl).there (k * 2 + t) (by rw [cellsE_len]; omega)
          rwa [Nat.zero_add] at this
        have hcl : ∃ zs, ∀ ty, (Builtin.clear_ #[57] ty #[.slice (some ⟨g, k * 2, none⟩) (j - k) (c - k)]).run Tryz.prog wr = .ok (.tuple #[]) (wr.setCells g (k * 2) zs) := clear_many wr g (k * 2) (j - k) (c - k) (by omega) hth
        obtain ⟨zs, hcl⟩ := hcl
        have HR := hid0 (show F.take k = E.filter fun x => !q x by rw [hD.out.tk, List.take_of_length_le (by rw [HN.out]; omega)])
        have HC2 := hid0 (hM.out.cut hFl (show k ≤ j by omega) zs)
        clear hth
        go_wp2
        go_ret
        exact ⟨_, rfl, by rw [← HR.out]; exact HC2.out⟩
end Go.Proofs.YtfdkajefcplfjaaGreat

/- Which of a part's rows are kept (sources.kept): a contract of the call, in whatever memory. Conditions: the sources are ready and not too great. -/
namespace Go.Proofs.YtfdkajefcplfjaaGreat
open Go.RowKit

theorem prod_in {l : List Nx} {fs : List ByteArray} (hC : Cheap l fs) (hv : ∀ x ∈ l, ∀ e ∈ x.E, ∀ v ∈ e.r, inI v) : ∀ i, i ≤ fs.length → ∀ x ∈ prodB l (fs.take i), ∀ v ∈ x.1, inI v
  | 0, _, x, hx => by simp [prodB, oneB] at hx; subst hx; intro v hv; simp at hv
  | i + 1, h, x, hx => by
    have ih := prod_in hC hv i (by omega)
    obtain ⟨y, hy, _⟩ := hC.ok _ (List.getElem_mem (show i < fs.length by omega))
    have e : prodB l (fs.take (i + 1)) = pairsB (prodB l (fs.take i)) (y.E.map pr) := by
      rw [List.take_succ_eq_append_getElem (show i < fs.length by omega), prodB_snoc]
      unfold rowsN; rw [hy]
    rw [e] at hx
    unfold pairsB at hx
    obtain ⟨a, ha, hx⟩ := List.mem_flatMap.1 hx
    obtain ⟨b, hb, rfl⟩ := List.mem_map.1 hx
    obtain ⟨c, hc, rfl⟩ := List.mem_map.1 hb
    intro v hvm
    rcases List.mem_append.1 hvm with h1 | h1
    · exact ih a ha v h1
    · exact hv y (findN_mem hy) c hc v h1
/-- A part's rows, side by side: what they are. -/
theorem side_is {l : List Nx} {p : Px} (hC : Cheap l p.fs) (hv : ∀ x ∈ l, ∀ e ∈ x.E, ∀ v ∈ e.r, inI v) : PB (sideB l p) 24 (costF l p.fs) ∧ ∀ x ∈ sideB l p, ∀ v ∈ x.1, inI v := by
  have h0 := costF_in l p.fs
  unfold sideB
  by_cases hz : costF l p.fs = 0
  · rw [if_pos hz, hz]
    exact ⟨⟨fun x hx => by simp at hx, rfl⟩, fun x hx => by simp at hx⟩
  · rw [if_neg hz]
    have h1 := prod_pb hC (by omega) p.fs.length (Nat.le_refl _)
    have h2 := prod_in hC hv p.fs.length (Nat.le_refl _)
    rw [List.take_length] at h1 h2
    have := hC.few
    exact ⟨⟨fun x hx => ⟨(h1.pos x hx).1, by have := (h1.pos x hx).2; omega⟩, h1.sum⟩, h2⟩
set_option maxRecDepth 100000 in
set_option maxHeartbeats 2000000 in
theorem kept_any {n : Nat} (b : Nat) (l : List Nx) (p : Px) (w : World) (hT : ThereAt w b l) (hN : ∀ x ∈ l, ElemsI w x.a x.c x.E) (hp : StrsA w p.fp p.fs) (ht : TxAt w n p.wh) (hC : Cheap l p.fs) :
    Calls Tryz.prog 253 #[.map (some b), p.val] w fun e w' => ∃ v E, e = .returned v ∧ MkE w w' v E ∧ E.map pr = keptB l p := by
  have V := VarB.new w p.cells 50
  have hl := p.cells_len
  have hB0 : Below w.heap.size w (w.alloc (.cells p.cells.toArray 50)) := (Below.refl _ _).alloc (Nat.le_refl _) _
  have CS := hid0 (sideBy_any b l p (w.alloc (.cells p.cells.toArray 50)) (hT.later hB0) (fun x hx => (hN x hx).later hB0) (hp.later hB0) hC)
  have hside := side_is (l := l) (p := p) hC (fun x hx e he v hv => ((hN x hx).i e he).1 v hv)
  have CD := hid0 (fun (w2 : World) (v : Value) (E : List Elem) (hM : MkE (w.alloc (.cells p.cells.toArray 50)) w2 v E) (hE : E.map pr = sideB l p) => deleteMany_any w.heap.size v E (fun e => !keepT p.wh (pr e)) _ w2 hM (by
      have := hside.1.len
      rw [← hE, List.length_map] at this
      have := hC.cost
      omega) ⟨fun e he W hW hR => by
      have hm : pr e ∈ sideB l p := by rw [← hE]; exact List.mem_map_of_mem (f := pr) he
      refine kept1_any w.heap.size p e W (fun j v hv => cell_later hW (V.at_ j v hv)) (Nat.lt_of_lt_of_le V.lt hW.size) ((ht.later hB0).later hW) ⟨hR, hside.2 _ hm, ?_⟩
      have := (hside.1.pos _ hm).2
      have e1 : (pr e).1 = e.r := rfl
      rw [e1] at this
      unfold maxLen; omega⟩)
  have R := hid0 (fun (E : List Elem) (hE : E.map pr = sideB l p) => (show (E.filter fun x => !(!keepT p.wh (pr x))).map pr = keptB l p by
    unfold keptB
    rw [← hE, List.filter_map]
    congr 1
    apply List.filter_congr
    intro x _
    simp))
  have HB0 := hid0 hB0
  clear hT hN hp ht hC hside hB0
  unfold Px.val at CS ⊢
  generalize p.cells = us at *
  go_enter Tryz.func253, Tryz.ntmps253
  go_wp2_with (first | ((with_reducible refine wp_getB V.at_ Tryz.underlying50 ?_ ?_ ?_ ?_); (rfl); (rw [hl]; exact sizePx); (rfl); simp only [Act.put]) | (go_at_call 280; refine CS.out.mono ?_; rintro e w2 ⟨v2, E2, rfl, hM2, hT2⟩; (have HT2 := hid0 hT2); clear hT2; (have HM2 := hid0 hM2); clear hM2) | (go_at_call 279; refine (CD.out _ _ _ HM2.out HT2.out).mono ?_; rintro e w3 ⟨v3, rfl, hM3⟩) | fail)
  go_ret
  exact ⟨_, _, rfl, hM3.weak HB0.out, R.out _ HT2.out⟩
end Go.Proofs.YtfdkajefcplfjaaGreat
