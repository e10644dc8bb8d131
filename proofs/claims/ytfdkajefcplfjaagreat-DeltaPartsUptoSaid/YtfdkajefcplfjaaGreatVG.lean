/- Several of my texts laid together, each as it was: D18. Conditions: each names its own. -/
import Derived.Test.YtfdkajefcplfjaaGreatVF
/- The project's layer 14 (delta): countNow: the contract of the call, in whatever memory. Conditions: the lists' cells are known, they are not too long, their numbers not too great. -/
namespace Go.Proofs.YtfdkajefcplfjaaGreat
open Go.RowKit

theorem absS_permD {A B : List Pair} (h : A.Perm B) : absS A = absS B := by
  induction h with
  | nil => rfl
  | cons x _ ih => simp only [absS, ih]
  | swap x y l => simp only [absS]; omega
  | trans _ _ ih1 ih2 => exact ih1.trans ih2
theorem two_one (x y : Int) : ∀ v ∈ [Value.int .u64 x, .int .u64 y], v.oneCell' = true := by
  intro v hv
  simp at hv
  rcases hv with rfl | rfl <;> rfl
/-- What the comparison of neighbours keeps. -/
structure SCn (w0 : World) (bt : Nat) (ts : List Value) (bm : Nat) (us : List Value) (b o : Nat) (vs : List Value) (w : World) : Prop where
  t : VarB w bt ts
  m : VarB w bm us
  n : w.rangeAt b o vs
  b : Below w0.heap.size w0 w
theorem SCn.below {w0 : World} {bt : Nat} {ts : List Value} {bm : Nat} {us : List Value} {b o : Nat} {vs : List Value} {w w' : World} (h : SCn w0 bt ts bm us b o vs w) (hb : Below w.heap.size w w') : SCn w0 bt ts bm us b o vs w' := ⟨h.t.below hb, h.m.below hb, fun j v hv => cell_later hb (h.n j v hv), below_through hb h.b.size h.b⟩
theorem SCn.of {w0 wa w7 w8 : World} {ts ts0 : List Value} {bm : Nat} {us : List Value} {b o : Nat} {vs : List Value} (hm : VarB wa bm us) (h7 : Below wa.heap.size wa w7) (hb : Below w0.heap.size w0 wa) (hV : VarB w8 w0.heap.size ts) (hw : w8 = w7.setCells w0.heap.size 0 ts0) (hne : w0.heap.size < bm)
    (hn : ∀ W, Below w0.heap.size w0 W → W.rangeAt b o vs) : SCn w0 w0.heap.size ts bm us b o vs w8.drew := by
  have hb7 := below_through h7 hb.size hb
  have hb8 : Below w0.heap.size w0 w8 := by rw [hw]; exact below_setCells _ 0 hb7 (Nat.le_refl _)
  exact ⟨hV.drew, by rw [hw]; exact ((hm.below h7).other ts0 (by omega)).drew, hn _ (Below.drew hb8), Below.drew hb8⟩
set_option maxRecDepth 100000 in
set_option maxHeartbeats 8000000 in
theorem dCountNow_any (a1 a2 : Option Addr) (c1 c2 : Nat) (A B : List Elem) (w : World) (h1 : ElemsI w a1 c1 A) (h2 : ElemsI w a2 c2 B) (hl : A.length + B.length ≤ 1000000) (hs : absS (A.map pr ++ B.map pr) ≤ 4611686018427387904) :
    Calls Tryz.prog 135 #[.slice a1 A.length c1, .slice a2 B.length c2] w fun e w' => e = .returned (.int .i64 (nowC (A.map pr ++ B.map pr))) ∧ Below w.heap.size w w' := by
  have CC := hid0 (concatE2_any a1 a2 c1 c2 A B w 57 h1.at_ h2.at_ hl)
  have HI := hid0 (show ∀ e ∈ A ++ B, in64 e.n from fun e he => (List.mem_append.1 he).elim (fun h => (h1.i e h).2.1) (fun h => (h2.i e h).2.1))
  rw [← List.map_append] at hs ⊢
  have HLN : (A ++ B).length ≤ 1000000 := by rw [List.length_append]; exact hl
  clear h1 h2 hl
  obtain ⟨L, hL⟩ : ∃ L, A ++ B = L := ⟨_, rfl⟩
  rw [hL] at CC HI hs HLN ⊢
  clear hL
  obtain ⟨R, hR⟩ : ∃ R, nowC (L.map pr) = R := ⟨_, rfl⟩
  rw [hR]
  have HR := hid0 hR
  have HS := hid0 hs
  clear hR hs
  go_enter Tryz.func135, Tryz.ntmps135
  go_wp2_with fail
  go_at_call 190
  refine CC.out.mono ?_
  rintro e w1 ⟨v, rfl, hO⟩
  have CS := hid0 (sortAll_any hO (by omega))
  clear hO CC
  go_wp2_with fail
  go_at_call 191
  refine CS.out.mono ?_
  rintro e w2 ⟨rfl, E, hO, hp, hsr⟩
  obtain ⟨a, c, rfl, hc, hA⟩ := hO.elems
  have hlen : E.length ≤ 1000000 := by rw [hp.length_eq]; exact HLN
  have HB2 := hid0 hO.b
  have HIE := hid0 (fun e (he : e ∈ E) => HI.out e (hp.mem_iff.1 he))
  have hcnt : cntR 0 0 (E.map pr) = R := by
    rw [← HR.out]
    exact cntR_now (by rw [List.pairwise_map]; exact hsr) (hp.map pr)
  have habs : absS (E.map pr) ≤ 4611686018427387904 := by
    rw [absS_permD (hp.map pr)]; exact HS.out
  have HCN := hid0 hcnt
  have HAB := hid0 habs
  have HA := hid0 hA
  clear CS hO hp hsr hc hA hcnt habs HI HR HS HLN
  go_wp2_with fail
  have VT0 := VarB.new w2 [.int .u64 0, .int .u64 0] 217
  have hBT : Below w2.heap.size w2 (w2.alloc (Obj.cells #[.int .u64 0, .int .u64 0] 217)) := (Below.refl _ _).alloc (Nat.le_refl _) _
  have hz : ((wH 0 : Nat) : Int) = 0 ∧ ((wL 0 : Nat) : Int) = 0 := by decide
  go_loopw [6, 18] (fun nv iv wr => ∃ (i : Nat) (n T : Int), i ≤ E.length ∧ iv = .int .i64 i ∧ nv = .int .i64 n ∧ (0 ≤ n ∧ n ≤ maxMany) ∧ VarB wr w2.heap.size [.int .u64 (wH T : Nat), .int .u64 (wL T : Nat)] ∧ Below w2.heap.size w2 wr ∧ Hid (cntR n T ((E.map pr).drop i) = R) ∧ Hid (-absS ((E.map pr).take i) ≤ T ∧ T ≤ absS ((E.map pr).take i))) (fun _ iv _ => E.length - (intOf iv).toNat)
  case atStart => exact ⟨0, 0, 0, Nat.zero_le _, rfl, rfl, by unfold maxMany; omega, by rw [hz.1, hz.2]; exact VT0, hBT, HCN, hid0 ⟨by show -0 ≤ (0 : Int); omega, by show (0 : Int) ≤ 0; omega⟩⟩
  case round =>
    obtain ⟨i, n, T, hi, rfl, rfl, hn, VT, hB, hC, hT⟩ := hrel
    clear VT0 hBT
    have hsz := hB.size
    by_cases hlt : i < E.length
    · obtain ⟨b1, o1, rfl, hc1⟩ := (HA.out.1.later hB) (by intro e; rw [e] at hlt; exact absurd hlt (by simp))
      obtain ⟨q0, q1⟩ := hc1 i hlt
      have hm1 := List.getElem_mem hlt
      have hr1 := (HA.out.2 _ hm1).1
      have hok1 := (HA.out.2 _ hm1).2
      have hxn := HIE.out _ hm1
      have HT1 := hid0 (show -absS ((E.map pr).take (i + 1)) ≤ T + E[i].n ∧ T + E[i].n ≤ absS ((E.map pr).take (i + 1)) from by
        have h := hT.out
        rw [List.take_succ_eq_append_getElem (by simpa using hlt), absS_append]
        have h2 := absS_mem (L := [(E.map pr)[i]'(by simpa using hlt)]) (List.mem_singleton.2 rfl)
        have h3 : ((E.map pr)[i]'(by simpa using hlt)).2 = E[i].n := by simp [pr]
        rw [h3] at h2
        omega)
      have HNB := hid0 (show -85070591730234615865843651857942052864 ≤ T + E[i].n ∧ T + E[i].n ≤ 85070591730234615865843651857942052864 from by
        have h1 := absS_take (E.map pr) (i + 1)
        have h2 := absS_nonneg ((E.map pr).drop (i + 1))
        have h3 := HAB.out
        have h4 := HT1.out
        omega)
      have HLAST := hid0 (fun (hl : i + 1 = E.length) => show addMany n (clampM (T + E[i].n)) = R from by
        rw [← hC.out, cntR_last (by simpa using hl)]; simp [pr])
      have hw1 : IntKind.i64.wrap ((i : Int) + 1) = (i : Int) + 1 := IntWalk.i64_in _ (by omega)
      have hin : (i : Int) < (E.length : Int) := by omega
      have HCL := hid0 (show 0 ≤ clampM (T + E[i].n) ∧ clampM (T + E[i].n) ≤ 9223372036854775807 from by have := clampM_in (T + E[i].n); unfold maxMany at this; omega)
      have HA1 := hid0 hc1
      clear hc1 hT
      by_cases hl : i + 1 = E.length
      · have hle : (((i : Int) + 1) == (E.length : Int)) = true := by simp; omega
        have HDN := hid0 (show Hid (cntR (addMany n (clampM (T + E[i].n))) 0 ((E.map pr).drop (i + 1)) = R) from by
          rw [List.drop_of_length_le (by simp; omega)]
          exact HLAST.out hl)
        clear HLAST hC
        generalize E[i] = x at q0 q1 hr1 hok1 hxn HT1 HNB HCL HDN
        have VTA := VT.alloc (Obj.cells #[.slice x.a x.r.length x.c, .int .i64 x.n] 80)
        have VMA := VarB.new wr [.slice x.a x.r.length x.c, .int .i64 x.n] 80
        have hBA := Below.alloc hB hsz (Obj.cells #[.slice x.a x.r.length x.c, .int .i64 x.n] 80)
        have hBM : w2.heap.size < wr.heap.size := VT.lt
        have t0 := VTA.cell 0 rfl
        have t1 := VTA.cell 1 rfl
        go_wp2_with (first | (go_at_call 193; go_must (refine (dPlusT_any T x.n _ hxn).mono ?_; rintro e w7 ⟨rfl, hb7⟩; (have VT7 := VTA.below hb7); (have y0 := VT7.cell 0 rfl); (have y1 := VT7.cell 1 rfl); (have f0 := VT7.frz 0 (by simp)); (have f1 := VT7.frz 1 (by simp)))) | fail)
        have hS : SCn w2 w2.heap.size [.int .u64 (wH (T + x.n) : Nat), .int .u64 (wL (T + x.n) : Nat)] wr.heap.size [.slice x.a x.r.length x.c, .int .i64 x.n] b1 0 [] ((w7.setCell ⟨w2.heap.size, 0, none⟩ (.int .u64 (wH (T + x.n) : Nat))).setCell ⟨w2.heap.size, 1, none⟩ (.int .u64 (wL (T + x.n) : Nat))).drew := SCn.of (ts0 := [.int .u64 (wH (T + x.n) : Nat), .int .u64 (wL (T + x.n) : Nat)]) VMA hb7 hBA (VT7.puts [.int .u64 (wH (T + x.n) : Nat), .int .u64 (wL (T + x.n) : Nat)] rfl) rfl hBM (fun _ _ j u hu => by simp at hu)
        clear hb7 VT7 hBA VMA VTA q0 q1 t0 t1 y0 y1 f0 f1
        refine wp_region_held_drew (S := SCn w2 w2.heap.size [.int .u64 (wH (T + x.n) : Nat), .int .u64 (wL (T + x.n) : Nat)] wr.heap.size [.slice x.a x.r.length x.c, .int .i64 x.n] b1 0 []) (by kernel_rfl) hS (fun hHeld => ?_)
        refine wpAnyH_take (i := 0) (v := ?_) rfl (by kernel_rfl) (by kernel_rfl) (by kernel_rfl) (fun _ _ _ h => h) (Or.inl ⟨by rfl, ?_⟩) (by assumption) ?_
        rotate_left
        · (intro wx hSw; have y0 := hw1; go_simp; (try with_reducible rfl); (try omega))
        (try simp only [Act.put, List.setIfInBounds_toArray, List.set_cons_zero, List.set_cons_succ, List.getElem_toArray, List.getElem_cons_zero])
        refine wpAnyH_take (i := 1) (v := ?_) rfl (by kernel_rfl) (by kernel_rfl) (by kernel_rfl) (fun _ _ _ h => h) (Or.inl ⟨by rfl, ?_⟩) (by assumption) ?_
        rotate_left
        · (intro wx hSw; have y0 := hw1; go_simp; (try with_reducible rfl); (try omega))
        (try simp only [Act.put, List.setIfInBounds_toArray, List.set_cons_zero, List.set_cons_succ, List.getElem_toArray, List.getElem_cons_zero, List.getElem_cons_succ])
        refine wpAnyH_take (i := 2) (v := ?_) rfl (by kernel_rfl) (by kernel_rfl) (by kernel_rfl) (fun _ _ _ h => h) (Or.inl ⟨by rfl, ?_⟩) (by assumption) ?_
        rotate_left
        · (intro wx hSw; have y0 := hw1; go_simp; (try with_reducible rfl); (try omega))
        (try simp only [Act.put, List.setIfInBounds_toArray, List.set_cons_zero, List.set_cons_succ, List.getElem_toArray, List.getElem_cons_zero, List.getElem_cons_succ])
        refine wpAnyH_take (i := 3) (v := ?_) rfl (by kernel_rfl) (by kernel_rfl) (by kernel_rfl) (fun _ _ _ h => h) (Or.inl ⟨by rfl, ?_⟩) (by assumption) ?_
        rotate_left
        · (intro wx hSw; have y0 := hw1; go_simp; (try with_reducible rfl); (try omega))
        (try simp only [Act.put, List.setIfInBounds_toArray, List.set_cons_zero, List.set_cons_succ, List.getElem_toArray, List.getElem_cons_zero, List.getElem_cons_succ])
        refine wpAnyH_take (i := 4) (v := ?_) rfl (by kernel_rfl) (by kernel_rfl) (by kernel_rfl) (fun _ _ _ h => h) (Or.inl ⟨by rfl, ?_⟩) (by assumption) ?_
        rotate_left
        · (intro wx hSw; have y0 := hw1; go_simp; (try with_reducible rfl); (try omega))
        (try simp only [Act.put, List.setIfInBounds_toArray, List.set_cons_zero, List.set_cons_succ, List.getElem_toArray, List.getElem_cons_zero, List.getElem_cons_succ])
        refine wpAnyH_take (i := 5) (v := ?_) rfl (by kernel_rfl) (by kernel_rfl) (by kernel_rfl) (fun _ _ _ h => h) (Or.inl ⟨by rfl, ?_⟩) (by assumption) ?_
        rotate_left
        · (intro wx hSw; have y0 := hw1; go_simp; (try with_reducible rfl); (try omega))
        (try simp only [Act.put, List.setIfInBounds_toArray, List.set_cons_zero, List.set_cons_succ, List.getElem_toArray, List.getElem_cons_zero, List.getElem_cons_succ])
        refine wpAnyH_take (i := 6) (v := undef) rfl (by kernel_rfl) (by kernel_rfl) (by kernel_rfl) (fun _ _ _ h => h) (Or.inr ⟨by rfl, rfl⟩) (by assumption) ?_
        (try simp only [Act.put, List.setIfInBounds_toArray, List.set_cons_zero, List.set_cons_succ, List.getElem_toArray, List.getElem_cons_zero, List.getElem_cons_succ])
        refine wpAnyH_take (i := 7) (v := undef) rfl (by kernel_rfl) (by kernel_rfl) (by kernel_rfl) (fun _ _ _ h => h) (Or.inr ⟨by rfl, rfl⟩) (by assumption) ?_
        (try simp only [Act.put, List.setIfInBounds_toArray, List.set_cons_zero, List.set_cons_succ, List.getElem_toArray, List.getElem_cons_zero, List.getElem_cons_succ])
        refine wpAnyH_take (i := 8) (v := undef) rfl (by kernel_rfl) (by kernel_rfl) (by kernel_rfl) (fun _ _ _ h => h) (Or.inr ⟨by rfl, rfl⟩) (by assumption) ?_
        (try simp only [Act.put, List.setIfInBounds_toArray, List.set_cons_zero, List.set_cons_succ, List.getElem_toArray, List.getElem_cons_zero, List.getElem_cons_succ])
        refine wpAnyH_take (i := 9) (v := undef) rfl (by kernel_rfl) (by kernel_rfl) (by kernel_rfl) (fun _ _ _ h => h) (Or.inr ⟨by rfl, rfl⟩) (by assumption) ?_
        (try simp only [Act.put, List.setIfInBounds_toArray, List.set_cons_zero, List.set_cons_succ, List.getElem_toArray, List.getElem_cons_zero, List.getElem_cons_succ])
        refine wpAnyH_take (i := 10) (v := undef) rfl (by kernel_rfl) (by kernel_rfl) (by kernel_rfl) (fun _ _ _ h => h) (Or.inr ⟨by rfl, rfl⟩) (by assumption) ?_
        (try simp only [Act.put, List.setIfInBounds_toArray, List.set_cons_zero, List.set_cons_succ, List.getElem_toArray, List.getElem_cons_zero, List.getElem_cons_succ])
        refine wpAnyH_take (i := 11) (v := undef) rfl (by kernel_rfl) (by kernel_rfl) (by kernel_rfl) (fun _ _ _ h => h) (Or.inr ⟨by rfl, rfl⟩) (by assumption) ?_
        (try simp only [Act.put, List.setIfInBounds_toArray, List.set_cons_zero, List.set_cons_succ, List.getElem_toArray, List.getElem_cons_zero, List.getElem_cons_succ])
        refine wpAnyH_take (i := 12) (v := undef) rfl (by kernel_rfl) (by kernel_rfl) (by kernel_rfl) (fun _ _ _ h => h) (Or.inr ⟨by rfl, rfl⟩) (by assumption) ?_
        (try simp only [Act.put, List.setIfInBounds_toArray, List.set_cons_zero, List.set_cons_succ, List.getElem_toArray, List.getElem_cons_zero, List.getElem_cons_succ])
        refine wpAnyH_take (i := 13) (v := undef) rfl (by kernel_rfl) (by kernel_rfl) (by kernel_rfl) (fun _ _ _ h => h) (Or.inr ⟨by rfl, rfl⟩) (by assumption) ?_
        (try simp only [Act.put, List.setIfInBounds_toArray, List.set_cons_zero, List.set_cons_succ, List.getElem_toArray, List.getElem_cons_zero, List.getElem_cons_succ])
        refine wpAnyH_take (i := 14) (v := ?_) rfl (by kernel_rfl) (by kernel_rfl) (by kernel_rfl) (fun _ _ _ h => h) (Or.inl ⟨by rfl, ?_⟩) (by assumption) ?_
        rotate_left
        · (intro wx hSw; have y0 := hw1; go_simp; (try with_reducible rfl); (try omega))
        (try simp only [Act.put, List.setIfInBounds_toArray, List.set_cons_zero, List.set_cons_succ, List.getElem_toArray, List.getElem_cons_zero, List.getElem_cons_succ])
        refine wpAnyH_done (by kernel_rfl) ?_ _
        have hS0 := hS
        have u0 := hS.t.cell 0 rfl
        have u1 := hS.t.cell 1 rfl
        clear hHeld
        go_wp2_with (first | (go_at_call 194; go_must (refine (dNarrow_any (T + x.n) _ HNB.out).mono ?_; rintro e wn ⟨rfl, hbn⟩; (have VTn := hS.t.below hbn); (have hbb := below_through hbn hS.b.size hS.b); (have y0 := VTn.cell 0 rfl); (have y1 := VTn.cell 1 rfl); (have f0 := VTn.frz 0 (by simp)); (have f1 := VTn.frz 1 (by simp)))) | (go_at_call 95; go_must (refine (dPlus_any n (clampM (T + x.n)) _ hn HCL.out).mono ?_; rintro e wq ⟨rfl, hwq⟩)) | fail)
        exact ⟨⟨i + 1, addMany n (clampM (T + x.n)), 0, by omega, by go_num, rfl, addMany_clamp _ hn, by rw [hz.1, hz.2]; exact VTn.puts [.int .u64 0, .int .u64 0] rfl, below_setCells [.int .u64 0, .int .u64 0] 0 hbb (Nat.le_refl _), HDN.out, hid0 (by have := absS_nonneg ((E.map pr).take (i + 1)); omega)⟩, by simp [intOf]; omega⟩
      · have hlt2 : i + 1 < E.length := by omega
        obtain ⟨r0, r1⟩ := HA1.out (i + 1) hlt2
        have hm2 := List.getElem_mem hlt2
        have hr2 := (HA.out.2 _ hm2).1
        have HSM := hid0 (fun (hk0 : rowsV E[i].r E[i + 1].r = 0) => show Hid (cntR n (T + E[i].n) ((E.map pr).drop (i + 1)) = R) from by
          have h := (cntR_same (L := E.map pr) (n := n) (T := T) (i := i) (by simpa using hlt2) (by simpa [pr] using hk0)).symm.trans hC.out
          have e : ((E.map pr)[i]'(by simpa using hlt)).2 = E[i].n := by simp [pr]
          rw [e] at h
          exact h)
        have HNX := hid0 (fun (hk0 : rowsV E[i].r E[i + 1].r ≠ 0) => show Hid (cntR (addMany n (clampM (T + E[i].n))) 0 ((E.map pr).drop (i + 1)) = R) from by
          have h := (cntR_next (L := E.map pr) (n := n) (T := T) (i := i) (by simpa using hlt2) (by simpa [pr] using hk0)).symm.trans hC.out
          have e : ((E.map pr)[i]'(by simpa using hlt)).2 = E[i].n := by simp [pr]
          rw [e] at h
          exact h)
        have HYR := hid0 (fun (W : World) (hW : Below w2.heap.size w2 W) => show W.rangeAt b1 (o1 + (i + 1) * 2) [.slice E[i + 1].a E[i + 1].r.length E[i + 1].c, .int .i64 E[i + 1].n] from by
          obtain ⟨b', o', e, hc⟩ := (HA.out.1.later hW) (fun e => by rw [e] at hlt; exact absurd hlt (by simp))
          cases e
          obtain ⟨p0, p1⟩ := hc (i + 1) hlt2
          intro j v hv
          match j, hv with
          | 0, hv => simp at hv; subst hv; exact p0
          | 1, hv => simp at hv; subst hv; exact p1
          | j + 2, hv => simp at hv)
        have hle : (((i : Int) + 1) == (E.length : Int)) = false := by simp; omega
        have hin2 : (i : Int) + 1 < (E.length : Int) := by omega
        have hi0 : (0 : Int) ≤ (i : Int) + 1 := by omega
        clear HLAST hC
        generalize E[i] = x at q0 q1 hr1 hok1 hxn HT1 HNB HCL HSM HNX
        generalize E[i + 1] = y at r0 r1 hr2 HSM HNX HYR
        have CB := hid0 (fun (W : World) (hW : Below w2.heap.size w2 W) => dByRow_any x y W (hr1.later hW) (hr2.later hW) (by unfold rowOK at hok1; unfold maxLen; omega))
        generalize rowsV x.r y.r = z at HSM HNX CB
        have VTA := VT.alloc (Obj.cells #[.slice x.a x.r.length x.c, .int .i64 x.n] 80)
        have VMA := VarB.new wr [.slice x.a x.r.length x.c, .int .i64 x.n] 80
        have hBA := Below.alloc hB hsz (Obj.cells #[.slice x.a x.r.length x.c, .int .i64 x.n] 80)
        have hBM : w2.heap.size < wr.heap.size := VT.lt
        have t0 := VTA.cell 0 rfl
        have t1 := VTA.cell 1 rfl
        by_cases hx : z = 0
        · have hxb : (z == 0) = true := by simpa using hx
          have HSM := HSM.out hx
          clear hx HNX
          go_wp2_with (first | (go_at_call 193; go_must (refine (dPlusT_any T x.n _ hxn).mono ?_; rintro e w7 ⟨rfl, hb7⟩; (have VT7 := VTA.below hb7); (have y0 := VT7.cell 0 rfl); (have y1 := VT7.cell 1 rfl); (have f0 := VT7.frz 0 (by simp)); (have f1 := VT7.frz 1 (by simp)))) | fail)
          have hS : SCn w2 w2.heap.size [.int .u64 (wH (T + x.n) : Nat), .int .u64 (wL (T + x.n) : Nat)] wr.heap.size [.slice x.a x.r.length x.c, .int .i64 x.n] b1 (o1 + (i + 1) * 2) [.slice y.a y.r.length y.c, .int .i64 y.n] ((w7.setCell ⟨w2.heap.size, 0, none⟩ (.int .u64 (wH (T + x.n) : Nat))).setCell ⟨w2.heap.size, 1, none⟩ (.int .u64 (wL (T + x.n) : Nat))).drew := SCn.of (ts0 := [.int .u64 (wH (T + x.n) : Nat), .int .u64 (wL (T + x.n) : Nat)]) VMA hb7 hBA (VT7.puts [.int .u64 (wH (T + x.n) : Nat), .int .u64 (wL (T + x.n) : Nat)] rfl) rfl hBM HYR.out
          clear hb7 VT7 hBA VMA VTA q0 q1 t0 t1 y0 y1 f0 f1
          refine wp_region_held_drew (S := SCn w2 w2.heap.size [.int .u64 (wH (T + x.n) : Nat), .int .u64 (wL (T + x.n) : Nat)] wr.heap.size [.slice x.a x.r.length x.c, .int .i64 x.n] b1 (o1 + (i + 1) * 2) [.slice y.a y.r.length y.c, .int .i64 y.n]) (by kernel_rfl) hS (fun hHeld => ?_)
          refine wpAnyH_take (i := 0) (v := ?_) rfl (by kernel_rfl) (by kernel_rfl) (by kernel_rfl) (fun _ _ _ h => h) (Or.inl ⟨by rfl, ?_⟩) (by assumption) ?_
          rotate_left
          · (intro wx hSw; have y0 := hw1; go_simp; (try with_reducible rfl); (try omega))
          (try simp only [Act.put, List.setIfInBounds_toArray, List.set_cons_zero, List.set_cons_succ, List.getElem_toArray, List.getElem_cons_zero])
          refine wpAnyH_take (i := 1) (v := ?_) rfl (by kernel_rfl) (by kernel_rfl) (by kernel_rfl) (fun _ _ _ h => h) (Or.inl ⟨by rfl, ?_⟩) (by assumption) ?_
          rotate_left
          · (intro wx hSw; have y0 := hw1; go_simp; (try with_reducible rfl); (try omega))
          (try simp only [Act.put, List.setIfInBounds_toArray, List.set_cons_zero, List.set_cons_succ, List.getElem_toArray, List.getElem_cons_zero, List.getElem_cons_succ])
          refine wpAnyH_take (i := 2) (v := ?_) rfl (by kernel_rfl) (by kernel_rfl) (by kernel_rfl) (fun _ _ _ h => h) (Or.inl ⟨by rfl, ?_⟩) (by assumption) ?_
          rotate_left
          · (intro wx hSw; have y0 := hw1; go_simp; (try with_reducible rfl); (try omega))
          (try simp only [Act.put, List.setIfInBounds_toArray, List.set_cons_zero, List.set_cons_succ, List.getElem_toArray, List.getElem_cons_zero, List.getElem_cons_succ])
          refine wpAnyH_take (i := 3) (v := ?_) rfl (by kernel_rfl) (by kernel_rfl) (by kernel_rfl) (fun _ _ _ h => h) (Or.inl ⟨by rfl, ?_⟩) (by assumption) ?_
          rotate_left
          · (intro wx hSw; have y0 := hw1; go_simp; (try with_reducible rfl); (try omega))
          (try simp only [Act.put, List.setIfInBounds_toArray, List.set_cons_zero, List.set_cons_succ, List.getElem_toArray, List.getElem_cons_zero, List.getElem_cons_succ])
          refine wpAnyH_take (i := 4) (v := ?_) rfl (by kernel_rfl) (by kernel_rfl) (by kernel_rfl) (fun _ _ _ h => h) (Or.inl ⟨by rfl, ?_⟩) (by assumption) ?_
          rotate_left
          · (intro wx hSw; have y0 := hw1; go_simp; (try with_reducible rfl); (try omega))
          (try simp only [Act.put, List.setIfInBounds_toArray, List.set_cons_zero, List.set_cons_succ, List.getElem_toArray, List.getElem_cons_zero, List.getElem_cons_succ])
          refine wpAnyH_take (i := 5) (v := ?_) rfl (by kernel_rfl) (by kernel_rfl) (by kernel_rfl) (fun _ _ _ h => h) (Or.inl ⟨by rfl, ?_⟩) (by assumption) ?_
          rotate_left
          · (intro wx hSw; have y0 := hw1; go_simp; (try with_reducible rfl); (try omega))
          (try simp only [Act.put, List.setIfInBounds_toArray, List.set_cons_zero, List.set_cons_succ, List.getElem_toArray, List.getElem_cons_zero, List.getElem_cons_succ])
          refine wpAnyH_take (i := 6) (v := .agg [.slice x.a x.r.length x.c, .int .i64 x.n].toArray) rfl (by kernel_rfl) (by kernel_rfl) (by kernel_rfl) (fun _ _ _ h => h) (yieldsIf_load_mid rfl 80 _ rfl wr.heap.size (0) rfl [.slice x.a x.r.length x.c, .int .i64 x.n] _ (fun w h => h.m.at_) Tryz.underlying80 rfl (sizeMany)) (by assumption) ?_
          (try simp only [Act.put, List.setIfInBounds_toArray, List.set_cons_zero, List.set_cons_succ, List.getElem_toArray, List.getElem_cons_zero, List.getElem_cons_succ])
          refine wpAnyH_take (i := 7) (v := ?_) rfl (by kernel_rfl) (by kernel_rfl) (by kernel_rfl) (fun _ _ _ h => h) (Or.inl ⟨by rfl, ?_⟩) (by assumption) ?_
          rotate_left
          · (intro wx hSw; have y0 := hw1; go_simp; (try with_reducible rfl); (try omega))
          (try simp only [Act.put, List.setIfInBounds_toArray, List.set_cons_zero, List.set_cons_succ, List.getElem_toArray, List.getElem_cons_zero, List.getElem_cons_succ])
          refine wpAnyH_take (i := 8) (v := ?_) rfl (by kernel_rfl) (by kernel_rfl) (by kernel_rfl) (fun _ _ _ h => h) (Or.inl ⟨by rfl, ?_⟩) (by assumption) ?_
          rotate_left
          · (intro wx hSw; have y0 := hw1; go_simp; (try with_reducible rfl); (try omega))
          (try simp only [Act.put, List.setIfInBounds_toArray, List.set_cons_zero, List.set_cons_succ, List.getElem_toArray, List.getElem_cons_zero, List.getElem_cons_succ])
          refine wpAnyH_take (i := 9) (v := ?_) rfl (by kernel_rfl) (by kernel_rfl) (by kernel_rfl) (fun _ _ _ h => h) (Or.inl ⟨by rfl, ?_⟩) (by assumption) ?_
          rotate_left
          · (intro wx hSw; have y0 := hw1; go_simp; (try with_reducible rfl); (try omega))
          (try simp only [Act.put, List.setIfInBounds_toArray, List.set_cons_zero, List.set_cons_succ, List.getElem_toArray, List.getElem_cons_zero, List.getElem_cons_succ])
          refine wpAnyH_take (i := 10) (v := ?_) rfl (by kernel_rfl) (by kernel_rfl) (by kernel_rfl) (fun _ _ _ h => h) (Or.inl ⟨by rfl, ?_⟩) (by assumption) ?_
          rotate_left
          · (intro wx hSw; have y0 := hw1; go_simp; (try with_reducible rfl); (try omega))
          (try simp only [Act.put, List.setIfInBounds_toArray, List.set_cons_zero, List.set_cons_succ, List.getElem_toArray, List.getElem_cons_zero, List.getElem_cons_succ])
          refine wpAnyH_take (i := 11) (v := .agg [.slice y.a y.r.length y.c, .int .i64 y.n].toArray) rfl (by kernel_rfl) (by kernel_rfl) (by kernel_rfl) (fun _ _ _ h => h) (yieldsIf_load_mid rfl 80 _ rfl b1 (o1 + (i + 1) * 2) rfl [.slice y.a y.r.length y.c, .int .i64 y.n] _ (fun w h => h.n) Tryz.underlying80 rfl (sizeMany)) (by assumption) ?_
          (try simp only [Act.put, List.setIfInBounds_toArray, List.set_cons_zero, List.set_cons_succ, List.getElem_toArray, List.getElem_cons_zero, List.getElem_cons_succ])
          refine wpAnyH_ready (rs := [12]) (by kernel_rfl) (by simp) ?_
          refine AllReadyH.cons rfl (fun K hK => ?_) AllReadyH.nil
          go_simp
          refine (CB.out _ hS.b).mono ?_
          rintro e w9 ⟨rfl, hb9⟩
          have hS := hS.below hb9
          refine hK.out _ _ hS (fun hHeld => ?_)
          clear hK K
          (try simp only [Act.put, List.setIfInBounds_toArray, List.set_cons_zero, List.set_cons_succ, List.getElem_toArray, List.getElem_cons_zero, List.getElem_cons_succ])
          refine wpAnyH_take (i := 13) (v := ?_) rfl (by kernel_rfl) (by kernel_rfl) (by kernel_rfl) (fun _ _ _ h => h) (Or.inl ⟨by rfl, ?_⟩) (by assumption) ?_
          rotate_left
          · (intro wx hSw; have y0 := hw1; go_simp; (try with_reducible rfl); (try omega))
          (try simp only [Act.put, List.setIfInBounds_toArray, List.set_cons_zero, List.set_cons_succ, List.getElem_toArray, List.getElem_cons_zero, List.getElem_cons_succ])
          refine wpAnyH_take (i := 14) (v := ?_) rfl (by kernel_rfl) (by kernel_rfl) (by kernel_rfl) (fun _ _ _ h => h) (Or.inl ⟨by rfl, ?_⟩) (by assumption) ?_
          rotate_left
          · (intro wx hSw; have y0 := hw1; go_simp; (try with_reducible rfl); (try omega))
          (try simp only [Act.put, List.setIfInBounds_toArray, List.set_cons_zero, List.set_cons_succ, List.getElem_toArray, List.getElem_cons_zero, List.getElem_cons_succ])
          refine wpAnyH_done (by kernel_rfl) ?_ _
          have hS0 := hS
          clear hS hHeld
          go_wp2_with fail
          exact ⟨⟨i + 1, n, T + x.n, by omega, by go_num, rfl, hn, hS0.t, hS0.b, HSM, HT1⟩, by simp [intOf]; omega⟩
        · have hxb : (z == 0) = false := by simpa using hx
          have HNX := HNX.out hx
          clear hx HSM
          go_wp2_with (first | (go_at_call 193; go_must (refine (dPlusT_any T x.n _ hxn).mono ?_; rintro e w7 ⟨rfl, hb7⟩; (have VT7 := VTA.below hb7); (have y0 := VT7.cell 0 rfl); (have y1 := VT7.cell 1 rfl); (have f0 := VT7.frz 0 (by simp)); (have f1 := VT7.frz 1 (by simp)))) | fail)
          have hS : SCn w2 w2.heap.size [.int .u64 (wH (T + x.n) : Nat), .int .u64 (wL (T + x.n) : Nat)] wr.heap.size [.slice x.a x.r.length x.c, .int .i64 x.n] b1 (o1 + (i + 1) * 2) [.slice y.a y.r.length y.c, .int .i64 y.n] ((w7.setCell ⟨w2.heap.size, 0, none⟩ (.int .u64 (wH (T + x.n) : Nat))).setCell ⟨w2.heap.size, 1, none⟩ (.int .u64 (wL (T + x.n) : Nat))).drew := SCn.of (ts0 := [.int .u64 (wH (T + x.n) : Nat), .int .u64 (wL (T + x.n) : Nat)]) VMA hb7 hBA (VT7.puts [.int .u64 (wH (T + x.n) : Nat), .int .u64 (wL (T + x.n) : Nat)] rfl) rfl hBM HYR.out
          clear hb7 VT7 hBA VMA VTA q0 q1 t0 t1 y0 y1 f0 f1
          refine wp_region_held_drew (S := SCn w2 w2.heap.size [.int .u64 (wH (T + x.n) : Nat), .int .u64 (wL (T + x.n) : Nat)] wr.heap.size [.slice x.a x.r.length x.c, .int .i64 x.n] b1 (o1 + (i + 1) * 2) [.slice y.a y.r.length y.c, .int .i64 y.n]) (by kernel_rfl) hS (fun hHeld => ?_)
          refine wpAnyH_take (i := 0) (v := ?_) rfl (by kernel_rfl) (by kernel_rfl) (by kernel_rfl) (fun _ _ _ h => h) (Or.inl ⟨by rfl, ?_⟩) (by assumption) ?_
          rotate_left
          · (intro wx hSw; have y0 := hw1; go_simp; (try with_reducible rfl); (try omega))
          (try simp only [Act.put, List.setIfInBounds_toArray, List.set_cons_zero, List.set_cons_succ, List.getElem_toArray, List.getElem_cons_zero])
          refine wpAnyH_take (i := 1) (v := ?_) rfl (by kernel_rfl) (by kernel_rfl) (by kernel_rfl) (fun _ _ _ h => h) (Or.inl ⟨by rfl, ?_⟩) (by assumption) ?_
          rotate_left
          · (intro wx hSw; have y0 := hw1; go_simp; (try with_reducible rfl); (try omega))
          (try simp only [Act.put, List.setIfInBounds_toArray, List.set_cons_zero, List.set_cons_succ, List.getElem_toArray, List.getElem_cons_zero, List.getElem_cons_succ])
          refine wpAnyH_take (i := 2) (v := ?_) rfl (by kernel_rfl) (by kernel_rfl) (by kernel_rfl) (fun _ _ _ h => h) (Or.inl ⟨by rfl, ?_⟩) (by assumption) ?_
          rotate_left
          · (intro wx hSw; have y0 := hw1; go_simp; (try with_reducible rfl); (try omega))
          (try simp only [Act.put, List.setIfInBounds_toArray, List.set_cons_zero, List.set_cons_succ, List.getElem_toArray, List.getElem_cons_zero, List.getElem_cons_succ])
          refine wpAnyH_take (i := 3) (v := ?_) rfl (by kernel_rfl) (by kernel_rfl) (by kernel_rfl) (fun _ _ _ h => h) (Or.inl ⟨by rfl, ?_⟩) (by assumption) ?_
          rotate_left
          · (intro wx hSw; have y0 := hw1; go_simp; (try with_reducible rfl); (try omega))
          (try simp only [Act.put, List.setIfInBounds_toArray, List.set_cons_zero, List.set_cons_succ, List.getElem_toArray, List.getElem_cons_zero, List.getElem_cons_succ])
          refine wpAnyH_take (i := 4) (v := ?_) rfl (by kernel_rfl) (by kernel_rfl) (by kernel_rfl) (fun _ _ _ h => h) (Or.inl ⟨by rfl, ?_⟩) (by assumption) ?_
          rotate_left
          · (intro wx hSw; have y0 := hw1; go_simp; (try with_reducible rfl); (try omega))
          (try simp only [Act.put, List.setIfInBounds_toArray, List.set_cons_zero, List.set_cons_succ, List.getElem_toArray, List.getElem_cons_zero, List.getElem_cons_succ])
          refine wpAnyH_take (i := 5) (v := ?_) rfl (by kernel_rfl) (by kernel_rfl) (by kernel_rfl) (fun _ _ _ h => h) (Or.inl ⟨by rfl, ?_⟩) (by assumption) ?_
          rotate_left
          · (intro wx hSw; have y0 := hw1; go_simp; (try with_reducible rfl); (try omega))
          (try simp only [Act.put, List.setIfInBounds_toArray, List.set_cons_zero, List.set_cons_succ, List.getElem_toArray, List.getElem_cons_zero, List.getElem_cons_succ])
          refine wpAnyH_take (i := 6) (v := .agg [.slice x.a x.r.length x.c, .int .i64 x.n].toArray) rfl (by kernel_rfl) (by kernel_rfl) (by kernel_rfl) (fun _ _ _ h => h) (yieldsIf_load_mid rfl 80 _ rfl wr.heap.size (0) rfl [.slice x.a x.r.length x.c, .int .i64 x.n] _ (fun w h => h.m.at_) Tryz.underlying80 rfl (sizeMany)) (by assumption) ?_
          (try simp only [Act.put, List.setIfInBounds_toArray, List.set_cons_zero, List.set_cons_succ, List.getElem_toArray, List.getElem_cons_zero, List.getElem_cons_succ])
          refine wpAnyH_take (i := 7) (v := ?_) rfl (by kernel_rfl) (by kernel_rfl) (by kernel_rfl) (fun _ _ _ h => h) (Or.inl ⟨by rfl, ?_⟩) (by assumption) ?_
          rotate_left
          · (intro wx hSw; have y0 := hw1; go_simp; (try with_reducible rfl); (try omega))
          (try simp only [Act.put, List.setIfInBounds_toArray, List.set_cons_zero, List.set_cons_succ, List.getElem_toArray, List.getElem_cons_zero, List.getElem_cons_succ])
          refine wpAnyH_take (i := 8) (v := ?_) rfl (by kernel_rfl) (by kernel_rfl) (by kernel_rfl) (fun _ _ _ h => h) (Or.inl ⟨by rfl, ?_⟩) (by assumption) ?_
          rotate_left
          · (intro wx hSw; have y0 := hw1; go_simp; (try with_reducible rfl); (try omega))
          (try simp only [Act.put, List.setIfInBounds_toArray, List.set_cons_zero, List.set_cons_succ, List.getElem_toArray, List.getElem_cons_zero, List.getElem_cons_succ])
          refine wpAnyH_take (i := 9) (v := ?_) rfl (by kernel_rfl) (by kernel_rfl) (by kernel_rfl) (fun _ _ _ h => h) (Or.inl ⟨by rfl, ?_⟩) (by assumption) ?_
          rotate_left
          · (intro wx hSw; have y0 := hw1; go_simp; (try with_reducible rfl); (try omega))
          (try simp only [Act.put, List.setIfInBounds_toArray, List.set_cons_zero, List.set_cons_succ, List.getElem_toArray, List.getElem_cons_zero, List.getElem_cons_succ])
          refine wpAnyH_take (i := 10) (v := ?_) rfl (by kernel_rfl) (by kernel_rfl) (by kernel_rfl) (fun _ _ _ h => h) (Or.inl ⟨by rfl, ?_⟩) (by assumption) ?_
          rotate_left
          · (intro wx hSw; have y0 := hw1; go_simp; (try with_reducible rfl); (try omega))
          (try simp only [Act.put, List.setIfInBounds_toArray, List.set_cons_zero, List.set_cons_succ, List.getElem_toArray, List.getElem_cons_zero, List.getElem_cons_succ])
          refine wpAnyH_take (i := 11) (v := .agg [.slice y.a y.r.length y.c, .int .i64 y.n].toArray) rfl (by kernel_rfl) (by kernel_rfl) (by kernel_rfl) (fun _ _ _ h => h) (yieldsIf_load_mid rfl 80 _ rfl b1 (o1 + (i + 1) * 2) rfl [.slice y.a y.r.length y.c, .int .i64 y.n] _ (fun w h => h.n) Tryz.underlying80 rfl (sizeMany)) (by assumption) ?_
          (try simp only [Act.put, List.setIfInBounds_toArray, List.set_cons_zero, List.set_cons_succ, List.getElem_toArray, List.getElem_cons_zero, List.getElem_cons_succ])
          refine wpAnyH_ready (rs := [12]) (by kernel_rfl) (by simp) ?_
          refine AllReadyH.cons rfl (fun K hK => ?_) AllReadyH.nil
          go_simp
          refine (CB.out _ hS.b).mono ?_
          rintro e w9 ⟨rfl, hb9⟩
          have hS := hS.below hb9
          refine hK.out _ _ hS (fun hHeld => ?_)
          clear hK K
          (try simp only [Act.put, List.setIfInBounds_toArray, List.set_cons_zero, List.set_cons_succ, List.getElem_toArray, List.getElem_cons_zero, List.getElem_cons_succ])
          refine wpAnyH_take (i := 13) (v := ?_) rfl (by kernel_rfl) (by kernel_rfl) (by kernel_rfl) (fun _ _ _ h => h) (Or.inl ⟨by rfl, ?_⟩) (by assumption) ?_
          rotate_left
          · (intro wx hSw; have y0 := hw1; go_simp; (try with_reducible rfl); (try omega))
          (try simp only [Act.put, List.setIfInBounds_toArray, List.set_cons_zero, List.set_cons_succ, List.getElem_toArray, List.getElem_cons_zero, List.getElem_cons_succ])
          refine wpAnyH_take (i := 14) (v := ?_) rfl (by kernel_rfl) (by kernel_rfl) (by kernel_rfl) (fun _ _ _ h => h) (Or.inl ⟨by rfl, ?_⟩) (by assumption) ?_
          rotate_left
          · (intro wx hSw; have y0 := hw1; go_simp; (try with_reducible rfl); (try omega))
          (try simp only [Act.put, List.setIfInBounds_toArray, List.set_cons_zero, List.set_cons_succ, List.getElem_toArray, List.getElem_cons_zero, List.getElem_cons_succ])
          refine wpAnyH_done (by kernel_rfl) ?_ _
          have hS0 := hS
          have u0 := hS.t.cell 0 rfl
          have u1 := hS.t.cell 1 rfl
          clear hHeld
          go_wp2_with (first | (go_at_call 194; go_must (refine (dNarrow_any (T + x.n) _ HNB.out).mono ?_; rintro e wn ⟨rfl, hbn⟩; (have VTn := hS.t.below hbn); (have hbb := below_through hbn hS.b.size hS.b); (have y0 := VTn.cell 0 rfl); (have y1 := VTn.cell 1 rfl); (have f0 := VTn.frz 0 (by simp)); (have f1 := VTn.frz 1 (by simp)))) | (go_at_call 95; go_must (refine (dPlus_any n (clampM (T + x.n)) _ hn HCL.out).mono ?_; rintro e wq ⟨rfl, hwq⟩)) | fail)
          exact ⟨⟨i + 1, addMany n (clampM (T + x.n)), 0, by omega, by go_num, rfl, addMany_clamp _ hn, by rw [hz.1, hz.2]; exact VTn.puts [.int .u64 0, .int .u64 0] rfl, below_setCells [.int .u64 0, .int .u64 0] 0 hbb (Nat.le_refl _), HNX, hid0 (by have := absS_nonneg ((E.map pr).take (i + 1)); omega)⟩, by simp [intOf]; omega⟩
    · have hie : ¬ (i : Int) < (E.length : Int) := by omega
      have hRn : n = R := by
        rw [← hC.out, List.drop_of_length_le (by simp; omega)]
        rfl
      have hBB := below_through hB HB2.out.size HB2.out
      subst hRn
      go_wp2
      go_ret
      exact ⟨rfl, hBB⟩
end Go.Proofs.YtfdkajefcplfjaaGreat
