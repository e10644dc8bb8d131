/- Several of my texts laid together, each as it was: D51. Conditions: each names its own. -/
import Derived.Test.YtfdkajefcplfjaaGreatVP
import Derived.Test.YtfdkajefcplfjaaGreatVN
/- DeltaNone: the law's call, in whatever memory: it is true. Conditions: the plan's and the names' cells are known; at most 400000 rows in a list that came in, and in two of them together. -/
namespace Go.Proofs.YtfdkajefcplfjaaGreat
open Go.RowKit

theorem dRows_small {old ch : List Nx} {ps : List Px} (h : (dRowsM old ch ps).2 = 0) : absS (dRowsM old ch ps).1 ≤ 24000 ∧ (dRowsM old ch ps).1.length ≤ 24000 := by
  obtain ⟨hG, _, e⟩ := dRowsM_ok h
  obtain ⟨h4, hs⟩ := dAll_small hG
  have h5 := hs ps.length
  rw [List.take_of_length_le (Nat.le_refl _)] at h5
  rw [e]
  have h6 := absS_ofB (dAllL old ch ps)
  have h7 := len_ofB (dAllL old ch ps)
  omega
set_option maxHeartbeats 8000000 in
set_option maxRecDepth 1000000 in
theorem lawDeltaNone {n : Nat} (a : Option Addr) (c : Nat) (ps : List Px) (a1' : Option Addr) (c1' : Nat) (old : List Nx) (a2 : Option Addr) (c2 : Nat) (ch : List Nx) (w : World) (hP : PsOk w n a c ps) (hL : TwoN w a1' old a2 ch) (hf : old.length ≤ 1048576) (hfc : ch.length ≤ 1048576) (hj : ∀ x ∈ old, ∀ z ∈ ch, x.E.length + z.E.length ≤ 400000) :
    Calls Tryz.prog 7 #[planV a ps.length c, .slice a1' old.length c1', .slice a2 ch.length c2] w fun e w' => e = .returned (.bool true) ∧ Below w.heap.size w w' := by
  have HP := hid0 hP
  have HL := hid0 hL
  have HJ := hid0 hj
  have HF := hid0 hf
  have hS : SUn w [.slice a ps.length c] (w.alloc (Obj.cells #[.slice a ps.length c] 24)) := ⟨VarB.new w [.slice a ps.length c] 24, (Below.refl _ _).alloc (Nat.le_refl _) _⟩
  have CA := hid0 (fun W => awake14_any W)
  have CR : DwC w a ps.length c a1' old.length c1' a2 ch.length c2 (dRowsM old ch ps).1 (dRowsM old ch ps).2 := dwC_of hP hL
  have CR0 : DwC w a ps.length c a1' old.length c1' none 0 0 [] (dRowsM old [] ps).2 := by
    have h := dwC_of (c := c) (c1 := c1') (c2 := 0) hP (⟨hL.o, ⟨⟨fun i hi => absurd hi (by simp)⟩, fun x hx => absurd hx (by simp), Nat.zero_le _⟩, hL.lo, fun x hx => absurd hx (by simp)⟩ : TwoN w a1' old none [])
    rw [none_is] at h
    exact h
  clear hP hL hj hf
  obtain ⟨N, hNN⟩ : ∃ N, ch.length = N := ⟨_, rfl⟩
  obtain ⟨No, hNo⟩ : ∃ No, old.length = No := ⟨_, rfl⟩
  rw [hNN] at hfc
  rw [hNN, hNo] at CR
  rw [hNo] at CR0
  rw [hNN, hNo]
  have HN := hid0 hNN
  have HNo := hid0 hNo
  clear hNN hNo
  have CR0 := hid0 CR0
  unfold planV
  go_enter Tryz.func7, Tryz.ntmps7
  by_cases h0 : (dRowsM old [] ps).2 = 0
  · rw [h0] at CR0
    clear h0
    by_cases h1 : (dRowsM old ch ps).2 = 0
    · rw [h1] at CR
      have CR := hid0 CR
      obtain ⟨hG, _, _⟩ := dRowsM_ok h1
      have HG := hid0 hG
      have HH1 := hid0 h1
      have HS1 := hid0 (dRows_small h1)
      clear h1 hG
      generalize hR1 : (dRowsM old ch ps).1 = R1 at CR HS1
      have HR1 := hid0 hR1
      clear hR1
      go_wp2_with (first | ((with_reducible refine wp_getB hS.v.at_ Tryz.underlying24 ?_ ?_ ?_ ?_); (rfl); (exact sizePlan); (rfl); simp only [Act.put]) | ((with_reducible refine wp_getB hS1.v.at_ Tryz.underlying24 ?_ ?_ ?_ ?_); (rfl); (exact sizePlan); (rfl); simp only [Act.put]) | (go_at_call 27; (with_reducible refine (CR0.out.out _ hS.b).mono ?_); rintro e w1 ⟨⟨a8, c8, E0, rfl, hc0, hE0, hm0⟩, hb1⟩; (have hS1 := hS.below hb1); (have hl0 : E0.length = 0 := (by have := congrArg List.length hm0; simpa using this)); clear hm0 hE0 hc0) | (go_at_call 27; (with_reducible refine (CR.out.out _ hS1.b).mono ?_); rintro e w2 ⟨⟨a9, c9, E1, rfl, hc1, hE1, hm1⟩, hb2⟩; (have hS2 := hS1.below hb2)) | fail)
      have HE1 := hid0 hE1
      have HM1 := hid0 hm1
      have hb02 : Hid (Below w.heap.size w w2) := hid0 hS2.b
      have hM0 := WideAt.nil (Below.refl w2.heap.size w2)
      clear hE1 hm1 hS hS1 hb1 hb2 CR CR0 hc1
      go_loopw [11, 12] (fun rv iv wr => ∃ (i : Nat) (M : List Nx), i ≤ N ∧ iv = .int .i64 i ∧ WideAt w2 wr rv M ∧ Hid (M.map nd = (ch.take i).map turnF)) (fun _ iv _ => N - (intOf iv).toNat)
      case atStart => exact ⟨0, [], Nat.zero_le _, rfl, hM0, hid0 rfl⟩
      case round =>
      clear hM0
      obtain ⟨i, M, hi, rfl, hM, hT⟩ := hrel
      have hml : M.length = i := by
        have h1 := congrArg List.length hT.out
        rw [List.length_map, List.length_map, List.length_take, HN.out] at h1
        omega
      by_cases hlt : i < N
      · have hlt' : (i : Int) < (N : Int) := by omega
        have g1 : i < ch.length := by rw [HN.out]; exact hlt
        obtain ⟨b, o, rfl, hbl, hR⟩ := (HL.out.c.later hb02.out).name i g1
        have hxo := (HL.out.c.later hb02.out).ok _ (List.getElem_mem g1)
        have hlo := HL.out.lc _ (List.getElem_mem g1)
        have hrt : rightE ch[i].E = true := by
          have h2 := HG.out.rc
          unfold wrongB at h2
          have h3 := List.any_eq_false.1 h2 _ (List.getElem_mem g1)
          simpa using h3
        have hstep : ch.take (i + 1) = ch.take i ++ [ch[i]] := List.take_succ_eq_append_getElem g1
        generalize ch[i] = x at hR hxo hlo hstep hrt
        have p0 := rng hR 0 (u := .string x.s) rfl
        have p1 := rng hR 1 (u := .slice x.a x.E.length x.c) rfl
        rw [Nat.add_zero] at p0
        obtain ⟨s, hs⟩ : ∃ s, x.s = s := ⟨_, rfl⟩
        rw [hs] at p0
        have C11 := hid0 (fun (W : World) (hW : Below w2.heap.size w2 W) => refTurnB_any x.a x.c x.E W (hxo.1.later hW).at_ (by omega) (right_fits hrt))
        have HAp := hid0 (fun (W : World) (a5 : Option Addr) (c5 : Nat) (E5 : List Elem) (hE : ElemsAt W a5 E5) (hc : E5.length ≤ c5) (hm : E5.map pr = turnP (x.E.map pr)) (ht : TagL W a5) (hg : ∀ e ∈ E5, GoodE W e) => apart_turn (s := s) hxo.1 hrt hlo hE hc hm ht hg)
        have HNX := hid0 (fun (y : Nx) (hy : y.s = s) (hm : y.E.map pr = turnP (x.E.map pr)) => (show (M ++ [y]).map nd = (ch.take (i + 1)).map turnF from by
          rw [hstep, List.map_append, List.map_append, hT.out, List.map_cons, List.map_cons, List.map_nil, List.map_nil]
          congr 2
          show (y.s, y.E.map pr) = (x.s, turnP (x.E.map pr))
          rw [hy, hs, hm]))
        have HM := hid0 (hM.below (Below.drew (Below.refl _ _)))
        have HSS := hid0 (show s.size ≤ maxLen from by rw [← hs]; exact hxo.2)
        have hlen8 : (M.length + 1) * 40 ≤ 140737488355328 := by omega
        have hB : Below w2.heap.size w2 wr.drew := Below.drew hM.b
        have q0 := p0
        have q1 := p1
        generalize x.E.length = xn at *
        generalize x.a = xa at *
        generalize x.c = xc at *
        clear hR hxo hlo hstep p0 p1 hrt hT hM hs g1 hbl hS2
        go_wp2_with fail
        refine wp_region_held_drew (S := (fun W => Below w2.heap.size w2 W)) (by kernel_rfl) hB (fun hHeld => ?_)
        generalize wr.drew = W0 at hB HM hHeld ⊢
        refine wpAnyH_take (i := 0) (v := ?_) rfl (by kernel_rfl) (by kernel_rfl) (by kernel_rfl) (fun _ _ _ h => h) (Or.inl ⟨by rfl, ?_⟩) (by assumption) ?_
        rotate_left
        · (intro wx hSw; go_simp; (try with_reducible rfl); (try omega))
        (try simp only [Act.put, List.setIfInBounds_toArray, List.set_cons_zero, List.set_cons_succ, List.getElem_toArray, List.getElem_cons_zero])
        refine wpAnyH_take (i := 1) (v := ?_) rfl (by kernel_rfl) (by kernel_rfl) (by kernel_rfl) (fun _ _ _ h => h) (Or.inl ⟨by rfl, ?_⟩) (by assumption) ?_
        rotate_left
        · (intro wx hSw; go_simp; (try with_reducible rfl); (try omega))
        (try simp only [Act.put, List.setIfInBounds_toArray, List.set_cons_zero, List.set_cons_succ, List.getElem_toArray, List.getElem_cons_zero, List.getElem_cons_succ])
        refine wpAnyH_take (i := 2) (v := ?_) rfl (by kernel_rfl) (by kernel_rfl) (by kernel_rfl) (fun _ _ _ h => h) (Or.inl ⟨by rfl, ?_⟩) (by assumption) ?_
        rotate_left
        · (intro wx hSw; go_simp; (try with_reducible rfl); (try omega))
        (try simp only [Act.put, List.setIfInBounds_toArray, List.set_cons_zero, List.set_cons_succ, List.getElem_toArray, List.getElem_cons_zero, List.getElem_cons_succ])
        refine wpAnyH_take (i := 3) (v := ?_) rfl (by kernel_rfl) (by kernel_rfl) (by kernel_rfl) (fun _ _ _ h => h) (Or.inl ⟨by rfl, ?_⟩) (by assumption) ?_
        rotate_left
        · (intro wx hSw; go_simp; (try with_reducible rfl); (try omega))
        (try simp only [Act.put, List.setIfInBounds_toArray, List.set_cons_zero, List.set_cons_succ, List.getElem_toArray, List.getElem_cons_zero, List.getElem_cons_succ])
        refine wpAnyH_take (i := 4) (v := ?_) rfl (by kernel_rfl) (by kernel_rfl) (by kernel_rfl) (fun _ _ _ h => h) (Or.inl ⟨by rfl, ?_⟩) (by assumption) ?_
        rotate_left
        · (intro wx hSw; go_simp; (try with_reducible rfl); (try omega))
        (try simp only [Act.put, List.setIfInBounds_toArray, List.set_cons_zero, List.set_cons_succ, List.getElem_toArray, List.getElem_cons_zero, List.getElem_cons_succ])
        refine wpAnyH_take (i := 5) (v := ?_) rfl (by kernel_rfl) (by kernel_rfl) (by kernel_rfl) (fun _ _ _ h => h) (Or.inl ⟨by rfl, ?_⟩) (by assumption) ?_
        rotate_left
        · (intro wx hSw; have hk := cell_later hSw q0; go_simp; (try with_reducible rfl); (try omega))
        (try simp only [Act.put, List.setIfInBounds_toArray, List.set_cons_zero, List.set_cons_succ, List.getElem_toArray, List.getElem_cons_zero, List.getElem_cons_succ])
        refine wpAnyH_take (i := 6) (v := ?_) rfl (by kernel_rfl) (by kernel_rfl) (by kernel_rfl) (fun _ _ _ h => h) (Or.inl ⟨by rfl, ?_⟩) (by assumption) ?_
        rotate_left
        · (intro wx hSw; go_simp; (try with_reducible rfl); (try omega))
        (try simp only [Act.put, List.setIfInBounds_toArray, List.set_cons_zero, List.set_cons_succ, List.getElem_toArray, List.getElem_cons_zero, List.getElem_cons_succ])
        refine wpAnyH_take (i := 7) (v := ?_) rfl (by kernel_rfl) (by kernel_rfl) (by kernel_rfl) (fun _ _ _ h => h) (Or.inl ⟨by rfl, ?_⟩) (by assumption) ?_
        rotate_left
        · (intro wx hSw; go_simp; (try with_reducible rfl); (try omega))
        (try simp only [Act.put, List.setIfInBounds_toArray, List.set_cons_zero, List.set_cons_succ, List.getElem_toArray, List.getElem_cons_zero, List.getElem_cons_succ])
        refine wpAnyH_take (i := 8) (v := ?_) rfl (by kernel_rfl) (by kernel_rfl) (by kernel_rfl) (fun _ _ _ h => h) (Or.inl ⟨by rfl, ?_⟩) (by assumption) ?_
        rotate_left
        · (intro wx hSw; go_simp; (try with_reducible rfl); (try omega))
        (try simp only [Act.put, List.setIfInBounds_toArray, List.set_cons_zero, List.set_cons_succ, List.getElem_toArray, List.getElem_cons_zero, List.getElem_cons_succ])
        refine wpAnyH_take (i := 9) (v := ?_) rfl (by kernel_rfl) (by kernel_rfl) (by kernel_rfl) (fun _ _ _ h => h) (Or.inl ⟨by rfl, ?_⟩) (by assumption) ?_
        rotate_left
        · (intro wx hSw; go_simp; (try with_reducible rfl); (try omega))
        (try simp only [Act.put, List.setIfInBounds_toArray, List.set_cons_zero, List.set_cons_succ, List.getElem_toArray, List.getElem_cons_zero, List.getElem_cons_succ])
        refine wpAnyH_take (i := 10) (v := ?_) rfl (by kernel_rfl) (by kernel_rfl) (by kernel_rfl) (fun _ _ _ h => h) (Or.inl ⟨by rfl, ?_⟩) (by assumption) ?_
        rotate_left
        · (intro wx hSw; have hk := cell_later hSw q1; go_simp; (try with_reducible rfl); (try omega))
        (try simp only [Act.put, List.setIfInBounds_toArray, List.set_cons_zero, List.set_cons_succ, List.getElem_toArray, List.getElem_cons_zero, List.getElem_cons_succ])
        refine wpAnyH_ready (rs := [11]) (by kernel_rfl) (by simp) ?_
        refine AllReadyH.cons rfl (fun K hK => ?_) ?_
        · (try simp only [Act.put, List.setIfInBounds_toArray, List.set_cons_zero, List.set_cons_succ, List.getElem_toArray, List.getElem_cons_zero, List.getElem_cons_succ])
          go_simp
          refine (C11.out _ hB).mono ?_
          rintro e W1 ⟨⟨a11, c11, E11, rfl, hc11, hE11, hA11, ht11, hg11⟩, hb11⟩
          have hM8 := hid0 (fun o => (HM.out.below hb11).below ((Below.refl _ _).alloc (Nat.le_refl _) o))
          have hB := below_through hb11 hB.size hB
          have HAP := hid0 (HAp.out _ _ _ _ hE11 hc11 hA11 ht11 hg11)
          have HAA := hid0 hA11
          obtain ⟨n11, hn11⟩ : ∃ n, E11.length = n := ⟨_, rfl⟩
          have HN11 := hid0 hn11
          rw [hn11]
          clear hE11 hA11 ht11 hg11 hc11 hn11
          refine hK.out _ _ hB (fun hHeld => ?_)
          clear hK K
          (try simp only [Act.put, List.setIfInBounds_toArray, List.set_cons_zero, List.set_cons_succ, List.getElem_toArray, List.getElem_cons_zero, List.getElem_cons_succ])
          refine wpAnyH_take (i := 12) (v := ?_) rfl (by kernel_rfl) (by kernel_rfl) (by kernel_rfl) (fun _ _ _ h => h) (Or.inl ⟨by rfl, ?_⟩) (by assumption) ?_
          rotate_left
          · (intro wx hSw; go_simp; (try with_reducible rfl); (try omega))
          (try simp only [Act.put, List.setIfInBounds_toArray, List.set_cons_zero, List.set_cons_succ, List.getElem_toArray, List.getElem_cons_zero, List.getElem_cons_succ])
          refine wpAnyH_ready (rs := [13]) (by kernel_rfl) (by simp) ?_
          refine AllReadyH.cons rfl (fun K hK => ?_) ?_
          · (try simp only [Act.put, List.setIfInBounds_toArray, List.set_cons_zero, List.set_cons_succ, List.getElem_toArray, List.getElem_cons_zero, List.getElem_cons_succ])
            go_simp
            have hB5 := hB.alloc hB.size (Obj.cells #[.string s, .slice a11 n11 c11] 65)
            refine hK.out _ _ hB5 (fun hHeld => ?_)
            clear hK K
            (try simp only [Act.put, List.setIfInBounds_toArray, List.set_cons_zero, List.set_cons_succ, List.getElem_toArray, List.getElem_cons_zero, List.getElem_cons_succ])
            refine wpAnyH_ready (rs := [14]) (by kernel_rfl) (by simp) ?_
            refine AllReadyH.cons rfl (fun K hK => ?_) ?_
            · refine step_nx (by rfl) _ _ (by rfl) (by rfl) (hM8.out _) ⟨s, a11, c11, E11⟩ W1.heap.size (by rw [← HN11.out]; rfl) (elem_new _ _ _ _).1 (by rw [HN11.out]; exact (elem_new _ _ _ _).2) ⟨HSS.out, .inr (HAP.out.later ((Below.refl _ _).alloc (Nat.le_refl _) _))⟩ hlen8 ?_
              intro v8 w8 hM9 _
              refine hK.out _ _ hM9.b (fun hHeld => ?_)
              clear hK K
              (try simp only [Act.put, List.setIfInBounds_toArray, List.set_cons_zero, List.set_cons_succ, List.getElem_toArray, List.getElem_cons_zero, List.getElem_cons_succ])
              refine wpAnyH_take (i := 15) (v := ?_) rfl (by kernel_rfl) (by kernel_rfl) (by kernel_rfl) (fun _ _ _ h => h) (Or.inl ⟨by rfl, ?_⟩) (by assumption) ?_
              rotate_left
              · (intro wx hSw; go_simp; (try with_reducible rfl); (try omega))
              (try simp only [Act.put, List.setIfInBounds_toArray, List.set_cons_zero, List.set_cons_succ, List.getElem_toArray, List.getElem_cons_zero, List.getElem_cons_succ])
              refine wpAnyH_done (by kernel_rfl) ?_ _
              go_wp2
              exact ⟨⟨i + 1, M ++ [⟨s, a11, c11, E11⟩], by omega, by go_num, hM9, hid0 (HNX.out _ rfl HAA.out)⟩, by simp [intOf]; omega⟩
            exact AllReadyH.nil
          exact AllReadyH.nil
        exact AllReadyH.nil
      obtain rfl : i = N := by omega
      have hie : ¬ (i : Int) < (i : Int) := by omega
      have hbk : M.map nd = ch.map turnF := by have h := hT.out; rwa [List.take_of_length_le (by rw [HN.out]; omega)] at h
      obtain ⟨a4, c4, rfl, hN4⟩ := hM.names (by omega)
      have HBF := hid0 (show ∀ y ∈ M, y.E.length ≤ 400000 from fun y hy => by
        have h2 : nd y ∈ ch.map turnF := by rw [← hbk]; exact List.mem_map_of_mem hy
        obtain ⟨x, hx, e⟩ := List.mem_map.1 h2
        have h3 := congrArg (fun q : ByteArray × List Pair => q.2.length) e
        have h4 : (turnP (x.E.map pr)).length = (y.E.map pr).length := h3
        unfold turnP at h4
        rw [List.length_map, List.length_map, List.length_map] at h4
        have := HL.out.lc x hx
        omega)
      have HNN := hid0 (fun (mid : List Nx) (h : NowL ch old mid) => dNone_of (mid_ok HG.out h HL.out.lo HL.out.lc) hbk (back_right HG.out.rc hbk) HH1.out)
      rw [HR1.out] at HNN
      have hbw := below_through hM.b hb02.out.size hb02.out
      have hSv := (hS2.below hM.b).v
      have HE1 := hid0 (HE1.out.later hM.b)
      have HBK := hid0 (fun (W : World) (hW : Below wr.heap.size wr W) => hN4.later hW)
      have CN := hid0 (fun (W : World) (hW : Below wr.heap.size wr W) => (show Calls Tryz.prog 29 #[.slice a1' No c1', .slice a2 i c2] W (NowAns W old ch) from by
        have hW2 := below_through hW hbw.size hbw
        have h := refNow_any a1' c1' old a2 c2 ch W (HL.out.o.later hW2) (HL.out.c.later hW2) HF.out HL.out.lo HL.out.lc
        rw [HN.out, HNo.out] at h
        exact h))
      obtain ⟨m4, hm4⟩ : ∃ m, M.length = m := ⟨_, rfl⟩
      have HM4 := hid0 hm4
      rw [hm4]
      have hS : SRx w wr [.slice a ps.length c] wr.drew := ⟨hSv.drew, Below.drew hbw, Below.drew (Below.refl _ _)⟩
      clear hN4 hM hT hbk hbw hSv hS2 hm4 hml hlt
      go_wp2_with fail
      refine wp_region_held_drew (S := (SRx w wr [.slice a ps.length c])) (by kernel_rfl) hS (fun hHeld => ?_)
      have hT := hHeld
      generalize wr.drew = W0 at hT hHeld ⊢
      refine wpAnyH_take (i := 0) (v := .agg [.slice a ps.length c].toArray) rfl (by kernel_rfl) (by kernel_rfl) (by kernel_rfl) (fun _ _ _ h => h) (yieldsIf_load_mid rfl 24 _ rfl w.heap.size (0) rfl [.slice a ps.length c] _ (fun w h => h.v.at_) Tryz.underlying24 rfl (sizePlan)) (by assumption) ?_
      (try simp only [Act.put, List.setIfInBounds_toArray, List.set_cons_zero, List.set_cons_succ, List.getElem_toArray, List.getElem_cons_zero])
      refine wpAnyH_take (i := 1) (v := ?_) rfl (by kernel_rfl) (by kernel_rfl) (by kernel_rfl) (fun _ _ _ h => h) (Or.inl ⟨by rfl, ?_⟩) (by assumption) ?_
      rotate_left
      · (intro wx hSw; go_simp; (try with_reducible rfl); (try omega))
      (try simp only [Act.put, List.setIfInBounds_toArray, List.set_cons_zero, List.set_cons_succ, List.getElem_toArray, List.getElem_cons_zero, List.getElem_cons_succ])
      refine wpAnyH_take (i := 2) (v := ?_) rfl (by kernel_rfl) (by kernel_rfl) (by kernel_rfl) (fun _ _ _ h => h) (Or.inl ⟨by rfl, ?_⟩) (by assumption) ?_
      rotate_left
      · (intro wx hSw; go_simp; (try with_reducible rfl); (try omega))
      (try simp only [Act.put, List.setIfInBounds_toArray, List.set_cons_zero, List.set_cons_succ, List.getElem_toArray, List.getElem_cons_zero, List.getElem_cons_succ])
      refine wpAnyH_take (i := 4) (v := ?_) rfl (by kernel_rfl) (by kernel_rfl) (by kernel_rfl) (fun _ _ _ h => h) (Or.inl ⟨by rfl, ?_⟩) (by assumption) ?_
      rotate_left
      · (intro wx hSw; go_simp; (try with_reducible rfl); (try omega))
      (try simp only [Act.put, List.setIfInBounds_toArray, List.set_cons_zero, List.set_cons_succ, List.getElem_toArray, List.getElem_cons_zero, List.getElem_cons_succ])
      refine wpAnyH_ready (rs := [3]) (by kernel_rfl) (by simp) ?_
      refine AllReadyH.cons rfl (fun K hK => ?_) ?_
      · (try simp only [Act.put, List.setIfInBounds_toArray, List.set_cons_zero, List.set_cons_succ, List.getElem_toArray, List.getElem_cons_zero, List.getElem_cons_succ])
        go_simp
        refine (CN.out _ hT.c).mono ?_
        rintro e W1 ⟨⟨a13, c13, mid, rfl, hNm, hmid⟩, hb13⟩
        have hT := hT.below hb13
        have HMID := hid0 hmid
        obtain ⟨m13, hm13⟩ : ∃ m, mid.length = m := ⟨_, rfl⟩
        rw [hm13]
        have CR2 : DwC W1 a ps.length c a13 m13 c13 a4 m4 c4 (dRowsM mid M ps).1 (dRowsM mid M ps).2 := by
          have h := dwC_of (c := c) (c1 := c13) (c2 := c4) (HP.out.later hT.b) (⟨hNm, HBK.out W1 hT.c, mid_few hmid HL.out.lo HJ.out, HBF.out⟩ : TwoN W1 a13 mid a4 M)
          rw [hm13, HM4.out] at h
          exact h
        have CR2 := hid0 CR2
        clear hNm hmid hm13
        refine hK.out _ _ hT (fun hHeld => ?_)
        clear hK K
        (try simp only [Act.put, List.setIfInBounds_toArray, List.set_cons_zero, List.set_cons_succ, List.getElem_toArray, List.getElem_cons_zero, List.getElem_cons_succ])
        refine wpAnyH_ready (rs := [5]) (by kernel_rfl) (by simp) ?_
        refine AllReadyH.cons rfl (fun K hK => ?_) ?_
        · (try simp only [Act.put, List.setIfInBounds_toArray, List.set_cons_zero, List.set_cons_succ, List.getElem_toArray, List.getElem_cons_zero, List.getElem_cons_succ])
          go_simp
          refine (CR2.out.out _ (Below.refl _ _)).mono ?_
          rintro e w9 ⟨⟨a5, c5, E5, rfl, hc5, hE5, hm5⟩, hb5⟩
          have hT := hT.below hb5
          have HE5 := hid0 hE5
          have HM5 := hid0 hm5
          clear hE5 hm5
          refine hK.out _ _ hT (fun hHeld => ?_)
          clear hK K
          (try simp only [Act.put, List.setIfInBounds_toArray, List.set_cons_zero, List.set_cons_succ, List.getElem_toArray, List.getElem_cons_zero, List.getElem_cons_succ])
          refine wpAnyH_take (i := 6) (v := ?_) rfl (by kernel_rfl) (by kernel_rfl) (by kernel_rfl) (fun _ _ _ h => h) (Or.inl ⟨by rfl, ?_⟩) (by assumption) ?_
          rotate_left
          · (intro wx hSw; go_simp; (try with_reducible rfl); (try omega))
          (try simp only [Act.put, List.setIfInBounds_toArray, List.set_cons_zero, List.set_cons_succ, List.getElem_toArray, List.getElem_cons_zero, List.getElem_cons_succ])
          refine wpAnyH_take (i := 7) (v := ?_) rfl (by kernel_rfl) (by kernel_rfl) (by kernel_rfl) (fun _ _ _ h => h) (Or.inl ⟨by rfl, ?_⟩) (by assumption) ?_
          rotate_left
          · (intro wx hSw; go_simp; (try with_reducible rfl); (try omega))
          (try simp only [Act.put, List.setIfInBounds_toArray, List.set_cons_zero, List.set_cons_succ, List.getElem_toArray, List.getElem_cons_zero, List.getElem_cons_succ])
          refine wpAnyH_take (i := 8) (v := ?_) rfl (by kernel_rfl) (by kernel_rfl) (by kernel_rfl) (fun _ _ _ h => h) (Or.inl ⟨by rfl, ?_⟩) (by assumption) ?_
          rotate_left
          · (intro wx hSw; go_simp; (try with_reducible rfl); (try omega))
          (try simp only [Act.put, List.setIfInBounds_toArray, List.set_cons_zero, List.set_cons_succ, List.getElem_toArray, List.getElem_cons_zero, List.getElem_cons_succ])
          refine wpAnyH_take (i := 9) (v := ?_) rfl (by kernel_rfl) (by kernel_rfl) (by kernel_rfl) (fun _ _ _ h => h) (Or.inl ⟨by rfl, ?_⟩) (by assumption) ?_
          rotate_left
          · (intro wx hSw; go_simp; (try with_reducible rfl); (try omega))
          (try simp only [Act.put, List.setIfInBounds_toArray, List.set_cons_zero, List.set_cons_succ, List.getElem_toArray, List.getElem_cons_zero, List.getElem_cons_succ])
          refine wpAnyH_take (i := 10) (v := ?_) rfl (by kernel_rfl) (by kernel_rfl) (by kernel_rfl) (fun _ _ _ h => h) (Or.inl ⟨by rfl, ?_⟩) (by assumption) ?_
          rotate_left
          · (intro wx hSw; go_simp; (try with_reducible rfl); (try omega))
          (try simp only [Act.put, List.setIfInBounds_toArray, List.set_cons_zero, List.set_cons_succ, List.getElem_toArray, List.getElem_cons_zero, List.getElem_cons_succ])
          refine wpAnyH_done (by kernel_rfl) ?_ _
          have HT := hid0 hT
          clear hT
          by_cases h2 : (dRowsM mid M ps).2 = 0
          · have h6 := HNN.out mid HMID.out
            have hz := h6.2 h2
            obtain ⟨s1, s2⟩ := dRows_small h2
            obtain ⟨s3, s4⟩ := HS1.out
            rw [h2]
            have m1 := HM1.out
            have m5 := HM5.out
            have hl1 : E1.length ≤ 24000 := by rw [← m1, List.length_map] at s4; exact s4
            have hl5 : E5.length ≤ 24000 := by rw [← m5, List.length_map] at s2; exact s2
            have AD := hid0 (fun (W : World) (hW : Below w9.heap.size w9 W) => refAdd_any a9 a5 c9 c5 E1 E5 W (HE1.out.later (below_through hW HT.out.c.size HT.out.c |> fun k => k)) (HE5.out.later hW) (by omega) (by rw [absS_append, m1, m5]; omega))
            have HZ := hid0 (fun (E6 : List Elem) (h : E6.map pr = ofB (E1.map pr ++ E5.map pr)) => (show E6 = [] from by
              rw [m1, m5, hz] at h
              exact List.map_eq_nil_iff.1 h))
            clear h2 h6 hz s1 s2 s3 s4 m1 m5 hl1 hl5
            go_wp2_with (first | (go_at_call 30; go_must (refine (CA.out _).mono ?_; rintro e w3 ⟨rfl, hb3⟩)) | (go_at_call 26; go_must (refine (AD.out _ hb3).mono ?_; rintro e w4 ⟨⟨a6, c6, E6, rfl, hc6, hE6, hm6⟩, hb4⟩; (have hz6 := HZ.out E6 hm6); subst hz6)) | (go_at_call 22; go_must (refine (refSame_any a6 none c6 0 [] [] w4 (ElemsAt.nil _ _) (ElemsAt.nil _ _) (Nat.zero_le _) rfl).mono ?_; rintro e w5 ⟨rfl, hb5'⟩)) | fail)
            go_ret
            exact ⟨ret_bool (by simp), below_through hb5' (below_through hb4 (below_through hb3 HT.out.b.size HT.out.b).size (below_through hb3 HT.out.b.size HT.out.b)).size (below_through hb4 (below_through hb3 HT.out.b.size HT.out.b).size (below_through hb3 HT.out.b.size HT.out.b))⟩
          · have h6 := (HNN.out mid HMID.out).1.resolve_left h2
            rw [h6]
            clear h2 h6
            go_wp2_with (first | (go_at_call 30; go_must (refine (CA.out _).mono ?_; rintro e w3 ⟨rfl, hb3⟩)) | fail)
            go_ret
            exact ⟨ret_bool (by simp), below_through hb3 HT.out.b.size HT.out.b⟩
        exact AllReadyH.nil
      exact AllReadyH.nil
    · have hnil := dRowsM_none h1
      rw [hnil] at CR
      have CR := hid0 CR
      generalize (dRowsM old ch ps).2 = f at h1 CR
      have hf0 : (f == 0) = false := by simpa using h1
      clear hnil
      go_wp2_with (first | ((with_reducible refine wp_getB hS.v.at_ Tryz.underlying24 ?_ ?_ ?_ ?_); (rfl); (exact sizePlan); (rfl); simp only [Act.put]) | ((with_reducible refine wp_getB hS1.v.at_ Tryz.underlying24 ?_ ?_ ?_ ?_); (rfl); (exact sizePlan); (rfl); simp only [Act.put]) | (go_at_call 27; (with_reducible refine (CR0.out.out _ hS.b).mono ?_); rintro e w1 ⟨⟨a8, c8, E0, rfl, hc0, hE0, hm0⟩, hb1⟩; (have hS1 := hS.below hb1); (have hl0 : E0.length = 0 := (by have := congrArg List.length hm0; simpa using this)); clear hm0 hE0 hc0) | (go_at_call 27; (with_reducible refine (CR.out.out _ hS1.b).mono ?_); rintro e w2 ⟨⟨a9, c9, E1, rfl, hc1, hE1, hm1⟩, hb2⟩; (have hS2 := hS1.below hb2)) | (go_at_call 30; go_must (refine (CA.out _).mono ?_; rintro e w3 ⟨rfl, hb3⟩; (have hS3 := hS2.below hb3))) | fail)
      go_ret
      exact ⟨ret_bool (by simp), hS3.b⟩
  · generalize (dRowsM old [] ps).2 = f at h0 CR0
    have hf0 : (f == 0) = false := by simpa using h0
    go_wp2_with (first | ((with_reducible refine wp_getB hS.v.at_ Tryz.underlying24 ?_ ?_ ?_ ?_); (rfl); (exact sizePlan); (rfl); simp only [Act.put]) | (go_at_call 27; (with_reducible refine (CR0.out.out _ hS.b).mono ?_); rintro e w1 ⟨⟨a8, c8, E0, rfl, hc0, hE0, hm0⟩, hb1⟩; (have hS1 := hS.below hb1); (have hl0 : E0.length = 0 := (by have := congrArg List.length hm0; simpa using this)); clear hm0 hE0 hc0) | (go_at_call 30; go_must (refine (CA.out _).mono ?_; rintro e w3 ⟨rfl, hb3⟩; (have hS3 := hS1.below hb3))) | fail)
    go_ret
    exact ⟨ret_bool (by simp), hS3.b⟩
end Go.Proofs.YtfdkajefcplfjaaGreat
