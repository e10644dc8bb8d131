/- Several of my texts laid together, each as it was: D36. Conditions: each names its own. -/
import Derived.Test.YtfdkajefcplfjaaGreatVD
import Derived.Test.YtfdkajefcplfjaaGreatI3
import Derived.Laws.AppendOwnNone
import Derived.Test.YtfdkajefcplfjaaGreatH5
/- The project's layer 14 (delta): net: what there is now side by side without what there was: the contract of the call, in whatever memory. Conditions: the names' cells are known; what is put side by side is not too much. -/
namespace Go.Proofs.YtfdkajefcplfjaaGreat
open Go.RowKit

/-- A list appended to a list of one's own. -/
theorem wp_meL {w0 w1 w : World} {ops : Array Oper} {rest : List Oper} {o : Oper} {a : Act} {Q : Exit → Act → World → Prop} (hgd : o.guard = none) (s x : Operand)
    (ho : o.op = .call { callee := .builtin .append, args := #[s, x], argTypes := #[57, 57] })
    {v v2 : Value} {E E2 : List Elem} (hs : a.eval s = v) (hx : a.eval x = v2) (hm : MkE w0 w v E) (hm2 : MkE w1 w v2 E2) (hlen : (E.length + E2.length) * 32 ≤ 140737488355328)
    (h : ∀ v' w', MkE w0 w' v' (E ++ E2) → wpList Tryz.prog ops Q rest (a.put o.dst v') w') : wpList Tryz.prog ops Q (o :: rest) a w := by
  obtain ⟨i0, hi, hz0, hz1, hz2⟩ := info_parts info36
  rcases hm2.own.out.2 with ⟨e, hl⟩ | ⟨g, cap, cur, e, _⟩
  · obtain rfl : E2 = [] := List.length_eq_zero_iff.1 hl
    refine wpList_append_own_none hgd s x 57 ho w0.heap.size 80 i0 2 Tryz.underlying57 hi v E.length (cellsE E) hs hm.own.out (by rw [hx, e]) ?_
    have := h v w (by rw [List.append_nil]; exact hm)
    exact this
  · have hc := hm2.own.out
    rw [e] at hc
    have V := varB_ownE hc (g := g) rfl
    refine wpList_append_own w hgd s x 57 ho w0.heap.size 80 i0 (.agg #[.slice none 0 0, .int .i64 0]) 2 32 Tryz.underlying57 hi hz0 hz1 hz2 rfl (by decide) v E.length (cellsE E) hs hm.own.out ⟨g, 0, none⟩ E2.length cap (cellsE E2) (by rw [hx, e]) (cellsE_len E2) (fun j u hj => ?_) (cellsE_one E2) (by unfold maxLen; omega) hlen hm.b.size ?_
    · rw [WideShapes.add_plain]; exact V.at_ j u hj
    · intro v' w' hown' hgrow _
      have hK := keptT_grown hm.own.out hm.b.size hgrow
      refine h v' w' ⟨⟨?_⟩, ⟨fun y hy => ?_⟩, fun y hy => ?_, fun y hy => ?_, hm.b.grown hgrow hm.b.size hm.lo⟩
      · rw [List.length_append, show cellsE (E ++ E2) = cellsE E ++ cellsE E2 by simp [cellsE]]; exact hown'
      · rcases List.mem_append.1 hy with hy | hy
        · exact (hm.cp.keptT hK).out y hy
        · exact (hm2.cp.keptT hK).out y hy
      · rcases List.mem_append.1 hy with hy | hy
        · exact hm.z y hy
        · exact hm2.z y hy
      · rcases List.mem_append.1 hy with hy | hy
        · exact hm.cap y hy
        · exact hm2.cap y hy
theorem vals_one {w : World} {b : Nat} {u : Value} (h : VarB w b [u]) : ValsAt w (some ⟨b, 0, none⟩) [u] := fun _ => ⟨b, 0, rfl, fun j v hj => by
  match j, hj with
  | 0, hj => rw [Nat.zero_add]; exact h.cell 0 hj
  | j + 1, hj => simp at hj⟩
theorem netX_len (old ch now : List Nx) (fs : List ByteArray) (i : Nat) (s : ByteArray) (hi : i < fs.length) : (netX old ch now fs i s).length = fs.length := by
  unfold netX
  simp only [List.length_append, List.length_map, List.length_take, List.length_drop, List.length_singleton]
  omega
/-- What lies side by side isn't too much, and no row of it is nothing. -/
structure NetOk (w : World) (old ch now : List Nx) (fs : List ByteArray) : Prop where
  x : ∀ i (h : i < fs.length), ∀ x ∈ netX old ch now fs i fs[i], ElemsAt w x.a x.E ∧ ∀ e ∈ x.E, e.a = none → e.c = 0
  side : ∀ i (h : i < fs.length), emptyL (netL old ch now fs i fs[i]) = false → SideS (netL old ch now fs i fs[i])
  few : ∀ k, k ≤ fs.length → absS (netR old ch now fs k) ≤ 1000000 ∧ (netR old ch now fs k).length ≤ 100000
theorem NetOk.later {w w' : World} {old ch now : List Nx} {fs : List ByteArray} (h : NetOk w old ch now fs) (hb : Below w.heap.size w w') : NetOk w' old ch now fs := ⟨fun i hi x hx => ⟨(h.x i hi x hx).1.later hb, (h.x i hi x hx).2⟩, h.side, h.few⟩
set_option maxHeartbeats 16000000 in
set_option maxRecDepth 1000000 in
theorem dNet_any (b1 b2 b3 : Nat) (old ch now : List Nx) (a : Option Addr) (c : Nat) (fs : List ByteArray) (w : World) (h1 : SrcD w b1 old) (h2 : SrcD w b2 ch) (h3 : SrcD w b3 now) (hL : StrsA w a fs) (hc : fs.length ≤ c) (hl : fs.length ≤ 1000) (hN : NetOk w old ch now fs) :
    Calls Tryz.prog 98 #[.slice a fs.length c, .map (some b1), .map (some b2), .map (some b3)] w (OfAns w (netR old ch now fs fs.length)) := by
  have H1 := hid0 h1
  have H2 := hid0 h2
  have H3 := hid0 h3
  have HL := hid0 hL
  have HNO := hid0 hN
  have hM0 := MkE.nil w
  clear h1 h2 h3 hL hN
  obtain ⟨N, hNN⟩ : ∃ N, fs.length = N := ⟨_, rfl⟩
  rw [hNN] at hc hl ⊢
  have HN := hid0 hNN
  clear hNN
  go_enter Tryz.func98, Tryz.ntmps98
  go_wp2_with fail
  go_loopw [9, 15] (fun rv iv wr => ∃ (i : Nat) (M : List Elem), i ≤ N ∧ iv = .int .i64 i ∧ MkE w wr rv M ∧ Hid (M.map pr = netR old ch now fs i)) (fun _ iv _ => N - (intOf iv).toNat)
  case atStart => exact ⟨0, [], Nat.zero_le _, rfl, hM0, hid0 (by simp [netR])⟩
  case round =>
    clear hM0
    obtain ⟨i, M, hi, rfl, hM, hT⟩ := hrel
    by_cases hlt : i < N
    · have hlt' : (i : Int) < (N : Int) := by omega
      have g1 : i < fs.length := by rw [HN.out]; exact hlt
      have HZ : Hid (Below w.heap.size w wr.drew) := hid0 (Below.drew hM.b)
      obtain ⟨bl2, ol, rfl, hcl⟩ := HL.out.out (fun e => by rw [e] at g1; simp at g1)
      have q0 := cell_later hM.b (hcl i g1)
      have hss := HL.out.small _ (List.getElem_mem g1)
      have HNX0 := netR_next old ch now fs g1
      have HXE := hid0 (HNO.out.x i g1)
      have HSD0 := HNO.out.side i g1
      have HF := hid0 (HNO.out.few (i + 1) g1)
      have HXL := hid0 (netX_len old ch now fs i fs[i] g1)
      have HVALS0 := netX_vals old ch now fs i fs[i]
      have HPS := netX_ps old ch now fs i fs[i]
      generalize fs[i] = s at q0 hss HNX0 HXE HSD0 HXL HVALS0 HPS
      rw [← HPS] at HNX0 HSD0
      have HSD := hid0 HSD0
      have HXL := hid0 (show (netX old ch now fs i s).length ≤ 1000000 by rw [HXL.out, HN.out]; omega)
      obtain ⟨a2, n2, c2, e2⟩ : ∃ a n c, slcOf ch s.data.toList = .slice a n c := by
        unfold slcOf
        cases findN ch s.data.toList with
        | some x => exact ⟨x.a, x.E.length, x.c, rfl⟩
        | none => exact ⟨none, 0, 0, rfl⟩
      rw [e2] at HVALS0
      have HVALS := hid0 HVALS0
      have LK := hid0 (fun (W : World) (hW : Below wr.drew.heap.size wr.drew W) => (show (Instr.lookup 94 (.map (some b2)) (.string s) false).run Tryz.prog W = .ok (.slice a2 n2 c2) W from by
        have := (H2.out.later (below_through hW HZ.out.size HZ.out)).look false hss
        rw [e2] at this
        exact this))
      have C4 := hid0 (fun (W : World) (hW : Below wr.drew.heap.size wr.drew W) => (show Calls Tryz.prog 139 #[.map (some b1), .slice (some ⟨bl2, ol, none⟩) i c] W (fun e w' => (∃ v, e = .returned v ∧ w'.ownsRow W.heap.size 57 1 v i (ofD old (fs.take i))) ∧ Below W.heap.size W w') from by
        have hW2 := below_through hW HZ.out.size HZ.out
        have := dOf_any b1 old (some ⟨bl2, ol, none⟩) c (fs.take i) W (H1.out.later hW2) ((HL.out.later hW2).head i) (by rw [List.length_take]; omega)
        rw [show (fs.take i).length = i by rw [List.length_take]; omega] at this
        exact this))
      obtain ⟨a1, c1, HS1, HS2⟩ := strs_hi (some ⟨bl2, ol, none⟩) fs N c (i + 1) HN.out (by omega) hc (by omega)
      have HS0 := strs_lo (some ⟨bl2, ol, none⟩) N c i (by omega) hc (by omega)
      have hdl : (fs.drop (i + 1)).length = N - (i + 1) := by rw [List.length_drop, HN.out]
      have C14 := hid0 (fun (W : World) (hW : Below wr.drew.heap.size wr.drew W) => (show Calls Tryz.prog 139 #[.map (some b3), .slice a1 (N - (i + 1)) c1] W (fun e w' => (∃ v, e = .returned v ∧ w'.ownsRow W.heap.size 57 1 v (N - (i + 1)) (ofD now (fs.drop (i + 1)))) ∧ Below W.heap.size W w') from by
        have hW2 := below_through hW HZ.out.size HZ.out
        have := dOf_any b3 now a1 c1 (fs.drop (i + 1)) W (H3.out.later hW2) (HS2 W (HL.out.later hW2)) (by rw [hdl]; omega)
        rw [hdl] at this
        exact this))
      have HS1 : ∀ W : World, (Instr.slice 38 (.slice (some ⟨bl2, ol, none⟩) N c) (some (.int .i64 ((i : Int) + 1))) none none).run Tryz.prog W = .ok (.slice a1 (N - (i + 1)) c1) W := fun W => by have := HS1 W; push_cast at this; exact this
      have hwi : IntKind.i64.wrap ((i : Int) + 1) = (i : Int) + 1 := IntWalk.i64_in _ (by omega)
      have HL4 := hid0 (show (ofD old (fs.take i)).length = i by rw [ofD_len, List.length_take]; omega)
      have HL14 := hid0 (show (ofD now (fs.drop (i + 1))).length = N - (i + 1) by rw [ofD_len, hdl])
      have HO4 := hid0 (ofD_one old (fs.take i))
      have HO14 := hid0 (ofD_one now (fs.drop (i + 1)))
      have HO8 := hid0 (show ∀ u ∈ [Value.slice a2 n2 c2], u.oneCell' = true from fun u hu => by obtain rfl := List.mem_singleton.1 hu; rfl)
      have HLN := hid0 (fun (E7 : List Elem) (h : E7.map pr = sideL ((netX old ch now fs i s).map BX.ps)) => (show (M.length + E7.length) * 32 ≤ 140737488355328 from by
        have h1 := HF.out.2
        rw [HNX0, List.length_append, ← h, ← hT.out, List.length_map, List.length_map] at h1
        omega))
      have HNX := hid0 (fun (E7 : List Elem) (h : E7.map pr = sideL ((netX old ch now fs i s).map BX.ps)) => (show (M ++ E7).map pr = netR old ch now fs (i + 1) from by
        rw [HNX0, List.map_append, hT.out, h]))
      have HM := hid0 hM.drew
      have hB : Below wr.drew.heap.size wr.drew wr.drew := Below.refl _ _
      clear hcl HS2 hdl HNX0 HSD0 HPS HVALS0 hss e2 g1 hM
      go_wp2_with fail
      clear q0
      refine wp_region_held_drew (S := (fun W => Below wr.drew.heap.size wr.drew W)) (by kernel_rfl) hB (fun hHeld => ?_)
      generalize wr.drew = W0 at hB HZ C4 C14 LK HM hHeld ⊢
      refine wpAnyH_take (i := 0) (v := ?_) rfl (by kernel_rfl) (by kernel_rfl) (by kernel_rfl) (fun _ _ _ h => h) (Or.inl ⟨by rfl, ?_⟩) (by assumption) ?_
      rotate_left
      · (intro wx hSw; go_simp; (try with_reducible rfl); (try omega))
      (try simp only [Act.put, List.setIfInBounds_toArray, List.set_cons_zero, List.set_cons_succ, List.getElem_toArray, List.getElem_cons_zero])
      refine wpAnyH_take (i := 1) (v := ?_) rfl (by kernel_rfl) (by kernel_rfl) (by kernel_rfl) (fun _ _ _ h => h) (Or.inl ⟨by rfl, ?_⟩) (by assumption) ?_
      rotate_left
      · (intro wx hSw; go_simp; (try with_reducible rfl); (try omega))
      (try simp only [Act.put, List.setIfInBounds_toArray, List.set_cons_zero, List.set_cons_succ, List.getElem_toArray, List.getElem_cons_zero, List.getElem_cons_succ])
      refine wpAnyH_take (i := 2) (v := ?_) rfl (by kernel_rfl) (by kernel_rfl) (by kernel_rfl) (fun _ _ _ h => h) (Or.inl ⟨by rfl, ?_⟩) (by assumption) ?_
      rotate_left
      · (intro wx hSw; go_simp; (try with_reducible rfl); (try omega))
      (try simp only [Act.put, List.setIfInBounds_toArray, List.set_cons_zero, List.set_cons_succ, List.getElem_toArray, List.getElem_cons_zero, List.getElem_cons_succ])
      refine wpAnyH_take (i := 3) (v := ?_) rfl (by kernel_rfl) (by kernel_rfl) (by kernel_rfl) (fun _ _ _ h => h) (Or.inl ⟨by rfl, ?_⟩) (by assumption) ?_
      rotate_left
      · (intro wx hSw; go_simp; (try with_reducible rfl); (try omega))
      (try simp only [Act.put, List.setIfInBounds_toArray, List.set_cons_zero, List.set_cons_succ, List.getElem_toArray, List.getElem_cons_zero, List.getElem_cons_succ])
      refine wpAnyH_take (i := 5) (v := ?_) rfl (by kernel_rfl) (by kernel_rfl) (by kernel_rfl) (fun _ _ _ h => h) (Or.inl ⟨by rfl, ?_⟩) (by assumption) ?_
      rotate_left
      · (intro wx hSw; go_simp; (try with_reducible rfl); (try omega))
      (try simp only [Act.put, List.setIfInBounds_toArray, List.set_cons_zero, List.set_cons_succ, List.getElem_toArray, List.getElem_cons_zero, List.getElem_cons_succ])
      refine wpAnyH_take (i := 6) (v := ?_) rfl (by kernel_rfl) (by kernel_rfl) (by kernel_rfl) (fun _ _ _ h => h) (Or.inl ⟨by rfl, ?_⟩) (by assumption) ?_
      rotate_left
      · (intro wx hSw; go_simp; (try with_reducible rfl); (try omega))
      (try simp only [Act.put, List.setIfInBounds_toArray, List.set_cons_zero, List.set_cons_succ, List.getElem_toArray, List.getElem_cons_zero, List.getElem_cons_succ])
      refine wpAnyH_take (i := 7) (v := ?_) rfl (by kernel_rfl) (by kernel_rfl) (by kernel_rfl) (fun _ _ _ h => h) (Or.inl ⟨by rfl, ?_⟩) (by assumption) ?_
      rotate_left
      · (intro wx hSw; have hk := LK.out _ hSw; go_simp; (try with_reducible rfl); (try omega))
      (try simp only [Act.put, List.setIfInBounds_toArray, List.set_cons_zero, List.set_cons_succ, List.getElem_toArray, List.getElem_cons_zero, List.getElem_cons_succ])
      refine wpAnyH_take (i := 9) (v := ?_) rfl (by kernel_rfl) (by kernel_rfl) (by kernel_rfl) (fun _ _ _ h => h) (Or.inl ⟨by rfl, ?_⟩) (by assumption) ?_
      rotate_left
      · (intro wx hSw; go_simp; (try with_reducible rfl); (try omega))
      (try simp only [Act.put, List.setIfInBounds_toArray, List.set_cons_zero, List.set_cons_succ, List.getElem_toArray, List.getElem_cons_zero, List.getElem_cons_succ])
      refine wpAnyH_take (i := 10) (v := ?_) rfl (by kernel_rfl) (by kernel_rfl) (by kernel_rfl) (fun _ _ _ h => h) (Or.inl ⟨by rfl, ?_⟩) (by assumption) ?_
      rotate_left
      · (intro wx hSw; go_simp; (try with_reducible rfl); (try omega))
      (try simp only [Act.put, List.setIfInBounds_toArray, List.set_cons_zero, List.set_cons_succ, List.getElem_toArray, List.getElem_cons_zero, List.getElem_cons_succ])
      refine wpAnyH_take (i := 11) (v := ?_) rfl (by kernel_rfl) (by kernel_rfl) (by kernel_rfl) (fun _ _ _ h => h) (Or.inl ⟨by rfl, ?_⟩) (by assumption) ?_
      rotate_left
      · (intro wx hSw; go_simp; (try with_reducible rfl); (try omega))
      (try simp only [Act.put, List.setIfInBounds_toArray, List.set_cons_zero, List.set_cons_succ, List.getElem_toArray, List.getElem_cons_zero, List.getElem_cons_succ])
      refine wpAnyH_take (i := 12) (v := ?_) rfl (by kernel_rfl) (by kernel_rfl) (by kernel_rfl) (fun _ _ _ h => h) (Or.inl ⟨by rfl, ?_⟩) (by assumption) ?_
      rotate_left
      · (intro wx hSw; have hk := hwi; go_simp; (try with_reducible rfl); (try omega))
      (try simp only [Act.put, List.setIfInBounds_toArray, List.set_cons_zero, List.set_cons_succ, List.getElem_toArray, List.getElem_cons_zero, List.getElem_cons_succ])
      refine wpAnyH_take (i := 13) (v := ?_) rfl (by kernel_rfl) (by kernel_rfl) (by kernel_rfl) (fun _ _ _ h => h) (Or.inl ⟨by rfl, ?_⟩) (by assumption) ?_
      rotate_left
      · (intro wx hSw; go_simp; (try with_reducible rfl); (try omega))
      (try simp only [Act.put, List.setIfInBounds_toArray, List.set_cons_zero, List.set_cons_succ, List.getElem_toArray, List.getElem_cons_zero, List.getElem_cons_succ])
      refine wpAnyH_ready (rs := [4, 8]) (by kernel_rfl) (by simp) ?_
      refine AllReadyH.cons rfl (fun K hK => ?_) ?_
      · (try simp only [Act.put, List.setIfInBounds_toArray, List.set_cons_zero, List.set_cons_succ, List.getElem_toArray, List.getElem_cons_zero, List.getElem_cons_succ])
        go_simp
        refine (C4.out _ hB).mono ?_
        rintro e W1 ⟨⟨v4, rfl, hO4⟩, hb4⟩
        obtain ⟨a4, c4, rfl, _, hV4⟩ := vals_owned hO4
        have hB := below_through hb4 hB.size hB
        clear hO4 hb4
        refine hK.out _ _ hB (fun hHeld => ?_)
        clear hK K
        (try simp only [Act.put, List.setIfInBounds_toArray, List.set_cons_zero, List.set_cons_succ, List.getElem_toArray, List.getElem_cons_zero, List.getElem_cons_succ])
        refine wpAnyH_ready (rs := [8, 14]) (by kernel_rfl) (by simp) ?_
        refine AllReadyH.cons rfl (fun K hK => ?_) ?_
        · (try simp only [Act.put, List.setIfInBounds_toArray, List.set_cons_zero, List.set_cons_succ, List.getElem_toArray, List.getElem_cons_zero, List.getElem_cons_succ])
          go_simp
          obtain ⟨W2, hW2⟩ : ∃ W', W1.alloc (Obj.cells #[.slice a2 n2 c2] 57) = W' := ⟨_, rfl⟩
          have hV8 : ValsAt W2 (some ⟨W1.heap.size, 0, none⟩) [.slice a2 n2 c2] := by rw [← hW2]; exact vals_one (VarB.new _ _ _)
          have hba : Below W1.heap.size W1 W2 := by rw [← hW2]; exact (Below.refl _ _).alloc (Nat.le_refl _) _
          have hV4 := hV4.later hba
          have hB := below_through hba hB.size hB
          rw [hW2]
          clear hW2 hba
          refine hK.out _ _ hB (fun hHeld => ?_)
          clear hK K
          (try simp only [Act.put, List.setIfInBounds_toArray, List.set_cons_zero, List.set_cons_succ, List.getElem_toArray, List.getElem_cons_zero, List.getElem_cons_succ])
          refine wpAnyH_ready (rs := [14]) (by kernel_rfl) (by simp) ?_
          refine AllReadyH.cons rfl (fun K hK => ?_) ?_
          · (try simp only [Act.put, List.setIfInBounds_toArray, List.set_cons_zero, List.set_cons_succ, List.getElem_toArray, List.getElem_cons_zero, List.getElem_cons_succ])
            go_simp
            refine (C14.out _ hB).mono ?_
            rintro e W3 ⟨⟨v14, rfl, hO14⟩, hb14⟩
            obtain ⟨a14, c14, rfl, _, hV14⟩ := vals_owned hO14
            have hV4 := hV4.later hb14
            have hV8 := hV8.later hb14
            have hB := below_through hb14 hB.size hB
            clear hO14 hb14
            refine hK.out _ _ hB (fun hHeld => ?_)
            clear hK K
            (try simp only [Act.put, List.setIfInBounds_toArray, List.set_cons_zero, List.set_cons_succ, List.getElem_toArray, List.getElem_cons_zero, List.getElem_cons_succ])
            refine wpAnyH_ready (rs := [15]) (by kernel_rfl) (by simp) ?_
            refine AllReadyH.cons rfl (fun K hK => ?_) ?_
            · (try simp only [Act.put, List.setIfInBounds_toArray, List.set_cons_zero, List.set_cons_succ, List.getElem_toArray, List.getElem_cons_zero, List.getElem_cons_succ])
              go_simp
              have hB5 := hB.alloc hB.size (Obj.cells #[.slice a4 i c4, .slice (some ⟨W1.heap.size, 0, none⟩) 1 1, .slice a14 (N - (i + 1)) c14] 145)
              refine hK.out _ _ hB5 (fun hHeld => ?_)
              clear hK K
              (try simp only [Act.put, List.setIfInBounds_toArray, List.set_cons_zero, List.set_cons_succ, List.getElem_toArray, List.getElem_cons_zero, List.getElem_cons_succ])
              refine wpAnyH_ready (rs := [16]) (by kernel_rfl) (by simp) ?_
              refine AllReadyH.cons rfl (fun K hK => ?_) ?_
              · (try simp only [Act.put, List.setIfInBounds_toArray, List.set_cons_zero, List.set_cons_succ, List.getElem_toArray, List.getElem_cons_zero, List.getElem_cons_succ])
                go_simp
                refine (concat3L_any a4 (some ⟨W1.heap.size, 0, none⟩) a14 c4 1 c14 i 1 (N - (i + 1)) _ _ _ W3 145 hV4 hV8 hV14 HL4.out rfl HL14.out HO4.out HO8.out HO14.out (by omega)).mono ?_
                rintro e W5 ⟨⟨v16, rfl, hO16⟩, hb16⟩
                have hB := below_through hb16 hB.size hB
                rw [HVALS.out] at hO16
                clear hB5
                refine hK.out _ _ hB (fun hHeld => ?_)
                clear hK K
                (try simp only [Act.put, List.setIfInBounds_toArray, List.set_cons_zero, List.set_cons_succ, List.getElem_toArray, List.getElem_cons_zero, List.getElem_cons_succ])
                refine wpAnyH_take (i := 17) (v := ?_) rfl (by kernel_rfl) (by kernel_rfl) (by kernel_rfl) (fun _ _ _ h => h) (Or.inl ⟨by rfl, ?_⟩) (by assumption) ?_
                rotate_left
                · (intro wx hSw; go_simp; (try with_reducible rfl); (try omega))
                (try simp only [Act.put, List.setIfInBounds_toArray, List.set_cons_zero, List.set_cons_succ, List.getElem_toArray, List.getElem_cons_zero, List.getElem_cons_succ])
                refine wpAnyH_done (by kernel_rfl) ?_ _
                obtain ⟨a6, c6, rfl, _, hBs⟩ := bs_owned hO16
                have HBs := hid0 hBs
                have HB := hid0 hB
                clear hO16 hBs hb16 hV4 hV8 hV14
                go_wp2_with (first | (go_at_call 140; go_must (refine (dSideBy_any a6 c6 (netX old ch now fs i s) _ HBs.out HXL.out (fun x hx => ⟨(HXE.out x hx).1.later (below_through HB.out HZ.out.size HZ.out), (HXE.out x hx).2⟩) HSD.out).mono ?_; rintro e w7 ⟨v7, E7, rfl, hM7, hm7⟩; (have HM7 := hid0 hM7); (have Hm7 := hid0 hm7); (have hMa := HM.out.below (below_through hM7.b HB.out.size HB.out)); clear hM7 hm7)) | (at_builtin; go_loud (refine wp_meL rfl _ _ rfl rfl rfl hMa HM7.out (HLN.out E7 Hm7.out) ?_)) | fail)
                intro v8 w8 hM8
                go_wp2
                exact ⟨⟨i + 1, M ++ E7, by omega, by go_num, hM8, hid0 (HNX.out E7 Hm7.out)⟩, by simp [intOf]; omega⟩
              exact AllReadyH.nil
            exact AllReadyH.nil
          exact AllReadyH.nil
        refine AllReadyH.cons rfl (fun K hK => ?_) ?_
        · (try simp only [Act.put, List.setIfInBounds_toArray, List.set_cons_zero, List.set_cons_succ, List.getElem_toArray, List.getElem_cons_zero, List.getElem_cons_succ])
          go_simp
          refine (C14.out _ hB).mono ?_
          rintro e W2 ⟨⟨v14, rfl, hO14⟩, hb14⟩
          obtain ⟨a14, c14, rfl, _, hV14⟩ := vals_owned hO14
          have hV4 := hV4.later hb14
          have hB := below_through hb14 hB.size hB
          clear hO14 hb14
          refine hK.out _ _ hB (fun hHeld => ?_)
          clear hK K
          (try simp only [Act.put, List.setIfInBounds_toArray, List.set_cons_zero, List.set_cons_succ, List.getElem_toArray, List.getElem_cons_zero, List.getElem_cons_succ])
          refine wpAnyH_ready (rs := [8]) (by kernel_rfl) (by simp) ?_
          refine AllReadyH.cons rfl (fun K hK => ?_) ?_
          · (try simp only [Act.put, List.setIfInBounds_toArray, List.set_cons_zero, List.set_cons_succ, List.getElem_toArray, List.getElem_cons_zero, List.getElem_cons_succ])
            go_simp
            obtain ⟨W3, hW3⟩ : ∃ W', W2.alloc (Obj.cells #[.slice a2 n2 c2] 57) = W' := ⟨_, rfl⟩
            have hV8 : ValsAt W3 (some ⟨W2.heap.size, 0, none⟩) [.slice a2 n2 c2] := by rw [← hW3]; exact vals_one (VarB.new _ _ _)
            have hba : Below W2.heap.size W2 W3 := by rw [← hW3]; exact (Below.refl _ _).alloc (Nat.le_refl _) _
            have hV4 := hV4.later hba
            have hV14 := hV14.later hba
            have hB := below_through hba hB.size hB
            rw [hW3]
            clear hW3 hba
            refine hK.out _ _ hB (fun hHeld => ?_)
            clear hK K
            (try simp only [Act.put, List.setIfInBounds_toArray, List.set_cons_zero, List.set_cons_succ, List.getElem_toArray, List.getElem_cons_zero, List.getElem_cons_succ])
            refine wpAnyH_ready (rs := [15]) (by kernel_rfl) (by simp) ?_
            refine AllReadyH.cons rfl (fun K hK => ?_) ?_
            · (try simp only [Act.put, List.setIfInBounds_toArray, List.set_cons_zero, List.set_cons_succ, List.getElem_toArray, List.getElem_cons_zero, List.getElem_cons_succ])
              go_simp
              have hB5 := hB.alloc hB.size (Obj.cells #[.slice a4 i c4, .slice (some ⟨W2.heap.size, 0, none⟩) 1 1, .slice a14 (N - (i + 1)) c14] 145)
              refine hK.out _ _ hB5 (fun hHeld => ?_)
              clear hK K
              (try simp only [Act.put, List.setIfInBounds_toArray, List.set_cons_zero, List.set_cons_succ, List.getElem_toArray, List.getElem_cons_zero, List.getElem_cons_succ])
              refine wpAnyH_ready (rs := [16]) (by kernel_rfl) (by simp) ?_
              refine AllReadyH.cons rfl (fun K hK => ?_) ?_
              · (try simp only [Act.put, List.setIfInBounds_toArray, List.set_cons_zero, List.set_cons_succ, List.getElem_toArray, List.getElem_cons_zero, List.getElem_cons_succ])
                go_simp
                refine (concat3L_any a4 (some ⟨W2.heap.size, 0, none⟩) a14 c4 1 c14 i 1 (N - (i + 1)) _ _ _ W3 145 hV4 hV8 hV14 HL4.out rfl HL14.out HO4.out HO8.out HO14.out (by omega)).mono ?_
                rintro e W5 ⟨⟨v16, rfl, hO16⟩, hb16⟩
                have hB := below_through hb16 hB.size hB
                rw [HVALS.out] at hO16
                clear hB5
                refine hK.out _ _ hB (fun hHeld => ?_)
                clear hK K
                (try simp only [Act.put, List.setIfInBounds_toArray, List.set_cons_zero, List.set_cons_succ, List.getElem_toArray, List.getElem_cons_zero, List.getElem_cons_succ])
                refine wpAnyH_take (i := 17) (v := ?_) rfl (by kernel_rfl) (by kernel_rfl) (by kernel_rfl) (fun _ _ _ h => h) (Or.inl ⟨by rfl, ?_⟩) (by assumption) ?_
                rotate_left
                · (intro wx hSw; go_simp; (try with_reducible rfl); (try omega))
                (try simp only [Act.put, List.setIfInBounds_toArray, List.set_cons_zero, List.set_cons_succ, List.getElem_toArray, List.getElem_cons_zero, List.getElem_cons_succ])
                refine wpAnyH_done (by kernel_rfl) ?_ _
                obtain ⟨a6, c6, rfl, _, hBs⟩ := bs_owned hO16
                have HBs := hid0 hBs
                have HB := hid0 hB
                clear hO16 hBs hb16 hV4 hV8 hV14
                go_wp2_with (first | (go_at_call 140; go_must (refine (dSideBy_any a6 c6 (netX old ch now fs i s) _ HBs.out HXL.out (fun x hx => ⟨(HXE.out x hx).1.later (below_through HB.out HZ.out.size HZ.out), (HXE.out x hx).2⟩) HSD.out).mono ?_; rintro e w7 ⟨v7, E7, rfl, hM7, hm7⟩; (have HM7 := hid0 hM7); (have Hm7 := hid0 hm7); (have hMa := HM.out.below (below_through hM7.b HB.out.size HB.out)); clear hM7 hm7)) | (at_builtin; go_loud (refine wp_meL rfl _ _ rfl rfl rfl hMa HM7.out (HLN.out E7 Hm7.out) ?_)) | fail)
                intro v8 w8 hM8
                go_wp2
                exact ⟨⟨i + 1, M ++ E7, by omega, by go_num, hM8, hid0 (HNX.out E7 Hm7.out)⟩, by simp [intOf]; omega⟩
              exact AllReadyH.nil
            exact AllReadyH.nil
          exact AllReadyH.nil
        exact AllReadyH.nil
      refine AllReadyH.cons rfl (fun K hK => ?_) ?_
      · (try simp only [Act.put, List.setIfInBounds_toArray, List.set_cons_zero, List.set_cons_succ, List.getElem_toArray, List.getElem_cons_zero, List.getElem_cons_succ])
        go_simp
        obtain ⟨W1, hW1⟩ : ∃ W', W0.alloc (Obj.cells #[.slice a2 n2 c2] 57) = W' := ⟨_, rfl⟩
        have hV8 : ValsAt W1 (some ⟨W0.heap.size, 0, none⟩) [.slice a2 n2 c2] := by rw [← hW1]; exact vals_one (VarB.new _ _ _)
        have hba : Below W0.heap.size W0 W1 := by rw [← hW1]; exact (Below.refl _ _).alloc (Nat.le_refl _) _
        have hB := below_through hba hB.size hB
        rw [hW1]
        clear hW1 hba
        refine hK.out _ _ hB (fun hHeld => ?_)
        clear hK K
        (try simp only [Act.put, List.setIfInBounds_toArray, List.set_cons_zero, List.set_cons_succ, List.getElem_toArray, List.getElem_cons_zero, List.getElem_cons_succ])
        refine wpAnyH_ready (rs := [4]) (by kernel_rfl) (by simp) ?_
        refine AllReadyH.cons rfl (fun K hK => ?_) ?_
        · (try simp only [Act.put, List.setIfInBounds_toArray, List.set_cons_zero, List.set_cons_succ, List.getElem_toArray, List.getElem_cons_zero, List.getElem_cons_succ])
          go_simp
          refine (C4.out _ hB).mono ?_
          rintro e W2 ⟨⟨v4, rfl, hO4⟩, hb4⟩
          obtain ⟨a4, c4, rfl, _, hV4⟩ := vals_owned hO4
          have hV8 := hV8.later hb4
          have hB := below_through hb4 hB.size hB
          clear hO4 hb4
          refine hK.out _ _ hB (fun hHeld => ?_)
          clear hK K
          (try simp only [Act.put, List.setIfInBounds_toArray, List.set_cons_zero, List.set_cons_succ, List.getElem_toArray, List.getElem_cons_zero, List.getElem_cons_succ])
          refine wpAnyH_ready (rs := [14]) (by kernel_rfl) (by simp) ?_
          refine AllReadyH.cons rfl (fun K hK => ?_) ?_
          · (try simp only [Act.put, List.setIfInBounds_toArray, List.set_cons_zero, List.set_cons_succ, List.getElem_toArray, List.getElem_cons_zero, List.getElem_cons_succ])
            go_simp
            refine (C14.out _ hB).mono ?_
            rintro e W3 ⟨⟨v14, rfl, hO14⟩, hb14⟩
            obtain ⟨a14, c14, rfl, _, hV14⟩ := vals_owned hO14
            have hV8 := hV8.later hb14
            have hV4 := hV4.later hb14
            have hB := below_through hb14 hB.size hB
            clear hO14 hb14
            refine hK.out _ _ hB (fun hHeld => ?_)
            clear hK K
            (try simp only [Act.put, List.setIfInBounds_toArray, List.set_cons_zero, List.set_cons_succ, List.getElem_toArray, List.getElem_cons_zero, List.getElem_cons_succ])
            refine wpAnyH_ready (rs := [15]) (by kernel_rfl) (by simp) ?_
            refine AllReadyH.cons rfl (fun K hK => ?_) ?_
            · (try simp only [Act.put, List.setIfInBounds_toArray, List.set_cons_zero, List.set_cons_succ, List.getElem_toArray, List.getElem_cons_zero, List.getElem_cons_succ])
              go_simp
              have hB5 := hB.alloc hB.size (Obj.cells #[.slice a4 i c4, .slice (some ⟨W0.heap.size, 0, none⟩) 1 1, .slice a14 (N - (i + 1)) c14] 145)
              refine hK.out _ _ hB5 (fun hHeld => ?_)
              clear hK K
              (try simp only [Act.put, List.setIfInBounds_toArray, List.set_cons_zero, List.set_cons_succ, List.getElem_toArray, List.getElem_cons_zero, List.getElem_cons_succ])
              refine wpAnyH_ready (rs := [16]) (by kernel_rfl) (by simp) ?_
              refine AllReadyH.cons rfl (fun K hK => ?_) ?_
              · (try simp only [Act.put, List.setIfInBounds_toArray, List.set_cons_zero, List.set_cons_succ, List.getElem_toArray, List.getElem_cons_zero, List.getElem_cons_succ])
                go_simp
                refine (concat3L_any a4 (some ⟨W0.heap.size, 0, none⟩) a14 c4 1 c14 i 1 (N - (i + 1)) _ _ _ W3 145 hV4 hV8 hV14 HL4.out rfl HL14.out HO4.out HO8.out HO14.out (by omega)).mono ?_
                rintro e W5 ⟨⟨v16, rfl, hO16⟩, hb16⟩
                have hB := below_through hb16 hB.size hB
                rw [HVALS.out] at hO16
                clear hB5
                refine hK.out _ _ hB (fun hHeld => ?_)
                clear hK K
                (try simp only [Act.put, List.setIfInBounds_toArray, List.set_cons_zero, List.set_cons_succ, List.getElem_toArray, List.getElem_cons_zero, List.getElem_cons_succ])
                refine wpAnyH_take (i := 17) (v := ?_) rfl (by kernel_rfl) (by kernel_rfl) (by kernel_rfl) (fun _ _ _ h => h) (Or.inl ⟨by rfl, ?_⟩) (by assumption) ?_
                rotate_left
                · (intro wx hSw; go_simp; (try with_reducible rfl); (try omega))
                (try simp only [Act.put, List.setIfInBounds_toArray, List.set_cons_zero, List.set_cons_succ, List.getElem_toArray, List.getElem_cons_zero, List.getElem_cons_succ])
                refine wpAnyH_done (by kernel_rfl) ?_ _
                obtain ⟨a6, c6, rfl, _, hBs⟩ := bs_owned hO16
                have HBs := hid0 hBs
                have HB := hid0 hB
                clear hO16 hBs hb16 hV4 hV8 hV14
                go_wp2_with (first | (go_at_call 140; go_must (refine (dSideBy_any a6 c6 (netX old ch now fs i s) _ HBs.out HXL.out (fun x hx => ⟨(HXE.out x hx).1.later (below_through HB.out HZ.out.size HZ.out), (HXE.out x hx).2⟩) HSD.out).mono ?_; rintro e w7 ⟨v7, E7, rfl, hM7, hm7⟩; (have HM7 := hid0 hM7); (have Hm7 := hid0 hm7); (have hMa := HM.out.below (below_through hM7.b HB.out.size HB.out)); clear hM7 hm7)) | (at_builtin; go_loud (refine wp_meL rfl _ _ rfl rfl rfl hMa HM7.out (HLN.out E7 Hm7.out) ?_)) | fail)
                intro v8 w8 hM8
                go_wp2
                exact ⟨⟨i + 1, M ++ E7, by omega, by go_num, hM8, hid0 (HNX.out E7 Hm7.out)⟩, by simp [intOf]; omega⟩
              exact AllReadyH.nil
            exact AllReadyH.nil
          exact AllReadyH.nil
        exact AllReadyH.nil
      exact AllReadyH.nil
    · have hie : ¬ (i : Int) < (N : Int) := by omega
      obtain rfl : i = N := by omega
      obtain ⟨a5, c5, rfl, hc5, hE5⟩ := hM.elems
      have hfew := HNO.out.few fs.length (Nat.le_refl _)
      rw [HN.out, ← hT.out, List.length_map] at hfew
      have CO := bagOf_any a5 c5 M wr hE5 hc5 (by omega) (by omega)
      have HB := hid0 hM.b
      rw [hT.out] at CO
      have CO := hid0 CO
      clear hM hE5 hfew hT
      go_wp2_with (first | (go_at_call 47; go_must (refine CO.out.mono ?_; rintro e w9 ⟨⟨a9, c9, E9, rfl, hc9, hE9, hm9⟩, hb9⟩)) | fail)
      go_ret
      exact ⟨⟨a9, c9, E9, rfl, hc9, hE9, hm9⟩, below_through hb9 HB.out.size HB.out⟩
end Go.Proofs.YtfdkajefcplfjaaGreat
