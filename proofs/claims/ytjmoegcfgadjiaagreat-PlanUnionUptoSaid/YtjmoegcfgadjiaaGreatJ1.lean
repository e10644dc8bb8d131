/- Several of my texts laid together, each as it was: X2, X4. Conditions: each names its own. -/
import Derived.Test.YtjmoegcfgadjiaaGreatI9
/- Groups of a list that rises already (plan.alike): a contract of the call, in whatever memory. Conditions: the rows' cells are known; the list is short and rises. -/
namespace Go.Proofs.YtjmoegcfgadjiaaGreat
open Go.RowKit

set_option maxHeartbeats 8000000 in
set_option maxRecDepth 1000000 in
theorem alike_risen (a : Option Addr) (c : Nat) (E : List Elem) (gp : Option Addr) (gc : Nat) (gs : List Int) (w : World) (h : GrpOk w a c E) (hI : IntsAt w gp gs) (hgl : gs.length ≤ 1000) (hg : ∀ e ∈ E, ∀ g ∈ gs, 0 ≤ g ∧ g < (e.r.length : Int)) (hR : Risen gs E) (hn : E.length < 20) :
    Calls Tryz.prog 135 #[.slice a E.length c, .slice gp gs.length gc] w fun e w' => (∃ a' c' G, e = .returned (.slice a' G.length c') ∧ GrpsAt w' a' G ∧ G.map Gx.grp = (runsM gs (E.map pr)).map (fun g => (g, 1))) ∧ Below w.heap.size w w' := by
  have V := VarB.new w [.slice gp gs.length gc] 35
  have hB0 : Below w.heap.size w (w.alloc (Obj.cells #[.slice gp gs.length gc] 35)) := (Below.refl _ _).alloc (Nat.le_refl _) _
  have v0 := V.cell 0 rfl
  have hC : OrdC (w.alloc (Obj.cells #[.slice gp gs.length gc] 35)) w.heap.size gs E := ⟨fun e1 h1 e2 h2 W hW r1 r2 => order_any e1.a e2.a e1.c e2.c e1.r e2.r e1.n e2.n w.heap.size gp gc gs W (cell_later hW v0) (hI.later (below_through hW hB0.size hB0)) hgl r1 r2 (fun g hgm => ⟨(hg e1 h1 g hgm).1, (hg e1 h1 g hgm).2, (hg e2 h2 g hgm).2⟩)⟩
  have CS := hid0 (sort_risen w.heap.size a c E gs _ (h.at_.later hB0) hC hR hn)
  have CC := hid0 hC
  have HG := hid0 h
  have hcap := h.cap
  have hRI := hid0 (RunI.start gs (E.map pr))
  clear hC h hI hg hR V
  go_enter Tryz.func135, Tryz.ntmps135
  go_wp2_with (first | (go_at_call 189; go_must (refine CS.out.mono ?_; rintro e w1 ⟨rfl, hb1⟩; (have hB1 := below_through hb1 hB0.size hB0))) | fail)
  have CC1 := hid0 (CC.out.later hb1)
  clear CC CS hb1 v0 hB0
  go_loopw [6, 7, 15] (fun fv bv iv wr => ∃ (i b : Nat) (G : List Gx), i ≤ E.length ∧ b ≤ i ∧ iv = .int .i64 i ∧ bv = .int .i64 b ∧ MkG w1 wr fv G ∧ Hid (∃ D, RunI gs (E.map pr) i b D ∧ G.map Gx.grp = D.map (fun g => (g, 1))) ∧ Hid (∀ g ∈ G, GrpOk w g.a g.c g.E) ∧ G.length ≤ i) (fun _ _ iv _ => E.length - (intOf iv).toNat)
  case atStart => exact ⟨0, 0, [], Nat.zero_le _, Nat.le_refl _, rfl, rfl, MkG.nil w1, hid0 ⟨[], hRI.out, rfl⟩, hid0 (fun g hg => absurd hg (by simp)), Nat.le_refl _⟩
  case round =>
    obtain ⟨i, b, G, hi, hbi, rfl, rfl, hM, hD, hGs, hGl⟩ := hrel
    have hsz := hM.b.size
    have hBw : Below w1.heap.size w1 wr := hM.b
    have hBB := below_through hBw hB1.size hB1
    by_cases hlt : i < E.length
    · obtain ⟨b1, o1, rfl, hc1⟩ := (HG.out.at_.1.later hBB) (by intro e; rw [e] at hlt; exact absurd hlt (by simp))
      obtain ⟨q0, q1⟩ := hc1 i hlt
      have hm1 := List.getElem_mem hlt
      have hr1 := (HG.out.at_.2 _ hm1).1.later hBB
      have HGS := hid0 (HG.out.sub b (i + 1 - b) (by omega) (by omega))
      have hsl : ((E.drop b).take (i + 1 - b)).length = i + 1 - b := by rw [List.length_take, List.length_drop]; omega
      have hi1 : (0 : Int) ≤ (b : Int) := by omega
      have hi2 : (b : Int) ≤ (i : Int) + 1 := by omega
      have hi3 : (i : Int) + 1 ≤ (c : Int) := by omega
      have hcb : ¬ c = b := by omega
      have hw : IntKind.i64.wrap ((i : Int) + 1) = (i : Int) + 1 := IntWalk.i64_in _ (by omega)
      have hin : (i : Int) < (E.length : Int) := by omega
      have HSL := hid0 hsl
      clear hsl
      have HGN := hid0 (show ∀ g ∈ (G ++ [⟨some ⟨b1, o1 + b * 2, none⟩, c - b, (E.drop b).take (i + 1 - b), 1⟩] : List Gx), GrpOk w g.a g.c g.E from fun g hg => by
        rcases List.mem_append.1 hg with hg | hg
        · exact hGs.out g hg
        · obtain rfl := List.mem_singleton.1 hg; exact HGS.out)
      have HGM := hid0 (show Gx.grp ⟨some ⟨b1, o1 + b * 2, none⟩, c - b, (E.drop b).take (i + 1 - b), 1⟩ = (((E.map pr).drop b).take (i + 1 - b), 1) by simp [Gx.grp, List.map_take, List.map_drop])
      by_cases hl : i + 1 = E.length
      · have hle : (((i : Int) + 1) == (E.length : Int)) = true := by simp; omega
        have HN := hid0 (show ∃ D, RunI gs (E.map pr) (i + 1) (i + 1) D ∧ (G ++ [⟨some ⟨b1, o1 + b * 2, none⟩, c - b, (E.drop b).take (i + 1 - b), 1⟩] : List Gx).map Gx.grp = D.map (fun g => (g, (1 : Int))) by
          obtain ⟨D, h1, h2⟩ := hD.out
          exact ⟨_, h1.last (by simpa using hl), by rw [List.map_append, h2, List.map_append, List.map_singleton, HGM.out]; rfl⟩)
        have HL := hid0 hl
        clear hc1 hl hm1 hr1
        have hS : SBel wr wr.drew := ⟨Below.drew (Below.refl _ _)⟩
        go_wp2_with fail
        refine wp_region_held_drew (S := SBel wr) (by kernel_rfl) hS (fun hHeld => ?_)
        refine wpAnyH_take (i := 0) (v := ?_) rfl (by kernel_rfl) (by kernel_rfl) (by kernel_rfl) (fun _ _ _ h => h) (Or.inl ⟨by rfl, ?_⟩) (by assumption) ?_
        rotate_left
        · (intro wx hSw; have z0 := cell_later hSw.b q0; have z1 := cell_later hSw.b q1; go_simp; (try with_reducible rfl); (try omega))
        (try simp only [Act.put, List.setIfInBounds_toArray, List.set_cons_zero, List.set_cons_succ, List.getElem_toArray, List.getElem_cons_zero])
        refine wpAnyH_take (i := 1) (v := ?_) rfl (by kernel_rfl) (by kernel_rfl) (by kernel_rfl) (fun _ _ _ h => h) (Or.inl ⟨by rfl, ?_⟩) (by assumption) ?_
        rotate_left
        · (intro wx hSw; have z0 := cell_later hSw.b q0; have z1 := cell_later hSw.b q1; go_simp; (try with_reducible rfl); (try omega))
        (try simp only [Act.put, List.setIfInBounds_toArray, List.set_cons_zero, List.set_cons_succ, List.getElem_toArray, List.getElem_cons_zero, List.getElem_cons_succ])
        refine wpAnyH_take (i := 2) (v := ?_) rfl (by kernel_rfl) (by kernel_rfl) (by kernel_rfl) (fun _ _ _ h => h) (Or.inl ⟨by rfl, ?_⟩) (by assumption) ?_
        rotate_left
        · (intro wx hSw; have z0 := cell_later hSw.b q0; have z1 := cell_later hSw.b q1; go_simp; (try with_reducible rfl); (try omega))
        (try simp only [Act.put, List.setIfInBounds_toArray, List.set_cons_zero, List.set_cons_succ, List.getElem_toArray, List.getElem_cons_zero, List.getElem_cons_succ])
        refine wpAnyH_take (i := 3) (v := ?_) rfl (by kernel_rfl) (by kernel_rfl) (by kernel_rfl) (fun _ _ _ h => h) (Or.inl ⟨by rfl, ?_⟩) (by assumption) ?_
        rotate_left
        · (intro wx hSw; have z0 := cell_later hSw.b q0; have z1 := cell_later hSw.b q1; go_simp; (try with_reducible rfl); (try omega))
        (try simp only [Act.put, List.setIfInBounds_toArray, List.set_cons_zero, List.set_cons_succ, List.getElem_toArray, List.getElem_cons_zero, List.getElem_cons_succ])
        refine wpAnyH_take (i := 4) (v := ?_) rfl (by kernel_rfl) (by kernel_rfl) (by kernel_rfl) (fun _ _ _ h => h) (Or.inl ⟨by rfl, ?_⟩) (by assumption) ?_
        rotate_left
        · (intro wx hSw; have z0 := cell_later hSw.b q0; have z1 := cell_later hSw.b q1; go_simp; (try with_reducible rfl); (try omega))
        (try simp only [Act.put, List.setIfInBounds_toArray, List.set_cons_zero, List.set_cons_succ, List.getElem_toArray, List.getElem_cons_zero, List.getElem_cons_succ])
        refine wpAnyH_take (i := 5) (v := ?_) rfl (by kernel_rfl) (by kernel_rfl) (by kernel_rfl) (fun _ _ _ h => h) (Or.inl ⟨by rfl, ?_⟩) (by assumption) ?_
        rotate_left
        · (intro wx hSw; have z0 := cell_later hSw.b q0; have z1 := cell_later hSw.b q1; go_simp; (try with_reducible rfl); (try omega))
        (try simp only [Act.put, List.setIfInBounds_toArray, List.set_cons_zero, List.set_cons_succ, List.getElem_toArray, List.getElem_cons_zero, List.getElem_cons_succ])
        refine wpAnyH_take (i := 6) (v := undef) rfl (by kernel_rfl) (by kernel_rfl) (by kernel_rfl) (fun _ _ _ h => h) (Or.inr ⟨by rfl, rfl⟩) (by assumption) ?_
        (try simp only [Act.put, List.setIfInBounds_toArray, List.set_cons_zero, List.set_cons_succ, List.getElem_toArray, List.getElem_cons_zero, List.getElem_cons_succ])
        refine wpAnyH_take (i := 7) (v := undef) rfl (by kernel_rfl) (by kernel_rfl) (by kernel_rfl) (fun _ _ _ h => h) (Or.inr ⟨by rfl, rfl⟩) (by assumption) ?_
        (try simp only [Act.put, List.setIfInBounds_toArray, List.set_cons_zero, List.set_cons_succ, List.getElem_toArray, List.getElem_cons_zero, List.getElem_cons_succ])
        refine wpAnyH_take (i := 8) (v := undef) rfl (by kernel_rfl) (by kernel_rfl) (by kernel_rfl) (fun _ _ _ h => h) (Or.inr ⟨by rfl, rfl⟩) (by assumption) ?_
        (try simp only [Act.put, List.setIfInBounds_toArray, List.set_cons_zero, List.set_cons_succ, List.getElem_toArray, List.getElem_cons_zero, List.getElem_cons_succ])
        refine wpAnyH_take (i := 9) (v := undef) rfl (by kernel_rfl) (by kernel_rfl) (by kernel_rfl) (fun _ _ _ h => h) (Or.inr ⟨by rfl, rfl⟩) (by assumption) ?_
        (try simp only [Act.put, List.setIfInBounds_toArray, List.set_cons_zero, List.set_cons_succ, List.getElem_toArray, List.getElem_cons_zero, List.getElem_cons_succ])
        refine wpAnyH_take (i := 10) (v := undef) rfl (by kernel_rfl) (by kernel_rfl) (by kernel_rfl) (fun _ _ _ h => h) (Or.inr ⟨by rfl, rfl⟩) (by assumption) ?_
        (try simp only [Act.put, List.setIfInBounds_toArray, List.set_cons_zero, List.set_cons_succ, List.getElem_toArray, List.getElem_cons_zero, List.getElem_cons_succ])
        refine wpAnyH_take (i := 11) (v := undef) rfl (by kernel_rfl) (by kernel_rfl) (by kernel_rfl) (fun _ _ _ h => h) (Or.inr ⟨by rfl, rfl⟩) (by assumption) ?_
        (try simp only [Act.put, List.setIfInBounds_toArray, List.set_cons_zero, List.set_cons_succ, List.getElem_toArray, List.getElem_cons_zero, List.getElem_cons_succ])
        refine wpAnyH_take (i := 12) (v := undef) rfl (by kernel_rfl) (by kernel_rfl) (by kernel_rfl) (fun _ _ _ h => h) (Or.inr ⟨by rfl, rfl⟩) (by assumption) ?_
        (try simp only [Act.put, List.setIfInBounds_toArray, List.set_cons_zero, List.set_cons_succ, List.getElem_toArray, List.getElem_cons_zero, List.getElem_cons_succ])
        refine wpAnyH_take (i := 13) (v := undef) rfl (by kernel_rfl) (by kernel_rfl) (by kernel_rfl) (fun _ _ _ h => h) (Or.inr ⟨by rfl, rfl⟩) (by assumption) ?_
        (try simp only [Act.put, List.setIfInBounds_toArray, List.set_cons_zero, List.set_cons_succ, List.getElem_toArray, List.getElem_cons_zero, List.getElem_cons_succ])
        refine wpAnyH_take (i := 14) (v := undef) rfl (by kernel_rfl) (by kernel_rfl) (by kernel_rfl) (fun _ _ _ h => h) (Or.inr ⟨by rfl, rfl⟩) (by assumption) ?_
        (try simp only [Act.put, List.setIfInBounds_toArray, List.set_cons_zero, List.set_cons_succ, List.getElem_toArray, List.getElem_cons_zero, List.getElem_cons_succ])
        refine wpAnyH_take (i := 15) (v := undef) rfl (by kernel_rfl) (by kernel_rfl) (by kernel_rfl) (fun _ _ _ h => h) (Or.inr ⟨by rfl, rfl⟩) (by assumption) ?_
        (try simp only [Act.put, List.setIfInBounds_toArray, List.set_cons_zero, List.set_cons_succ, List.getElem_toArray, List.getElem_cons_zero, List.getElem_cons_succ])
        refine wpAnyH_take (i := 16) (v := undef) rfl (by kernel_rfl) (by kernel_rfl) (by kernel_rfl) (fun _ _ _ h => h) (Or.inr ⟨by rfl, rfl⟩) (by assumption) ?_
        (try simp only [Act.put, List.setIfInBounds_toArray, List.set_cons_zero, List.set_cons_succ, List.getElem_toArray, List.getElem_cons_zero, List.getElem_cons_succ])
        refine wpAnyH_take (i := 17) (v := undef) rfl (by kernel_rfl) (by kernel_rfl) (by kernel_rfl) (fun _ _ _ h => h) (Or.inr ⟨by rfl, rfl⟩) (by assumption) ?_
        (try simp only [Act.put, List.setIfInBounds_toArray, List.set_cons_zero, List.set_cons_succ, List.getElem_toArray, List.getElem_cons_zero, List.getElem_cons_succ])
        refine wpAnyH_take (i := 18) (v := ?_) rfl (by kernel_rfl) (by kernel_rfl) (by kernel_rfl) (fun _ _ _ h => h) (Or.inl ⟨by rfl, ?_⟩) (by assumption) ?_
        rotate_left
        · (intro wx hSw; have z0 := cell_later hSw.b q0; have z1 := cell_later hSw.b q1; go_simp; (try with_reducible rfl); (try omega))
        (try simp only [Act.put, List.setIfInBounds_toArray, List.set_cons_zero, List.set_cons_succ, List.getElem_toArray, List.getElem_cons_zero, List.getElem_cons_succ])
        refine wpAnyH_done (by kernel_rfl) ?_ _
        clear hHeld
        go_wp2_with (first | (at_builtin; refine wp_g rfl _ _ rfl rfl ((hM.below hS.b).alloc _) ⟨some ⟨b1, o1 + b * 2, none⟩, c - b, (E.drop b).take (i + 1 - b), 1⟩ _ rfl (by (show _ = some (Value.slice (some ⟨b1, o1 + b * 2, none⟩) ((E.drop b).take (i + 1 - b)).length (c - b)); rw [HSL.out]; exact (elem_at _ _ _ _ (by simp)).1)) (elem_at _ _ _ _ (by simp)).2 (by omega) ?_; intro v9 w9 hm9 _) | fail)
        exact ⟨⟨i + 1, i + 1, _, by omega, Nat.le_refl _, by go_num, by go_num, hm9, HN, HGN, by simp; omega⟩, by simp [intOf]; omega⟩
      · have hlt2 : i + 1 < E.length := by omega
        obtain ⟨k, hk⟩ : ∃ k, i + 1 = k := ⟨_, rfl⟩
        obtain ⟨r0, r1⟩ := hc1 (i + 1) hlt2
        have hm2 := List.getElem_mem hlt2
        have hr2 := (HG.out.at_.2 _ hm2).1.later hBB
        have HSM := hid0 (fun (hk0 : keyA gs E[i].r E[i + 1].r = 0) => (show ∃ D, RunI gs (E.map pr) k b D ∧ G.map Gx.grp = D.map (fun g => (g, (1 : Int))) by
          obtain ⟨D, h1, h2⟩ := hD.out
          rw [← hk]
          exact ⟨D, h1.same (by simpa using hlt2) (by simpa [pr] using hk0), h2⟩))
        have HNX := hid0 (fun (hk0 : keyA gs E[i].r E[i + 1].r ≠ 0) => (show ∃ D, RunI gs (E.map pr) k k D ∧ (G ++ [⟨some ⟨b1, o1 + b * 2, none⟩, c - b, (E.drop b).take (i + 1 - b), 1⟩] : List Gx).map Gx.grp = D.map (fun g => (g, (1 : Int))) by
          obtain ⟨D, h1, h2⟩ := hD.out
          rw [← hk]
          exact ⟨_, h1.next (by simpa using hlt2) (by simpa [pr] using hk0), by rw [List.map_append, h2, List.map_append, List.map_singleton, HGM.out]; rfl⟩))
        have hC := CC1.out.out _ hm1 _ hm2
        generalize E[i] = e1 at q0 q1 hm1 hr1 HSM HNX hC
        generalize E[i + 1] = e2 at r0 r1 hm2 hr2 HSM HNX hC
        have CCx := hid0 hC
        generalize keyA gs e1.r e2.r = x at HSM HNX CCx
        rw [hk] at r0 r1
        have HSLK := hid0 (show ((E.drop b).take (i + 1 - b)).length = k - b by rw [HSL.out, hk])
        have hwk : IntKind.i64.wrap ((i : Int) + 1) = (k : Int) := by rw [hw]; omega
        have hle : ((k : Int) == (E.length : Int)) = false := by simp; omega
        have hink : (k : Int) < (E.length : Int) := by omega
        have hbk : (b : Int) ≤ (k : Int) := by omega
        have hkc : (k : Int) ≤ (c : Int) := by omega
        have hkE : k ≤ E.length := by omega
        have hbk' : b ≤ k := by omega
        have hGk : G.length + 1 ≤ k := by omega
        have hik : i < k := by omega
        have HK := hid0 hk
        clear hc1 hl hC hm1 hm2 hk hw hlt2 hi2 hi3
        have hS : SBel wr wr.drew := ⟨Below.drew (Below.refl _ _)⟩
        by_cases hx : x = 0
        · have hxb : (x == 0) = true := by simpa using hx
          have HSM := hid0 (HSM.out hx)
          clear hx
          go_wp2_with fail
          refine wp_region_held_drew (S := SBel wr) (by kernel_rfl) hS (fun hHeld => ?_)
          refine wpAnyH_take (i := 0) (v := ?_) rfl (by kernel_rfl) (by kernel_rfl) (by kernel_rfl) (fun _ _ _ h => h) (Or.inl ⟨by rfl, ?_⟩) (by assumption) ?_
          rotate_left
          · (intro wx hSw; have z0 := cell_later hSw.b q0; have z1 := cell_later hSw.b q1; have y0 := cell_later hSw.b r0; have y1 := cell_later hSw.b r1; go_simp; (try with_reducible rfl); (try omega))
          (try simp only [Act.put, List.setIfInBounds_toArray, List.set_cons_zero, List.set_cons_succ, List.getElem_toArray, List.getElem_cons_zero])
          refine wpAnyH_take (i := 1) (v := ?_) rfl (by kernel_rfl) (by kernel_rfl) (by kernel_rfl) (fun _ _ _ h => h) (Or.inl ⟨by rfl, ?_⟩) (by assumption) ?_
          rotate_left
          · (intro wx hSw; have z0 := cell_later hSw.b q0; have z1 := cell_later hSw.b q1; have y0 := cell_later hSw.b r0; have y1 := cell_later hSw.b r1; go_simp; (try with_reducible rfl); (try omega))
          (try simp only [Act.put, List.setIfInBounds_toArray, List.set_cons_zero, List.set_cons_succ, List.getElem_toArray, List.getElem_cons_zero, List.getElem_cons_succ])
          refine wpAnyH_take (i := 2) (v := ?_) rfl (by kernel_rfl) (by kernel_rfl) (by kernel_rfl) (fun _ _ _ h => h) (Or.inl ⟨by rfl, ?_⟩) (by assumption) ?_
          rotate_left
          · (intro wx hSw; have z0 := cell_later hSw.b q0; have z1 := cell_later hSw.b q1; have y0 := cell_later hSw.b r0; have y1 := cell_later hSw.b r1; go_simp; (try with_reducible rfl); (try omega))
          (try simp only [Act.put, List.setIfInBounds_toArray, List.set_cons_zero, List.set_cons_succ, List.getElem_toArray, List.getElem_cons_zero, List.getElem_cons_succ])
          refine wpAnyH_take (i := 3) (v := ?_) rfl (by kernel_rfl) (by kernel_rfl) (by kernel_rfl) (fun _ _ _ h => h) (Or.inl ⟨by rfl, ?_⟩) (by assumption) ?_
          rotate_left
          · (intro wx hSw; have z0 := cell_later hSw.b q0; have z1 := cell_later hSw.b q1; have y0 := cell_later hSw.b r0; have y1 := cell_later hSw.b r1; go_simp; (try with_reducible rfl); (try omega))
          (try simp only [Act.put, List.setIfInBounds_toArray, List.set_cons_zero, List.set_cons_succ, List.getElem_toArray, List.getElem_cons_zero, List.getElem_cons_succ])
          refine wpAnyH_take (i := 4) (v := ?_) rfl (by kernel_rfl) (by kernel_rfl) (by kernel_rfl) (fun _ _ _ h => h) (Or.inl ⟨by rfl, ?_⟩) (by assumption) ?_
          rotate_left
          · (intro wx hSw; have z0 := cell_later hSw.b q0; have z1 := cell_later hSw.b q1; have y0 := cell_later hSw.b r0; have y1 := cell_later hSw.b r1; go_simp; (try with_reducible rfl); (try omega))
          (try simp only [Act.put, List.setIfInBounds_toArray, List.set_cons_zero, List.set_cons_succ, List.getElem_toArray, List.getElem_cons_zero, List.getElem_cons_succ])
          refine wpAnyH_take (i := 5) (v := ?_) rfl (by kernel_rfl) (by kernel_rfl) (by kernel_rfl) (fun _ _ _ h => h) (Or.inl ⟨by rfl, ?_⟩) (by assumption) ?_
          rotate_left
          · (intro wx hSw; have z0 := cell_later hSw.b q0; have z1 := cell_later hSw.b q1; have y0 := cell_later hSw.b r0; have y1 := cell_later hSw.b r1; go_simp; (try with_reducible rfl); (try omega))
          (try simp only [Act.put, List.setIfInBounds_toArray, List.set_cons_zero, List.set_cons_succ, List.getElem_toArray, List.getElem_cons_zero, List.getElem_cons_succ])
          refine wpAnyH_take (i := 6) (v := ?_) rfl (by kernel_rfl) (by kernel_rfl) (by kernel_rfl) (fun _ _ _ h => h) (Or.inl ⟨by rfl, ?_⟩) (by assumption) ?_
          rotate_left
          · (intro wx hSw; have z0 := cell_later hSw.b q0; have z1 := cell_later hSw.b q1; have y0 := cell_later hSw.b r0; have y1 := cell_later hSw.b r1; go_simp; (try with_reducible rfl); (try omega))
          (try simp only [Act.put, List.setIfInBounds_toArray, List.set_cons_zero, List.set_cons_succ, List.getElem_toArray, List.getElem_cons_zero, List.getElem_cons_succ])
          refine wpAnyH_take (i := 7) (v := ?_) rfl (by kernel_rfl) (by kernel_rfl) (by kernel_rfl) (fun _ _ _ h => h) (Or.inl ⟨by rfl, ?_⟩) (by assumption) ?_
          rotate_left
          · (intro wx hSw; have z0 := cell_later hSw.b q0; have z1 := cell_later hSw.b q1; have y0 := cell_later hSw.b r0; have y1 := cell_later hSw.b r1; go_simp; (try with_reducible rfl); (try omega))
          (try simp only [Act.put, List.setIfInBounds_toArray, List.set_cons_zero, List.set_cons_succ, List.getElem_toArray, List.getElem_cons_zero, List.getElem_cons_succ])
          refine wpAnyH_take (i := 8) (v := ?_) rfl (by kernel_rfl) (by kernel_rfl) (by kernel_rfl) (fun _ _ _ h => h) (Or.inl ⟨by rfl, ?_⟩) (by assumption) ?_
          rotate_left
          · (intro wx hSw; have z0 := cell_later hSw.b q0; have z1 := cell_later hSw.b q1; have y0 := cell_later hSw.b r0; have y1 := cell_later hSw.b r1; go_simp; (try with_reducible rfl); (try omega))
          (try simp only [Act.put, List.setIfInBounds_toArray, List.set_cons_zero, List.set_cons_succ, List.getElem_toArray, List.getElem_cons_zero, List.getElem_cons_succ])
          refine wpAnyH_take (i := 9) (v := ?_) rfl (by kernel_rfl) (by kernel_rfl) (by kernel_rfl) (fun _ _ _ h => h) (Or.inl ⟨by rfl, ?_⟩) (by assumption) ?_
          rotate_left
          · (intro wx hSw; have z0 := cell_later hSw.b q0; have z1 := cell_later hSw.b q1; have y0 := cell_later hSw.b r0; have y1 := cell_later hSw.b r1; go_simp; (try with_reducible rfl); (try omega))
          (try simp only [Act.put, List.setIfInBounds_toArray, List.set_cons_zero, List.set_cons_succ, List.getElem_toArray, List.getElem_cons_zero, List.getElem_cons_succ])
          refine wpAnyH_take (i := 10) (v := ?_) rfl (by kernel_rfl) (by kernel_rfl) (by kernel_rfl) (fun _ _ _ h => h) (Or.inl ⟨by rfl, ?_⟩) (by assumption) ?_
          rotate_left
          · (intro wx hSw; have z0 := cell_later hSw.b q0; have z1 := cell_later hSw.b q1; have y0 := cell_later hSw.b r0; have y1 := cell_later hSw.b r1; go_simp; (try with_reducible rfl); (try omega))
          (try simp only [Act.put, List.setIfInBounds_toArray, List.set_cons_zero, List.set_cons_succ, List.getElem_toArray, List.getElem_cons_zero, List.getElem_cons_succ])
          refine wpAnyH_take (i := 11) (v := ?_) rfl (by kernel_rfl) (by kernel_rfl) (by kernel_rfl) (fun _ _ _ h => h) (Or.inl ⟨by rfl, ?_⟩) (by assumption) ?_
          rotate_left
          · (intro wx hSw; have z0 := cell_later hSw.b q0; have z1 := cell_later hSw.b q1; have y0 := cell_later hSw.b r0; have y1 := cell_later hSw.b r1; go_simp; (try with_reducible rfl); (try omega))
          (try simp only [Act.put, List.setIfInBounds_toArray, List.set_cons_zero, List.set_cons_succ, List.getElem_toArray, List.getElem_cons_zero, List.getElem_cons_succ])
          refine wpAnyH_take (i := 12) (v := ?_) rfl (by kernel_rfl) (by kernel_rfl) (by kernel_rfl) (fun _ _ _ h => h) (Or.inl ⟨by rfl, ?_⟩) (by assumption) ?_
          rotate_left
          · (intro wx hSw; have z0 := cell_later hSw.b q0; have z1 := cell_later hSw.b q1; have y0 := cell_later hSw.b r0; have y1 := cell_later hSw.b r1; go_simp; (try with_reducible rfl); (try omega))
          (try simp only [Act.put, List.setIfInBounds_toArray, List.set_cons_zero, List.set_cons_succ, List.getElem_toArray, List.getElem_cons_zero, List.getElem_cons_succ])
          refine wpAnyH_take (i := 13) (v := ?_) rfl (by kernel_rfl) (by kernel_rfl) (by kernel_rfl) (fun _ _ _ h => h) (Or.inl ⟨by rfl, ?_⟩) (by assumption) ?_
          rotate_left
          · (intro wx hSw; have z0 := cell_later hSw.b q0; have z1 := cell_later hSw.b q1; have y0 := cell_later hSw.b r0; have y1 := cell_later hSw.b r1; go_simp; (try with_reducible rfl); (try omega))
          (try simp only [Act.put, List.setIfInBounds_toArray, List.set_cons_zero, List.set_cons_succ, List.getElem_toArray, List.getElem_cons_zero, List.getElem_cons_succ])
          refine wpAnyH_take (i := 14) (v := ?_) rfl (by kernel_rfl) (by kernel_rfl) (by kernel_rfl) (fun _ _ _ h => h) (Or.inl ⟨by rfl, ?_⟩) (by assumption) ?_
          rotate_left
          · (intro wx hSw; have z0 := cell_later hSw.b q0; have z1 := cell_later hSw.b q1; have y0 := cell_later hSw.b r0; have y1 := cell_later hSw.b r1; go_simp; (try with_reducible rfl); (try omega))
          (try simp only [Act.put, List.setIfInBounds_toArray, List.set_cons_zero, List.set_cons_succ, List.getElem_toArray, List.getElem_cons_zero, List.getElem_cons_succ])
          refine wpAnyH_take (i := 15) (v := ?_) rfl (by kernel_rfl) (by kernel_rfl) (by kernel_rfl) (fun _ _ _ h => h) (Or.inl ⟨by rfl, ?_⟩) (by assumption) ?_
          rotate_left
          · (intro wx hSw; have z0 := cell_later hSw.b q0; have z1 := cell_later hSw.b q1; have y0 := cell_later hSw.b r0; have y1 := cell_later hSw.b r1; go_simp; (try with_reducible rfl); (try omega))
          (try simp only [Act.put, List.setIfInBounds_toArray, List.set_cons_zero, List.set_cons_succ, List.getElem_toArray, List.getElem_cons_zero, List.getElem_cons_succ])
          refine wpAnyH_ready (rs := [16]) (by kernel_rfl) (by simp) ?_
          refine AllReadyH.cons rfl (fun K hK => ?_) AllReadyH.nil
          go_simp
          refine (CCx.out _ (below_through hS.b hBw.size hBw) (hr1.later hS.b) (hr2.later hS.b)).mono ?_
          rintro e w5 ⟨rfl, hb5⟩
          have hS := hS.below hb5
          refine hK.out _ _ hS (fun hHeld => ?_)
          clear hK K
          (try simp only [Act.put, List.setIfInBounds_toArray, List.set_cons_zero, List.set_cons_succ, List.getElem_toArray, List.getElem_cons_zero, List.getElem_cons_succ])
          refine wpAnyH_take (i := 17) (v := ?_) rfl (by kernel_rfl) (by kernel_rfl) (by kernel_rfl) (fun _ _ _ h => h) (Or.inl ⟨by rfl, ?_⟩) (by assumption) ?_
          rotate_left
          · (intro wx hSw; have z0 := cell_later hSw.b q0; have z1 := cell_later hSw.b q1; have y0 := cell_later hSw.b r0; have y1 := cell_later hSw.b r1; go_simp; (try with_reducible rfl); (try omega))
          (try simp only [Act.put, List.setIfInBounds_toArray, List.set_cons_zero, List.set_cons_succ, List.getElem_toArray, List.getElem_cons_zero, List.getElem_cons_succ])
          refine wpAnyH_take (i := 18) (v := ?_) rfl (by kernel_rfl) (by kernel_rfl) (by kernel_rfl) (fun _ _ _ h => h) (Or.inl ⟨by rfl, ?_⟩) (by assumption) ?_
          rotate_left
          · (intro wx hSw; have z0 := cell_later hSw.b q0; have z1 := cell_later hSw.b q1; have y0 := cell_later hSw.b r0; have y1 := cell_later hSw.b r1; go_simp; (try with_reducible rfl); (try omega))
          (try simp only [Act.put, List.setIfInBounds_toArray, List.set_cons_zero, List.set_cons_succ, List.getElem_toArray, List.getElem_cons_zero, List.getElem_cons_succ])
          refine wpAnyH_done (by kernel_rfl) ?_ _
          have hM2 := hM.below hS.b
          clear hS hHeld hM
          go_wp2_with fail
          exact ⟨⟨k, b, G, by omega, by omega, by go_num, rfl, hM2, HSM, hGs, by omega⟩, by simp [intOf]; omega⟩
        · have hxb : (x == 0) = false := by simpa using hx
          have HNX := hid0 (HNX.out hx)
          clear hx
          go_wp2_with fail
          refine wp_region_held_drew (S := SBel wr) (by kernel_rfl) hS (fun hHeld => ?_)
          refine wpAnyH_take (i := 0) (v := ?_) rfl (by kernel_rfl) (by kernel_rfl) (by kernel_rfl) (fun _ _ _ h => h) (Or.inl ⟨by rfl, ?_⟩) (by assumption) ?_
          rotate_left
          · (intro wx hSw; have z0 := cell_later hSw.b q0; have z1 := cell_later hSw.b q1; have y0 := cell_later hSw.b r0; have y1 := cell_later hSw.b r1; go_simp; (try with_reducible rfl); (try omega))
          (try simp only [Act.put, List.setIfInBounds_toArray, List.set_cons_zero, List.set_cons_succ, List.getElem_toArray, List.getElem_cons_zero])
          refine wpAnyH_take (i := 1) (v := ?_) rfl (by kernel_rfl) (by kernel_rfl) (by kernel_rfl) (fun _ _ _ h => h) (Or.inl ⟨by rfl, ?_⟩) (by assumption) ?_
          rotate_left
          · (intro wx hSw; have z0 := cell_later hSw.b q0; have z1 := cell_later hSw.b q1; have y0 := cell_later hSw.b r0; have y1 := cell_later hSw.b r1; go_simp; (try with_reducible rfl); (try omega))
          (try simp only [Act.put, List.setIfInBounds_toArray, List.set_cons_zero, List.set_cons_succ, List.getElem_toArray, List.getElem_cons_zero, List.getElem_cons_succ])
          refine wpAnyH_take (i := 2) (v := ?_) rfl (by kernel_rfl) (by kernel_rfl) (by kernel_rfl) (fun _ _ _ h => h) (Or.inl ⟨by rfl, ?_⟩) (by assumption) ?_
          rotate_left
          · (intro wx hSw; have z0 := cell_later hSw.b q0; have z1 := cell_later hSw.b q1; have y0 := cell_later hSw.b r0; have y1 := cell_later hSw.b r1; go_simp; (try with_reducible rfl); (try omega))
          (try simp only [Act.put, List.setIfInBounds_toArray, List.set_cons_zero, List.set_cons_succ, List.getElem_toArray, List.getElem_cons_zero, List.getElem_cons_succ])
          refine wpAnyH_take (i := 3) (v := ?_) rfl (by kernel_rfl) (by kernel_rfl) (by kernel_rfl) (fun _ _ _ h => h) (Or.inl ⟨by rfl, ?_⟩) (by assumption) ?_
          rotate_left
          · (intro wx hSw; have z0 := cell_later hSw.b q0; have z1 := cell_later hSw.b q1; have y0 := cell_later hSw.b r0; have y1 := cell_later hSw.b r1; go_simp; (try with_reducible rfl); (try omega))
          (try simp only [Act.put, List.setIfInBounds_toArray, List.set_cons_zero, List.set_cons_succ, List.getElem_toArray, List.getElem_cons_zero, List.getElem_cons_succ])
          refine wpAnyH_take (i := 4) (v := ?_) rfl (by kernel_rfl) (by kernel_rfl) (by kernel_rfl) (fun _ _ _ h => h) (Or.inl ⟨by rfl, ?_⟩) (by assumption) ?_
          rotate_left
          · (intro wx hSw; have z0 := cell_later hSw.b q0; have z1 := cell_later hSw.b q1; have y0 := cell_later hSw.b r0; have y1 := cell_later hSw.b r1; go_simp; (try with_reducible rfl); (try omega))
          (try simp only [Act.put, List.setIfInBounds_toArray, List.set_cons_zero, List.set_cons_succ, List.getElem_toArray, List.getElem_cons_zero, List.getElem_cons_succ])
          refine wpAnyH_take (i := 5) (v := ?_) rfl (by kernel_rfl) (by kernel_rfl) (by kernel_rfl) (fun _ _ _ h => h) (Or.inl ⟨by rfl, ?_⟩) (by assumption) ?_
          rotate_left
          · (intro wx hSw; have z0 := cell_later hSw.b q0; have z1 := cell_later hSw.b q1; have y0 := cell_later hSw.b r0; have y1 := cell_later hSw.b r1; go_simp; (try with_reducible rfl); (try omega))
          (try simp only [Act.put, List.setIfInBounds_toArray, List.set_cons_zero, List.set_cons_succ, List.getElem_toArray, List.getElem_cons_zero, List.getElem_cons_succ])
          refine wpAnyH_take (i := 6) (v := ?_) rfl (by kernel_rfl) (by kernel_rfl) (by kernel_rfl) (fun _ _ _ h => h) (Or.inl ⟨by rfl, ?_⟩) (by assumption) ?_
          rotate_left
          · (intro wx hSw; have z0 := cell_later hSw.b q0; have z1 := cell_later hSw.b q1; have y0 := cell_later hSw.b r0; have y1 := cell_later hSw.b r1; go_simp; (try with_reducible rfl); (try omega))
          (try simp only [Act.put, List.setIfInBounds_toArray, List.set_cons_zero, List.set_cons_succ, List.getElem_toArray, List.getElem_cons_zero, List.getElem_cons_succ])
          refine wpAnyH_take (i := 7) (v := ?_) rfl (by kernel_rfl) (by kernel_rfl) (by kernel_rfl) (fun _ _ _ h => h) (Or.inl ⟨by rfl, ?_⟩) (by assumption) ?_
          rotate_left
          · (intro wx hSw; have z0 := cell_later hSw.b q0; have z1 := cell_later hSw.b q1; have y0 := cell_later hSw.b r0; have y1 := cell_later hSw.b r1; go_simp; (try with_reducible rfl); (try omega))
          (try simp only [Act.put, List.setIfInBounds_toArray, List.set_cons_zero, List.set_cons_succ, List.getElem_toArray, List.getElem_cons_zero, List.getElem_cons_succ])
          refine wpAnyH_take (i := 8) (v := ?_) rfl (by kernel_rfl) (by kernel_rfl) (by kernel_rfl) (fun _ _ _ h => h) (Or.inl ⟨by rfl, ?_⟩) (by assumption) ?_
          rotate_left
          · (intro wx hSw; have z0 := cell_later hSw.b q0; have z1 := cell_later hSw.b q1; have y0 := cell_later hSw.b r0; have y1 := cell_later hSw.b r1; go_simp; (try with_reducible rfl); (try omega))
          (try simp only [Act.put, List.setIfInBounds_toArray, List.set_cons_zero, List.set_cons_succ, List.getElem_toArray, List.getElem_cons_zero, List.getElem_cons_succ])
          refine wpAnyH_take (i := 9) (v := ?_) rfl (by kernel_rfl) (by kernel_rfl) (by kernel_rfl) (fun _ _ _ h => h) (Or.inl ⟨by rfl, ?_⟩) (by assumption) ?_
          rotate_left
          · (intro wx hSw; have z0 := cell_later hSw.b q0; have z1 := cell_later hSw.b q1; have y0 := cell_later hSw.b r0; have y1 := cell_later hSw.b r1; go_simp; (try with_reducible rfl); (try omega))
          (try simp only [Act.put, List.setIfInBounds_toArray, List.set_cons_zero, List.set_cons_succ, List.getElem_toArray, List.getElem_cons_zero, List.getElem_cons_succ])
          refine wpAnyH_take (i := 10) (v := ?_) rfl (by kernel_rfl) (by kernel_rfl) (by kernel_rfl) (fun _ _ _ h => h) (Or.inl ⟨by rfl, ?_⟩) (by assumption) ?_
          rotate_left
          · (intro wx hSw; have z0 := cell_later hSw.b q0; have z1 := cell_later hSw.b q1; have y0 := cell_later hSw.b r0; have y1 := cell_later hSw.b r1; go_simp; (try with_reducible rfl); (try omega))
          (try simp only [Act.put, List.setIfInBounds_toArray, List.set_cons_zero, List.set_cons_succ, List.getElem_toArray, List.getElem_cons_zero, List.getElem_cons_succ])
          refine wpAnyH_take (i := 11) (v := ?_) rfl (by kernel_rfl) (by kernel_rfl) (by kernel_rfl) (fun _ _ _ h => h) (Or.inl ⟨by rfl, ?_⟩) (by assumption) ?_
          rotate_left
          · (intro wx hSw; have z0 := cell_later hSw.b q0; have z1 := cell_later hSw.b q1; have y0 := cell_later hSw.b r0; have y1 := cell_later hSw.b r1; go_simp; (try with_reducible rfl); (try omega))
          (try simp only [Act.put, List.setIfInBounds_toArray, List.set_cons_zero, List.set_cons_succ, List.getElem_toArray, List.getElem_cons_zero, List.getElem_cons_succ])
          refine wpAnyH_take (i := 12) (v := ?_) rfl (by kernel_rfl) (by kernel_rfl) (by kernel_rfl) (fun _ _ _ h => h) (Or.inl ⟨by rfl, ?_⟩) (by assumption) ?_
          rotate_left
          · (intro wx hSw; have z0 := cell_later hSw.b q0; have z1 := cell_later hSw.b q1; have y0 := cell_later hSw.b r0; have y1 := cell_later hSw.b r1; go_simp; (try with_reducible rfl); (try omega))
          (try simp only [Act.put, List.setIfInBounds_toArray, List.set_cons_zero, List.set_cons_succ, List.getElem_toArray, List.getElem_cons_zero, List.getElem_cons_succ])
          refine wpAnyH_take (i := 13) (v := ?_) rfl (by kernel_rfl) (by kernel_rfl) (by kernel_rfl) (fun _ _ _ h => h) (Or.inl ⟨by rfl, ?_⟩) (by assumption) ?_
          rotate_left
          · (intro wx hSw; have z0 := cell_later hSw.b q0; have z1 := cell_later hSw.b q1; have y0 := cell_later hSw.b r0; have y1 := cell_later hSw.b r1; go_simp; (try with_reducible rfl); (try omega))
          (try simp only [Act.put, List.setIfInBounds_toArray, List.set_cons_zero, List.set_cons_succ, List.getElem_toArray, List.getElem_cons_zero, List.getElem_cons_succ])
          refine wpAnyH_take (i := 14) (v := ?_) rfl (by kernel_rfl) (by kernel_rfl) (by kernel_rfl) (fun _ _ _ h => h) (Or.inl ⟨by rfl, ?_⟩) (by assumption) ?_
          rotate_left
          · (intro wx hSw; have z0 := cell_later hSw.b q0; have z1 := cell_later hSw.b q1; have y0 := cell_later hSw.b r0; have y1 := cell_later hSw.b r1; go_simp; (try with_reducible rfl); (try omega))
          (try simp only [Act.put, List.setIfInBounds_toArray, List.set_cons_zero, List.set_cons_succ, List.getElem_toArray, List.getElem_cons_zero, List.getElem_cons_succ])
          refine wpAnyH_take (i := 15) (v := ?_) rfl (by kernel_rfl) (by kernel_rfl) (by kernel_rfl) (fun _ _ _ h => h) (Or.inl ⟨by rfl, ?_⟩) (by assumption) ?_
          rotate_left
          · (intro wx hSw; have z0 := cell_later hSw.b q0; have z1 := cell_later hSw.b q1; have y0 := cell_later hSw.b r0; have y1 := cell_later hSw.b r1; go_simp; (try with_reducible rfl); (try omega))
          (try simp only [Act.put, List.setIfInBounds_toArray, List.set_cons_zero, List.set_cons_succ, List.getElem_toArray, List.getElem_cons_zero, List.getElem_cons_succ])
          refine wpAnyH_ready (rs := [16]) (by kernel_rfl) (by simp) ?_
          refine AllReadyH.cons rfl (fun K hK => ?_) AllReadyH.nil
          go_simp
          refine (CCx.out _ (below_through hS.b hBw.size hBw) (hr1.later hS.b) (hr2.later hS.b)).mono ?_
          rintro e w5 ⟨rfl, hb5⟩
          have hS := hS.below hb5
          refine hK.out _ _ hS (fun hHeld => ?_)
          clear hK K
          (try simp only [Act.put, List.setIfInBounds_toArray, List.set_cons_zero, List.set_cons_succ, List.getElem_toArray, List.getElem_cons_zero, List.getElem_cons_succ])
          refine wpAnyH_take (i := 17) (v := ?_) rfl (by kernel_rfl) (by kernel_rfl) (by kernel_rfl) (fun _ _ _ h => h) (Or.inl ⟨by rfl, ?_⟩) (by assumption) ?_
          rotate_left
          · (intro wx hSw; have z0 := cell_later hSw.b q0; have z1 := cell_later hSw.b q1; have y0 := cell_later hSw.b r0; have y1 := cell_later hSw.b r1; go_simp; (try with_reducible rfl); (try omega))
          (try simp only [Act.put, List.setIfInBounds_toArray, List.set_cons_zero, List.set_cons_succ, List.getElem_toArray, List.getElem_cons_zero, List.getElem_cons_succ])
          refine wpAnyH_take (i := 18) (v := ?_) rfl (by kernel_rfl) (by kernel_rfl) (by kernel_rfl) (fun _ _ _ h => h) (Or.inl ⟨by rfl, ?_⟩) (by assumption) ?_
          rotate_left
          · (intro wx hSw; have z0 := cell_later hSw.b q0; have z1 := cell_later hSw.b q1; have y0 := cell_later hSw.b r0; have y1 := cell_later hSw.b r1; go_simp; (try with_reducible rfl); (try omega))
          (try simp only [Act.put, List.setIfInBounds_toArray, List.set_cons_zero, List.set_cons_succ, List.getElem_toArray, List.getElem_cons_zero, List.getElem_cons_succ])
          refine wpAnyH_done (by kernel_rfl) ?_ _
          clear hHeld
          go_wp2_with (first | (at_builtin; refine wp_g rfl _ _ rfl rfl ((hM.below hS.b).alloc _) ⟨some ⟨b1, o1 + b * 2, none⟩, c - b, (E.drop b).take (i + 1 - b), 1⟩ _ rfl (by (show _ = some (Value.slice (some ⟨b1, o1 + b * 2, none⟩) ((E.drop b).take (i + 1 - b)).length (c - b)); rw [HSLK.out]; exact (elem_at _ _ _ _ (by simp)).1)) (elem_at _ _ _ _ (by simp)).2 (by omega) ?_; intro v9 w9 hm9 _) | fail)
          exact ⟨⟨k, k, _, by omega, Nat.le_refl _, by go_num, by go_num, hm9, HNX, HGN, by simp; omega⟩, by simp [intOf]; omega⟩
    · have hie : ¬ (i : Int) < E.length := by omega
      obtain rfl : i = E.length := by omega
      obtain ⟨a', c', rfl, hat⟩ := hM.at_ (fun g hg => (hGs.out g hg).later hBB)
      have HAT := hid0 hat
      clear hat hM
      go_wp2
      go_ret
      exact ⟨⟨a', c', G, rfl, HAT.out, by obtain ⟨D, h1, h2⟩ := hD.out; rw [h1.fin (by simp), h2]⟩, hBB⟩
end Go.Proofs.YtjmoegcfgadjiaaGreat

/- The example of stage 12 as it lies in memory. Conditions: its blocks' cells. -/
namespace Go.Proofs.YtjmoegcfgadjiaaGreat
open Go.RowKit

theorem rowC1 {W : World} {B m : Nat} {us : List Value} (_ : us.length = m) (V : VarB W B us) : RowC W m (some ⟨B, 0, none⟩) [us] := ⟨fun i hi => ⟨B, 0, rfl, V.lt, by
  obtain rfl : i = 0 := by simp at hi; exact hi
  rw [Nat.zero_mul, Nat.zero_add]; exact V.at_⟩⟩
theorem rowC2 {W : World} {X m : Nat} {a b : List Value} (ha : a.length = m) (hX : VarB W X (a ++ b)) : RowC W m (some ⟨X, 0, none⟩) [a, b] := by
  refine ⟨fun i hi => ⟨X, 0, rfl, hX.lt, ?_⟩⟩
  match i, hi with
  | 0, _ =>
    intro j v hv
    have hv : a[j]? = some v := hv
    have := hX.at_ j v (by rw [List.getElem?_append_left (List.getElem?_eq_some_iff.1 hv).1]; exact hv)
    simpa using this
  | 1, _ =>
    intro j v hv
    have hv : b[j]? = some v := hv
    have h := hX.at_ (m + j) v (by rw [List.getElem?_append_right (by omega), show m + j - a.length = j by omega]; exact hv)
    rw [show 0 + 1 * m + j = 0 + (m + j) by omega]; exact h
  | i + 2, hi => exact absurd hi (by simp)
def row2C (a b : Int) : List Value := [.int .i64 1, .int .i64 a, .string ⟨#[]⟩, .int .i64 1, .int .i64 b, .string ⟨#[]⟩]
theorem row2_at {W : World} {Y : Nat} {a b : Int} (h : VarB W Y (row2C a b)) : RowAt W (some ⟨Y, 0, none⟩) [vI a, vI b] := fun _ => ⟨Y, 0, rfl, fun i hi => by
  match i, hi with
  | 0, _ => exact ⟨h.cell 0 rfl, h.cell 1 rfl, h.cell 2 rfl⟩
  | 1, _ => exact ⟨h.cell 3 rfl, h.cell 4 rfl, h.cell 5 rfl⟩
  | i + 2, hi => exact absurd hi (by simp)⟩
theorem inI_vI {n : Int} (h1 : -1000 ≤ n) (h2 : n ≤ 1000) : inI (vI n) := ⟨by show -9223372036854775808 ≤ n; omega, by show n ≤ 9223372036854775807; omega, (Nat.zero_le _ : 0 ≤ maxLen)⟩
theorem rowNone12 (W : World) (m : Nat) (p : Option Addr) : RowC W m p [] := ⟨fun i hi => absurd hi (by simp)⟩
theorem cx_leaf12 {W : World} {k a : Int} (n : Nat) (hk : 0 ≤ k ∧ k ≤ 9) (ha : 0 ≤ a ∧ a ≤ 9) : CxAt W (n + 1) (.mk k a zV none 0 []) :=
  ⟨⟨inI_zV, by omega, by omega, by omega, by omega, Nat.le_refl _, by simp, rowNone12 _ _ _⟩, fun x hx => absurd hx (by simp)⟩
def outC (g n : Int) : List Value := [.int .i64 g, .int .i64 1, .int .i64 n, .int .i64 0, .int .i64 0, .string ⟨#[]⟩, .slice none 0 0, .string ⟨#[]⟩, .int .i64 0]
/-- The example's blocks. -/
structure ExAt (W : World) (r1 r2 m lb f q g o pb : Nat) : Prop where
  R1 : VarB W r1 (row2C 1 5)
  R2 : VarB W r2 (row2C 2 7)
  M : VarB W m [.slice (some ⟨r1, 0, none⟩) 2 2, .int .i64 2, .slice (some ⟨r2, 0, none⟩) 2 2, .int .i64 1]
  L : VarB W lb [.string ⟨#[116]⟩, .slice (some ⟨m, 0, none⟩) 2 2]
  F : VarB W f [.string ⟨#[116]⟩]
  Q : VarB W q [.int .i64 2]
  G : VarB W g [.int .i64 0]
  O : VarB W o (outC 0 0 ++ outC 3 1)
  P : VarB W pb (exP f q g o).cells
theorem two_of {E : List Elem} {x y : Pair} (h : E.map pr = [x, y]) : ∃ e1 e2, E = [e1, e2] ∧ pr e1 = x ∧ pr e2 = y :=
  match E, h with
  | [], h => by simp at h
  | [_], h => by simp at h
  | [e1, e2], h => by simp at h; exact ⟨e1, e2, rfl, h.1, h.2⟩
  | _ :: _ :: _ :: _, h => by simp at h
theorem ints1 {W : World} {B : Nat} {x : Int} (V : VarB W B [.int .i64 x]) : IntsAt W (some ⟨B, 0, none⟩) [x] := fun _ => ⟨B, 0, rfl, fun i hi => by
  obtain rfl : i = 0 := by simp at hi; exact hi
  exact V.cell 0 rfl⟩
theorem ExAt.names {W : World} {r1 r2 m lb f q g o pb : Nat} (h : ExAt W r1 r2 m lb f q g o pb) : NsOk W (some ⟨lb, 0, none⟩) [exN r1 r2 m] := by
  refine ⟨rowC1 rfl h.L, fun x hx => ?_, by simp⟩
  obtain rfl := List.mem_singleton.1 hx
  refine ⟨⟨⟨fun _ => ⟨m, 0, rfl, fun i hi => ?_⟩, fun e he => ?_⟩, fun e he => ?_, by simp [exN, exE], by simp [exN, exE]⟩, by show (1 : Nat) ≤ maxLen; unfold maxLen; omega⟩
  · match i, hi with
    | 0, _ => exact ⟨h.M.cell 0 rfl, h.M.cell 1 rfl⟩
    | 1, _ => exact ⟨h.M.cell 2 rfl, h.M.cell 3 rfl⟩
    | i + 2, hi => exact absurd hi (by simp [exN, exE])
  · simp [exN, exE] at he
    rcases he with rfl | rfl
    · exact ⟨row2_at h.R1, by show 2 * 32 ≤ _; omega⟩
    · exact ⟨row2_at h.R2, by show 2 * 32 ≤ _; omega⟩
  · simp [exN, exE] at he
    rcases he with rfl | rfl
    · refine ⟨fun x hx => ?_, by unfold in64; dsimp only; omega, Nat.le_refl _⟩
      simp at hx
      rcases hx with rfl | rfl
      · exact inI_vI (by omega) (by omega)
      · exact inI_vI (by omega) (by omega)
    · refine ⟨fun x hx => ?_, by unfold in64; dsimp only; omega, Nat.le_refl _⟩
      simp at hx
      rcases hx with rfl | rfl
      · exact inI_vI (by omega) (by omega)
      · exact inI_vI (by omega) (by omega)
theorem ExAt.plan {W : World} {r1 r2 m lb f q g o pb : Nat} (h : ExAt W r1 r2 m lb f q g o pb) : PsOk W 3 (some ⟨pb, 0, none⟩) 1 [exP f q g o] := by
  refine ⟨rowC1 (Px.cells_len _) h.P, fun x hx => ?_, by simp, by simp⟩
  obtain rfl := List.mem_singleton.1 hx
  exact {
    fs := ⟨fun _ => ⟨f, 0, rfl, fun i hi => by
      obtain rfl : i = 0 := by simp [exP] at hi; exact hi
      exact h.F.cell 0 rfl⟩, fun s hs => by simp [exP] at hs; subst hs; show (1 : Nat) ≤ maxLen; unfold maxLen; omega⟩
    ws := ⟨ints1 h.Q, fun x hx => by simp [exP] at hx; subst hx; unfold in64; omega, by simp [exP]⟩
    wh := ⟨⟨cx_leaf12 1 (by omega) (by omega), cx_leaf12 1 (by omega) (by omega)⟩, ⟨Nat.le_refl _, by simp, rowNone12 _ _ _⟩, fun x hx => absurd hx (by simp)⟩
    gs := ⟨ints1 h.G, fun x hx => by simp [exP] at hx; subst hx; unfold in64; omega, by simp [exP]⟩
    os := rowC2 (a := outC 0 0) (b := outC 3 1) rfl h.O
    es := fun o ho => by
      simp [exP] at ho
      rcases ho with rfl | rfl
      · exact ⟨cx_leaf12 2 (by omega) (by omega), by unfold in64; dsimp only; omega⟩
      · exact ⟨cx_leaf12 2 (by omega) (by omega), by unfold in64; dsimp only; omega⟩
    fewF := by simp [exP]
    fewO := by simp [exP]
    capF := by simp [exP]
    capW := by simp [exP]
    capG := by simp [exP]
    capO := by simp [exP]
    sizeT := by simp [exP, sizeT, sizeTL, zCx, sizeC, sizeCL]
    sizeC := fun o ho => by
      simp [exP] at ho
      rcases ho with rfl | rfl
      · simp [cxCol, sizeC, sizeCL]
      · simp [cxCol, sizeC, sizeCL] }
theorem ExAt.alike {W : World} {r1 r2 m lb f q g o pb : Nat} (h : ExAt W r1 r2 m lb f q g o pb) : AlikeAll W [exN r1 r2 m] [exP f q g o] := by
  intro _ p hp _ _ w0 v E hb hE hk
  obtain rfl := List.mem_singleton.1 hp
  rw [ex_kept] at hE
  refine ⟨fun W2 hM => ?_⟩
  obtain ⟨a, c, rfl, hc, hel⟩ := hM.elems
  have hG := hk.grp hM
  have hI : IntsAt W2 (some ⟨g, 0, none⟩) [0] := (ints1 h.G).later (below_through hM.b hb.size hb)
  obtain ⟨e1, e2, rfl, h1, h2⟩ := two_of hE
  have hr1 : e1.r = [vI 1, vI 5] := congrArg Prod.fst h1
  have hr2 : e2.r = [vI 2, vI 7] := congrArg Prod.fst h2
  have := alike_risen a c [e1, e2] (some ⟨g, 0, none⟩) 1 [0] W2 hG hI (by simp) (fun e he g hg => by
    simp at hg; subst hg
    simp at he
    rcases he with rfl | rfl
    · rw [hr1]; simp
    · rw [hr2]; simp) (fun i hi => by
    obtain rfl : i = 0 := by simp at hi; omega
    show ¬ keyA [0] e2.r e1.r < 0
    rw [hr1, hr2]; decide) (by simp)
  refine this.mono ?_
  rintro e w' ⟨⟨a', c', G, rfl, hGs, hm⟩, hb2⟩
  refine ⟨a', c', G, rfl, hGs, ?_, grown_of hb2 _⟩
  rw [hm]
  have hE : [e1, e2].map pr = [([vI 1, vI 5], 2), ([vI 2, vI 7], 1)] := by simp [h1, h2]
  rw [hE]
  show _ = (runsM [0] (sortG [0] _)).map _
  rw [ex_sort]
end Go.Proofs.YtjmoegcfgadjiaaGreat
