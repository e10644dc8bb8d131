/- Several of my texts laid together, each as it was: T18. Conditions: each names its own. -/
import Derived.Test.YtadidikegfiedaaC8
/- The example of stage 16 holds: a contract of the call, in whatever memory. Conditions: none. -/
namespace Go.Proofs.Ytadidikegfiedaa
open Go.RowKit

structure SEx (w : World) (bl : Nat) (us : List Value) (a : Option Addr) (F : List Ent) (W : World) : Prop where
  l : VarT W bl us 24
  f : EntsAt W a F
  b : Below w.heap.size w W
  lo : w.heap.size ≤ bl
theorem SEx.below {w : World} {bl : Nat} {us : List Value} {a : Option Addr} {F : List Ent} {W W' : World} (h : SEx w bl us a F W) (hb : Below W.heap.size W W') : SEx w bl us a F W' := ⟨h.l.below hb, h.f.later hb, below_through hb h.b.size h.b, h.lo⟩
theorem SEx.alloc {w : World} {bl : Nat} {us : List Value} {a : Option Addr} {F : List Ent} {W : World} (h : SEx w bl us a F W) (o : Obj) : SEx w bl us a F (W.alloc o) := h.below ((Below.refl _ _).alloc (Nat.le_refl _) _)
set_option maxHeartbeats 8000000 in
set_option maxRecDepth 1000000 in
theorem awake16_any (w : World) :
    Calls Try.prog 10 #[] w fun e w' => e = .returned (.bool true) ∧ Below w.heap.size w w' := by
  go_enter Try.func10, Try.ntmps10
  go_wp2_with fail
  refine Calls.mono (trNew_any _ _) ?_
  rintro e w1 ⟨rfl, B1⟩
  go_wp2_with fail
  refine Calls.mono (row16_any _ _) ?_
  rintro e w2 ⟨rfl, R1, hb2⟩
  have B2 := below_through hb2 B1.size B1
  go_wp2_with fail
  refine Calls.mono (row16_any _ _) ?_
  rintro e w3 ⟨rfl, R2, hb3⟩
  have B3 := below_through hb3 B2.size B2
  have R1 := R1.below hb3
  generalize w1.heap.size = b1 at *
  generalize w2.heap.size = b2 at *
  clear hb2 hb3 B1 B2
  go_wp2_with fail
  have R1 := R1.alloc (Obj.cells #[.slice (some ⟨b1, 0, none⟩) 1 1, .int .i64 (-1), .slice (some ⟨b2, 0, none⟩) 1 1, .int .i64 2] 46)
  have R2 := R2.alloc (Obj.cells #[.slice (some ⟨b1, 0, none⟩) 1 1, .int .i64 (-1), .slice (some ⟨b2, 0, none⟩) 1 1, .int .i64 2] 46)
  have V4 := VarB.new w3 [.slice (some ⟨b1, 0, none⟩) 1 1, .int .i64 (-1), .slice (some ⟨b2, 0, none⟩) 1 1, .int .i64 2] 46
  have B4 := B3.alloc B3.size (Obj.cells #[.slice (some ⟨b1, 0, none⟩) 1 1, .int .i64 (-1), .slice (some ⟨b2, 0, none⟩) 1 1, .int .i64 2] 46)
  generalize w3.alloc (Obj.cells #[.slice (some ⟨b1, 0, none⟩) 1 1, .int .i64 (-1), .slice (some ⟨b2, 0, none⟩) 1 1, .int .i64 2] 46) = w4 at *
  generalize w3.heap.size = b4 at *
  have hA := trAdd_any 3 none 0 [] 4 (some ⟨b4, 0, none⟩) 2 [⟨some ⟨b1, 0, none⟩, 1, [vT 1], -1⟩, ⟨some ⟨b2, 0, none⟩, 1, [vT 2], 2⟩] w4 (EntsAt.nil _ _) (elems_two V4 R1 R2 (by unfold in64; omega)) (by simp)
  rw [show List.map dat [] = [] from rfl, ex_add1] at hA
  refine Calls.mono hA ?_
  rintro e w5 ⟨v5, F5, rfl, hM5, hF5⟩
  have hM5 := hM5.low B4
  clear hA B3 V4 R1 R2
  have hF5l : F5.length = 3 := by have := congrArg List.length hF5; rw [List.length_map] at this; exact this
  obtain ⟨a5, c5, rfl, _, hE5⟩ := hM5.ents
  have HF5 := hid0 hF5
  rw [hF5l]
  have hS : SEx w w5.heap.size [.int .i64 3, .slice a5 3 c5] a5 F5 (w5.alloc (Obj.cells #[.int .i64 3, .slice a5 3 c5] 24)) := ⟨VarT.new w5 [.int .i64 3, .slice a5 3 c5] 24, hE5.later ((Below.refl _ _).alloc (Nat.le_refl _) _), hM5.b.alloc hM5.b.size _, hM5.b.size⟩
  clear hM5 hF5 hE5 B4
  go_wp2_with fail
  have hS := hS.below (Below.drew (Below.refl _ _))
  generalize w5.alloc (Obj.cells #[.int .i64 3, .slice a5 3 c5] 24) = w6 at *
  generalize w5.heap.size = bl at *
  refine wp_region_held_drew (S := (fun _ : World => True)) (by kernel_rfl) trivial (fun hHeld => ?_)
  generalize w6.drew = W0 at hS hHeld ⊢
  refine wpAnyH_ready (rs := [0, 1]) (by kernel_rfl) (by simp) ?_
  refine AllReadyH.cons rfl (fun K hK => ?_) ?_
  · (try simp only [Act.put, List.setIfInBounds_toArray, List.set_cons_zero, List.set_cons_succ, List.getElem_toArray, List.getElem_cons_zero])
    have l0 := hS.l.v.cell 0 rfl
    have l1 := hS.l.v.cell 1 rfl
    go_simp
    refine hK.out _ _ trivial (fun hHeld => ?_)
    clear hK K
    (try simp only [Act.put, List.setIfInBounds_toArray, List.set_cons_zero, List.set_cons_succ, List.getElem_toArray, List.getElem_cons_zero, List.getElem_cons_succ])
    refine wpAnyH_ready (rs := [1]) (by kernel_rfl) (by simp) ?_
    refine AllReadyH.cons rfl (fun K hK => ?_) ?_
    · (try simp only [Act.put, List.setIfInBounds_toArray, List.set_cons_zero, List.set_cons_succ, List.getElem_toArray, List.getElem_cons_zero, List.getElem_cons_succ])
      go_simp
      obtain ⟨br, hbr⟩ : ∃ br, W0.heap.size = br := ⟨_, rfl⟩
      refine (row16_any 2 _).mono ?_
      rintro e W1 ⟨rfl, hR3, hb3⟩
      have hS := hS.below hb3
      rw [hbr] at hR3 ⊢
      clear hb3 hbr
      refine hK.out _ _ trivial (fun hHeld => ?_)
      clear hK K
      (try simp only [Act.put, List.setIfInBounds_toArray, List.set_cons_zero, List.set_cons_succ, List.getElem_toArray, List.getElem_cons_zero, List.getElem_cons_succ])
      refine wpAnyH_take (i := 2) (v := ?_) rfl (by kernel_rfl) (by kernel_rfl) (by kernel_rfl) (fun _ _ _ h => h) (Or.inl ⟨by rfl, ?_⟩) (by assumption) ?_
      rotate_left
      · (intro wx hSw; go_simp; (try with_reducible rfl); (try omega))
      (try simp only [Act.put, List.setIfInBounds_toArray, List.set_cons_zero, List.set_cons_succ, List.getElem_toArray, List.getElem_cons_zero, List.getElem_cons_succ])
      refine wpAnyH_ready (rs := [3]) (by kernel_rfl) (by simp) ?_
      refine AllReadyH.cons rfl (fun K hK => ?_) ?_
      · (try simp only [Act.put, List.setIfInBounds_toArray, List.set_cons_zero, List.set_cons_succ, List.getElem_toArray, List.getElem_cons_zero, List.getElem_cons_succ])
        go_simp
        have hR3 := hR3.alloc (Obj.cells #[.slice (some ⟨br, 0, none⟩) 1 1, .int .i64 (-1)] 46)
        have hV3 := VarB.new W1 [.slice (some ⟨br, 0, none⟩) 1 1, .int .i64 (-1)] 46
        have hS := hS.alloc (Obj.cells #[.slice (some ⟨br, 0, none⟩) 1 1, .int .i64 (-1)] 46)
        generalize W1.alloc (Obj.cells #[.slice (some ⟨br, 0, none⟩) 1 1, .int .i64 (-1)] 46) = W2 at hR3 hV3 hS ⊢
        generalize W1.heap.size = bs at hV3 ⊢
        refine hK.out _ _ trivial (fun hHeld => ?_)
        clear hK K
        (try simp only [Act.put, List.setIfInBounds_toArray, List.set_cons_zero, List.set_cons_succ, List.getElem_toArray, List.getElem_cons_zero, List.getElem_cons_succ])
        refine wpAnyH_ready (rs := [4]) (by kernel_rfl) (by simp) ?_
        refine AllReadyH.cons rfl (fun K hK => ?_) ?_
        · (try simp only [Act.put, List.setIfInBounds_toArray, List.set_cons_zero, List.set_cons_succ, List.getElem_toArray, List.getElem_cons_zero, List.getElem_cons_succ])
          go_simp
          have hA := trAdd_any 3 a5 c5 F5 6 (some ⟨bs, 0, none⟩) 1 [⟨some ⟨br, 0, none⟩, 1, [vT 2], -1⟩] W2 hS.f (elems_one16 hV3 hR3 (by unfold in64; omega)) (by rw [hF5l]; omega)
          rw [hF5l, HF5.out, ex_add2] at hA
          refine Calls.mono hA ?_
          rintro e W3 ⟨v6, F6, rfl, hM6, hF6⟩
          have hM6' := hM6.low hS.b
          have hS := hS.below hM6.b
          have hF6l : F6.length = 4 := by have := congrArg List.length hF6; rw [List.length_map] at this; exact this
          obtain ⟨a6, c6, rfl, _, _⟩ := hM6'.ents
          rw [hF6l] at hM6' ⊢
          have HF6 := hid0 hF6
          clear hA hM6 hF6 hR3 hV3
          refine hK.out _ _ trivial (fun hHeld => ?_)
          clear hK K
          refine wpAnyH_take (i := 5) (v := ?_) rfl (by kernel_rfl) (by kernel_rfl) (by kernel_rfl) (fun _ _ _ h => h) (Or.inl ⟨by rfl, ?_⟩) (by assumption) ?_
          rotate_left
          · (intro wx hSw; go_simp; (try with_reducible rfl); (try omega))
          (try simp only [Act.put, List.setIfInBounds_toArray, List.set_cons_zero, List.set_cons_succ, List.getElem_toArray, List.getElem_cons_zero, List.getElem_cons_succ])
          refine wpAnyH_take (i := 6) (v := ?_) rfl (by kernel_rfl) (by kernel_rfl) (by kernel_rfl) (fun _ _ _ h => h) (Or.inl ⟨by rfl, ?_⟩) (by assumption) ?_
          rotate_left
          · (intro wx hSw; go_simp; (try with_reducible rfl); (try omega))
          (try simp only [Act.put, List.setIfInBounds_toArray, List.set_cons_zero, List.set_cons_succ, List.getElem_toArray, List.getElem_cons_zero, List.getElem_cons_succ])
          refine wpAnyH_take (i := 7) (v := ?_) rfl (by kernel_rfl) (by kernel_rfl) (by kernel_rfl) (fun _ _ _ h => h) (Or.inl ⟨by rfl, ?_⟩) (by assumption) ?_
          rotate_left
          · (intro wx hSw; go_simp; (try with_reducible rfl); (try omega))
          (try simp only [Act.put, List.setIfInBounds_toArray, List.set_cons_zero, List.set_cons_succ, List.getElem_toArray, List.getElem_cons_zero, List.getElem_cons_succ])
          refine wpAnyH_ready (rs := [8]) (by kernel_rfl) (by simp) ?_
          refine AllReadyH.cons rfl (fun K hK => ?_) ?_
          · (try simp only [Act.put, List.getElem_toArray, List.getElem_cons_zero, List.getElem_cons_succ])
            have l0 := hS.l.v.cell 0 rfl
            have l1 := hS.l.v.cell 1 rfl
            have y0 := hS.l.v.frz 0 (by simp)
            have y1 := hS.l.v.frz 1 (by simp)
            go_simp
            have hM7 := hid0 (hM6'.puts hS.l hS.lo (by decide) (hM6'.apart hS.l (by decide)) [.int .i64 3, .slice a6 4 c6])
            have hV7 := hid0 (hS.l.v.puts [.int .i64 3, .slice a6 4 c6] rfl)
            have HTT := hid0 ((hS.l.set (i := 0) (.int .i64 3) (by simp)).set (i := 1) (.slice a6 4 c6) (by simp)).t
            have HLO := hid0 hS.lo
            refine hK.out _ _ trivial (fun hHeld => ?_)
            clear hK K
            (try simp only [Act.put, List.setIfInBounds_toArray, List.set_cons_zero, List.set_cons_succ, List.getElem_toArray, List.getElem_cons_zero, List.getElem_cons_succ])
            refine wpAnyH_take (i := 9) (v := ?_) rfl (by kernel_rfl) (by kernel_rfl) (by kernel_rfl) (fun _ _ _ h => h) (Or.inl ⟨by rfl, ?_⟩) (by assumption) ?_
            rotate_left
            · (intro wx hSw; go_simp; (try with_reducible rfl); (try omega))
            (try simp only [Act.put, List.setIfInBounds_toArray, List.set_cons_zero, List.set_cons_succ, List.getElem_toArray, List.getElem_cons_zero, List.getElem_cons_succ])
            refine wpAnyH_done (by kernel_rfl) ?_ _
            clear hS hHeld
            obtain ⟨W7, hW7⟩ : ∃ W', (W3.setCell ⟨bl, 0, none⟩ (.int .i64 3)).setCell ⟨bl, 1, none⟩ (.slice a6 4 c6) = W' := ⟨_, rfl⟩
            have hM7 : MkN 0 w W7 (.slice a6 4 c6) F6 := by rw [← hW7]; exact hM7.out
            have hV7 : VarB W7 bl [.int .i64 3, .slice a6 4 c6] := by rw [← hW7]; exact hV7.out
            have HTT : Hid (∃ cs fz, W7.heap[bl]? = some (Obj.cells cs 24 fz)) := by rw [← hW7]; exact HTT
            rw [hW7]
            have hS7 : SEx w bl [.int .i64 3, .slice a6 4 c6] a6 F6 W7 := by
              obtain ⟨x6, y6, hx6, _, hE6⟩ := hM7.ents
              obtain ⟨rfl, -, rfl⟩ := Value.slice.inj hx6
              exact ⟨⟨hV7, HTT.out⟩, hE6, hM7.b, HLO.out⟩
            clear hM7 hV7 hW7
            have l0 := hS7.l.v.cell 0 rfl
            have l1 := hS7.l.v.cell 1 rfl
            have hF6l : F6.length = 4 := by have := congrArg List.length HF6.out; rw [List.length_map] at this; exact this
            have C3 := hid0 (fun (k : Int) W (hS : SEx w bl [.int .i64 3, .slice a6 4 c6] a6 F6 W) => (show Calls Try.prog 8 #[.agg #[.int .i64 3, .slice a6 4 c6], .int .i64 k] W (SinceAns W (sinceM 3 d16b k)) from by
              have h := trSince_any 3 a6 c6 F6 k W hS.f (by omega)
              rwa [hF6l, HF6.out] at h))
            have HS7 := hid0 hS7
            clear hS7
            go_wp2_with fail
            refine Calls.mono (C3.out _ _ HS7.out) ?_
            rw [ex_since3]
            rintro e w8 ⟨⟨a8, c8, E8, rfl, hc8, hE8, hm8⟩, hb8⟩
            have hS8 := HS7.out.below hb8
            have hE8l : E8.length = 2 := by have := congrArg List.length hm8; rw [List.length_map] at this; exact this
            obtain ⟨g8, o8, rfl, hc⟩ := hE8.1 (fun e => by rw [e] at hE8l; simp at hE8l)
            have q8 := (hc 1 (by omega)).2
            have hn8 : (E8[1]'(by omega)).n = 1 := by
              have e : (E8.map pr)[1]? = some ([vT 2], 1) := by rw [hm8]; rfl
              rw [List.getElem?_map, List.getElem?_eq_getElem (by omega)] at e
              exact congrArg Prod.snd (Option.some.inj e)
            rw [hn8] at q8
            rw [hE8l]
            have l0 := hS8.l.v.cell 0 rfl
            have l1 := hS8.l.v.cell 1 rfl
            have HS8 := hid0 hS8
            clear hS8 hb8 hc hE8 hm8 hE8l hn8 hc8 HS7
            go_wp2_with fail
            refine Calls.mono (C3.out _ _ HS8.out) ?_
            rw [ex_since2]
            rintro e w9 ⟨⟨a9, c9, E9, rfl, hc9, hE9, hm9⟩, hb9⟩
            have hS9 := HS8.out.below hb9
            have q9 := cell_later hb9 q8
            clear hb9 q8 hE9 hm9 hc9 HS8 C3
            have HS9 := hid0 hS9
            have HQ9 := hid0 q9
            have l1 := hS9.l.v.cell 1 rfl
            clear hS9 q9 l0
            go_wp2_with fail
            refine wp_region_held_drew (S := (fun W => Below w9.drew.heap.size w9.drew W)) (by kernel_rfl) (Below.refl _ _) (fun hHeld => ?_)
            have HS0 := hid0 (HS9.out.below (Below.drew (Below.refl _ _)))
            have HQ0 : Hid (w9.drew.cell? ⟨g8, o8 + 1 * 2 + 1, none⟩ = some (.int .i64 1)) := hid0 HQ9.out
            have hB : Below w9.drew.heap.size w9.drew w9.drew := Below.refl _ _
            clear HS9 HQ9 l1
            generalize w9.drew = W0 at HS0 HQ0 hB ⊢
            have CP := hid0 (fun W (hW : Below W0.heap.size W0 W) => (show Calls Try.prog 13 #[.agg #[.int .i64 3, .slice a6 4 c6], .int .i64 4] W (fun e w' => ∃ v F, e = .returned (.agg #[.int .i64 3, v]) ∧ MkN 0 W w' v F ∧ F.map dat = [(6, -1, [vT 2])]) from by
              have h := trPurge_any 3 a6 c6 F6 4 W (HS0.out.f.later hW) (by omega)
              rwa [hF6l, HF6.out, ex_purge] at h))
            refine wpAnyH_take (i := 0) (v := ?_) rfl (by kernel_rfl) (by kernel_rfl) (by kernel_rfl) (fun _ _ _ h => h) (Or.inl ⟨by rfl, ?_⟩) (by assumption) ?_
            rotate_left
            · (intro wx hSw; have l0 := cell_later hSw (HS0.out.l.v.cell 0 rfl); have l1 := cell_later hSw (HS0.out.l.v.cell 1 rfl); go_simp; (try with_reducible rfl); (try omega))
            (try simp only [Act.put, List.setIfInBounds_toArray, List.set_cons_zero, List.set_cons_succ, List.getElem_toArray, List.getElem_cons_zero])
            refine wpAnyH_ready (rs := [1, 4]) (by kernel_rfl) (by simp) ?_
            refine AllReadyH.cons rfl (fun K hK => ?_) ?_
            · (try simp only [Act.put, List.setIfInBounds_toArray, List.set_cons_zero, List.set_cons_succ, List.getElem_toArray, List.getElem_cons_zero, List.getElem_cons_succ])
              go_simp
              have hI := pair_at W0.heap.size 5 4 (W0.alloc (Obj.cells #[.int .i64 5, .int .i64 4] 3)) (by go_cell) (by go_cell)
              have hB := hB.alloc hB.size (Obj.cells #[.int .i64 5, .int .i64 4] 3)
              generalize W0.alloc (Obj.cells #[.int .i64 5, .int .i64 4] 3) = Wi at hI hB ⊢
              generalize W0.heap.size = bi at hI ⊢
              refine hK.out _ _ hB (fun hHeld => ?_)
              clear hK K
              (try simp only [Act.put, List.setIfInBounds_toArray, List.set_cons_zero, List.set_cons_succ, List.getElem_toArray, List.getElem_cons_zero, List.getElem_cons_succ])
              refine wpAnyH_ready (rs := [2, 4]) (by kernel_rfl) (by simp) ?_
              refine AllReadyH.cons rfl (fun K hK => ?_) ?_
              · (try simp only [Act.put, List.setIfInBounds_toArray, List.set_cons_zero, List.set_cons_succ, List.getElem_toArray, List.getElem_cons_zero, List.getElem_cons_succ])
                go_simp
                refine (trLow_any (some ⟨bi, 0, none⟩) 2 [5, 4] 9 _ hI (by simp)).mono ?_
                rw [ex_low]
                rintro e Wl ⟨rfl, hbl⟩
                have hB := below_through hbl hB.size hB
                clear hbl hI
                refine hK.out _ _ hB (fun hHeld => ?_)
                clear hK K
                (try simp only [Act.put, List.setIfInBounds_toArray, List.set_cons_zero, List.set_cons_succ, List.getElem_toArray, List.getElem_cons_zero, List.getElem_cons_succ])
                refine wpAnyH_ready (rs := [3, 4]) (by kernel_rfl) (by simp) ?_
                refine AllReadyH.cons rfl (fun K hK => ?_) ?_
                · (try simp only [Act.put, List.setIfInBounds_toArray, List.set_cons_zero, List.set_cons_succ, List.getElem_toArray, List.getElem_cons_zero, List.getElem_cons_succ])
                  go_simp
                  refine Calls.mono (CP.out _ hB) ?_
                  rintro e Wp ⟨v7, F7, rfl, hM7, hF7⟩
                  have hB := below_through hM7.b hB.size hB
                  have hF7l : F7.length = 1 := by have := congrArg List.length hF7; rw [List.length_map] at this; exact this
                  obtain ⟨a7, c7, rfl, _, _⟩ := hM7.ents
                  rw [hF7l]
                  clear hM7 hF7 hF7l
                  refine hK.out _ _ hB (fun hHeld => ?_)
                  clear hK K
                  (try simp only [Act.put, List.setIfInBounds_toArray, List.set_cons_zero, List.set_cons_succ, List.getElem_toArray, List.getElem_cons_zero, List.getElem_cons_succ])
                  refine wpAnyH_ready (rs := [4]) (by kernel_rfl) (by simp) ?_
                  refine AllReadyH.cons rfl (fun K hK => ?_) ?_
                  · (try simp only [Act.put, List.setIfInBounds_toArray, List.set_cons_zero, List.set_cons_succ, List.getElem_toArray, List.getElem_cons_zero, List.getElem_cons_succ])
                    go_simp
                    have hVm := VarB.new Wp [.int .i64 0, .slice none 0 0] 24
                    have hlo : Hid (W0.heap.size ≤ Wp.heap.size) := hid0 hB.size
                    have hB := hB.alloc hB.size (Obj.cells #[.int .i64 0, .slice none 0 0] 24)
                    generalize Wp.alloc (Obj.cells #[.int .i64 0, .slice none 0 0] 24) = Wm at hVm hB ⊢
                    obtain ⟨bm, hbm⟩ : ∃ b, Wp.heap.size = b := ⟨_, rfl⟩
                    have hlo : Hid (W0.heap.size ≤ bm) := hid0 (by rw [← hbm]; exact hlo.out)
                    rw [hbm] at hVm ⊢
                    clear hbm
                    refine hK.out _ _ hB (fun hHeld => ?_)
                    clear hK K
                    (try simp only [Act.put, List.setIfInBounds_toArray, List.set_cons_zero, List.set_cons_succ, List.getElem_toArray, List.getElem_cons_zero, List.getElem_cons_succ])
                    refine wpAnyH_ready (rs := [5]) (by kernel_rfl) (by simp) ?_
                    refine AllReadyH.cons rfl (fun K hK => ?_) ?_
                    · (try simp only [Act.put, List.getElem_toArray, List.getElem_cons_zero, List.getElem_cons_succ])
                      have z0 := hVm.cell 0 rfl
                      have z1 := hVm.cell 1 rfl
                      have y0 := hVm.frz 0 (by simp)
                      have y1 := hVm.frz 1 (by simp)
                      go_simp
                      have hVz := hid0 (hVm.puts [.int .i64 3, .slice a7 1 c7] rfl)
                      have hB := below_setCells [.int .i64 3, .slice a7 1 c7] 0 hB hlo.out
                      refine hK.out _ _ hB (fun hHeld => ?_)
                      clear hK K
                      (try simp only [Act.put, List.setIfInBounds_toArray, List.set_cons_zero, List.set_cons_succ, List.getElem_toArray, List.getElem_cons_zero, List.getElem_cons_succ])
                      refine wpAnyH_done (by kernel_rfl) ?_ _
                      have HB := hid0 hB
                      clear hB hHeld hVm z0 z1 y0 y1
                      obtain ⟨W9, hW9⟩ : ∃ W', (Wm.setCell ⟨bm, 0, none⟩ (.int .i64 3)).setCell ⟨bm, 1, none⟩ (.slice a7 1 c7) = W' := ⟨_, rfl⟩
                      have hVz : VarB W9 bm [.int .i64 3, .slice a7 1 c7] := by rw [← hW9]; exact hVz.out
                      have hB : Below W0.heap.size W0 W9 := by rw [← hW9]; exact HB.out
                      rw [hW9]
                      clear hW9 HB
                      have l1 := cell_later hB (HS0.out.l.v.cell 1 rfl)
                      have q9 := cell_later hB HQ0.out
                      have z0 := hVz.cell 0 rfl
                      have z1 := hVz.cell 1 rfl
                      clear hVz
                      go_wp2_with fail
                      go_ret
                      exact ⟨rfl, below_through hB HS0.out.b.size HS0.out.b⟩
                    exact AllReadyH.nil
                  exact AllReadyH.nil
                refine AllReadyH.cons rfl (fun K hK => ?_) ?_
                · (try simp only [Act.put, List.setIfInBounds_toArray, List.set_cons_zero, List.set_cons_succ, List.getElem_toArray, List.getElem_cons_zero, List.getElem_cons_succ])
                  go_simp
                  have hVm := VarB.new Wl [.int .i64 0, .slice none 0 0] 24
                  have hlo : Hid (W0.heap.size ≤ Wl.heap.size) := hid0 hB.size
                  have hB := hB.alloc hB.size (Obj.cells #[.int .i64 0, .slice none 0 0] 24)
                  generalize Wl.alloc (Obj.cells #[.int .i64 0, .slice none 0 0] 24) = Wm at hVm hB ⊢
                  obtain ⟨bm, hbm⟩ : ∃ b, Wl.heap.size = b := ⟨_, rfl⟩
                  have hlo : Hid (W0.heap.size ≤ bm) := hid0 (by rw [← hbm]; exact hlo.out)
                  rw [hbm] at hVm ⊢
                  clear hbm
                  refine hK.out _ _ hB (fun hHeld => ?_)
                  clear hK K
                  (try simp only [Act.put, List.setIfInBounds_toArray, List.set_cons_zero, List.set_cons_succ, List.getElem_toArray, List.getElem_cons_zero, List.getElem_cons_succ])
                  refine wpAnyH_ready (rs := [3]) (by kernel_rfl) (by simp) ?_
                  refine AllReadyH.cons rfl (fun K hK => ?_) ?_
                  · (try simp only [Act.put, List.setIfInBounds_toArray, List.set_cons_zero, List.set_cons_succ, List.getElem_toArray, List.getElem_cons_zero, List.getElem_cons_succ])
                    go_simp
                    refine Calls.mono (CP.out _ hB) ?_
                    rintro e Wp ⟨v7, F7, rfl, hM7, hF7⟩
                    have hB := below_through hM7.b hB.size hB
                    have hVm := hVm.below hM7.b
                    have hF7l : F7.length = 1 := by have := congrArg List.length hF7; rw [List.length_map] at this; exact this
                    obtain ⟨a7, c7, rfl, _, _⟩ := hM7.ents
                    rw [hF7l]
                    clear hM7 hF7 hF7l
                    refine hK.out _ _ hB (fun hHeld => ?_)
                    clear hK K
                    (try simp only [Act.put, List.setIfInBounds_toArray, List.set_cons_zero, List.set_cons_succ, List.getElem_toArray, List.getElem_cons_zero, List.getElem_cons_succ])
                    refine wpAnyH_ready (rs := [5]) (by kernel_rfl) (by simp) ?_
                    refine AllReadyH.cons rfl (fun K hK => ?_) ?_
                    · (try simp only [Act.put, List.getElem_toArray, List.getElem_cons_zero, List.getElem_cons_succ])
                      have z0 := hVm.cell 0 rfl
                      have z1 := hVm.cell 1 rfl
                      have y0 := hVm.frz 0 (by simp)
                      have y1 := hVm.frz 1 (by simp)
                      go_simp
                      have hVz := hid0 (hVm.puts [.int .i64 3, .slice a7 1 c7] rfl)
                      have hB := below_setCells [.int .i64 3, .slice a7 1 c7] 0 hB hlo.out
                      refine hK.out _ _ hB (fun hHeld => ?_)
                      clear hK K
                      (try simp only [Act.put, List.setIfInBounds_toArray, List.set_cons_zero, List.set_cons_succ, List.getElem_toArray, List.getElem_cons_zero, List.getElem_cons_succ])
                      refine wpAnyH_done (by kernel_rfl) ?_ _
                      have HB := hid0 hB
                      clear hB hHeld hVm z0 z1 y0 y1
                      obtain ⟨W9, hW9⟩ : ∃ W', (Wp.setCell ⟨bm, 0, none⟩ (.int .i64 3)).setCell ⟨bm, 1, none⟩ (.slice a7 1 c7) = W' := ⟨_, rfl⟩
                      have hVz : VarB W9 bm [.int .i64 3, .slice a7 1 c7] := by rw [← hW9]; exact hVz.out
                      have hB : Below W0.heap.size W0 W9 := by rw [← hW9]; exact HB.out
                      rw [hW9]
                      clear hW9 HB
                      have l1 := cell_later hB (HS0.out.l.v.cell 1 rfl)
                      have q9 := cell_later hB HQ0.out
                      have z0 := hVz.cell 0 rfl
                      have z1 := hVz.cell 1 rfl
                      clear hVz
                      go_wp2_with fail
                      go_ret
                      exact ⟨rfl, below_through hB HS0.out.b.size HS0.out.b⟩
                    exact AllReadyH.nil
                  exact AllReadyH.nil
                exact AllReadyH.nil
              refine AllReadyH.cons rfl (fun K hK => ?_) ?_
              · (try simp only [Act.put, List.setIfInBounds_toArray, List.set_cons_zero, List.set_cons_succ, List.getElem_toArray, List.getElem_cons_zero, List.getElem_cons_succ])
                go_simp
                have hVm := VarB.new Wi [.int .i64 0, .slice none 0 0] 24
                have hlo : Hid (W0.heap.size ≤ Wi.heap.size) := hid0 hB.size
                have hB := hB.alloc hB.size (Obj.cells #[.int .i64 0, .slice none 0 0] 24)
                have hI := IntsAt.later hI ((Below.refl _ _).alloc (Nat.le_refl _) (Obj.cells #[.int .i64 0, .slice none 0 0] 24))
                generalize Wi.alloc (Obj.cells #[.int .i64 0, .slice none 0 0] 24) = Wm at hVm hB hI ⊢
                obtain ⟨bm, hbm⟩ : ∃ b, Wi.heap.size = b := ⟨_, rfl⟩
                have hlo : Hid (W0.heap.size ≤ bm) := hid0 (by rw [← hbm]; exact hlo.out)
                rw [hbm] at hVm ⊢
                clear hbm
                refine hK.out _ _ hB (fun hHeld => ?_)
                clear hK K
                (try simp only [Act.put, List.setIfInBounds_toArray, List.set_cons_zero, List.set_cons_succ, List.getElem_toArray, List.getElem_cons_zero, List.getElem_cons_succ])
                refine wpAnyH_ready (rs := [2]) (by kernel_rfl) (by simp) ?_
                refine AllReadyH.cons rfl (fun K hK => ?_) ?_
                · (try simp only [Act.put, List.setIfInBounds_toArray, List.set_cons_zero, List.set_cons_succ, List.getElem_toArray, List.getElem_cons_zero, List.getElem_cons_succ])
                  go_simp
                  refine (trLow_any (some ⟨bi, 0, none⟩) 2 [5, 4] 9 _ hI (by simp)).mono ?_
                  rw [ex_low]
                  rintro e Wl ⟨rfl, hbl⟩
                  have hB := below_through hbl hB.size hB
                  have hVm := hVm.below hbl
                  clear hbl hI
                  refine hK.out _ _ hB (fun hHeld => ?_)
                  clear hK K
                  (try simp only [Act.put, List.setIfInBounds_toArray, List.set_cons_zero, List.set_cons_succ, List.getElem_toArray, List.getElem_cons_zero, List.getElem_cons_succ])
                  refine wpAnyH_ready (rs := [3]) (by kernel_rfl) (by simp) ?_
                  refine AllReadyH.cons rfl (fun K hK => ?_) ?_
                  · (try simp only [Act.put, List.setIfInBounds_toArray, List.set_cons_zero, List.set_cons_succ, List.getElem_toArray, List.getElem_cons_zero, List.getElem_cons_succ])
                    go_simp
                    refine Calls.mono (CP.out _ hB) ?_
                    rintro e Wp ⟨v7, F7, rfl, hM7, hF7⟩
                    have hB := below_through hM7.b hB.size hB
                    have hVm := hVm.below hM7.b
                    have hF7l : F7.length = 1 := by have := congrArg List.length hF7; rw [List.length_map] at this; exact this
                    obtain ⟨a7, c7, rfl, _, _⟩ := hM7.ents
                    rw [hF7l]
                    clear hM7 hF7 hF7l
                    refine hK.out _ _ hB (fun hHeld => ?_)
                    clear hK K
                    (try simp only [Act.put, List.setIfInBounds_toArray, List.set_cons_zero, List.set_cons_succ, List.getElem_toArray, List.getElem_cons_zero, List.getElem_cons_succ])
                    refine wpAnyH_ready (rs := [5]) (by kernel_rfl) (by simp) ?_
                    refine AllReadyH.cons rfl (fun K hK => ?_) ?_
                    · (try simp only [Act.put, List.getElem_toArray, List.getElem_cons_zero, List.getElem_cons_succ])
                      have z0 := hVm.cell 0 rfl
                      have z1 := hVm.cell 1 rfl
                      have y0 := hVm.frz 0 (by simp)
                      have y1 := hVm.frz 1 (by simp)
                      go_simp
                      have hVz := hid0 (hVm.puts [.int .i64 3, .slice a7 1 c7] rfl)
                      have hB := below_setCells [.int .i64 3, .slice a7 1 c7] 0 hB hlo.out
                      refine hK.out _ _ hB (fun hHeld => ?_)
                      clear hK K
                      (try simp only [Act.put, List.setIfInBounds_toArray, List.set_cons_zero, List.set_cons_succ, List.getElem_toArray, List.getElem_cons_zero, List.getElem_cons_succ])
                      refine wpAnyH_done (by kernel_rfl) ?_ _
                      have HB := hid0 hB
                      clear hB hHeld hVm z0 z1 y0 y1
                      obtain ⟨W9, hW9⟩ : ∃ W', (Wp.setCell ⟨bm, 0, none⟩ (.int .i64 3)).setCell ⟨bm, 1, none⟩ (.slice a7 1 c7) = W' := ⟨_, rfl⟩
                      have hVz : VarB W9 bm [.int .i64 3, .slice a7 1 c7] := by rw [← hW9]; exact hVz.out
                      have hB : Below W0.heap.size W0 W9 := by rw [← hW9]; exact HB.out
                      rw [hW9]
                      clear hW9 HB
                      have l1 := cell_later hB (HS0.out.l.v.cell 1 rfl)
                      have q9 := cell_later hB HQ0.out
                      have z0 := hVz.cell 0 rfl
                      have z1 := hVz.cell 1 rfl
                      clear hVz
                      go_wp2_with fail
                      go_ret
                      exact ⟨rfl, below_through hB HS0.out.b.size HS0.out.b⟩
                    exact AllReadyH.nil
                  exact AllReadyH.nil
                exact AllReadyH.nil
              exact AllReadyH.nil
            refine AllReadyH.cons rfl (fun K hK => ?_) ?_
            · (try simp only [Act.put, List.setIfInBounds_toArray, List.set_cons_zero, List.set_cons_succ, List.getElem_toArray, List.getElem_cons_zero, List.getElem_cons_succ])
              go_simp
              have hVm := VarB.new W0 [.int .i64 0, .slice none 0 0] 24
              have hlo : Hid (W0.heap.size ≤ W0.heap.size) := hid0 hB.size
              have hB := hB.alloc hB.size (Obj.cells #[.int .i64 0, .slice none 0 0] 24)
              generalize W0.alloc (Obj.cells #[.int .i64 0, .slice none 0 0] 24) = Wm at hVm hB ⊢
              obtain ⟨bm, hbm⟩ : ∃ b, W0.heap.size = b := ⟨_, rfl⟩
              have hlo : Hid (W0.heap.size ≤ bm) := hid0 (by rw [← hbm]; exact hlo.out)
              rw [hbm] at hVm ⊢
              clear hbm
              refine hK.out _ _ hB (fun hHeld => ?_)
              clear hK K
              (try simp only [Act.put, List.setIfInBounds_toArray, List.set_cons_zero, List.set_cons_succ, List.getElem_toArray, List.getElem_cons_zero, List.getElem_cons_succ])
              refine wpAnyH_ready (rs := [1]) (by kernel_rfl) (by simp) ?_
              refine AllReadyH.cons rfl (fun K hK => ?_) ?_
              · (try simp only [Act.put, List.setIfInBounds_toArray, List.set_cons_zero, List.set_cons_succ, List.getElem_toArray, List.getElem_cons_zero, List.getElem_cons_succ])
                go_simp
                have hI := pair_at Wm.heap.size 5 4 (Wm.alloc (Obj.cells #[.int .i64 5, .int .i64 4] 3)) (by go_cell) (by go_cell)
                have hB := hB.alloc hB.size (Obj.cells #[.int .i64 5, .int .i64 4] 3)
                have hVm := hVm.alloc (Obj.cells #[.int .i64 5, .int .i64 4] 3)
                generalize Wm.alloc (Obj.cells #[.int .i64 5, .int .i64 4] 3) = Wi at hI hB hVm ⊢
                generalize Wm.heap.size = bi at hI ⊢
                refine hK.out _ _ hB (fun hHeld => ?_)
                clear hK K
                (try simp only [Act.put, List.setIfInBounds_toArray, List.set_cons_zero, List.set_cons_succ, List.getElem_toArray, List.getElem_cons_zero, List.getElem_cons_succ])
                refine wpAnyH_ready (rs := [2]) (by kernel_rfl) (by simp) ?_
                refine AllReadyH.cons rfl (fun K hK => ?_) ?_
                · (try simp only [Act.put, List.setIfInBounds_toArray, List.set_cons_zero, List.set_cons_succ, List.getElem_toArray, List.getElem_cons_zero, List.getElem_cons_succ])
                  go_simp
                  refine (trLow_any (some ⟨bi, 0, none⟩) 2 [5, 4] 9 _ hI (by simp)).mono ?_
                  rw [ex_low]
                  rintro e Wl ⟨rfl, hbl⟩
                  have hB := below_through hbl hB.size hB
                  have hVm := hVm.below hbl
                  clear hbl hI
                  refine hK.out _ _ hB (fun hHeld => ?_)
                  clear hK K
                  (try simp only [Act.put, List.setIfInBounds_toArray, List.set_cons_zero, List.set_cons_succ, List.getElem_toArray, List.getElem_cons_zero, List.getElem_cons_succ])
                  refine wpAnyH_ready (rs := [3]) (by kernel_rfl) (by simp) ?_
                  refine AllReadyH.cons rfl (fun K hK => ?_) ?_
                  · (try simp only [Act.put, List.setIfInBounds_toArray, List.set_cons_zero, List.set_cons_succ, List.getElem_toArray, List.getElem_cons_zero, List.getElem_cons_succ])
                    go_simp
                    refine Calls.mono (CP.out _ hB) ?_
                    rintro e Wp ⟨v7, F7, rfl, hM7, hF7⟩
                    have hB := below_through hM7.b hB.size hB
                    have hVm := hVm.below hM7.b
                    have hF7l : F7.length = 1 := by have := congrArg List.length hF7; rw [List.length_map] at this; exact this
                    obtain ⟨a7, c7, rfl, _, _⟩ := hM7.ents
                    rw [hF7l]
                    clear hM7 hF7 hF7l
                    refine hK.out _ _ hB (fun hHeld => ?_)
                    clear hK K
                    (try simp only [Act.put, List.setIfInBounds_toArray, List.set_cons_zero, List.set_cons_succ, List.getElem_toArray, List.getElem_cons_zero, List.getElem_cons_succ])
                    refine wpAnyH_ready (rs := [5]) (by kernel_rfl) (by simp) ?_
                    refine AllReadyH.cons rfl (fun K hK => ?_) ?_
                    · (try simp only [Act.put, List.getElem_toArray, List.getElem_cons_zero, List.getElem_cons_succ])
                      have z0 := hVm.cell 0 rfl
                      have z1 := hVm.cell 1 rfl
                      have y0 := hVm.frz 0 (by simp)
                      have y1 := hVm.frz 1 (by simp)
                      go_simp
                      have hVz := hid0 (hVm.puts [.int .i64 3, .slice a7 1 c7] rfl)
                      have hB := below_setCells [.int .i64 3, .slice a7 1 c7] 0 hB hlo.out
                      refine hK.out _ _ hB (fun hHeld => ?_)
                      clear hK K
                      (try simp only [Act.put, List.setIfInBounds_toArray, List.set_cons_zero, List.set_cons_succ, List.getElem_toArray, List.getElem_cons_zero, List.getElem_cons_succ])
                      refine wpAnyH_done (by kernel_rfl) ?_ _
                      have HB := hid0 hB
                      clear hB hHeld hVm z0 z1 y0 y1
                      obtain ⟨W9, hW9⟩ : ∃ W', (Wp.setCell ⟨bm, 0, none⟩ (.int .i64 3)).setCell ⟨bm, 1, none⟩ (.slice a7 1 c7) = W' := ⟨_, rfl⟩
                      have hVz : VarB W9 bm [.int .i64 3, .slice a7 1 c7] := by rw [← hW9]; exact hVz.out
                      have hB : Below W0.heap.size W0 W9 := by rw [← hW9]; exact HB.out
                      rw [hW9]
                      clear hW9 HB
                      have l1 := cell_later hB (HS0.out.l.v.cell 1 rfl)
                      have q9 := cell_later hB HQ0.out
                      have z0 := hVz.cell 0 rfl
                      have z1 := hVz.cell 1 rfl
                      clear hVz
                      go_wp2_with fail
                      go_ret
                      exact ⟨rfl, below_through hB HS0.out.b.size HS0.out.b⟩
                    exact AllReadyH.nil
                  exact AllReadyH.nil
                exact AllReadyH.nil
              exact AllReadyH.nil
            exact AllReadyH.nil
          exact AllReadyH.nil
        exact AllReadyH.nil
      exact AllReadyH.nil
    exact AllReadyH.nil
  refine AllReadyH.cons rfl (fun K hK => ?_) ?_
  · (try simp only [Act.put, List.setIfInBounds_toArray, List.set_cons_zero, List.set_cons_succ, List.getElem_toArray, List.getElem_cons_zero, List.getElem_cons_succ])
    go_simp
    obtain ⟨br, hbr⟩ : ∃ br, W0.heap.size = br := ⟨_, rfl⟩
    refine (row16_any 2 _).mono ?_
    rintro e W1 ⟨rfl, hR3, hb3⟩
    have hS := hS.below hb3
    rw [hbr] at hR3 ⊢
    clear hb3 hbr
    refine hK.out _ _ trivial (fun hHeld => ?_)
    clear hK K
    (try simp only [Act.put, List.setIfInBounds_toArray, List.set_cons_zero, List.set_cons_succ, List.getElem_toArray, List.getElem_cons_zero, List.getElem_cons_succ])
    refine wpAnyH_take (i := 2) (v := ?_) rfl (by kernel_rfl) (by kernel_rfl) (by kernel_rfl) (fun _ _ _ h => h) (Or.inl ⟨by rfl, ?_⟩) (by assumption) ?_
    rotate_left
    · (intro wx hSw; go_simp; (try with_reducible rfl); (try omega))
    (try simp only [Act.put, List.setIfInBounds_toArray, List.set_cons_zero, List.set_cons_succ, List.getElem_toArray, List.getElem_cons_zero, List.getElem_cons_succ])
    refine wpAnyH_ready (rs := [0, 3]) (by kernel_rfl) (by simp) ?_
    refine AllReadyH.cons rfl (fun K hK => ?_) ?_
    · (try simp only [Act.put, List.setIfInBounds_toArray, List.set_cons_zero, List.set_cons_succ, List.getElem_toArray, List.getElem_cons_zero])
      have l0 := hS.l.v.cell 0 rfl
      have l1 := hS.l.v.cell 1 rfl
      go_simp
      refine hK.out _ _ trivial (fun hHeld => ?_)
      clear hK K
      (try simp only [Act.put, List.setIfInBounds_toArray, List.set_cons_zero, List.set_cons_succ, List.getElem_toArray, List.getElem_cons_zero, List.getElem_cons_succ])
      refine wpAnyH_ready (rs := [3]) (by kernel_rfl) (by simp) ?_
      refine AllReadyH.cons rfl (fun K hK => ?_) ?_
      · (try simp only [Act.put, List.setIfInBounds_toArray, List.set_cons_zero, List.set_cons_succ, List.getElem_toArray, List.getElem_cons_zero, List.getElem_cons_succ])
        go_simp
        have hR3 := hR3.alloc (Obj.cells #[.slice (some ⟨br, 0, none⟩) 1 1, .int .i64 (-1)] 46)
        have hV3 := VarB.new W1 [.slice (some ⟨br, 0, none⟩) 1 1, .int .i64 (-1)] 46
        have hS := hS.alloc (Obj.cells #[.slice (some ⟨br, 0, none⟩) 1 1, .int .i64 (-1)] 46)
        generalize W1.alloc (Obj.cells #[.slice (some ⟨br, 0, none⟩) 1 1, .int .i64 (-1)] 46) = W2 at hR3 hV3 hS ⊢
        generalize W1.heap.size = bs at hV3 ⊢
        refine hK.out _ _ trivial (fun hHeld => ?_)
        clear hK K
        (try simp only [Act.put, List.setIfInBounds_toArray, List.set_cons_zero, List.set_cons_succ, List.getElem_toArray, List.getElem_cons_zero, List.getElem_cons_succ])
        refine wpAnyH_ready (rs := [4]) (by kernel_rfl) (by simp) ?_
        refine AllReadyH.cons rfl (fun K hK => ?_) ?_
        · (try simp only [Act.put, List.setIfInBounds_toArray, List.set_cons_zero, List.set_cons_succ, List.getElem_toArray, List.getElem_cons_zero, List.getElem_cons_succ])
          go_simp
          have hA := trAdd_any 3 a5 c5 F5 6 (some ⟨bs, 0, none⟩) 1 [⟨some ⟨br, 0, none⟩, 1, [vT 2], -1⟩] W2 hS.f (elems_one16 hV3 hR3 (by unfold in64; omega)) (by rw [hF5l]; omega)
          rw [hF5l, HF5.out, ex_add2] at hA
          refine Calls.mono hA ?_
          rintro e W3 ⟨v6, F6, rfl, hM6, hF6⟩
          have hM6' := hM6.low hS.b
          have hS := hS.below hM6.b
          have hF6l : F6.length = 4 := by have := congrArg List.length hF6; rw [List.length_map] at this; exact this
          obtain ⟨a6, c6, rfl, _, _⟩ := hM6'.ents
          rw [hF6l] at hM6' ⊢
          have HF6 := hid0 hF6
          clear hA hM6 hF6 hR3 hV3
          refine hK.out _ _ trivial (fun hHeld => ?_)
          clear hK K
          refine wpAnyH_take (i := 5) (v := ?_) rfl (by kernel_rfl) (by kernel_rfl) (by kernel_rfl) (fun _ _ _ h => h) (Or.inl ⟨by rfl, ?_⟩) (by assumption) ?_
          rotate_left
          · (intro wx hSw; go_simp; (try with_reducible rfl); (try omega))
          (try simp only [Act.put, List.setIfInBounds_toArray, List.set_cons_zero, List.set_cons_succ, List.getElem_toArray, List.getElem_cons_zero, List.getElem_cons_succ])
          refine wpAnyH_take (i := 6) (v := ?_) rfl (by kernel_rfl) (by kernel_rfl) (by kernel_rfl) (fun _ _ _ h => h) (Or.inl ⟨by rfl, ?_⟩) (by assumption) ?_
          rotate_left
          · (intro wx hSw; go_simp; (try with_reducible rfl); (try omega))
          (try simp only [Act.put, List.setIfInBounds_toArray, List.set_cons_zero, List.set_cons_succ, List.getElem_toArray, List.getElem_cons_zero, List.getElem_cons_succ])
          refine wpAnyH_take (i := 7) (v := ?_) rfl (by kernel_rfl) (by kernel_rfl) (by kernel_rfl) (fun _ _ _ h => h) (Or.inl ⟨by rfl, ?_⟩) (by assumption) ?_
          rotate_left
          · (intro wx hSw; go_simp; (try with_reducible rfl); (try omega))
          (try simp only [Act.put, List.setIfInBounds_toArray, List.set_cons_zero, List.set_cons_succ, List.getElem_toArray, List.getElem_cons_zero, List.getElem_cons_succ])
          refine wpAnyH_ready (rs := [8]) (by kernel_rfl) (by simp) ?_
          refine AllReadyH.cons rfl (fun K hK => ?_) ?_
          · (try simp only [Act.put, List.getElem_toArray, List.getElem_cons_zero, List.getElem_cons_succ])
            have l0 := hS.l.v.cell 0 rfl
            have l1 := hS.l.v.cell 1 rfl
            have y0 := hS.l.v.frz 0 (by simp)
            have y1 := hS.l.v.frz 1 (by simp)
            go_simp
            have hM7 := hid0 (hM6'.puts hS.l hS.lo (by decide) (hM6'.apart hS.l (by decide)) [.int .i64 3, .slice a6 4 c6])
            have hV7 := hid0 (hS.l.v.puts [.int .i64 3, .slice a6 4 c6] rfl)
            have HTT := hid0 ((hS.l.set (i := 0) (.int .i64 3) (by simp)).set (i := 1) (.slice a6 4 c6) (by simp)).t
            have HLO := hid0 hS.lo
            refine hK.out _ _ trivial (fun hHeld => ?_)
            clear hK K
            (try simp only [Act.put, List.setIfInBounds_toArray, List.set_cons_zero, List.set_cons_succ, List.getElem_toArray, List.getElem_cons_zero, List.getElem_cons_succ])
            refine wpAnyH_take (i := 9) (v := ?_) rfl (by kernel_rfl) (by kernel_rfl) (by kernel_rfl) (fun _ _ _ h => h) (Or.inl ⟨by rfl, ?_⟩) (by assumption) ?_
            rotate_left
            · (intro wx hSw; go_simp; (try with_reducible rfl); (try omega))
            (try simp only [Act.put, List.setIfInBounds_toArray, List.set_cons_zero, List.set_cons_succ, List.getElem_toArray, List.getElem_cons_zero, List.getElem_cons_succ])
            refine wpAnyH_done (by kernel_rfl) ?_ _
            clear hS hHeld
            obtain ⟨W7, hW7⟩ : ∃ W', (W3.setCell ⟨bl, 0, none⟩ (.int .i64 3)).setCell ⟨bl, 1, none⟩ (.slice a6 4 c6) = W' := ⟨_, rfl⟩
            have hM7 : MkN 0 w W7 (.slice a6 4 c6) F6 := by rw [← hW7]; exact hM7.out
            have hV7 : VarB W7 bl [.int .i64 3, .slice a6 4 c6] := by rw [← hW7]; exact hV7.out
            have HTT : Hid (∃ cs fz, W7.heap[bl]? = some (Obj.cells cs 24 fz)) := by rw [← hW7]; exact HTT
            rw [hW7]
            have hS7 : SEx w bl [.int .i64 3, .slice a6 4 c6] a6 F6 W7 := by
              obtain ⟨x6, y6, hx6, _, hE6⟩ := hM7.ents
              obtain ⟨rfl, -, rfl⟩ := Value.slice.inj hx6
              exact ⟨⟨hV7, HTT.out⟩, hE6, hM7.b, HLO.out⟩
            clear hM7 hV7 hW7
            have l0 := hS7.l.v.cell 0 rfl
            have l1 := hS7.l.v.cell 1 rfl
            have hF6l : F6.length = 4 := by have := congrArg List.length HF6.out; rw [List.length_map] at this; exact this
            have C3 := hid0 (fun (k : Int) W (hS : SEx w bl [.int .i64 3, .slice a6 4 c6] a6 F6 W) => (show Calls Try.prog 8 #[.agg #[.int .i64 3, .slice a6 4 c6], .int .i64 k] W (SinceAns W (sinceM 3 d16b k)) from by
              have h := trSince_any 3 a6 c6 F6 k W hS.f (by omega)
              rwa [hF6l, HF6.out] at h))
            have HS7 := hid0 hS7
            clear hS7
            go_wp2_with fail
            refine Calls.mono (C3.out _ _ HS7.out) ?_
            rw [ex_since3]
            rintro e w8 ⟨⟨a8, c8, E8, rfl, hc8, hE8, hm8⟩, hb8⟩
            have hS8 := HS7.out.below hb8
            have hE8l : E8.length = 2 := by have := congrArg List.length hm8; rw [List.length_map] at this; exact this
            obtain ⟨g8, o8, rfl, hc⟩ := hE8.1 (fun e => by rw [e] at hE8l; simp at hE8l)
            have q8 := (hc 1 (by omega)).2
            have hn8 : (E8[1]'(by omega)).n = 1 := by
              have e : (E8.map pr)[1]? = some ([vT 2], 1) := by rw [hm8]; rfl
              rw [List.getElem?_map, List.getElem?_eq_getElem (by omega)] at e
              exact congrArg Prod.snd (Option.some.inj e)
            rw [hn8] at q8
            rw [hE8l]
            have l0 := hS8.l.v.cell 0 rfl
            have l1 := hS8.l.v.cell 1 rfl
            have HS8 := hid0 hS8
            clear hS8 hb8 hc hE8 hm8 hE8l hn8 hc8 HS7
            go_wp2_with fail
            refine Calls.mono (C3.out _ _ HS8.out) ?_
            rw [ex_since2]
            rintro e w9 ⟨⟨a9, c9, E9, rfl, hc9, hE9, hm9⟩, hb9⟩
            have hS9 := HS8.out.below hb9
            have q9 := cell_later hb9 q8
            clear hb9 q8 hE9 hm9 hc9 HS8 C3
            have HS9 := hid0 hS9
            have HQ9 := hid0 q9
            have l1 := hS9.l.v.cell 1 rfl
            clear hS9 q9 l0
            go_wp2_with fail
            refine wp_region_held_drew (S := (fun W => Below w9.drew.heap.size w9.drew W)) (by kernel_rfl) (Below.refl _ _) (fun hHeld => ?_)
            have HS0 := hid0 (HS9.out.below (Below.drew (Below.refl _ _)))
            have HQ0 : Hid (w9.drew.cell? ⟨g8, o8 + 1 * 2 + 1, none⟩ = some (.int .i64 1)) := hid0 HQ9.out
            have hB : Below w9.drew.heap.size w9.drew w9.drew := Below.refl _ _
            clear HS9 HQ9 l1
            generalize w9.drew = W0 at HS0 HQ0 hB ⊢
            have CP := hid0 (fun W (hW : Below W0.heap.size W0 W) => (show Calls Try.prog 13 #[.agg #[.int .i64 3, .slice a6 4 c6], .int .i64 4] W (fun e w' => ∃ v F, e = .returned (.agg #[.int .i64 3, v]) ∧ MkN 0 W w' v F ∧ F.map dat = [(6, -1, [vT 2])]) from by
              have h := trPurge_any 3 a6 c6 F6 4 W (HS0.out.f.later hW) (by omega)
              rwa [hF6l, HF6.out, ex_purge] at h))
            refine wpAnyH_take (i := 0) (v := ?_) rfl (by kernel_rfl) (by kernel_rfl) (by kernel_rfl) (fun _ _ _ h => h) (Or.inl ⟨by rfl, ?_⟩) (by assumption) ?_
            rotate_left
            · (intro wx hSw; have l0 := cell_later hSw (HS0.out.l.v.cell 0 rfl); have l1 := cell_later hSw (HS0.out.l.v.cell 1 rfl); go_simp; (try with_reducible rfl); (try omega))
            (try simp only [Act.put, List.setIfInBounds_toArray, List.set_cons_zero, List.set_cons_succ, List.getElem_toArray, List.getElem_cons_zero])
            refine wpAnyH_ready (rs := [1, 4]) (by kernel_rfl) (by simp) ?_
            refine AllReadyH.cons rfl (fun K hK => ?_) ?_
            · (try simp only [Act.put, List.setIfInBounds_toArray, List.set_cons_zero, List.set_cons_succ, List.getElem_toArray, List.getElem_cons_zero, List.getElem_cons_succ])
              go_simp
              have hI := pair_at W0.heap.size 5 4 (W0.alloc (Obj.cells #[.int .i64 5, .int .i64 4] 3)) (by go_cell) (by go_cell)
              have hB := hB.alloc hB.size (Obj.cells #[.int .i64 5, .int .i64 4] 3)
              generalize W0.alloc (Obj.cells #[.int .i64 5, .int .i64 4] 3) = Wi at hI hB ⊢
              generalize W0.heap.size = bi at hI ⊢
              refine hK.out _ _ hB (fun hHeld => ?_)
              clear hK K
              (try simp only [Act.put, List.setIfInBounds_toArray, List.set_cons_zero, List.set_cons_succ, List.getElem_toArray, List.getElem_cons_zero, List.getElem_cons_succ])
              refine wpAnyH_ready (rs := [2, 4]) (by kernel_rfl) (by simp) ?_
              refine AllReadyH.cons rfl (fun K hK => ?_) ?_
              · (try simp only [Act.put, List.setIfInBounds_toArray, List.set_cons_zero, List.set_cons_succ, List.getElem_toArray, List.getElem_cons_zero, List.getElem_cons_succ])
                go_simp
                refine (trLow_any (some ⟨bi, 0, none⟩) 2 [5, 4] 9 _ hI (by simp)).mono ?_
                rw [ex_low]
                rintro e Wl ⟨rfl, hbl⟩
                have hB := below_through hbl hB.size hB
                clear hbl hI
                refine hK.out _ _ hB (fun hHeld => ?_)
                clear hK K
                (try simp only [Act.put, List.setIfInBounds_toArray, List.set_cons_zero, List.set_cons_succ, List.getElem_toArray, List.getElem_cons_zero, List.getElem_cons_succ])
                refine wpAnyH_ready (rs := [3, 4]) (by kernel_rfl) (by simp) ?_
                refine AllReadyH.cons rfl (fun K hK => ?_) ?_
                · (try simp only [Act.put, List.setIfInBounds_toArray, List.set_cons_zero, List.set_cons_succ, List.getElem_toArray, List.getElem_cons_zero, List.getElem_cons_succ])
                  go_simp
                  refine Calls.mono (CP.out _ hB) ?_
                  rintro e Wp ⟨v7, F7, rfl, hM7, hF7⟩
                  have hB := below_through hM7.b hB.size hB
                  have hF7l : F7.length = 1 := by have := congrArg List.length hF7; rw [List.length_map] at this; exact this
                  obtain ⟨a7, c7, rfl, _, _⟩ := hM7.ents
                  rw [hF7l]
                  clear hM7 hF7 hF7l
                  refine hK.out _ _ hB (fun hHeld => ?_)
                  clear hK K
                  (try simp only [Act.put, List.setIfInBounds_toArray, List.set_cons_zero, List.set_cons_succ, List.getElem_toArray, List.getElem_cons_zero, List.getElem_cons_succ])
                  refine wpAnyH_ready (rs := [4]) (by kernel_rfl) (by simp) ?_
                  refine AllReadyH.cons rfl (fun K hK => ?_) ?_
                  · (try simp only [Act.put, List.setIfInBounds_toArray, List.set_cons_zero, List.set_cons_succ, List.getElem_toArray, List.getElem_cons_zero, List.getElem_cons_succ])
                    go_simp
                    have hVm := VarB.new Wp [.int .i64 0, .slice none 0 0] 24
                    have hlo : Hid (W0.heap.size ≤ Wp.heap.size) := hid0 hB.size
                    have hB := hB.alloc hB.size (Obj.cells #[.int .i64 0, .slice none 0 0] 24)
                    generalize Wp.alloc (Obj.cells #[.int .i64 0, .slice none 0 0] 24) = Wm at hVm hB ⊢
                    obtain ⟨bm, hbm⟩ : ∃ b, Wp.heap.size = b := ⟨_, rfl⟩
                    have hlo : Hid (W0.heap.size ≤ bm) := hid0 (by rw [← hbm]; exact hlo.out)
                    rw [hbm] at hVm ⊢
                    clear hbm
                    refine hK.out _ _ hB (fun hHeld => ?_)
                    clear hK K
                    (try simp only [Act.put, List.setIfInBounds_toArray, List.set_cons_zero, List.set_cons_succ, List.getElem_toArray, List.getElem_cons_zero, List.getElem_cons_succ])
                    refine wpAnyH_ready (rs := [5]) (by kernel_rfl) (by simp) ?_
                    refine AllReadyH.cons rfl (fun K hK => ?_) ?_
                    · (try simp only [Act.put, List.getElem_toArray, List.getElem_cons_zero, List.getElem_cons_succ])
                      have z0 := hVm.cell 0 rfl
                      have z1 := hVm.cell 1 rfl
                      have y0 := hVm.frz 0 (by simp)
                      have y1 := hVm.frz 1 (by simp)
                      go_simp
                      have hVz := hid0 (hVm.puts [.int .i64 3, .slice a7 1 c7] rfl)
                      have hB := below_setCells [.int .i64 3, .slice a7 1 c7] 0 hB hlo.out
                      refine hK.out _ _ hB (fun hHeld => ?_)
                      clear hK K
                      (try simp only [Act.put, List.setIfInBounds_toArray, List.set_cons_zero, List.set_cons_succ, List.getElem_toArray, List.getElem_cons_zero, List.getElem_cons_succ])
                      refine wpAnyH_done (by kernel_rfl) ?_ _
                      have HB := hid0 hB
                      clear hB hHeld hVm z0 z1 y0 y1
                      obtain ⟨W9, hW9⟩ : ∃ W', (Wm.setCell ⟨bm, 0, none⟩ (.int .i64 3)).setCell ⟨bm, 1, none⟩ (.slice a7 1 c7) = W' := ⟨_, rfl⟩
                      have hVz : VarB W9 bm [.int .i64 3, .slice a7 1 c7] := by rw [← hW9]; exact hVz.out
                      have hB : Below W0.heap.size W0 W9 := by rw [← hW9]; exact HB.out
                      rw [hW9]
                      clear hW9 HB
                      have l1 := cell_later hB (HS0.out.l.v.cell 1 rfl)
                      have q9 := cell_later hB HQ0.out
                      have z0 := hVz.cell 0 rfl
                      have z1 := hVz.cell 1 rfl
                      clear hVz
                      go_wp2_with fail
                      go_ret
                      exact ⟨rfl, below_through hB HS0.out.b.size HS0.out.b⟩
                    exact AllReadyH.nil
                  exact AllReadyH.nil
                refine AllReadyH.cons rfl (fun K hK => ?_) ?_
                · (try simp only [Act.put, List.setIfInBounds_toArray, List.set_cons_zero, List.set_cons_succ, List.getElem_toArray, List.getElem_cons_zero, List.getElem_cons_succ])
                  go_simp
                  have hVm := VarB.new Wl [.int .i64 0, .slice none 0 0] 24
                  have hlo : Hid (W0.heap.size ≤ Wl.heap.size) := hid0 hB.size
                  have hB := hB.alloc hB.size (Obj.cells #[.int .i64 0, .slice none 0 0] 24)
                  generalize Wl.alloc (Obj.cells #[.int .i64 0, .slice none 0 0] 24) = Wm at hVm hB ⊢
                  obtain ⟨bm, hbm⟩ : ∃ b, Wl.heap.size = b := ⟨_, rfl⟩
                  have hlo : Hid (W0.heap.size ≤ bm) := hid0 (by rw [← hbm]; exact hlo.out)
                  rw [hbm] at hVm ⊢
                  clear hbm
                  refine hK.out _ _ hB (fun hHeld => ?_)
                  clear hK K
                  (try simp only [Act.put, List.setIfInBounds_toArray, List.set_cons_zero, List.set_cons_succ, List.getElem_toArray, List.getElem_cons_zero, List.getElem_cons_succ])
                  refine wpAnyH_ready (rs := [3]) (by kernel_rfl) (by simp) ?_
                  refine AllReadyH.cons rfl (fun K hK => ?_) ?_
                  · (try simp only [Act.put, List.setIfInBounds_toArray, List.set_cons_zero, List.set_cons_succ, List.getElem_toArray, List.getElem_cons_zero, List.getElem_cons_succ])
                    go_simp
                    refine Calls.mono (CP.out _ hB) ?_
                    rintro e Wp ⟨v7, F7, rfl, hM7, hF7⟩
                    have hB := below_through hM7.b hB.size hB
                    have hVm := hVm.below hM7.b
                    have hF7l : F7.length = 1 := by have := congrArg List.length hF7; rw [List.length_map] at this; exact this
                    obtain ⟨a7, c7, rfl, _, _⟩ := hM7.ents
                    rw [hF7l]
                    clear hM7 hF7 hF7l
                    refine hK.out _ _ hB (fun hHeld => ?_)
                    clear hK K
                    (try simp only [Act.put, List.setIfInBounds_toArray, List.set_cons_zero, List.set_cons_succ, List.getElem_toArray, List.getElem_cons_zero, List.getElem_cons_succ])
                    refine wpAnyH_ready (rs := [5]) (by kernel_rfl) (by simp) ?_
                    refine AllReadyH.cons rfl (fun K hK => ?_) ?_
                    · (try simp only [Act.put, List.getElem_toArray, List.getElem_cons_zero, List.getElem_cons_succ])
                      have z0 := hVm.cell 0 rfl
                      have z1 := hVm.cell 1 rfl
                      have y0 := hVm.frz 0 (by simp)
                      have y1 := hVm.frz 1 (by simp)
                      go_simp
                      have hVz := hid0 (hVm.puts [.int .i64 3, .slice a7 1 c7] rfl)
                      have hB := below_setCells [.int .i64 3, .slice a7 1 c7] 0 hB hlo.out
                      refine hK.out _ _ hB (fun hHeld => ?_)
                      clear hK K
                      (try simp only [Act.put, List.setIfInBounds_toArray, List.set_cons_zero, List.set_cons_succ, List.getElem_toArray, List.getElem_cons_zero, List.getElem_cons_succ])
                      refine wpAnyH_done (by kernel_rfl) ?_ _
                      have HB := hid0 hB
                      clear hB hHeld hVm z0 z1 y0 y1
                      obtain ⟨W9, hW9⟩ : ∃ W', (Wp.setCell ⟨bm, 0, none⟩ (.int .i64 3)).setCell ⟨bm, 1, none⟩ (.slice a7 1 c7) = W' := ⟨_, rfl⟩
                      have hVz : VarB W9 bm [.int .i64 3, .slice a7 1 c7] := by rw [← hW9]; exact hVz.out
                      have hB : Below W0.heap.size W0 W9 := by rw [← hW9]; exact HB.out
                      rw [hW9]
                      clear hW9 HB
                      have l1 := cell_later hB (HS0.out.l.v.cell 1 rfl)
                      have q9 := cell_later hB HQ0.out
                      have z0 := hVz.cell 0 rfl
                      have z1 := hVz.cell 1 rfl
                      clear hVz
                      go_wp2_with fail
                      go_ret
                      exact ⟨rfl, below_through hB HS0.out.b.size HS0.out.b⟩
                    exact AllReadyH.nil
                  exact AllReadyH.nil
                exact AllReadyH.nil
              refine AllReadyH.cons rfl (fun K hK => ?_) ?_
              · (try simp only [Act.put, List.setIfInBounds_toArray, List.set_cons_zero, List.set_cons_succ, List.getElem_toArray, List.getElem_cons_zero, List.getElem_cons_succ])
                go_simp
                have hVm := VarB.new Wi [.int .i64 0, .slice none 0 0] 24
                have hlo : Hid (W0.heap.size ≤ Wi.heap.size) := hid0 hB.size
                have hB := hB.alloc hB.size (Obj.cells #[.int .i64 0, .slice none 0 0] 24)
                have hI := IntsAt.later hI ((Below.refl _ _).alloc (Nat.le_refl _) (Obj.cells #[.int .i64 0, .slice none 0 0] 24))
                generalize Wi.alloc (Obj.cells #[.int .i64 0, .slice none 0 0] 24) = Wm at hVm hB hI ⊢
                obtain ⟨bm, hbm⟩ : ∃ b, Wi.heap.size = b := ⟨_, rfl⟩
                have hlo : Hid (W0.heap.size ≤ bm) := hid0 (by rw [← hbm]; exact hlo.out)
                rw [hbm] at hVm ⊢
                clear hbm
                refine hK.out _ _ hB (fun hHeld => ?_)
                clear hK K
                (try simp only [Act.put, List.setIfInBounds_toArray, List.set_cons_zero, List.set_cons_succ, List.getElem_toArray, List.getElem_cons_zero, List.getElem_cons_succ])
                refine wpAnyH_ready (rs := [2]) (by kernel_rfl) (by simp) ?_
                refine AllReadyH.cons rfl (fun K hK => ?_) ?_
                · (try simp only [Act.put, List.setIfInBounds_toArray, List.set_cons_zero, List.set_cons_succ, List.getElem_toArray, List.getElem_cons_zero, List.getElem_cons_succ])
                  go_simp
                  refine (trLow_any (some ⟨bi, 0, none⟩) 2 [5, 4] 9 _ hI (by simp)).mono ?_
                  rw [ex_low]
                  rintro e Wl ⟨rfl, hbl⟩
                  have hB := below_through hbl hB.size hB
                  have hVm := hVm.below hbl
                  clear hbl hI
                  refine hK.out _ _ hB (fun hHeld => ?_)
                  clear hK K
                  (try simp only [Act.put, List.setIfInBounds_toArray, List.set_cons_zero, List.set_cons_succ, List.getElem_toArray, List.getElem_cons_zero, List.getElem_cons_succ])
                  refine wpAnyH_ready (rs := [3]) (by kernel_rfl) (by simp) ?_
                  refine AllReadyH.cons rfl (fun K hK => ?_) ?_
                  · (try simp only [Act.put, List.setIfInBounds_toArray, List.set_cons_zero, List.set_cons_succ, List.getElem_toArray, List.getElem_cons_zero, List.getElem_cons_succ])
                    go_simp
                    refine Calls.mono (CP.out _ hB) ?_
                    rintro e Wp ⟨v7, F7, rfl, hM7, hF7⟩
                    have hB := below_through hM7.b hB.size hB
                    have hVm := hVm.below hM7.b
                    have hF7l : F7.length = 1 := by have := congrArg List.length hF7; rw [List.length_map] at this; exact this
                    obtain ⟨a7, c7, rfl, _, _⟩ := hM7.ents
                    rw [hF7l]
                    clear hM7 hF7 hF7l
                    refine hK.out _ _ hB (fun hHeld => ?_)
                    clear hK K
                    (try simp only [Act.put, List.setIfInBounds_toArray, List.set_cons_zero, List.set_cons_succ, List.getElem_toArray, List.getElem_cons_zero, List.getElem_cons_succ])
                    refine wpAnyH_ready (rs := [5]) (by kernel_rfl) (by simp) ?_
                    refine AllReadyH.cons rfl (fun K hK => ?_) ?_
                    · (try simp only [Act.put, List.getElem_toArray, List.getElem_cons_zero, List.getElem_cons_succ])
                      have z0 := hVm.cell 0 rfl
                      have z1 := hVm.cell 1 rfl
                      have y0 := hVm.frz 0 (by simp)
                      have y1 := hVm.frz 1 (by simp)
                      go_simp
                      have hVz := hid0 (hVm.puts [.int .i64 3, .slice a7 1 c7] rfl)
                      have hB := below_setCells [.int .i64 3, .slice a7 1 c7] 0 hB hlo.out
                      refine hK.out _ _ hB (fun hHeld => ?_)
                      clear hK K
                      (try simp only [Act.put, List.setIfInBounds_toArray, List.set_cons_zero, List.set_cons_succ, List.getElem_toArray, List.getElem_cons_zero, List.getElem_cons_succ])
                      refine wpAnyH_done (by kernel_rfl) ?_ _
                      have HB := hid0 hB
                      clear hB hHeld hVm z0 z1 y0 y1
                      obtain ⟨W9, hW9⟩ : ∃ W', (Wp.setCell ⟨bm, 0, none⟩ (.int .i64 3)).setCell ⟨bm, 1, none⟩ (.slice a7 1 c7) = W' := ⟨_, rfl⟩
                      have hVz : VarB W9 bm [.int .i64 3, .slice a7 1 c7] := by rw [← hW9]; exact hVz.out
                      have hB : Below W0.heap.size W0 W9 := by rw [← hW9]; exact HB.out
                      rw [hW9]
                      clear hW9 HB
                      have l1 := cell_later hB (HS0.out.l.v.cell 1 rfl)
                      have q9 := cell_later hB HQ0.out
                      have z0 := hVz.cell 0 rfl
                      have z1 := hVz.cell 1 rfl
                      clear hVz
                      go_wp2_with fail
                      go_ret
                      exact ⟨rfl, below_through hB HS0.out.b.size HS0.out.b⟩
                    exact AllReadyH.nil
                  exact AllReadyH.nil
                exact AllReadyH.nil
              exact AllReadyH.nil
            refine AllReadyH.cons rfl (fun K hK => ?_) ?_
            · (try simp only [Act.put, List.setIfInBounds_toArray, List.set_cons_zero, List.set_cons_succ, List.getElem_toArray, List.getElem_cons_zero, List.getElem_cons_succ])
              go_simp
              have hVm := VarB.new W0 [.int .i64 0, .slice none 0 0] 24
              have hlo : Hid (W0.heap.size ≤ W0.heap.size) := hid0 hB.size
              have hB := hB.alloc hB.size (Obj.cells #[.int .i64 0, .slice none 0 0] 24)
              generalize W0.alloc (Obj.cells #[.int .i64 0, .slice none 0 0] 24) = Wm at hVm hB ⊢
              obtain ⟨bm, hbm⟩ : ∃ b, W0.heap.size = b := ⟨_, rfl⟩
              have hlo : Hid (W0.heap.size ≤ bm) := hid0 (by rw [← hbm]; exact hlo.out)
              rw [hbm] at hVm ⊢
              clear hbm
              refine hK.out _ _ hB (fun hHeld => ?_)
              clear hK K
              (try simp only [Act.put, List.setIfInBounds_toArray, List.set_cons_zero, List.set_cons_succ, List.getElem_toArray, List.getElem_cons_zero, List.getElem_cons_succ])
              refine wpAnyH_ready (rs := [1]) (by kernel_rfl) (by simp) ?_
              refine AllReadyH.cons rfl (fun K hK => ?_) ?_
              · (try simp only [Act.put, List.setIfInBounds_toArray, List.set_cons_zero, List.set_cons_succ, List.getElem_toArray, List.getElem_cons_zero, List.getElem_cons_succ])
                go_simp
                have hI := pair_at Wm.heap.size 5 4 (Wm.alloc (Obj.cells #[.int .i64 5, .int .i64 4] 3)) (by go_cell) (by go_cell)
                have hB := hB.alloc hB.size (Obj.cells #[.int .i64 5, .int .i64 4] 3)
                have hVm := hVm.alloc (Obj.cells #[.int .i64 5, .int .i64 4] 3)
                generalize Wm.alloc (Obj.cells #[.int .i64 5, .int .i64 4] 3) = Wi at hI hB hVm ⊢
                generalize Wm.heap.size = bi at hI ⊢
                refine hK.out _ _ hB (fun hHeld => ?_)
                clear hK K
                (try simp only [Act.put, List.setIfInBounds_toArray, List.set_cons_zero, List.set_cons_succ, List.getElem_toArray, List.getElem_cons_zero, List.getElem_cons_succ])
                refine wpAnyH_ready (rs := [2]) (by kernel_rfl) (by simp) ?_
                refine AllReadyH.cons rfl (fun K hK => ?_) ?_
                · (try simp only [Act.put, List.setIfInBounds_toArray, List.set_cons_zero, List.set_cons_succ, List.getElem_toArray, List.getElem_cons_zero, List.getElem_cons_succ])
                  go_simp
                  refine (trLow_any (some ⟨bi, 0, none⟩) 2 [5, 4] 9 _ hI (by simp)).mono ?_
                  rw [ex_low]
                  rintro e Wl ⟨rfl, hbl⟩
                  have hB := below_through hbl hB.size hB
                  have hVm := hVm.below hbl
                  clear hbl hI
                  refine hK.out _ _ hB (fun hHeld => ?_)
                  clear hK K
                  (try simp only [Act.put, List.setIfInBounds_toArray, List.set_cons_zero, List.set_cons_succ, List.getElem_toArray, List.getElem_cons_zero, List.getElem_cons_succ])
                  refine wpAnyH_ready (rs := [3]) (by kernel_rfl) (by simp) ?_
                  refine AllReadyH.cons rfl (fun K hK => ?_) ?_
                  · (try simp only [Act.put, List.setIfInBounds_toArray, List.set_cons_zero, List.set_cons_succ, List.getElem_toArray, List.getElem_cons_zero, List.getElem_cons_succ])
                    go_simp
                    refine Calls.mono (CP.out _ hB) ?_
                    rintro e Wp ⟨v7, F7, rfl, hM7, hF7⟩
                    have hB := below_through hM7.b hB.size hB
                    have hVm := hVm.below hM7.b
                    have hF7l : F7.length = 1 := by have := congrArg List.length hF7; rw [List.length_map] at this; exact this
                    obtain ⟨a7, c7, rfl, _, _⟩ := hM7.ents
                    rw [hF7l]
                    clear hM7 hF7 hF7l
                    refine hK.out _ _ hB (fun hHeld => ?_)
                    clear hK K
                    (try simp only [Act.put, List.setIfInBounds_toArray, List.set_cons_zero, List.set_cons_succ, List.getElem_toArray, List.getElem_cons_zero, List.getElem_cons_succ])
                    refine wpAnyH_ready (rs := [5]) (by kernel_rfl) (by simp) ?_
                    refine AllReadyH.cons rfl (fun K hK => ?_) ?_
                    · (try simp only [Act.put, List.getElem_toArray, List.getElem_cons_zero, List.getElem_cons_succ])
                      have z0 := hVm.cell 0 rfl
                      have z1 := hVm.cell 1 rfl
                      have y0 := hVm.frz 0 (by simp)
                      have y1 := hVm.frz 1 (by simp)
                      go_simp
                      have hVz := hid0 (hVm.puts [.int .i64 3, .slice a7 1 c7] rfl)
                      have hB := below_setCells [.int .i64 3, .slice a7 1 c7] 0 hB hlo.out
                      refine hK.out _ _ hB (fun hHeld => ?_)
                      clear hK K
                      (try simp only [Act.put, List.setIfInBounds_toArray, List.set_cons_zero, List.set_cons_succ, List.getElem_toArray, List.getElem_cons_zero, List.getElem_cons_succ])
                      refine wpAnyH_done (by kernel_rfl) ?_ _
                      have HB := hid0 hB
                      clear hB hHeld hVm z0 z1 y0 y1
                      obtain ⟨W9, hW9⟩ : ∃ W', (Wp.setCell ⟨bm, 0, none⟩ (.int .i64 3)).setCell ⟨bm, 1, none⟩ (.slice a7 1 c7) = W' := ⟨_, rfl⟩
                      have hVz : VarB W9 bm [.int .i64 3, .slice a7 1 c7] := by rw [← hW9]; exact hVz.out
                      have hB : Below W0.heap.size W0 W9 := by rw [← hW9]; exact HB.out
                      rw [hW9]
                      clear hW9 HB
                      have l1 := cell_later hB (HS0.out.l.v.cell 1 rfl)
                      have q9 := cell_later hB HQ0.out
                      have z0 := hVz.cell 0 rfl
                      have z1 := hVz.cell 1 rfl
                      clear hVz
                      go_wp2_with fail
                      go_ret
                      exact ⟨rfl, below_through hB HS0.out.b.size HS0.out.b⟩
                    exact AllReadyH.nil
                  exact AllReadyH.nil
                exact AllReadyH.nil
              exact AllReadyH.nil
            exact AllReadyH.nil
          exact AllReadyH.nil
        exact AllReadyH.nil
      exact AllReadyH.nil
    refine AllReadyH.cons rfl (fun K hK => ?_) ?_
    · (try simp only [Act.put, List.setIfInBounds_toArray, List.set_cons_zero, List.set_cons_succ, List.getElem_toArray, List.getElem_cons_zero, List.getElem_cons_succ])
      go_simp
      have hR3 := hR3.alloc (Obj.cells #[.slice (some ⟨br, 0, none⟩) 1 1, .int .i64 (-1)] 46)
      have hV3 := VarB.new W1 [.slice (some ⟨br, 0, none⟩) 1 1, .int .i64 (-1)] 46
      have hS := hS.alloc (Obj.cells #[.slice (some ⟨br, 0, none⟩) 1 1, .int .i64 (-1)] 46)
      generalize W1.alloc (Obj.cells #[.slice (some ⟨br, 0, none⟩) 1 1, .int .i64 (-1)] 46) = W2 at hR3 hV3 hS ⊢
      generalize W1.heap.size = bs at hV3 ⊢
      refine hK.out _ _ trivial (fun hHeld => ?_)
      clear hK K
      (try simp only [Act.put, List.setIfInBounds_toArray, List.set_cons_zero, List.set_cons_succ, List.getElem_toArray, List.getElem_cons_zero, List.getElem_cons_succ])
      refine wpAnyH_ready (rs := [0]) (by kernel_rfl) (by simp) ?_
      refine AllReadyH.cons rfl (fun K hK => ?_) ?_
      · (try simp only [Act.put, List.setIfInBounds_toArray, List.set_cons_zero, List.set_cons_succ, List.getElem_toArray, List.getElem_cons_zero])
        have l0 := hS.l.v.cell 0 rfl
        have l1 := hS.l.v.cell 1 rfl
        go_simp
        refine hK.out _ _ trivial (fun hHeld => ?_)
        clear hK K
        (try simp only [Act.put, List.setIfInBounds_toArray, List.set_cons_zero, List.set_cons_succ, List.getElem_toArray, List.getElem_cons_zero, List.getElem_cons_succ])
        refine wpAnyH_ready (rs := [4]) (by kernel_rfl) (by simp) ?_
        refine AllReadyH.cons rfl (fun K hK => ?_) ?_
        · (try simp only [Act.put, List.setIfInBounds_toArray, List.set_cons_zero, List.set_cons_succ, List.getElem_toArray, List.getElem_cons_zero, List.getElem_cons_succ])
          go_simp
          have hA := trAdd_any 3 a5 c5 F5 6 (some ⟨bs, 0, none⟩) 1 [⟨some ⟨br, 0, none⟩, 1, [vT 2], -1⟩] W2 hS.f (elems_one16 hV3 hR3 (by unfold in64; omega)) (by rw [hF5l]; omega)
          rw [hF5l, HF5.out, ex_add2] at hA
          refine Calls.mono hA ?_
          rintro e W3 ⟨v6, F6, rfl, hM6, hF6⟩
          have hM6' := hM6.low hS.b
          have hS := hS.below hM6.b
          have hF6l : F6.length = 4 := by have := congrArg List.length hF6; rw [List.length_map] at this; exact this
          obtain ⟨a6, c6, rfl, _, _⟩ := hM6'.ents
          rw [hF6l] at hM6' ⊢
          have HF6 := hid0 hF6
          clear hA hM6 hF6 hR3 hV3
          refine hK.out _ _ trivial (fun hHeld => ?_)
          clear hK K
          refine wpAnyH_take (i := 5) (v := ?_) rfl (by kernel_rfl) (by kernel_rfl) (by kernel_rfl) (fun _ _ _ h => h) (Or.inl ⟨by rfl, ?_⟩) (by assumption) ?_
          rotate_left
          · (intro wx hSw; go_simp; (try with_reducible rfl); (try omega))
          (try simp only [Act.put, List.setIfInBounds_toArray, List.set_cons_zero, List.set_cons_succ, List.getElem_toArray, List.getElem_cons_zero, List.getElem_cons_succ])
          refine wpAnyH_take (i := 6) (v := ?_) rfl (by kernel_rfl) (by kernel_rfl) (by kernel_rfl) (fun _ _ _ h => h) (Or.inl ⟨by rfl, ?_⟩) (by assumption) ?_
          rotate_left
          · (intro wx hSw; go_simp; (try with_reducible rfl); (try omega))
          (try simp only [Act.put, List.setIfInBounds_toArray, List.set_cons_zero, List.set_cons_succ, List.getElem_toArray, List.getElem_cons_zero, List.getElem_cons_succ])
          refine wpAnyH_take (i := 7) (v := ?_) rfl (by kernel_rfl) (by kernel_rfl) (by kernel_rfl) (fun _ _ _ h => h) (Or.inl ⟨by rfl, ?_⟩) (by assumption) ?_
          rotate_left
          · (intro wx hSw; go_simp; (try with_reducible rfl); (try omega))
          (try simp only [Act.put, List.setIfInBounds_toArray, List.set_cons_zero, List.set_cons_succ, List.getElem_toArray, List.getElem_cons_zero, List.getElem_cons_succ])
          refine wpAnyH_ready (rs := [8]) (by kernel_rfl) (by simp) ?_
          refine AllReadyH.cons rfl (fun K hK => ?_) ?_
          · (try simp only [Act.put, List.getElem_toArray, List.getElem_cons_zero, List.getElem_cons_succ])
            have l0 := hS.l.v.cell 0 rfl
            have l1 := hS.l.v.cell 1 rfl
            have y0 := hS.l.v.frz 0 (by simp)
            have y1 := hS.l.v.frz 1 (by simp)
            go_simp
            have hM7 := hid0 (hM6'.puts hS.l hS.lo (by decide) (hM6'.apart hS.l (by decide)) [.int .i64 3, .slice a6 4 c6])
            have hV7 := hid0 (hS.l.v.puts [.int .i64 3, .slice a6 4 c6] rfl)
            have HTT := hid0 ((hS.l.set (i := 0) (.int .i64 3) (by simp)).set (i := 1) (.slice a6 4 c6) (by simp)).t
            have HLO := hid0 hS.lo
            refine hK.out _ _ trivial (fun hHeld => ?_)
            clear hK K
            (try simp only [Act.put, List.setIfInBounds_toArray, List.set_cons_zero, List.set_cons_succ, List.getElem_toArray, List.getElem_cons_zero, List.getElem_cons_succ])
            refine wpAnyH_take (i := 9) (v := ?_) rfl (by kernel_rfl) (by kernel_rfl) (by kernel_rfl) (fun _ _ _ h => h) (Or.inl ⟨by rfl, ?_⟩) (by assumption) ?_
            rotate_left
            · (intro wx hSw; go_simp; (try with_reducible rfl); (try omega))
            (try simp only [Act.put, List.setIfInBounds_toArray, List.set_cons_zero, List.set_cons_succ, List.getElem_toArray, List.getElem_cons_zero, List.getElem_cons_succ])
            refine wpAnyH_done (by kernel_rfl) ?_ _
            clear hS hHeld
            obtain ⟨W7, hW7⟩ : ∃ W', (W3.setCell ⟨bl, 0, none⟩ (.int .i64 3)).setCell ⟨bl, 1, none⟩ (.slice a6 4 c6) = W' := ⟨_, rfl⟩
            have hM7 : MkN 0 w W7 (.slice a6 4 c6) F6 := by rw [← hW7]; exact hM7.out
            have hV7 : VarB W7 bl [.int .i64 3, .slice a6 4 c6] := by rw [← hW7]; exact hV7.out
            have HTT : Hid (∃ cs fz, W7.heap[bl]? = some (Obj.cells cs 24 fz)) := by rw [← hW7]; exact HTT
            rw [hW7]
            have hS7 : SEx w bl [.int .i64 3, .slice a6 4 c6] a6 F6 W7 := by
              obtain ⟨x6, y6, hx6, _, hE6⟩ := hM7.ents
              obtain ⟨rfl, -, rfl⟩ := Value.slice.inj hx6
              exact ⟨⟨hV7, HTT.out⟩, hE6, hM7.b, HLO.out⟩
            clear hM7 hV7 hW7
            have l0 := hS7.l.v.cell 0 rfl
            have l1 := hS7.l.v.cell 1 rfl
            have hF6l : F6.length = 4 := by have := congrArg List.length HF6.out; rw [List.length_map] at this; exact this
            have C3 := hid0 (fun (k : Int) W (hS : SEx w bl [.int .i64 3, .slice a6 4 c6] a6 F6 W) => (show Calls Try.prog 8 #[.agg #[.int .i64 3, .slice a6 4 c6], .int .i64 k] W (SinceAns W (sinceM 3 d16b k)) from by
              have h := trSince_any 3 a6 c6 F6 k W hS.f (by omega)
              rwa [hF6l, HF6.out] at h))
            have HS7 := hid0 hS7
            clear hS7
            go_wp2_with fail
            refine Calls.mono (C3.out _ _ HS7.out) ?_
            rw [ex_since3]
            rintro e w8 ⟨⟨a8, c8, E8, rfl, hc8, hE8, hm8⟩, hb8⟩
            have hS8 := HS7.out.below hb8
            have hE8l : E8.length = 2 := by have := congrArg List.length hm8; rw [List.length_map] at this; exact this
            obtain ⟨g8, o8, rfl, hc⟩ := hE8.1 (fun e => by rw [e] at hE8l; simp at hE8l)
            have q8 := (hc 1 (by omega)).2
            have hn8 : (E8[1]'(by omega)).n = 1 := by
              have e : (E8.map pr)[1]? = some ([vT 2], 1) := by rw [hm8]; rfl
              rw [List.getElem?_map, List.getElem?_eq_getElem (by omega)] at e
              exact congrArg Prod.snd (Option.some.inj e)
            rw [hn8] at q8
            rw [hE8l]
            have l0 := hS8.l.v.cell 0 rfl
            have l1 := hS8.l.v.cell 1 rfl
            have HS8 := hid0 hS8
            clear hS8 hb8 hc hE8 hm8 hE8l hn8 hc8 HS7
            go_wp2_with fail
            refine Calls.mono (C3.out _ _ HS8.out) ?_
            rw [ex_since2]
            rintro e w9 ⟨⟨a9, c9, E9, rfl, hc9, hE9, hm9⟩, hb9⟩
            have hS9 := HS8.out.below hb9
            have q9 := cell_later hb9 q8
            clear hb9 q8 hE9 hm9 hc9 HS8 C3
            have HS9 := hid0 hS9
            have HQ9 := hid0 q9
            have l1 := hS9.l.v.cell 1 rfl
            clear hS9 q9 l0
            go_wp2_with fail
            refine wp_region_held_drew (S := (fun W => Below w9.drew.heap.size w9.drew W)) (by kernel_rfl) (Below.refl _ _) (fun hHeld => ?_)
            have HS0 := hid0 (HS9.out.below (Below.drew (Below.refl _ _)))
            have HQ0 : Hid (w9.drew.cell? ⟨g8, o8 + 1 * 2 + 1, none⟩ = some (.int .i64 1)) := hid0 HQ9.out
            have hB : Below w9.drew.heap.size w9.drew w9.drew := Below.refl _ _
            clear HS9 HQ9 l1
            generalize w9.drew = W0 at HS0 HQ0 hB ⊢
            have CP := hid0 (fun W (hW : Below W0.heap.size W0 W) => (show Calls Try.prog 13 #[.agg #[.int .i64 3, .slice a6 4 c6], .int .i64 4] W (fun e w' => ∃ v F, e = .returned (.agg #[.int .i64 3, v]) ∧ MkN 0 W w' v F ∧ F.map dat = [(6, -1, [vT 2])]) from by
              have h := trPurge_any 3 a6 c6 F6 4 W (HS0.out.f.later hW) (by omega)
              rwa [hF6l, HF6.out, ex_purge] at h))
            refine wpAnyH_take (i := 0) (v := ?_) rfl (by kernel_rfl) (by kernel_rfl) (by kernel_rfl) (fun _ _ _ h => h) (Or.inl ⟨by rfl, ?_⟩) (by assumption) ?_
            rotate_left
            · (intro wx hSw; have l0 := cell_later hSw (HS0.out.l.v.cell 0 rfl); have l1 := cell_later hSw (HS0.out.l.v.cell 1 rfl); go_simp; (try with_reducible rfl); (try omega))
            (try simp only [Act.put, List.setIfInBounds_toArray, List.set_cons_zero, List.set_cons_succ, List.getElem_toArray, List.getElem_cons_zero])
            refine wpAnyH_ready (rs := [1, 4]) (by kernel_rfl) (by simp) ?_
            refine AllReadyH.cons rfl (fun K hK => ?_) ?_
            · (try simp only [Act.put, List.setIfInBounds_toArray, List.set_cons_zero, List.set_cons_succ, List.getElem_toArray, List.getElem_cons_zero, List.getElem_cons_succ])
              go_simp
              have hI := pair_at W0.heap.size 5 4 (W0.alloc (Obj.cells #[.int .i64 5, .int .i64 4] 3)) (by go_cell) (by go_cell)
              have hB := hB.alloc hB.size (Obj.cells #[.int .i64 5, .int .i64 4] 3)
              generalize W0.alloc (Obj.cells #[.int .i64 5, .int .i64 4] 3) = Wi at hI hB ⊢
              generalize W0.heap.size = bi at hI ⊢
              refine hK.out _ _ hB (fun hHeld => ?_)
              clear hK K
              (try simp only [Act.put, List.setIfInBounds_toArray, List.set_cons_zero, List.set_cons_succ, List.getElem_toArray, List.getElem_cons_zero, List.getElem_cons_succ])
              refine wpAnyH_ready (rs := [2, 4]) (by kernel_rfl) (by simp) ?_
              refine AllReadyH.cons rfl (fun K hK => ?_) ?_
              · (try simp only [Act.put, List.setIfInBounds_toArray, List.set_cons_zero, List.set_cons_succ, List.getElem_toArray, List.getElem_cons_zero, List.getElem_cons_succ])
                go_simp
                refine (trLow_any (some ⟨bi, 0, none⟩) 2 [5, 4] 9 _ hI (by simp)).mono ?_
                rw [ex_low]
                rintro e Wl ⟨rfl, hbl⟩
                have hB := below_through hbl hB.size hB
                clear hbl hI
                refine hK.out _ _ hB (fun hHeld => ?_)
                clear hK K
                (try simp only [Act.put, List.setIfInBounds_toArray, List.set_cons_zero, List.set_cons_succ, List.getElem_toArray, List.getElem_cons_zero, List.getElem_cons_succ])
                refine wpAnyH_ready (rs := [3, 4]) (by kernel_rfl) (by simp) ?_
                refine AllReadyH.cons rfl (fun K hK => ?_) ?_
                · (try simp only [Act.put, List.setIfInBounds_toArray, List.set_cons_zero, List.set_cons_succ, List.getElem_toArray, List.getElem_cons_zero, List.getElem_cons_succ])
                  go_simp
                  refine Calls.mono (CP.out _ hB) ?_
                  rintro e Wp ⟨v7, F7, rfl, hM7, hF7⟩
                  have hB := below_through hM7.b hB.size hB
                  have hF7l : F7.length = 1 := by have := congrArg List.length hF7; rw [List.length_map] at this; exact this
                  obtain ⟨a7, c7, rfl, _, _⟩ := hM7.ents
                  rw [hF7l]
                  clear hM7 hF7 hF7l
                  refine hK.out _ _ hB (fun hHeld => ?_)
                  clear hK K
                  (try simp only [Act.put, List.setIfInBounds_toArray, List.set_cons_zero, List.set_cons_succ, List.getElem_toArray, List.getElem_cons_zero, List.getElem_cons_succ])
                  refine wpAnyH_ready (rs := [4]) (by kernel_rfl) (by simp) ?_
                  refine AllReadyH.cons rfl (fun K hK => ?_) ?_
                  · (try simp only [Act.put, List.setIfInBounds_toArray, List.set_cons_zero, List.set_cons_succ, List.getElem_toArray, List.getElem_cons_zero, List.getElem_cons_succ])
                    go_simp
                    have hVm := VarB.new Wp [.int .i64 0, .slice none 0 0] 24
                    have hlo : Hid (W0.heap.size ≤ Wp.heap.size) := hid0 hB.size
                    have hB := hB.alloc hB.size (Obj.cells #[.int .i64 0, .slice none 0 0] 24)
                    generalize Wp.alloc (Obj.cells #[.int .i64 0, .slice none 0 0] 24) = Wm at hVm hB ⊢
                    obtain ⟨bm, hbm⟩ : ∃ b, Wp.heap.size = b := ⟨_, rfl⟩
                    have hlo : Hid (W0.heap.size ≤ bm) := hid0 (by rw [← hbm]; exact hlo.out)
                    rw [hbm] at hVm ⊢
                    clear hbm
                    refine hK.out _ _ hB (fun hHeld => ?_)
                    clear hK K
                    (try simp only [Act.put, List.setIfInBounds_toArray, List.set_cons_zero, List.set_cons_succ, List.getElem_toArray, List.getElem_cons_zero, List.getElem_cons_succ])
                    refine wpAnyH_ready (rs := [5]) (by kernel_rfl) (by simp) ?_
                    refine AllReadyH.cons rfl (fun K hK => ?_) ?_
                    · (try simp only [Act.put, List.getElem_toArray, List.getElem_cons_zero, List.getElem_cons_succ])
                      have z0 := hVm.cell 0 rfl
                      have z1 := hVm.cell 1 rfl
                      have y0 := hVm.frz 0 (by simp)
                      have y1 := hVm.frz 1 (by simp)
                      go_simp
                      have hVz := hid0 (hVm.puts [.int .i64 3, .slice a7 1 c7] rfl)
                      have hB := below_setCells [.int .i64 3, .slice a7 1 c7] 0 hB hlo.out
                      refine hK.out _ _ hB (fun hHeld => ?_)
                      clear hK K
                      (try simp only [Act.put, List.setIfInBounds_toArray, List.set_cons_zero, List.set_cons_succ, List.getElem_toArray, List.getElem_cons_zero, List.getElem_cons_succ])
                      refine wpAnyH_done (by kernel_rfl) ?_ _
                      have HB := hid0 hB
                      clear hB hHeld hVm z0 z1 y0 y1
                      obtain ⟨W9, hW9⟩ : ∃ W', (Wm.setCell ⟨bm, 0, none⟩ (.int .i64 3)).setCell ⟨bm, 1, none⟩ (.slice a7 1 c7) = W' := ⟨_, rfl⟩
                      have hVz : VarB W9 bm [.int .i64 3, .slice a7 1 c7] := by rw [← hW9]; exact hVz.out
                      have hB : Below W0.heap.size W0 W9 := by rw [← hW9]; exact HB.out
                      rw [hW9]
                      clear hW9 HB
                      have l1 := cell_later hB (HS0.out.l.v.cell 1 rfl)
                      have q9 := cell_later hB HQ0.out
                      have z0 := hVz.cell 0 rfl
                      have z1 := hVz.cell 1 rfl
                      clear hVz
                      go_wp2_with fail
                      go_ret
                      exact ⟨rfl, below_through hB HS0.out.b.size HS0.out.b⟩
                    exact AllReadyH.nil
                  exact AllReadyH.nil
                refine AllReadyH.cons rfl (fun K hK => ?_) ?_
                · (try simp only [Act.put, List.setIfInBounds_toArray, List.set_cons_zero, List.set_cons_succ, List.getElem_toArray, List.getElem_cons_zero, List.getElem_cons_succ])
                  go_simp
                  have hVm := VarB.new Wl [.int .i64 0, .slice none 0 0] 24
                  have hlo : Hid (W0.heap.size ≤ Wl.heap.size) := hid0 hB.size
                  have hB := hB.alloc hB.size (Obj.cells #[.int .i64 0, .slice none 0 0] 24)
                  generalize Wl.alloc (Obj.cells #[.int .i64 0, .slice none 0 0] 24) = Wm at hVm hB ⊢
                  obtain ⟨bm, hbm⟩ : ∃ b, Wl.heap.size = b := ⟨_, rfl⟩
                  have hlo : Hid (W0.heap.size ≤ bm) := hid0 (by rw [← hbm]; exact hlo.out)
                  rw [hbm] at hVm ⊢
                  clear hbm
                  refine hK.out _ _ hB (fun hHeld => ?_)
                  clear hK K
                  (try simp only [Act.put, List.setIfInBounds_toArray, List.set_cons_zero, List.set_cons_succ, List.getElem_toArray, List.getElem_cons_zero, List.getElem_cons_succ])
                  refine wpAnyH_ready (rs := [3]) (by kernel_rfl) (by simp) ?_
                  refine AllReadyH.cons rfl (fun K hK => ?_) ?_
                  · (try simp only [Act.put, List.setIfInBounds_toArray, List.set_cons_zero, List.set_cons_succ, List.getElem_toArray, List.getElem_cons_zero, List.getElem_cons_succ])
                    go_simp
                    refine Calls.mono (CP.out _ hB) ?_
                    rintro e Wp ⟨v7, F7, rfl, hM7, hF7⟩
                    have hB := below_through hM7.b hB.size hB
                    have hVm := hVm.below hM7.b
                    have hF7l : F7.length = 1 := by have := congrArg List.length hF7; rw [List.length_map] at this; exact this
                    obtain ⟨a7, c7, rfl, _, _⟩ := hM7.ents
                    rw [hF7l]
                    clear hM7 hF7 hF7l
                    refine hK.out _ _ hB (fun hHeld => ?_)
                    clear hK K
                    (try simp only [Act.put, List.setIfInBounds_toArray, List.set_cons_zero, List.set_cons_succ, List.getElem_toArray, List.getElem_cons_zero, List.getElem_cons_succ])
                    refine wpAnyH_ready (rs := [5]) (by kernel_rfl) (by simp) ?_
                    refine AllReadyH.cons rfl (fun K hK => ?_) ?_
                    · (try simp only [Act.put, List.getElem_toArray, List.getElem_cons_zero, List.getElem_cons_succ])
                      have z0 := hVm.cell 0 rfl
                      have z1 := hVm.cell 1 rfl
                      have y0 := hVm.frz 0 (by simp)
                      have y1 := hVm.frz 1 (by simp)
                      go_simp
                      have hVz := hid0 (hVm.puts [.int .i64 3, .slice a7 1 c7] rfl)
                      have hB := below_setCells [.int .i64 3, .slice a7 1 c7] 0 hB hlo.out
                      refine hK.out _ _ hB (fun hHeld => ?_)
                      clear hK K
                      (try simp only [Act.put, List.setIfInBounds_toArray, List.set_cons_zero, List.set_cons_succ, List.getElem_toArray, List.getElem_cons_zero, List.getElem_cons_succ])
                      refine wpAnyH_done (by kernel_rfl) ?_ _
                      have HB := hid0 hB
                      clear hB hHeld hVm z0 z1 y0 y1
                      obtain ⟨W9, hW9⟩ : ∃ W', (Wp.setCell ⟨bm, 0, none⟩ (.int .i64 3)).setCell ⟨bm, 1, none⟩ (.slice a7 1 c7) = W' := ⟨_, rfl⟩
                      have hVz : VarB W9 bm [.int .i64 3, .slice a7 1 c7] := by rw [← hW9]; exact hVz.out
                      have hB : Below W0.heap.size W0 W9 := by rw [← hW9]; exact HB.out
                      rw [hW9]
                      clear hW9 HB
                      have l1 := cell_later hB (HS0.out.l.v.cell 1 rfl)
                      have q9 := cell_later hB HQ0.out
                      have z0 := hVz.cell 0 rfl
                      have z1 := hVz.cell 1 rfl
                      clear hVz
                      go_wp2_with fail
                      go_ret
                      exact ⟨rfl, below_through hB HS0.out.b.size HS0.out.b⟩
                    exact AllReadyH.nil
                  exact AllReadyH.nil
                exact AllReadyH.nil
              refine AllReadyH.cons rfl (fun K hK => ?_) ?_
              · (try simp only [Act.put, List.setIfInBounds_toArray, List.set_cons_zero, List.set_cons_succ, List.getElem_toArray, List.getElem_cons_zero, List.getElem_cons_succ])
                go_simp
                have hVm := VarB.new Wi [.int .i64 0, .slice none 0 0] 24
                have hlo : Hid (W0.heap.size ≤ Wi.heap.size) := hid0 hB.size
                have hB := hB.alloc hB.size (Obj.cells #[.int .i64 0, .slice none 0 0] 24)
                have hI := IntsAt.later hI ((Below.refl _ _).alloc (Nat.le_refl _) (Obj.cells #[.int .i64 0, .slice none 0 0] 24))
                generalize Wi.alloc (Obj.cells #[.int .i64 0, .slice none 0 0] 24) = Wm at hVm hB hI ⊢
                obtain ⟨bm, hbm⟩ : ∃ b, Wi.heap.size = b := ⟨_, rfl⟩
                have hlo : Hid (W0.heap.size ≤ bm) := hid0 (by rw [← hbm]; exact hlo.out)
                rw [hbm] at hVm ⊢
                clear hbm
                refine hK.out _ _ hB (fun hHeld => ?_)
                clear hK K
                (try simp only [Act.put, List.setIfInBounds_toArray, List.set_cons_zero, List.set_cons_succ, List.getElem_toArray, List.getElem_cons_zero, List.getElem_cons_succ])
                refine wpAnyH_ready (rs := [2]) (by kernel_rfl) (by simp) ?_
                refine AllReadyH.cons rfl (fun K hK => ?_) ?_
                · (try simp only [Act.put, List.setIfInBounds_toArray, List.set_cons_zero, List.set_cons_succ, List.getElem_toArray, List.getElem_cons_zero, List.getElem_cons_succ])
                  go_simp
                  refine (trLow_any (some ⟨bi, 0, none⟩) 2 [5, 4] 9 _ hI (by simp)).mono ?_
                  rw [ex_low]
                  rintro e Wl ⟨rfl, hbl⟩
                  have hB := below_through hbl hB.size hB
                  have hVm := hVm.below hbl
                  clear hbl hI
                  refine hK.out _ _ hB (fun hHeld => ?_)
                  clear hK K
                  (try simp only [Act.put, List.setIfInBounds_toArray, List.set_cons_zero, List.set_cons_succ, List.getElem_toArray, List.getElem_cons_zero, List.getElem_cons_succ])
                  refine wpAnyH_ready (rs := [3]) (by kernel_rfl) (by simp) ?_
                  refine AllReadyH.cons rfl (fun K hK => ?_) ?_
                  · (try simp only [Act.put, List.setIfInBounds_toArray, List.set_cons_zero, List.set_cons_succ, List.getElem_toArray, List.getElem_cons_zero, List.getElem_cons_succ])
                    go_simp
                    refine Calls.mono (CP.out _ hB) ?_
                    rintro e Wp ⟨v7, F7, rfl, hM7, hF7⟩
                    have hB := below_through hM7.b hB.size hB
                    have hVm := hVm.below hM7.b
                    have hF7l : F7.length = 1 := by have := congrArg List.length hF7; rw [List.length_map] at this; exact this
                    obtain ⟨a7, c7, rfl, _, _⟩ := hM7.ents
                    rw [hF7l]
                    clear hM7 hF7 hF7l
                    refine hK.out _ _ hB (fun hHeld => ?_)
                    clear hK K
                    (try simp only [Act.put, List.setIfInBounds_toArray, List.set_cons_zero, List.set_cons_succ, List.getElem_toArray, List.getElem_cons_zero, List.getElem_cons_succ])
                    refine wpAnyH_ready (rs := [5]) (by kernel_rfl) (by simp) ?_
                    refine AllReadyH.cons rfl (fun K hK => ?_) ?_
                    · (try simp only [Act.put, List.getElem_toArray, List.getElem_cons_zero, List.getElem_cons_succ])
                      have z0 := hVm.cell 0 rfl
                      have z1 := hVm.cell 1 rfl
                      have y0 := hVm.frz 0 (by simp)
                      have y1 := hVm.frz 1 (by simp)
                      go_simp
                      have hVz := hid0 (hVm.puts [.int .i64 3, .slice a7 1 c7] rfl)
                      have hB := below_setCells [.int .i64 3, .slice a7 1 c7] 0 hB hlo.out
                      refine hK.out _ _ hB (fun hHeld => ?_)
                      clear hK K
                      (try simp only [Act.put, List.setIfInBounds_toArray, List.set_cons_zero, List.set_cons_succ, List.getElem_toArray, List.getElem_cons_zero, List.getElem_cons_succ])
                      refine wpAnyH_done (by kernel_rfl) ?_ _
                      have HB := hid0 hB
                      clear hB hHeld hVm z0 z1 y0 y1
                      obtain ⟨W9, hW9⟩ : ∃ W', (Wp.setCell ⟨bm, 0, none⟩ (.int .i64 3)).setCell ⟨bm, 1, none⟩ (.slice a7 1 c7) = W' := ⟨_, rfl⟩
                      have hVz : VarB W9 bm [.int .i64 3, .slice a7 1 c7] := by rw [← hW9]; exact hVz.out
                      have hB : Below W0.heap.size W0 W9 := by rw [← hW9]; exact HB.out
                      rw [hW9]
                      clear hW9 HB
                      have l1 := cell_later hB (HS0.out.l.v.cell 1 rfl)
                      have q9 := cell_later hB HQ0.out
                      have z0 := hVz.cell 0 rfl
                      have z1 := hVz.cell 1 rfl
                      clear hVz
                      go_wp2_with fail
                      go_ret
                      exact ⟨rfl, below_through hB HS0.out.b.size HS0.out.b⟩
                    exact AllReadyH.nil
                  exact AllReadyH.nil
                exact AllReadyH.nil
              exact AllReadyH.nil
            refine AllReadyH.cons rfl (fun K hK => ?_) ?_
            · (try simp only [Act.put, List.setIfInBounds_toArray, List.set_cons_zero, List.set_cons_succ, List.getElem_toArray, List.getElem_cons_zero, List.getElem_cons_succ])
              go_simp
              have hVm := VarB.new W0 [.int .i64 0, .slice none 0 0] 24
              have hlo : Hid (W0.heap.size ≤ W0.heap.size) := hid0 hB.size
              have hB := hB.alloc hB.size (Obj.cells #[.int .i64 0, .slice none 0 0] 24)
              generalize W0.alloc (Obj.cells #[.int .i64 0, .slice none 0 0] 24) = Wm at hVm hB ⊢
              obtain ⟨bm, hbm⟩ : ∃ b, W0.heap.size = b := ⟨_, rfl⟩
              have hlo : Hid (W0.heap.size ≤ bm) := hid0 (by rw [← hbm]; exact hlo.out)
              rw [hbm] at hVm ⊢
              clear hbm
              refine hK.out _ _ hB (fun hHeld => ?_)
              clear hK K
              (try simp only [Act.put, List.setIfInBounds_toArray, List.set_cons_zero, List.set_cons_succ, List.getElem_toArray, List.getElem_cons_zero, List.getElem_cons_succ])
              refine wpAnyH_ready (rs := [1]) (by kernel_rfl) (by simp) ?_
              refine AllReadyH.cons rfl (fun K hK => ?_) ?_
              · (try simp only [Act.put, List.setIfInBounds_toArray, List.set_cons_zero, List.set_cons_succ, List.getElem_toArray, List.getElem_cons_zero, List.getElem_cons_succ])
                go_simp
                have hI := pair_at Wm.heap.size 5 4 (Wm.alloc (Obj.cells #[.int .i64 5, .int .i64 4] 3)) (by go_cell) (by go_cell)
                have hB := hB.alloc hB.size (Obj.cells #[.int .i64 5, .int .i64 4] 3)
                have hVm := hVm.alloc (Obj.cells #[.int .i64 5, .int .i64 4] 3)
                generalize Wm.alloc (Obj.cells #[.int .i64 5, .int .i64 4] 3) = Wi at hI hB hVm ⊢
                generalize Wm.heap.size = bi at hI ⊢
                refine hK.out _ _ hB (fun hHeld => ?_)
                clear hK K
                (try simp only [Act.put, List.setIfInBounds_toArray, List.set_cons_zero, List.set_cons_succ, List.getElem_toArray, List.getElem_cons_zero, List.getElem_cons_succ])
                refine wpAnyH_ready (rs := [2]) (by kernel_rfl) (by simp) ?_
                refine AllReadyH.cons rfl (fun K hK => ?_) ?_
                · (try simp only [Act.put, List.setIfInBounds_toArray, List.set_cons_zero, List.set_cons_succ, List.getElem_toArray, List.getElem_cons_zero, List.getElem_cons_succ])
                  go_simp
                  refine (trLow_any (some ⟨bi, 0, none⟩) 2 [5, 4] 9 _ hI (by simp)).mono ?_
                  rw [ex_low]
                  rintro e Wl ⟨rfl, hbl⟩
                  have hB := below_through hbl hB.size hB
                  have hVm := hVm.below hbl
                  clear hbl hI
                  refine hK.out _ _ hB (fun hHeld => ?_)
                  clear hK K
                  (try simp only [Act.put, List.setIfInBounds_toArray, List.set_cons_zero, List.set_cons_succ, List.getElem_toArray, List.getElem_cons_zero, List.getElem_cons_succ])
                  refine wpAnyH_ready (rs := [3]) (by kernel_rfl) (by simp) ?_
                  refine AllReadyH.cons rfl (fun K hK => ?_) ?_
                  · (try simp only [Act.put, List.setIfInBounds_toArray, List.set_cons_zero, List.set_cons_succ, List.getElem_toArray, List.getElem_cons_zero, List.getElem_cons_succ])
                    go_simp
                    refine Calls.mono (CP.out _ hB) ?_
                    rintro e Wp ⟨v7, F7, rfl, hM7, hF7⟩
                    have hB := below_through hM7.b hB.size hB
                    have hVm := hVm.below hM7.b
                    have hF7l : F7.length = 1 := by have := congrArg List.length hF7; rw [List.length_map] at this; exact this
                    obtain ⟨a7, c7, rfl, _, _⟩ := hM7.ents
                    rw [hF7l]
                    clear hM7 hF7 hF7l
                    refine hK.out _ _ hB (fun hHeld => ?_)
                    clear hK K
                    (try simp only [Act.put, List.setIfInBounds_toArray, List.set_cons_zero, List.set_cons_succ, List.getElem_toArray, List.getElem_cons_zero, List.getElem_cons_succ])
                    refine wpAnyH_ready (rs := [5]) (by kernel_rfl) (by simp) ?_
                    refine AllReadyH.cons rfl (fun K hK => ?_) ?_
                    · (try simp only [Act.put, List.getElem_toArray, List.getElem_cons_zero, List.getElem_cons_succ])
                      have z0 := hVm.cell 0 rfl
                      have z1 := hVm.cell 1 rfl
                      have y0 := hVm.frz 0 (by simp)
                      have y1 := hVm.frz 1 (by simp)
                      go_simp
                      have hVz := hid0 (hVm.puts [.int .i64 3, .slice a7 1 c7] rfl)
                      have hB := below_setCells [.int .i64 3, .slice a7 1 c7] 0 hB hlo.out
                      refine hK.out _ _ hB (fun hHeld => ?_)
                      clear hK K
                      (try simp only [Act.put, List.setIfInBounds_toArray, List.set_cons_zero, List.set_cons_succ, List.getElem_toArray, List.getElem_cons_zero, List.getElem_cons_succ])
                      refine wpAnyH_done (by kernel_rfl) ?_ _
                      have HB := hid0 hB
                      clear hB hHeld hVm z0 z1 y0 y1
                      obtain ⟨W9, hW9⟩ : ∃ W', (Wp.setCell ⟨bm, 0, none⟩ (.int .i64 3)).setCell ⟨bm, 1, none⟩ (.slice a7 1 c7) = W' := ⟨_, rfl⟩
                      have hVz : VarB W9 bm [.int .i64 3, .slice a7 1 c7] := by rw [← hW9]; exact hVz.out
                      have hB : Below W0.heap.size W0 W9 := by rw [← hW9]; exact HB.out
                      rw [hW9]
                      clear hW9 HB
                      have l1 := cell_later hB (HS0.out.l.v.cell 1 rfl)
                      have q9 := cell_later hB HQ0.out
                      have z0 := hVz.cell 0 rfl
                      have z1 := hVz.cell 1 rfl
                      clear hVz
                      go_wp2_with fail
                      go_ret
                      exact ⟨rfl, below_through hB HS0.out.b.size HS0.out.b⟩
                    exact AllReadyH.nil
                  exact AllReadyH.nil
                exact AllReadyH.nil
              exact AllReadyH.nil
            exact AllReadyH.nil
          exact AllReadyH.nil
        exact AllReadyH.nil
      exact AllReadyH.nil
    exact AllReadyH.nil
  exact AllReadyH.nil
end Go.Proofs.Ytadidikegfiedaa
