/- A condition copied into memory of its own: contracts of the calls, in whatever memory. Conditions: a condition's cells are known. -/
import Derived.Test.YtolcebbpbihnoaaAa
namespace Go.Proofs.Ytolcebbpbihnoaa
open Go.RowKit

theorem VarB.mid {w : World} {B : Nat} {xs ys zs : List Value} (h : VarB w B (xs ++ (ys ++ zs))) (vs : List Value) (hl : vs.length = ys.length) : VarB (w.setCells B xs.length vs) B (xs ++ (vs ++ zs)) := by
  have hth : w.there B xs.length vs.length := fun j hj => by
    have := h.there (xs.length + j) (by simp; omega)
    rwa [Nat.zero_add] at this
  have hx : w.rangeAt B 0 xs := fun j v hv => h.at_ j v (by rw [List.getElem?_append_left (List.getElem?_eq_some_iff.1 hv).1]; exact hv)
  have hz : w.rangeAt B (xs.length + vs.length) zs := fun j v hv => by
    have := h.at_ (xs.length + (ys.length + j)) v (by rw [List.getElem?_append_right (by omega), List.getElem?_append_right (by omega), show xs.length + (ys.length + j) - xs.length - ys.length = j by omega]; exact hv)
    rwa [show 0 + (xs.length + (ys.length + j)) = xs.length + vs.length + j by omega] at this
  have h1 := World.rangeAt_setCells_apart hx B xs.length vs (.inr (.inl (by omega)))
  have h2 := World.rangeAt_setCells_same w B xs.length vs hth
  have h3 := World.rangeAt_setCells_apart hz B xs.length vs (.inr (.inr (by omega)))
  refine ⟨fun j v hv => ?_, ?_, by rw [size_setCells]; exact h.lt⟩
  · rcases Nat.lt_or_ge j xs.length with c1 | c1
    · rw [List.getElem?_append_left c1] at hv; exact h1 j v hv
    rw [List.getElem?_append_right c1] at hv
    rcases Nat.lt_or_ge (j - xs.length) vs.length with c2 | c2
    · rw [List.getElem?_append_left c2] at hv
      have := h2 _ v hv
      rwa [show xs.length + (j - xs.length) = 0 + j by omega] at this
    · rw [List.getElem?_append_right c2] at hv
      have := h3 _ v hv
      rwa [show xs.length + vs.length + (j - xs.length - vs.length) = 0 + j by omega] at this
  · have := World.there_setCells h.there B xs.length vs
    simpa [hl] using this
theorem VarB.room {w : World} {B : Nat} {us : List Value} (h : VarB w B us) (o n : Nat) (hn : o + n ≤ us.length) : w.there B o n := fun j hj => by
  have := h.there (o + j) (by omega)
  rwa [Nat.zero_add] at this
theorem wp_storeL {P : Program} {op : Oper} {a : Act} {w : World} {K : Act → World → Prop} {Q : Exit → Act → World → Prop} (ty : TypeId) (x y : Operand) (ho : op.op = .store ty x y)
    (b o : Nat) (vs : List Value) (hx : a.eval x = .pointer (some ⟨b, o, none⟩)) (hy : a.eval y = .agg vs.toArray)
    (ht : w.there b o vs.length) (hi : (P.info? ty).map (·.size) = some vs.length) (h1 : ∀ v ∈ vs, v.oneCell' = true)
    (h : ∀ w', w' = w.setCells b o vs → K (a.put op.dst undef) w') : op.wp P a w K Q :=
  wp_store_mid ty x y ho b o vs.toArray hx hy (by simpa using ht) (by simpa using hi) (all_oneCell_toArray h1) (by simpa using h _ rfl)
theorem CxAt.hlater {N n : Nat} {w w' : World} {y : Cx} (h : CxAt (hide (elder N) w) n y) (hb : Below w.heap.size w w') : CxAt (hide (elder N) w') n y := h.sub (Sub.hide hb.size fun b hlt hp => ⟨hp, hb.block b hlt⟩)
theorem CxAt.hput {N n B o : Nat} {w : World} {y : Cx} (h : CxAt (hide (elder N) w) n y) (vs : List Value) (hB : B < N) : CxAt (hide (elder N) (w.setCells B o vs)) n y := h.sub (Sub.hide (by rw [size_setCells]; exact Nat.le_refl _) fun b _ hp => ⟨hp, heap_setCells B vs o w b (by have := elder_no.1 hp; omega)⟩)
theorem CxAt.elder {N M n : Nat} {w : World} {y : Cx} (h : CxAt (hide (elder N) w) n y) (hM : M ≤ N) : CxAt (hide (elder M) w) n y := h.sub (Sub.hide (Nat.le_refl _) fun _ _ hp => ⟨elder_no.2 (Nat.le_trans hM (elder_no.1 hp)), rfl⟩)
structure OwnC (w : World) (n : Nat) (k op : Int) (l r : Cx) (e : Value) (W : World) (yl yr : Cx) : Prop where
  v : VarB W w.heap.size ([.int .i64 k, .int .i64 op] ++ (yl.cells ++ (yr.cells ++ [e])))
  vb : VarB W (w.heap.size + 1) [.int .i64 0, .int .i64 0, .int .i64 0, .int .i64 0, .int .i64 0, .int .i64 0, .string ⟨#[]⟩, .slice none 0 0, .int .i64 0, .int .i64 0, .int .i64 0, .int .i64 0, .string ⟨#[]⟩, .slice none 0 0, .slice none 0 0]
  cl : CxAt (hide (elder (w.heap.size + 2)) W) n yl
  cr : CxAt (hide (elder (w.heap.size + 2)) W) n yr
  dl : datC yl = datC l
  dr : datC yr = datC r
  b : Below w.heap.size w W
set_option maxHeartbeats 16000000 in
set_option maxRecDepth 1000000 in
theorem ownTest_step {n : Nat} (IH : OwnOkT n) (k op : Int) (l r : Cx) (p : Option Addr) (c : Nat) (ys : List Tx) (w : World) (hcl : CxAt w n l) (hcr : CxAt w n r) (hk : TxOk w p c ys) (hA : ∀ x ∈ ys, TxAt w n x) :
    Calls Try.prog 60 #[(Tx.mk k op l r p c ys).val] w (OwnAnsT w (n + 1) (.mk k op l r p c ys)) := by
  have HL : OwnHalf w n l := ⟨fun W hb => (ownCalc_ok n).out _ _ (hcl.later hb)⟩
  have HR : OwnHalf w n r := ⟨fun W hb => (ownCalc_ok n).out _ _ (hcr.later hb)⟩
  have HE : Hid (∀ W, Below w.heap.size w W → Calls Try.prog 71 #[.slice p ys.length c, .func (.func 60) #[] #[]] W fun e w' => (∃ p' c' zs, e = .returned (.slice p' (zs : List Tx).length c') ∧ zs.length ≤ c' ∧ RowC (hide (elder W.heap.size) w') 15 p' (zs.map Tx.cells) ∧ (∀ z ∈ zs, TxAt (hide (elder W.heap.size) w') n z) ∧ datTL zs = datTL ys) ∧ Below W.heap.size W w') := hid0 fun W hb => eachT_step IH p c ys W hk.room (hk.row.later hb) (fun x hx => (hA x hx).later hb)
  have HK := hid0 hk.room
  clear IH hcl hcr hA hk
  obtain ⟨kl, al, vl, pl, cl, yl⟩ := l
  obtain ⟨kr, ar, vr, pr, cr, yr⟩ := r
  obtain ⟨VA, VB⟩ := VarB.two (w := w) [.int .i64 k, .int .i64 op, .int .i64 kl, .int .i64 al, .int .i64 vl.k, .int .i64 vl.n, .string vl.s, .slice pl yl.length cl, .int .i64 kr, .int .i64 ar, .int .i64 vr.k, .int .i64 vr.n, .string vr.s, .slice pr yr.length cr, .slice p ys.length c] [.int .i64 0, .int .i64 0, .int .i64 0, .int .i64 0, .int .i64 0, .int .i64 0, .string ⟨#[]⟩, .slice none 0 0, .int .i64 0, .int .i64 0, .int .i64 0, .int .i64 0, .string ⟨#[]⟩, .slice none 0 0, .slice none 0 0] 38 38
  have hB0 : Below w.heap.size w ((w.alloc (.cells #[.int .i64 k, .int .i64 op, .int .i64 kl, .int .i64 al, .int .i64 vl.k, .int .i64 vl.n, .string vl.s, .slice pl yl.length cl, .int .i64 kr, .int .i64 ar, .int .i64 vr.k, .int .i64 vr.n, .string vr.s, .slice pr yr.length cr, .slice p ys.length c] 38)).alloc (.cells #[.int .i64 0, .int .i64 0, .int .i64 0, .int .i64 0, .int .i64 0, .int .i64 0, .string ⟨#[]⟩, .slice none 0 0, .int .i64 0, .int .i64 0, .int .i64 0, .int .i64 0, .string ⟨#[]⟩, .slice none 0 0, .slice none 0 0] 38)) := ((Below.refl _ _).alloc (Nat.le_refl _) _).alloc (by simp) _
  have VA := hid0 VA
  have VB := hid0 VB
  have hB0 := hid0 hB0
  show Calls Try.prog 60 #[.agg #[.int .i64 k, .int .i64 op, .int .i64 kl, .int .i64 al, .int .i64 vl.k, .int .i64 vl.n, .string vl.s, .slice pl yl.length cl, .int .i64 kr, .int .i64 ar, .int .i64 vr.k, .int .i64 vr.n, .string vr.s, .slice pr yr.length cr, .slice p ys.length c]] w _
  go_enter Try.func60, Try.ntmps60
  go_wp2_with fail
  go_cut [3] from 4 (fun _ wr => ∃ ql qr, OwnC w n k op (.mk kl al vl pl cl yl) (.mk kr ar vr pr cr yr) (.slice p ys.length c) wr ql qr)
  case first =>
    have hS := Below.drew hB0.out
    have hV := VA.out.drew
    have hVB := VB.out.drew
    have hm : w.heap.size + 2 ≤ (World.drew ((w.alloc (.cells #[.int .i64 k, .int .i64 op, .int .i64 kl, .int .i64 al, .int .i64 vl.k, .int .i64 vl.n, .string vl.s, .slice pl yl.length cl, .int .i64 kr, .int .i64 ar, .int .i64 vr.k, .int .i64 vr.n, .string vr.s, .slice pr yr.length cr, .slice p ys.length c] 38)).alloc (.cells #[.int .i64 0, .int .i64 0, .int .i64 0, .int .i64 0, .int .i64 0, .int .i64 0, .string ⟨#[]⟩, .slice none 0 0, .int .i64 0, .int .i64 0, .int .i64 0, .int .i64 0, .string ⟨#[]⟩, .slice none 0 0, .slice none 0 0] 38))).heap.size := by simp
    clear VA VB hB0 HE
    refine wp_region_held_drew (S := fun W => Below w.heap.size w W) (by kernel_rfl) hS (fun hHeld => ?_)
    generalize hW0 : World.drew _ = W0 at hS hV hVB hm hHeld ⊢
    clear hW0
    refine wpAnyH_take (i := 0) (v := ?_) rfl (by kernel_rfl) (by kernel_rfl) (by kernel_rfl) (fun _ _ _ h => h) (Or.inl ⟨by rfl, ?_⟩) (by assumption) ?_
    rotate_left
    · (intro wx hSw; go_simp; (try with_reducible rfl); (try omega))
    (try simp only [Act.put, List.setIfInBounds_toArray, List.set_cons_zero, List.set_cons_succ, List.getElem_toArray, List.getElem_cons_zero])
    refine wpAnyH_take (i := 3) (v := ?_) rfl (by kernel_rfl) (by kernel_rfl) (by kernel_rfl) (fun _ _ _ h => h) (Or.inl ⟨by rfl, ?_⟩) (by assumption) ?_
    rotate_left
    · (intro wx hSw; go_simp; (try with_reducible rfl); (try omega))
    (try simp only [Act.put, List.setIfInBounds_toArray, List.set_cons_zero, List.set_cons_succ, List.getElem_toArray, List.getElem_cons_zero, List.getElem_cons_succ])
    refine wpAnyH_ready (rs := [1, 4]) (by kernel_rfl) (by simp) ?_
    refine AllReadyH.cons rfl (fun K hK => ?_) ?_
    · (try simp only [Act.put, List.setIfInBounds_toArray, List.set_cons_zero, List.set_cons_succ, List.getElem_toArray, List.getElem_cons_zero, List.getElem_cons_succ])
      have a2 := hV.cell 2 rfl
      have a3 := hV.cell 3 rfl
      have a4 := hV.cell 4 rfl
      have a5 := hV.cell 5 rfl
      have a6 := hV.cell 6 rfl
      have a7 := hV.cell 7 rfl
      go_simp
      refine hK.out _ _ hS (fun hHeld => ?_)
      clear a2 a3 a4 a5 a6 a7
      clear hK K
      (try simp only [Act.put, List.setIfInBounds_toArray, List.set_cons_zero, List.set_cons_succ, List.getElem_toArray, List.getElem_cons_zero, List.getElem_cons_succ])
      refine wpAnyH_ready (rs := [2, 4]) (by kernel_rfl) (by simp) ?_
      refine AllReadyH.cons rfl (fun K hK => ?_) ?_
      · (try simp only [Act.put, List.setIfInBounds_toArray, List.set_cons_zero, List.set_cons_succ, List.getElem_toArray, List.getElem_cons_zero, List.getElem_cons_succ])
        go_simp
        refine (HL.out _ hS).mono ?_
        rintro e W1 ⟨⟨q2, rfl, hC2, hd2⟩, hb⟩
        have hC2 := hC2.elder hm
        have hV := hV.below hb
        have hVB := hVB.below hb
        have hS := below_through hb hS.size hS
        have hm := Nat.le_trans hm hb.size
        clear hb
        obtain ⟨k2, a2, v2, p2, c2, y2⟩ := q2
        dsimp only [Cx.val, Cx.cells]
        refine hK.out _ _ hS (fun hHeld => ?_)
        clear hK K
        (try simp only [Act.put, List.setIfInBounds_toArray, List.set_cons_zero, List.set_cons_succ, List.getElem_toArray, List.getElem_cons_zero, List.getElem_cons_succ])
        refine wpAnyH_ready (rs := [4]) (by kernel_rfl) (by simp) ?_
        refine AllReadyH.cons rfl (fun K hK => ?_) ?_
        · (try simp only [Act.put, List.setIfInBounds_toArray, List.set_cons_zero, List.set_cons_succ, List.getElem_toArray, List.getElem_cons_zero, List.getElem_cons_succ])
          have a8 := hV.cell 8 rfl
          have a9 := hV.cell 9 rfl
          have a10 := hV.cell 10 rfl
          have a11 := hV.cell 11 rfl
          have a12 := hV.cell 12 rfl
          have a13 := hV.cell 13 rfl
          go_simp
          refine hK.out _ _ hS (fun hHeld => ?_)
          clear a8 a9 a10 a11 a12 a13
          clear hK K
          (try simp only [Act.put, List.setIfInBounds_toArray, List.set_cons_zero, List.set_cons_succ, List.getElem_toArray, List.getElem_cons_zero, List.getElem_cons_succ])
          refine wpAnyH_take (i := 6) (v := ?_) rfl (by kernel_rfl) (by kernel_rfl) (by kernel_rfl) (fun _ _ _ h => h) (Or.inl ⟨by rfl, ?_⟩) (by assumption) ?_
          rotate_left
          · (intro wx hSw; go_simp; (try with_reducible rfl); (try omega))
          (try simp only [Act.put, List.setIfInBounds_toArray, List.set_cons_zero, List.set_cons_succ, List.getElem_toArray, List.getElem_cons_zero, List.getElem_cons_succ])
          refine wpAnyH_ready (rs := [5]) (by kernel_rfl) (by simp) ?_
          refine AllReadyH.cons rfl (fun K hK => ?_) ?_
          · (try simp only [Act.put, List.setIfInBounds_toArray, List.set_cons_zero, List.set_cons_succ, List.getElem_toArray, List.getElem_cons_zero, List.getElem_cons_succ])
            go_simp
            refine (HR.out _ hS).mono ?_
            rintro e W2 ⟨⟨q5, rfl, hC5, hd5⟩, hb⟩
            have hC5 := hC5.elder hm
            have hV := hV.below hb
            have hVB := hVB.below hb
            have hS := below_through hb hS.size hS
            have hm := Nat.le_trans hm hb.size
            have hC2 := hC2.hlater hb
            clear hb
            obtain ⟨k5, a5, v5, p5, c5, y5⟩ := q5
            dsimp only [Cx.val, Cx.cells]
            refine hK.out _ _ hS (fun hHeld => ?_)
            clear hK K
            (try simp only [Act.put, List.setIfInBounds_toArray, List.set_cons_zero, List.set_cons_succ, List.getElem_toArray, List.getElem_cons_zero, List.getElem_cons_succ])
            refine wpAnyH_ready (rs := [7]) (by kernel_rfl) (by simp) ?_
            refine AllReadyH.cons rfl (fun K hK => ?_) ?_
            · (try simp only [Act.put, List.getElem_toArray, List.getElem_cons_zero, List.getElem_cons_succ])
              refine wp_storeL _ _ _ rfl w.heap.size 2 [.int .i64 k2, .int .i64 a2, .int .i64 v2.k, .int .i64 v2.n, .string v2.s, .slice p2 y2.length c2] rfl rfl (hV.room 2 6 (by simp)) sizeX (by intro v hv; simp at hv; rcases hv with rfl | rfl | rfl | rfl | rfl | rfl <;> rfl) ?_
              intro W3 hW3
              have hV := VarB.mid (xs := [.int .i64 k, .int .i64 op]) (ys := [.int .i64 kl, .int .i64 al, .int .i64 vl.k, .int .i64 vl.n, .string vl.s, .slice pl yl.length cl]) (zs := [.int .i64 kr, .int .i64 ar, .int .i64 vr.k, .int .i64 vr.n, .string vr.s, .slice pr yr.length cr, .slice p ys.length c]) hV [.int .i64 k2, .int .i64 a2, .int .i64 v2.k, .int .i64 v2.n, .string v2.s, .slice p2 y2.length c2] rfl
              have hVB := hVB.other (b := w.heap.size) (o := 2) [.int .i64 k2, .int .i64 a2, .int .i64 v2.k, .int .i64 v2.n, .string v2.s, .slice p2 y2.length c2] (by omega)
              have hC2 := hC2.hput (B := w.heap.size) (o := 2) [.int .i64 k2, .int .i64 a2, .int .i64 v2.k, .int .i64 v2.n, .string v2.s, .slice p2 y2.length c2] (by omega)
              have hC5 := hC5.hput (B := w.heap.size) (o := 2) [.int .i64 k2, .int .i64 a2, .int .i64 v2.k, .int .i64 v2.n, .string v2.s, .slice p2 y2.length c2] (by omega)
              have hS := below_setCells [.int .i64 k2, .int .i64 a2, .int .i64 v2.k, .int .i64 v2.n, .string v2.s, .slice p2 y2.length c2] 2 (b := w.heap.size) hS (Nat.le_refl _)
              rw [← hW3] at hVB hC2 hC5 hS
              have hV : VarB W3 w.heap.size [.int .i64 k, .int .i64 op, .int .i64 k2, .int .i64 a2, .int .i64 v2.k, .int .i64 v2.n, .string v2.s, .slice p2 y2.length c2, .int .i64 kr, .int .i64 ar, .int .i64 vr.k, .int .i64 vr.n, .string vr.s, .slice pr yr.length cr, .slice p ys.length c] := by rw [hW3]; exact hV
              clear hW3
              refine hK.out _ _ hS (fun hHeld => ?_)
              clear hK K
              (try simp only [Act.put])
              refine wpAnyH_take (i := 8) (v := ?_) rfl (by kernel_rfl) (by kernel_rfl) (by kernel_rfl) (fun _ _ _ h => h) (Or.inl ⟨by rfl, ?_⟩) (by assumption) ?_
              rotate_left
              · (intro wx hSw; go_simp; (try with_reducible rfl); (try omega))
              (try simp only [Act.put, List.setIfInBounds_toArray, List.set_cons_zero, List.set_cons_succ, List.getElem_toArray, List.getElem_cons_zero, List.getElem_cons_succ])
              refine wpAnyH_ready (rs := [9]) (by kernel_rfl) (by simp) ?_
              refine AllReadyH.cons rfl (fun K hK => ?_) ?_
              · (try simp only [Act.put, List.getElem_toArray, List.getElem_cons_zero, List.getElem_cons_succ])
                refine wp_storeL _ _ _ rfl w.heap.size 8 [.int .i64 k5, .int .i64 a5, .int .i64 v5.k, .int .i64 v5.n, .string v5.s, .slice p5 y5.length c5] rfl rfl (hV.room 8 6 (by simp)) sizeX (by intro v hv; simp at hv; rcases hv with rfl | rfl | rfl | rfl | rfl | rfl <;> rfl) ?_
                intro W4 hW4
                have hV := VarB.mid (xs := [.int .i64 k, .int .i64 op, .int .i64 k2, .int .i64 a2, .int .i64 v2.k, .int .i64 v2.n, .string v2.s, .slice p2 y2.length c2]) (ys := [.int .i64 kr, .int .i64 ar, .int .i64 vr.k, .int .i64 vr.n, .string vr.s, .slice pr yr.length cr]) (zs := [.slice p ys.length c]) hV [.int .i64 k5, .int .i64 a5, .int .i64 v5.k, .int .i64 v5.n, .string v5.s, .slice p5 y5.length c5] rfl
                have hVB := hVB.other (b := w.heap.size) (o := 8) [.int .i64 k5, .int .i64 a5, .int .i64 v5.k, .int .i64 v5.n, .string v5.s, .slice p5 y5.length c5] (by omega)
                have hC2 := hC2.hput (B := w.heap.size) (o := 8) [.int .i64 k5, .int .i64 a5, .int .i64 v5.k, .int .i64 v5.n, .string v5.s, .slice p5 y5.length c5] (by omega)
                have hC5 := hC5.hput (B := w.heap.size) (o := 8) [.int .i64 k5, .int .i64 a5, .int .i64 v5.k, .int .i64 v5.n, .string v5.s, .slice p5 y5.length c5] (by omega)
                have hS := below_setCells [.int .i64 k5, .int .i64 a5, .int .i64 v5.k, .int .i64 v5.n, .string v5.s, .slice p5 y5.length c5] 8 (b := w.heap.size) hS (Nat.le_refl _)
                rw [← hW4] at hVB hC2 hC5 hS
                have hV : VarB W4 w.heap.size [.int .i64 k, .int .i64 op, .int .i64 k2, .int .i64 a2, .int .i64 v2.k, .int .i64 v2.n, .string v2.s, .slice p2 y2.length c2, .int .i64 k5, .int .i64 a5, .int .i64 v5.k, .int .i64 v5.n, .string v5.s, .slice p5 y5.length c5, .slice p ys.length c] := by rw [hW4]; exact hV
                clear hW4
                refine hK.out _ _ hS (fun hHeld => ?_)
                clear hK K
                (try simp only [Act.put])
                refine wpAnyH_done (by kernel_rfl) ?_ _
                go_wp2_with fail
                go_meet
                case rel => exact ⟨.mk k2 a2 v2 p2 c2 y2, .mk k5 a5 v5 p5 c5 y5, hV, hVB, hC2, hC5, hd2, hd5, hS⟩
              exact AllReadyH.nil
            exact AllReadyH.nil
          exact AllReadyH.nil
        exact AllReadyH.nil
      refine AllReadyH.cons rfl (fun K hK => ?_) ?_
      · (try simp only [Act.put, List.setIfInBounds_toArray, List.set_cons_zero, List.set_cons_succ, List.getElem_toArray, List.getElem_cons_zero, List.getElem_cons_succ])
        have a8 := hV.cell 8 rfl
        have a9 := hV.cell 9 rfl
        have a10 := hV.cell 10 rfl
        have a11 := hV.cell 11 rfl
        have a12 := hV.cell 12 rfl
        have a13 := hV.cell 13 rfl
        go_simp
        refine hK.out _ _ hS (fun hHeld => ?_)
        clear a8 a9 a10 a11 a12 a13
        clear hK K
        (try simp only [Act.put, List.setIfInBounds_toArray, List.set_cons_zero, List.set_cons_succ, List.getElem_toArray, List.getElem_cons_zero, List.getElem_cons_succ])
        refine wpAnyH_ready (rs := [2]) (by kernel_rfl) (by simp) ?_
        refine AllReadyH.cons rfl (fun K hK => ?_) ?_
        · (try simp only [Act.put, List.setIfInBounds_toArray, List.set_cons_zero, List.set_cons_succ, List.getElem_toArray, List.getElem_cons_zero, List.getElem_cons_succ])
          go_simp
          refine (HL.out _ hS).mono ?_
          rintro e W1 ⟨⟨q2, rfl, hC2, hd2⟩, hb⟩
          have hC2 := hC2.elder hm
          have hV := hV.below hb
          have hVB := hVB.below hb
          have hS := below_through hb hS.size hS
          have hm := Nat.le_trans hm hb.size
          clear hb
          obtain ⟨k2, a2, v2, p2, c2, y2⟩ := q2
          dsimp only [Cx.val, Cx.cells]
          refine hK.out _ _ hS (fun hHeld => ?_)
          clear hK K
          (try simp only [Act.put, List.setIfInBounds_toArray, List.set_cons_zero, List.set_cons_succ, List.getElem_toArray, List.getElem_cons_zero, List.getElem_cons_succ])
          refine wpAnyH_take (i := 6) (v := ?_) rfl (by kernel_rfl) (by kernel_rfl) (by kernel_rfl) (fun _ _ _ h => h) (Or.inl ⟨by rfl, ?_⟩) (by assumption) ?_
          rotate_left
          · (intro wx hSw; go_simp; (try with_reducible rfl); (try omega))
          (try simp only [Act.put, List.setIfInBounds_toArray, List.set_cons_zero, List.set_cons_succ, List.getElem_toArray, List.getElem_cons_zero, List.getElem_cons_succ])
          refine wpAnyH_ready (rs := [5]) (by kernel_rfl) (by simp) ?_
          refine AllReadyH.cons rfl (fun K hK => ?_) ?_
          · (try simp only [Act.put, List.setIfInBounds_toArray, List.set_cons_zero, List.set_cons_succ, List.getElem_toArray, List.getElem_cons_zero, List.getElem_cons_succ])
            go_simp
            refine (HR.out _ hS).mono ?_
            rintro e W2 ⟨⟨q5, rfl, hC5, hd5⟩, hb⟩
            have hC5 := hC5.elder hm
            have hV := hV.below hb
            have hVB := hVB.below hb
            have hS := below_through hb hS.size hS
            have hm := Nat.le_trans hm hb.size
            have hC2 := hC2.hlater hb
            clear hb
            obtain ⟨k5, a5, v5, p5, c5, y5⟩ := q5
            dsimp only [Cx.val, Cx.cells]
            refine hK.out _ _ hS (fun hHeld => ?_)
            clear hK K
            (try simp only [Act.put, List.setIfInBounds_toArray, List.set_cons_zero, List.set_cons_succ, List.getElem_toArray, List.getElem_cons_zero, List.getElem_cons_succ])
            refine wpAnyH_ready (rs := [7]) (by kernel_rfl) (by simp) ?_
            refine AllReadyH.cons rfl (fun K hK => ?_) ?_
            · (try simp only [Act.put, List.getElem_toArray, List.getElem_cons_zero, List.getElem_cons_succ])
              refine wp_storeL _ _ _ rfl w.heap.size 2 [.int .i64 k2, .int .i64 a2, .int .i64 v2.k, .int .i64 v2.n, .string v2.s, .slice p2 y2.length c2] rfl rfl (hV.room 2 6 (by simp)) sizeX (by intro v hv; simp at hv; rcases hv with rfl | rfl | rfl | rfl | rfl | rfl <;> rfl) ?_
              intro W3 hW3
              have hV := VarB.mid (xs := [.int .i64 k, .int .i64 op]) (ys := [.int .i64 kl, .int .i64 al, .int .i64 vl.k, .int .i64 vl.n, .string vl.s, .slice pl yl.length cl]) (zs := [.int .i64 kr, .int .i64 ar, .int .i64 vr.k, .int .i64 vr.n, .string vr.s, .slice pr yr.length cr, .slice p ys.length c]) hV [.int .i64 k2, .int .i64 a2, .int .i64 v2.k, .int .i64 v2.n, .string v2.s, .slice p2 y2.length c2] rfl
              have hVB := hVB.other (b := w.heap.size) (o := 2) [.int .i64 k2, .int .i64 a2, .int .i64 v2.k, .int .i64 v2.n, .string v2.s, .slice p2 y2.length c2] (by omega)
              have hC2 := hC2.hput (B := w.heap.size) (o := 2) [.int .i64 k2, .int .i64 a2, .int .i64 v2.k, .int .i64 v2.n, .string v2.s, .slice p2 y2.length c2] (by omega)
              have hC5 := hC5.hput (B := w.heap.size) (o := 2) [.int .i64 k2, .int .i64 a2, .int .i64 v2.k, .int .i64 v2.n, .string v2.s, .slice p2 y2.length c2] (by omega)
              have hS := below_setCells [.int .i64 k2, .int .i64 a2, .int .i64 v2.k, .int .i64 v2.n, .string v2.s, .slice p2 y2.length c2] 2 (b := w.heap.size) hS (Nat.le_refl _)
              rw [← hW3] at hVB hC2 hC5 hS
              have hV : VarB W3 w.heap.size [.int .i64 k, .int .i64 op, .int .i64 k2, .int .i64 a2, .int .i64 v2.k, .int .i64 v2.n, .string v2.s, .slice p2 y2.length c2, .int .i64 kr, .int .i64 ar, .int .i64 vr.k, .int .i64 vr.n, .string vr.s, .slice pr yr.length cr, .slice p ys.length c] := by rw [hW3]; exact hV
              clear hW3
              refine hK.out _ _ hS (fun hHeld => ?_)
              clear hK K
              (try simp only [Act.put])
              refine wpAnyH_take (i := 8) (v := ?_) rfl (by kernel_rfl) (by kernel_rfl) (by kernel_rfl) (fun _ _ _ h => h) (Or.inl ⟨by rfl, ?_⟩) (by assumption) ?_
              rotate_left
              · (intro wx hSw; go_simp; (try with_reducible rfl); (try omega))
              (try simp only [Act.put, List.setIfInBounds_toArray, List.set_cons_zero, List.set_cons_succ, List.getElem_toArray, List.getElem_cons_zero, List.getElem_cons_succ])
              refine wpAnyH_ready (rs := [9]) (by kernel_rfl) (by simp) ?_
              refine AllReadyH.cons rfl (fun K hK => ?_) ?_
              · (try simp only [Act.put, List.getElem_toArray, List.getElem_cons_zero, List.getElem_cons_succ])
                refine wp_storeL _ _ _ rfl w.heap.size 8 [.int .i64 k5, .int .i64 a5, .int .i64 v5.k, .int .i64 v5.n, .string v5.s, .slice p5 y5.length c5] rfl rfl (hV.room 8 6 (by simp)) sizeX (by intro v hv; simp at hv; rcases hv with rfl | rfl | rfl | rfl | rfl | rfl <;> rfl) ?_
                intro W4 hW4
                have hV := VarB.mid (xs := [.int .i64 k, .int .i64 op, .int .i64 k2, .int .i64 a2, .int .i64 v2.k, .int .i64 v2.n, .string v2.s, .slice p2 y2.length c2]) (ys := [.int .i64 kr, .int .i64 ar, .int .i64 vr.k, .int .i64 vr.n, .string vr.s, .slice pr yr.length cr]) (zs := [.slice p ys.length c]) hV [.int .i64 k5, .int .i64 a5, .int .i64 v5.k, .int .i64 v5.n, .string v5.s, .slice p5 y5.length c5] rfl
                have hVB := hVB.other (b := w.heap.size) (o := 8) [.int .i64 k5, .int .i64 a5, .int .i64 v5.k, .int .i64 v5.n, .string v5.s, .slice p5 y5.length c5] (by omega)
                have hC2 := hC2.hput (B := w.heap.size) (o := 8) [.int .i64 k5, .int .i64 a5, .int .i64 v5.k, .int .i64 v5.n, .string v5.s, .slice p5 y5.length c5] (by omega)
                have hC5 := hC5.hput (B := w.heap.size) (o := 8) [.int .i64 k5, .int .i64 a5, .int .i64 v5.k, .int .i64 v5.n, .string v5.s, .slice p5 y5.length c5] (by omega)
                have hS := below_setCells [.int .i64 k5, .int .i64 a5, .int .i64 v5.k, .int .i64 v5.n, .string v5.s, .slice p5 y5.length c5] 8 (b := w.heap.size) hS (Nat.le_refl _)
                rw [← hW4] at hVB hC2 hC5 hS
                have hV : VarB W4 w.heap.size [.int .i64 k, .int .i64 op, .int .i64 k2, .int .i64 a2, .int .i64 v2.k, .int .i64 v2.n, .string v2.s, .slice p2 y2.length c2, .int .i64 k5, .int .i64 a5, .int .i64 v5.k, .int .i64 v5.n, .string v5.s, .slice p5 y5.length c5, .slice p ys.length c] := by rw [hW4]; exact hV
                clear hW4
                refine hK.out _ _ hS (fun hHeld => ?_)
                clear hK K
                (try simp only [Act.put])
                refine wpAnyH_done (by kernel_rfl) ?_ _
                go_wp2_with fail
                go_meet
                case rel => exact ⟨.mk k2 a2 v2 p2 c2 y2, .mk k5 a5 v5 p5 c5 y5, hV, hVB, hC2, hC5, hd2, hd5, hS⟩
              exact AllReadyH.nil
            exact AllReadyH.nil
          exact AllReadyH.nil
        exact AllReadyH.nil
      exact AllReadyH.nil
    refine AllReadyH.cons rfl (fun K hK => ?_) ?_
    · (try simp only [Act.put, List.setIfInBounds_toArray, List.set_cons_zero, List.set_cons_succ, List.getElem_toArray, List.getElem_cons_zero, List.getElem_cons_succ])
      have a8 := hV.cell 8 rfl
      have a9 := hV.cell 9 rfl
      have a10 := hV.cell 10 rfl
      have a11 := hV.cell 11 rfl
      have a12 := hV.cell 12 rfl
      have a13 := hV.cell 13 rfl
      go_simp
      refine hK.out _ _ hS (fun hHeld => ?_)
      clear a8 a9 a10 a11 a12 a13
      clear hK K
      (try simp only [Act.put, List.setIfInBounds_toArray, List.set_cons_zero, List.set_cons_succ, List.getElem_toArray, List.getElem_cons_zero, List.getElem_cons_succ])
      refine wpAnyH_ready (rs := [1]) (by kernel_rfl) (by simp) ?_
      refine AllReadyH.cons rfl (fun K hK => ?_) ?_
      · (try simp only [Act.put, List.setIfInBounds_toArray, List.set_cons_zero, List.set_cons_succ, List.getElem_toArray, List.getElem_cons_zero, List.getElem_cons_succ])
        have a2 := hV.cell 2 rfl
        have a3 := hV.cell 3 rfl
        have a4 := hV.cell 4 rfl
        have a5 := hV.cell 5 rfl
        have a6 := hV.cell 6 rfl
        have a7 := hV.cell 7 rfl
        go_simp
        refine hK.out _ _ hS (fun hHeld => ?_)
        clear a2 a3 a4 a5 a6 a7
        clear hK K
        (try simp only [Act.put, List.setIfInBounds_toArray, List.set_cons_zero, List.set_cons_succ, List.getElem_toArray, List.getElem_cons_zero, List.getElem_cons_succ])
        refine wpAnyH_ready (rs := [2]) (by kernel_rfl) (by simp) ?_
        refine AllReadyH.cons rfl (fun K hK => ?_) ?_
        · (try simp only [Act.put, List.setIfInBounds_toArray, List.set_cons_zero, List.set_cons_succ, List.getElem_toArray, List.getElem_cons_zero, List.getElem_cons_succ])
          go_simp
          refine (HL.out _ hS).mono ?_
          rintro e W1 ⟨⟨q2, rfl, hC2, hd2⟩, hb⟩
          have hC2 := hC2.elder hm
          have hV := hV.below hb
          have hVB := hVB.below hb
          have hS := below_through hb hS.size hS
          have hm := Nat.le_trans hm hb.size
          clear hb
          obtain ⟨k2, a2, v2, p2, c2, y2⟩ := q2
          dsimp only [Cx.val, Cx.cells]
          refine hK.out _ _ hS (fun hHeld => ?_)
          clear hK K
          (try simp only [Act.put, List.setIfInBounds_toArray, List.set_cons_zero, List.set_cons_succ, List.getElem_toArray, List.getElem_cons_zero, List.getElem_cons_succ])
          refine wpAnyH_take (i := 6) (v := ?_) rfl (by kernel_rfl) (by kernel_rfl) (by kernel_rfl) (fun _ _ _ h => h) (Or.inl ⟨by rfl, ?_⟩) (by assumption) ?_
          rotate_left
          · (intro wx hSw; go_simp; (try with_reducible rfl); (try omega))
          (try simp only [Act.put, List.setIfInBounds_toArray, List.set_cons_zero, List.set_cons_succ, List.getElem_toArray, List.getElem_cons_zero, List.getElem_cons_succ])
          refine wpAnyH_ready (rs := [5]) (by kernel_rfl) (by simp) ?_
          refine AllReadyH.cons rfl (fun K hK => ?_) ?_
          · (try simp only [Act.put, List.setIfInBounds_toArray, List.set_cons_zero, List.set_cons_succ, List.getElem_toArray, List.getElem_cons_zero, List.getElem_cons_succ])
            go_simp
            refine (HR.out _ hS).mono ?_
            rintro e W2 ⟨⟨q5, rfl, hC5, hd5⟩, hb⟩
            have hC5 := hC5.elder hm
            have hV := hV.below hb
            have hVB := hVB.below hb
            have hS := below_through hb hS.size hS
            have hm := Nat.le_trans hm hb.size
            have hC2 := hC2.hlater hb
            clear hb
            obtain ⟨k5, a5, v5, p5, c5, y5⟩ := q5
            dsimp only [Cx.val, Cx.cells]
            refine hK.out _ _ hS (fun hHeld => ?_)
            clear hK K
            (try simp only [Act.put, List.setIfInBounds_toArray, List.set_cons_zero, List.set_cons_succ, List.getElem_toArray, List.getElem_cons_zero, List.getElem_cons_succ])
            refine wpAnyH_ready (rs := [7]) (by kernel_rfl) (by simp) ?_
            refine AllReadyH.cons rfl (fun K hK => ?_) ?_
            · (try simp only [Act.put, List.getElem_toArray, List.getElem_cons_zero, List.getElem_cons_succ])
              refine wp_storeL _ _ _ rfl w.heap.size 2 [.int .i64 k2, .int .i64 a2, .int .i64 v2.k, .int .i64 v2.n, .string v2.s, .slice p2 y2.length c2] rfl rfl (hV.room 2 6 (by simp)) sizeX (by intro v hv; simp at hv; rcases hv with rfl | rfl | rfl | rfl | rfl | rfl <;> rfl) ?_
              intro W3 hW3
              have hV := VarB.mid (xs := [.int .i64 k, .int .i64 op]) (ys := [.int .i64 kl, .int .i64 al, .int .i64 vl.k, .int .i64 vl.n, .string vl.s, .slice pl yl.length cl]) (zs := [.int .i64 kr, .int .i64 ar, .int .i64 vr.k, .int .i64 vr.n, .string vr.s, .slice pr yr.length cr, .slice p ys.length c]) hV [.int .i64 k2, .int .i64 a2, .int .i64 v2.k, .int .i64 v2.n, .string v2.s, .slice p2 y2.length c2] rfl
              have hVB := hVB.other (b := w.heap.size) (o := 2) [.int .i64 k2, .int .i64 a2, .int .i64 v2.k, .int .i64 v2.n, .string v2.s, .slice p2 y2.length c2] (by omega)
              have hC2 := hC2.hput (B := w.heap.size) (o := 2) [.int .i64 k2, .int .i64 a2, .int .i64 v2.k, .int .i64 v2.n, .string v2.s, .slice p2 y2.length c2] (by omega)
              have hC5 := hC5.hput (B := w.heap.size) (o := 2) [.int .i64 k2, .int .i64 a2, .int .i64 v2.k, .int .i64 v2.n, .string v2.s, .slice p2 y2.length c2] (by omega)
              have hS := below_setCells [.int .i64 k2, .int .i64 a2, .int .i64 v2.k, .int .i64 v2.n, .string v2.s, .slice p2 y2.length c2] 2 (b := w.heap.size) hS (Nat.le_refl _)
              rw [← hW3] at hVB hC2 hC5 hS
              have hV : VarB W3 w.heap.size [.int .i64 k, .int .i64 op, .int .i64 k2, .int .i64 a2, .int .i64 v2.k, .int .i64 v2.n, .string v2.s, .slice p2 y2.length c2, .int .i64 kr, .int .i64 ar, .int .i64 vr.k, .int .i64 vr.n, .string vr.s, .slice pr yr.length cr, .slice p ys.length c] := by rw [hW3]; exact hV
              clear hW3
              refine hK.out _ _ hS (fun hHeld => ?_)
              clear hK K
              (try simp only [Act.put])
              refine wpAnyH_take (i := 8) (v := ?_) rfl (by kernel_rfl) (by kernel_rfl) (by kernel_rfl) (fun _ _ _ h => h) (Or.inl ⟨by rfl, ?_⟩) (by assumption) ?_
              rotate_left
              · (intro wx hSw; go_simp; (try with_reducible rfl); (try omega))
              (try simp only [Act.put, List.setIfInBounds_toArray, List.set_cons_zero, List.set_cons_succ, List.getElem_toArray, List.getElem_cons_zero, List.getElem_cons_succ])
              refine wpAnyH_ready (rs := [9]) (by kernel_rfl) (by simp) ?_
              refine AllReadyH.cons rfl (fun K hK => ?_) ?_
              · (try simp only [Act.put, List.getElem_toArray, List.getElem_cons_zero, List.getElem_cons_succ])
                refine wp_storeL _ _ _ rfl w.heap.size 8 [.int .i64 k5, .int .i64 a5, .int .i64 v5.k, .int .i64 v5.n, .string v5.s, .slice p5 y5.length c5] rfl rfl (hV.room 8 6 (by simp)) sizeX (by intro v hv; simp at hv; rcases hv with rfl | rfl | rfl | rfl | rfl | rfl <;> rfl) ?_
                intro W4 hW4
                have hV := VarB.mid (xs := [.int .i64 k, .int .i64 op, .int .i64 k2, .int .i64 a2, .int .i64 v2.k, .int .i64 v2.n, .string v2.s, .slice p2 y2.length c2]) (ys := [.int .i64 kr, .int .i64 ar, .int .i64 vr.k, .int .i64 vr.n, .string vr.s, .slice pr yr.length cr]) (zs := [.slice p ys.length c]) hV [.int .i64 k5, .int .i64 a5, .int .i64 v5.k, .int .i64 v5.n, .string v5.s, .slice p5 y5.length c5] rfl
                have hVB := hVB.other (b := w.heap.size) (o := 8) [.int .i64 k5, .int .i64 a5, .int .i64 v5.k, .int .i64 v5.n, .string v5.s, .slice p5 y5.length c5] (by omega)
                have hC2 := hC2.hput (B := w.heap.size) (o := 8) [.int .i64 k5, .int .i64 a5, .int .i64 v5.k, .int .i64 v5.n, .string v5.s, .slice p5 y5.length c5] (by omega)
                have hC5 := hC5.hput (B := w.heap.size) (o := 8) [.int .i64 k5, .int .i64 a5, .int .i64 v5.k, .int .i64 v5.n, .string v5.s, .slice p5 y5.length c5] (by omega)
                have hS := below_setCells [.int .i64 k5, .int .i64 a5, .int .i64 v5.k, .int .i64 v5.n, .string v5.s, .slice p5 y5.length c5] 8 (b := w.heap.size) hS (Nat.le_refl _)
                rw [← hW4] at hVB hC2 hC5 hS
                have hV : VarB W4 w.heap.size [.int .i64 k, .int .i64 op, .int .i64 k2, .int .i64 a2, .int .i64 v2.k, .int .i64 v2.n, .string v2.s, .slice p2 y2.length c2, .int .i64 k5, .int .i64 a5, .int .i64 v5.k, .int .i64 v5.n, .string v5.s, .slice p5 y5.length c5, .slice p ys.length c] := by rw [hW4]; exact hV
                clear hW4
                refine hK.out _ _ hS (fun hHeld => ?_)
                clear hK K
                (try simp only [Act.put])
                refine wpAnyH_done (by kernel_rfl) ?_ _
                go_wp2_with fail
                go_meet
                case rel => exact ⟨.mk k2 a2 v2 p2 c2 y2, .mk k5 a5 v5 p5 c5 y5, hV, hVB, hC2, hC5, hd2, hd5, hS⟩
              exact AllReadyH.nil
            exact AllReadyH.nil
          exact AllReadyH.nil
        exact AllReadyH.nil
      exact AllReadyH.nil
    exact AllReadyH.nil
  case rest =>
    obtain ⟨⟨k2, a2, v2, p2, c2, y2⟩, ⟨k5, a5, v5, p5, c5, y5⟩, I⟩ := hcut
    generalize wc = W at I ⊢
    have H := hid0 (HE.out W I.b)
    have V : VarB W w.heap.size [.int .i64 k, .int .i64 op, .int .i64 k2, .int .i64 a2, .int .i64 v2.k, .int .i64 v2.n, .string v2.s, .slice p2 y2.length c2, .int .i64 k5, .int .i64 a5, .int .i64 v5.k, .int .i64 v5.n, .string v5.s, .slice p5 y5.length c5, .slice p ys.length c] := I.v
    have VB := I.vb
    have hzW := VB.lt
    have a14 := V.cell 14 rfl
    have I := hid0 I
    have V := hid0 V
    clear HE HL HR VA hB0
    go_wp2_with fail
    go_at_call 71
    refine H.out.mono ?_
    rintro e w3 ⟨⟨p', c', zs, rfl, hc', hR, hZ, hd⟩, hb⟩
    have V3 := V.out.below hb
    have VB3 := VB.below hb
    have a14 := V3.cell 14 rfl
    have g14 := V3.frz 14 (by simp)
    have C2 := I.out.cl.hlater hb
    have C5 := I.out.cr.hlater hb
    have hB3 := below_through hb I.out.b.size I.out.b
    have V4 : VarB (w3.setCell ⟨w.heap.size, 14, none⟩ (.slice p' zs.length c')) w.heap.size [.int .i64 k, .int .i64 op, .int .i64 k2, .int .i64 a2, .int .i64 v2.k, .int .i64 v2.n, .string v2.s, .slice p2 y2.length c2, .int .i64 k5, .int .i64 a5, .int .i64 v5.k, .int .i64 v5.n, .string v5.s, .slice p5 y5.length c5, .slice p' zs.length c'] := VarB.mid (xs := [.int .i64 k, .int .i64 op, .int .i64 k2, .int .i64 a2, .int .i64 v2.k, .int .i64 v2.n, .string v2.s, .slice p2 y2.length c2, .int .i64 k5, .int .i64 a5, .int .i64 v5.k, .int .i64 v5.n, .string v5.s, .slice p5 y5.length c5]) (ys := [.slice p ys.length c]) (zs := []) V3 [.slice p' zs.length c'] rfl
    have VB4 : VarB (w3.setCell ⟨w.heap.size, 14, none⟩ (.slice p' zs.length c')) (w.heap.size + 1) [.int .i64 0, .int .i64 0, .int .i64 0, .int .i64 0, .int .i64 0, .int .i64 0, .string ⟨#[]⟩, .slice none 0 0, .int .i64 0, .int .i64 0, .int .i64 0, .int .i64 0, .string ⟨#[]⟩, .slice none 0 0, .slice none 0 0] := VB3.other (b := w.heap.size) (o := 14) [.slice p' zs.length c'] (by omega)
    have h1 : ∀ v ∈ ([.int .i64 k, .int .i64 op, .int .i64 k2, .int .i64 a2, .int .i64 v2.k, .int .i64 v2.n, .string v2.s, .slice p2 y2.length c2, .int .i64 k5, .int .i64 a5, .int .i64 v5.k, .int .i64 v5.n, .string v5.s, .slice p5 y5.length c5, .slice p' zs.length c'] : List Value), v.oneCell' = true := by intro v hv; simp at hv; rcases hv with rfl | rfl | rfl | rfl | rfl | rfl | rfl | rfl | rfl | rfl | rfl | rfl | rfl | rfl | rfl <;> rfl
    have V4 := hid0 V4
    have VB4 := hid0 VB4
    have HF := hid0 (And.intro hc' (And.intro hR (And.intro hZ (And.intro hd (And.intro C2 (And.intro C5 hB3))))))
    clear hc' hR hZ hd C2 C5 hB3 V3 VB3 VB hb H V
    go_wp2_with (first | ((with_reducible refine wp_getB V4.out.at_ Try.underlying38 ?_ ?_ ?_ ?_); (rfl); (exact sizeTT); (rfl); simp only [Act.put]) | ((with_reducible refine wp_putB VB4.out h1 ?_ ?_ ?_ ?_ ?_); (rfl); (exact sizeTT); (rfl); (rfl); intro w5 hV5 hw5; simp only [Act.put]) | fail)
    obtain ⟨hc', hR, hZ, hd, C2, C5, hB3⟩ := HF.out
    have hw5 : w5 = (w3.setCells w.heap.size 14 [.slice p' zs.length c']).setCells (w.heap.size + 1) 0 [.int .i64 k, .int .i64 op, .int .i64 k2, .int .i64 a2, .int .i64 v2.k, .int .i64 v2.n, .string v2.s, .slice p2 y2.length c2, .int .i64 k5, .int .i64 a5, .int .i64 v5.k, .int .i64 v5.n, .string v5.s, .slice p5 y5.length c5, .slice p' zs.length c'] := hw5.out
    have b5 : Below w.heap.size w w5 := by rw [hw5]; exact below_setCells _ 0 (below_setCells [.slice p' zs.length c'] 14 hB3 (Nat.le_refl _)) (by omega)
    have s5 : w5.heap.size = w3.heap.size := by rw [hw5, size_setCells, size_setCells]
    have t5 : ∀ b, w.heap.size + 2 ≤ b → w5.heap[b]? = w3.heap[b]? := fun b hb => by rw [hw5]; exact (heap_setCells _ _ _ _ b (by omega)).trans (heap_setCells _ _ _ _ b (by omega))
    clear hw5
    have S1 : Sub (hide (elder W.heap.size) w3) (hide (elder w.heap.size) w5) := Sub.hide (Nat.le_of_eq s5.symm) fun b _ hp => ⟨elder_no.2 (by have := elder_no.1 hp; omega), t5 b (by have := elder_no.1 hp; omega)⟩
    have S2 : Sub (hide (elder (w.heap.size + 2)) w3) (hide (elder w.heap.size) w5) := Sub.hide (Nat.le_of_eq s5.symm) fun b _ hp => ⟨elder_no.2 (by have := elder_no.1 hp; omega), t5 b (elder_no.1 hp)⟩
    refine end_blk hV5 rfl rfl _ Try.underlying38 rfl sizeTT rfl ?_
    exact ⟨⟨.mk k op (.mk k2 a2 v2 p2 c2 y2) (.mk k5 a5 v5 p5 c5 y5) p' c' zs, rfl, ⟨⟨C2.sub S2, C5.sub S2⟩, ⟨hc', by rw [datTL_len hd]; exact HK.out, hR.sub S1⟩, fun z hz => (hZ z hz).sub S1⟩, by rw [datT, datT, I.out.dl, I.out.dr, hd]⟩, b5⟩
theorem ownTest_ok : ∀ n, OwnOkT n
  | 0 => ⟨fun x w h => by cases h⟩
  | n + 1 => ⟨fun x w h => by
    obtain ⟨k, op, l, r, p, c, ys⟩ := x
    exact ownTest_step (ownTest_ok n) k op l r p c ys w h.1.1 h.1.2 h.2.1 h.2.2⟩
end Go.Proofs.Ytolcebbpbihnoaa
