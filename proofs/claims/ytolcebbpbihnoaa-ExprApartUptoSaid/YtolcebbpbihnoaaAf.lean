/- Two conditions that are alike, compared by the reference: true: a contract of the call. Conditions: their cells are known. -/
import Derived.Test.YtolcebbpbihnoaaAe
namespace Go.Proofs.Ytolcebbpbihnoaa
open Go.RowKit

structure SamHalf (w : World) (x y : Tx) : Prop where
  out : ∀ W, Below w.heap.size w W → Calls Try.prog 20 #[x.val, y.val] W (Yes W)
structure SamOk (n : Nat) : Prop where
  out : ∀ (m : Nat) (x y : Tx) (w : World), TxAt w n x → TxAt w m y → datT x = datT y → Calls Try.prog 20 #[x.val, y.val] w (Yes w)
set_option maxHeartbeats 16000000 in
set_option maxRecDepth 1000000 in
theorem sameT_step {n m : Nat} (IH : SamOk n) (k op kl al : Int) (vl : Val) (pl : Option Addr) (cl : Nat) (yl : List Cx) (kr ar : Int) (vr : Val) (pr : Option Addr) (cr : Nat) (yr : List Cx) (p : Option Addr) (c : Nat) (ys : List Tx)
    (kL aL : Int) (vL : Val) (pL : Option Addr) (cL : Nat) (yL : List Cx) (kR aR : Int) (vR : Val) (pR : Option Addr) (cR : Nat) (yR : List Cx) (p' : Option Addr) (c' : Nat) (ys' : List Tx) (w : World)
    (hx : TxAt w (n + 1) (.mk k op (.mk kl al vl pl cl yl) (.mk kr ar vr pr cr yr) p c ys)) (hy : TxAt w (m + 1) (.mk k op (.mk kL aL vL pL cL yL) (.mk kR aR vR pR cR yR) p' c' ys')) (hdl : datC (.mk kl al vl pl cl yl) = datC (.mk kL aL vL pL cL yL)) (hdr : datC (.mk kr ar vr pr cr yr) = datC (.mk kR aR vR pR cR yR)) (hd : datTL ys = datTL ys') :
    Calls Try.prog 20 #[(Tx.mk k op (.mk kl al vl pl cl yl) (.mk kr ar vr pr cr yr) p c ys).val, (Tx.mk k op (.mk kL aL vL pL cL yL) (.mk kR aR vR pR cR yR) p' c' ys').val] w (Yes w) := by
  have hN := (datTL_len hd).symm
  have H : ∀ j (h1 : j < ys.length) (h2 : j < ys'.length), SamHalf w ys[j] ys'[j] := fun j h1 h2 => ⟨fun W hb => IH.out m _ _ W ((hx.2.2 _ (List.getElem_mem h1)).later hb) ((hy.2.2 _ (List.getElem_mem h2)).later hb) (datTL_get hd j h1 h2)⟩
  have HL : ScHalf w (.mk kl al vl pl cl yl) (.mk kL aL vL pL cL yL) := ⟨fun W hb => (sameC_all n).out m _ _ W (hx.1.1.later hb) (hy.1.1.later hb) hdl⟩
  have HR : ScHalf w (.mk kr ar vr pr cr yr) (.mk kR aR vR pR cR yR) := ⟨fun W hb => (sameC_all n).out m _ _ W (hx.1.2.later hb) (hy.1.2.later hb) hdr⟩
  have HH := hid0 H
  have HK := hid0 hx.2.1
  have HK' := hid0 hy.2.1
  have hroom := hx.2.1.room
  clear IH hx hy H hd hdl hdr
  dsimp only [Tx.val, Tx.cells, Cx.cells, List.cons_append, List.nil_append]
  rw [hN]
  have HN := hid0 hN
  obtain ⟨N, hNN⟩ : ∃ N, ys.length = N := ⟨_, rfl⟩
  rw [hNN] at hroom ⊢
  have HM := hid0 hNN
  clear hN hNN
  obtain ⟨VA, VB⟩ := VarB.two (w := w) [.int .i64 k, .int .i64 op, .int .i64 kl, .int .i64 al, .int .i64 vl.k, .int .i64 vl.n, .string vl.s, .slice pl yl.length cl, .int .i64 kr, .int .i64 ar, .int .i64 vr.k, .int .i64 vr.n, .string vr.s, .slice pr yr.length cr, .slice p N c] [.int .i64 k, .int .i64 op, .int .i64 kL, .int .i64 aL, .int .i64 vL.k, .int .i64 vL.n, .string vL.s, .slice pL yL.length cL, .int .i64 kR, .int .i64 aR, .int .i64 vR.k, .int .i64 vR.n, .string vR.s, .slice pR yR.length cR, .slice p' N c'] 38 38
  have hB0 : Below w.heap.size w ((w.alloc (.cells #[.int .i64 k, .int .i64 op, .int .i64 kl, .int .i64 al, .int .i64 vl.k, .int .i64 vl.n, .string vl.s, .slice pl yl.length cl, .int .i64 kr, .int .i64 ar, .int .i64 vr.k, .int .i64 vr.n, .string vr.s, .slice pr yr.length cr, .slice p N c] 38)).alloc (.cells #[.int .i64 k, .int .i64 op, .int .i64 kL, .int .i64 aL, .int .i64 vL.k, .int .i64 vL.n, .string vL.s, .slice pL yL.length cL, .int .i64 kR, .int .i64 aR, .int .i64 vR.k, .int .i64 vR.n, .string vR.s, .slice pR yR.length cR, .slice p' N c'] 38)) := ((Below.refl _ _).alloc (Nat.le_refl _) _).alloc (by simp) _
  have HS : AwS w w.heap.size (w.heap.size + 1) [.int .i64 k, .int .i64 op, .int .i64 kl, .int .i64 al, .int .i64 vl.k, .int .i64 vl.n, .string vl.s, .slice pl yl.length cl, .int .i64 kr, .int .i64 ar, .int .i64 vr.k, .int .i64 vr.n, .string vr.s, .slice pr yr.length cr, .slice p N c] [.int .i64 k, .int .i64 op, .int .i64 kL, .int .i64 aL, .int .i64 vL.k, .int .i64 vL.n, .string vL.s, .slice pL yL.length cL, .int .i64 kR, .int .i64 aR, .int .i64 vR.k, .int .i64 vR.n, .string vR.s, .slice pR yR.length cR, .slice p' N c'] _ := ⟨VA, VB, hB0⟩
  have a0 := HS.t.cell 0 rfl
  have b0 := HS.u.cell 0 rfl
  have a1 := HS.t.cell 1 rfl
  have b1 := HS.u.cell 1 rfl
  have a2 := HS.t.cell 2 rfl
  have b2 := HS.u.cell 2 rfl
  have a3 := HS.t.cell 3 rfl
  have b3 := HS.u.cell 3 rfl
  have a4 := HS.t.cell 4 rfl
  have b4 := HS.u.cell 4 rfl
  have a5 := HS.t.cell 5 rfl
  have b5 := HS.u.cell 5 rfl
  have a6 := HS.t.cell 6 rfl
  have b6 := HS.u.cell 6 rfl
  have a7 := HS.t.cell 7 rfl
  have b7 := HS.u.cell 7 rfl
  have a8 := HS.t.cell 8 rfl
  have b8 := HS.u.cell 8 rfl
  have a9 := HS.t.cell 9 rfl
  have b9 := HS.u.cell 9 rfl
  have a10 := HS.t.cell 10 rfl
  have b10 := HS.u.cell 10 rfl
  have a11 := HS.t.cell 11 rfl
  have b11 := HS.u.cell 11 rfl
  have a12 := HS.t.cell 12 rfl
  have b12 := HS.u.cell 12 rfl
  have a13 := HS.t.cell 13 rfl
  have b13 := HS.u.cell 13 rfl
  have a14 := HS.t.cell 14 rfl
  have b14 := HS.u.cell 14 rfl
  have HS := hid0 HS
  have nk : (k != k) = false := by simp
  have na : (op != op) = false := by simp
  have nl : ((N : Int) != (N : Int)) = false := by simp
  clear VA VB hB0
  go_enter Try.func20, Try.ntmps20
  go_wp2_with fail
  go_at_call 44
  refine (HL.out _ HS.out.b).mono ?_
  rintro e w1 ⟨rfl, hb⟩
  have HS := HS.out.below hb
  clear hb a0 b0 a1 b1 a2 b2 a3 b3 a4 b4 a5 b5 a6 b6 a7 b7 a8 b8 a9 b9 a10 b10 a11 b11 a12 b12 a13 b13 a14 b14
  have a0 := HS.t.cell 0 rfl
  have b0 := HS.u.cell 0 rfl
  have a1 := HS.t.cell 1 rfl
  have b1 := HS.u.cell 1 rfl
  have a2 := HS.t.cell 2 rfl
  have b2 := HS.u.cell 2 rfl
  have a3 := HS.t.cell 3 rfl
  have b3 := HS.u.cell 3 rfl
  have a4 := HS.t.cell 4 rfl
  have b4 := HS.u.cell 4 rfl
  have a5 := HS.t.cell 5 rfl
  have b5 := HS.u.cell 5 rfl
  have a6 := HS.t.cell 6 rfl
  have b6 := HS.u.cell 6 rfl
  have a7 := HS.t.cell 7 rfl
  have b7 := HS.u.cell 7 rfl
  have a8 := HS.t.cell 8 rfl
  have b8 := HS.u.cell 8 rfl
  have a9 := HS.t.cell 9 rfl
  have b9 := HS.u.cell 9 rfl
  have a10 := HS.t.cell 10 rfl
  have b10 := HS.u.cell 10 rfl
  have a11 := HS.t.cell 11 rfl
  have b11 := HS.u.cell 11 rfl
  have a12 := HS.t.cell 12 rfl
  have b12 := HS.u.cell 12 rfl
  have a13 := HS.t.cell 13 rfl
  have b13 := HS.u.cell 13 rfl
  have a14 := HS.t.cell 14 rfl
  have b14 := HS.u.cell 14 rfl
  have HS := hid0 HS
  go_wp2_with fail
  go_at_call 44
  refine (HR.out _ HS.out.b).mono ?_
  rintro e w2 ⟨rfl, hb⟩
  have HS := HS.out.below hb
  clear hb a0 b0 a1 b1 a2 b2 a3 b3 a4 b4 a5 b5 a6 b6 a7 b7 a8 b8 a9 b9 a10 b10 a11 b11 a12 b12 a13 b13 a14 b14
  have a0 := HS.t.cell 0 rfl
  have b0 := HS.u.cell 0 rfl
  have a1 := HS.t.cell 1 rfl
  have b1 := HS.u.cell 1 rfl
  have a2 := HS.t.cell 2 rfl
  have b2 := HS.u.cell 2 rfl
  have a3 := HS.t.cell 3 rfl
  have b3 := HS.u.cell 3 rfl
  have a4 := HS.t.cell 4 rfl
  have b4 := HS.u.cell 4 rfl
  have a5 := HS.t.cell 5 rfl
  have b5 := HS.u.cell 5 rfl
  have a6 := HS.t.cell 6 rfl
  have b6 := HS.u.cell 6 rfl
  have a7 := HS.t.cell 7 rfl
  have b7 := HS.u.cell 7 rfl
  have a8 := HS.t.cell 8 rfl
  have b8 := HS.u.cell 8 rfl
  have a9 := HS.t.cell 9 rfl
  have b9 := HS.u.cell 9 rfl
  have a10 := HS.t.cell 10 rfl
  have b10 := HS.u.cell 10 rfl
  have a11 := HS.t.cell 11 rfl
  have b11 := HS.u.cell 11 rfl
  have a12 := HS.t.cell 12 rfl
  have b12 := HS.u.cell 12 rfl
  have a13 := HS.t.cell 13 rfl
  have b13 := HS.u.cell 13 rfl
  have a14 := HS.t.cell 14 rfl
  have b14 := HS.u.cell 14 rfl
  have HS := hid0 HS
  go_wp2_with fail
  clear a0 b0 a1 b1 a2 b2 a3 b3 a4 b4 a5 b5 a6 b6 a7 b7 a8 b8 a9 b9 a10 b10 a11 b11 a12 b12 a13 b13 a14 b14 nk na nl
  go_loopw [5] (fun iv wr => ∃ j : Nat, j ≤ N ∧ iv = .int .i64 j ∧ AwS w w.heap.size (w.heap.size + 1) [.int .i64 k, .int .i64 op, .int .i64 kl, .int .i64 al, .int .i64 vl.k, .int .i64 vl.n, .string vl.s, .slice pl yl.length cl, .int .i64 kr, .int .i64 ar, .int .i64 vr.k, .int .i64 vr.n, .string vr.s, .slice pr yr.length cr, .slice p N c] [.int .i64 k, .int .i64 op, .int .i64 kL, .int .i64 aL, .int .i64 vL.k, .int .i64 vL.n, .string vL.s, .slice pL yL.length cL, .int .i64 kR, .int .i64 aR, .int .i64 vR.k, .int .i64 vR.n, .string vR.s, .slice pR yR.length cR, .slice p' N c'] wr) (fun iv _ => N - (intOf iv).toNat)
  case atStart => exact ⟨0, Nat.zero_le _, rfl, HS.out⟩
  case round =>
    obtain ⟨j, hj, rfl, hS⟩ := hrel
    have a5 := hS.t.cell 14 rfl
    have b5 := hS.u.cell 14 rfl
    by_cases hlt : j < N
    · have g0 : decide ((j : Int) < (N : Int)) = true := by simpa using hlt
      have h1 : j < ys.length := by rw [HM.out]; exact hlt
      have h2 : j < ys'.length := by rw [HN.out, HM.out]; exact hlt
      have H := HH.out j h1 h2
      obtain ⟨b1, o1, rfl, hb1, hX1⟩ := HK.out.arg j h1
      obtain ⟨b2, o2, rfl, hb2, hX2⟩ := HK'.out.arg j h2
      generalize ys[j] = t1 at H hX1
      generalize ys'[j] = t2 at H hX2
      obtain ⟨k1, o1', ⟨kf, af, vf, pf, cf, yf⟩, ⟨kg, ag, vg, pg, cg, yg⟩, p1, c1, y1⟩ := t1
      obtain ⟨k2, o2', ⟨kh, ah, vh, ph, ch, yh⟩, ⟨ki, ai, vi, pi, ci, yi⟩, p2, c2, y2⟩ := t2
      clear h1 h2
      have hSh := hid0 hS
      clear hS
      go_wp2_with fail
      have hS := hSh.out.drew
      clear hSh a5 b5
      refine wp_region_held_drew (S := AwS w w.heap.size (w.heap.size + 1) [.int .i64 k, .int .i64 op, .int .i64 kl, .int .i64 al, .int .i64 vl.k, .int .i64 vl.n, .string vl.s, .slice pl yl.length cl, .int .i64 kr, .int .i64 ar, .int .i64 vr.k, .int .i64 vr.n, .string vr.s, .slice pr yr.length cr, .slice (some ⟨b1, o1, none⟩) N c] [.int .i64 k, .int .i64 op, .int .i64 kL, .int .i64 aL, .int .i64 vL.k, .int .i64 vL.n, .string vL.s, .slice pL yL.length cL, .int .i64 kR, .int .i64 aR, .int .i64 vR.k, .int .i64 vR.n, .string vR.s, .slice pR yR.length cR, .slice (some ⟨b2, o2, none⟩) N c']) (by kernel_rfl) hS (fun hHeld => ?_)
      refine wpAnyH_take (i := 0) (v := ?_) rfl (by kernel_rfl) (by kernel_rfl) (by kernel_rfl) (fun _ _ _ h => h) (Or.inl ⟨by rfl, ?_⟩) (by assumption) ?_
      rotate_left
      · (intro wx hSw; have q5 := hSw.t.cell 14 rfl; have r5 := hSw.u.cell 14 rfl; go_simp; (try with_reducible rfl); (try omega))
      (try simp only [Act.put, List.setIfInBounds_toArray, List.set_cons_zero, List.set_cons_succ, List.getElem_toArray, List.getElem_cons_zero])
      refine wpAnyH_take (i := 1) (v := ?_) rfl (by kernel_rfl) (by kernel_rfl) (by kernel_rfl) (fun _ _ _ h => h) (Or.inl ⟨by rfl, ?_⟩) (by assumption) ?_
      rotate_left
      · (intro wx hSw; have q5 := hSw.t.cell 14 rfl; have r5 := hSw.u.cell 14 rfl; go_simp; (try with_reducible rfl); (try omega))
      (try simp only [Act.put, List.setIfInBounds_toArray, List.set_cons_zero, List.set_cons_succ, List.getElem_toArray, List.getElem_cons_zero, List.getElem_cons_succ])
      refine wpAnyH_take (i := 2) (v := ?_) rfl (by kernel_rfl) (by kernel_rfl) (by kernel_rfl) (fun _ _ _ h => h) (Or.inl ⟨by rfl, ?_⟩) (by assumption) ?_
      rotate_left
      · (intro wx hSw; have q5 := hSw.t.cell 14 rfl; have r5 := hSw.u.cell 14 rfl; go_simp; (try with_reducible rfl); (try omega))
      (try simp only [Act.put, List.setIfInBounds_toArray, List.set_cons_zero, List.set_cons_succ, List.getElem_toArray, List.getElem_cons_zero, List.getElem_cons_succ])
      refine wpAnyH_take (i := 3) (v := ?_) rfl (by kernel_rfl) (by kernel_rfl) (by kernel_rfl) (fun _ _ _ h => h) (Or.inl ⟨by rfl, ?_⟩) (by assumption) ?_
      rotate_left
      · (intro wx hSw; have q5 := hSw.t.cell 14 rfl; have r5 := hSw.u.cell 14 rfl; go_simp; (try with_reducible rfl); (try omega))
      (try simp only [Act.put, List.setIfInBounds_toArray, List.set_cons_zero, List.set_cons_succ, List.getElem_toArray, List.getElem_cons_zero, List.getElem_cons_succ])
      refine wpAnyH_take (i := 4) (v := .agg [.int .i64 k1, .int .i64 o1', .int .i64 kf, .int .i64 af, .int .i64 vf.k, .int .i64 vf.n, .string vf.s, .slice pf yf.length cf, .int .i64 kg, .int .i64 ag, .int .i64 vg.k, .int .i64 vg.n, .string vg.s, .slice pg yg.length cg, .slice p1 y1.length c1].toArray) rfl (by kernel_rfl) (by kernel_rfl) (by kernel_rfl) (fun _ _ _ h => h) (yieldsIf_load_mid rfl 38 _ rfl b1 (o1 + j * 15) rfl [.int .i64 k1, .int .i64 o1', .int .i64 kf, .int .i64 af, .int .i64 vf.k, .int .i64 vf.n, .string vf.s, .slice pf yf.length cf, .int .i64 kg, .int .i64 ag, .int .i64 vg.k, .int .i64 vg.n, .string vg.s, .slice pg yg.length cg, .slice p1 y1.length c1] _ (fun w h => rangeAt_blk hX1 (h.b.block b1 hb1)) Try.underlying38 rfl (sizeTT)) (by assumption) ?_
      (try simp only [Act.put, List.setIfInBounds_toArray, List.set_cons_zero, List.set_cons_succ, List.getElem_toArray, List.getElem_cons_zero, List.getElem_cons_succ])
      refine wpAnyH_take (i := 5) (v := ?_) rfl (by kernel_rfl) (by kernel_rfl) (by kernel_rfl) (fun _ _ _ h => h) (Or.inl ⟨by rfl, ?_⟩) (by assumption) ?_
      rotate_left
      · (intro wx hSw; have q5 := hSw.t.cell 14 rfl; have r5 := hSw.u.cell 14 rfl; go_simp; (try with_reducible rfl); (try omega))
      (try simp only [Act.put, List.setIfInBounds_toArray, List.set_cons_zero, List.set_cons_succ, List.getElem_toArray, List.getElem_cons_zero, List.getElem_cons_succ])
      refine wpAnyH_take (i := 6) (v := ?_) rfl (by kernel_rfl) (by kernel_rfl) (by kernel_rfl) (fun _ _ _ h => h) (Or.inl ⟨by rfl, ?_⟩) (by assumption) ?_
      rotate_left
      · (intro wx hSw; have q5 := hSw.t.cell 14 rfl; have r5 := hSw.u.cell 14 rfl; go_simp; (try with_reducible rfl); (try omega))
      (try simp only [Act.put, List.setIfInBounds_toArray, List.set_cons_zero, List.set_cons_succ, List.getElem_toArray, List.getElem_cons_zero, List.getElem_cons_succ])
      refine wpAnyH_take (i := 7) (v := ?_) rfl (by kernel_rfl) (by kernel_rfl) (by kernel_rfl) (fun _ _ _ h => h) (Or.inl ⟨by rfl, ?_⟩) (by assumption) ?_
      rotate_left
      · (intro wx hSw; have q5 := hSw.t.cell 14 rfl; have r5 := hSw.u.cell 14 rfl; go_simp; (try with_reducible rfl); (try omega))
      (try simp only [Act.put, List.setIfInBounds_toArray, List.set_cons_zero, List.set_cons_succ, List.getElem_toArray, List.getElem_cons_zero, List.getElem_cons_succ])
      refine wpAnyH_take (i := 8) (v := ?_) rfl (by kernel_rfl) (by kernel_rfl) (by kernel_rfl) (fun _ _ _ h => h) (Or.inl ⟨by rfl, ?_⟩) (by assumption) ?_
      rotate_left
      · (intro wx hSw; have q5 := hSw.t.cell 14 rfl; have r5 := hSw.u.cell 14 rfl; go_simp; (try with_reducible rfl); (try omega))
      (try simp only [Act.put, List.setIfInBounds_toArray, List.set_cons_zero, List.set_cons_succ, List.getElem_toArray, List.getElem_cons_zero, List.getElem_cons_succ])
      refine wpAnyH_take (i := 9) (v := .agg [.int .i64 k2, .int .i64 o2', .int .i64 kh, .int .i64 ah, .int .i64 vh.k, .int .i64 vh.n, .string vh.s, .slice ph yh.length ch, .int .i64 ki, .int .i64 ai, .int .i64 vi.k, .int .i64 vi.n, .string vi.s, .slice pi yi.length ci, .slice p2 y2.length c2].toArray) rfl (by kernel_rfl) (by kernel_rfl) (by kernel_rfl) (fun _ _ _ h => h) (yieldsIf_load_mid rfl 38 _ rfl b2 (o2 + j * 15) rfl [.int .i64 k2, .int .i64 o2', .int .i64 kh, .int .i64 ah, .int .i64 vh.k, .int .i64 vh.n, .string vh.s, .slice ph yh.length ch, .int .i64 ki, .int .i64 ai, .int .i64 vi.k, .int .i64 vi.n, .string vi.s, .slice pi yi.length ci, .slice p2 y2.length c2] _ (fun w h => rangeAt_blk hX2 (h.b.block b2 hb2)) Try.underlying38 rfl (sizeTT)) (by assumption) ?_
      (try simp only [Act.put, List.setIfInBounds_toArray, List.set_cons_zero, List.set_cons_succ, List.getElem_toArray, List.getElem_cons_zero, List.getElem_cons_succ])
      refine wpAnyH_ready (rs := [10]) (by kernel_rfl) (by simp) ?_
      refine AllReadyH.cons rfl (fun K hK => ?_) AllReadyH.nil
      go_simp
      refine (H.out _ hS.b).mono ?_
      rintro e W3 ⟨rfl, hb⟩
      have hS := hS.below hb
      clear hb
      refine hK.out _ _ hS (fun hHeld => ?_)
      clear hK K
      (try simp only [Act.put, List.setIfInBounds_toArray, List.set_cons_zero, List.set_cons_succ, List.getElem_toArray, List.getElem_cons_zero, List.getElem_cons_succ])
      refine wpAnyH_take (i := 11) (v := ?_) rfl (by kernel_rfl) (by kernel_rfl) (by kernel_rfl) (fun _ _ _ h => h) (Or.inl ⟨by rfl, ?_⟩) (by assumption) ?_
      rotate_left
      · (intro wx hSw; have q5 := hSw.t.cell 14 rfl; have r5 := hSw.u.cell 14 rfl; go_simp; (try with_reducible rfl); (try omega))
      (try simp only [Act.put, List.setIfInBounds_toArray, List.set_cons_zero, List.set_cons_succ, List.getElem_toArray, List.getElem_cons_zero, List.getElem_cons_succ])
      refine wpAnyH_done (by kernel_rfl) ?_ _
      go_wp2_with fail
      exact ⟨⟨j + 1, by omega, by go_num, hS⟩, by simp [intOf]; omega⟩
    · have g0 : decide ((j : Int) < (N : Int)) = false := by simpa using hlt
      have hSh := hid0 hS
      clear hS
      go_wp2_with fail
      go_ret
      exact ⟨rfl, hSh.out.b⟩
theorem sameT_all : ∀ n, SamOk n
  | 0 => ⟨fun _ _ _ _ h => h.elim⟩
  | n + 1 => ⟨fun m x y w hx hy hd => by
    obtain ⟨k, op, ⟨kl, al, vl, pl, cl, yl⟩, ⟨kr, ar, vr, pr, cr, yr⟩, p, c, ys⟩ := x
    obtain ⟨k', op', ⟨kL, aL, vL, pL, cL, yL⟩, ⟨kR, aR, vR, pR, cR, yR⟩, p', c', ys'⟩ := y
    match m, hy with
    | m + 1, hy =>
      rw [datT, datT] at hd
      injection hd with e1 e2 e3 e4 e5
      subst e1; subst e2
      exact sameT_step (sameT_all n) k op kl al vl pl cl yl kr ar vr pr cr yr p c ys kL aL vL pL cL yL kR aR vR pR cR yR p' c' ys' w hx hy e3 e4 e5⟩
end Go.Proofs.Ytolcebbpbihnoaa
