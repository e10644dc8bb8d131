/- The reference's Asks, and the law's own same: contracts of the calls, in whatever memory. Conditions: a condition's cells are known; it is not too great. -/
import Derived.Test.YtolcebbpbihnoaaYw
import Derived.Test.YtolcebbpbihnoaaYh
namespace Go.Proofs.Ytolcebbpbihnoaa
open Go.RowKit

set_option maxHeartbeats 16000000 in
set_option maxRecDepth 1000000 in
theorem same_any {a1 a2 : Option Addr} {c1 c2 n : Nat} {L : List Int} {w : World} (h1 : IntsAt w a1 L) (h2 : IntsAt w a2 L) (hn : L.length = n) (hs : n ≤ 8000000) :
    Calls Try.prog 11 #[.slice a1 n c1, .slice a2 n c2] w fun e w' => e = .returned (.bool true) ∧ Below w.heap.size w w' := by
  have H1 := hid0 h1
  have H2 := hid0 h2
  have HN := hid0 hn
  clear h1 h2 hn
  go_enter Try.func11, Try.ntmps11
  go_wp2_with fail
  go_loopw [5] (fun iv wr => ∃ i : Nat, i ≤ n ∧ iv = .int .i64 i ∧ Below w.heap.size w wr) (fun iv _ => n - (intOf iv).toNat)
  case atStart => exact ⟨0, Nat.zero_le _, rfl, Below.refl _ _⟩
  case round =>
    obtain ⟨i, hi, rfl, hB⟩ := hrel
    by_cases hlt : i < n
    · have hiL : i < L.length := by rw [HN.out]; exact hlt
      obtain ⟨b1, o1, rfl, hc1⟩ := (H1.out.later hB) (fun e => by rw [e] at hiL; exact absurd hiL (by simp))
      obtain ⟨b2, o2, rfl, hc2⟩ := (H2.out.later hB) (fun e => by rw [e] at hiL; exact absurd hiL (by simp))
      have x1 := hc1 i hiL
      have x2 := hc2 i hiL
      generalize L[i] = x at x1 x2
      clear hc1 hc2
      go_wp2_with fail
      go_quiet (fail)
      go_wp2_with fail
      exact ⟨⟨i + 1, by omega, by go_num, below_drewN hB⟩, by simp [intOf]; omega⟩
    · go_wp2_with fail
      go_ret
      exact ⟨rfl, hB⟩
structure RaOk (n : Nat) : Prop where
  out : ∀ (x : Tx) (w : World), TxAt w n x → sizeT x ≤ 8000000 → Calls Try.prog 17 #[x.val] w (ListAns w (rise (asT x)))
theorem RaOk.half {n : Nat} (H : RaOk n) {w : World} {x : Tx} (hx : TxAt w n x) (hs : sizeT x ≤ 8000000) : ListHalf 17 w x.val (rise (asT x)) := ⟨fun W hb => H.out x W (hx.later hb) hs⟩
set_option maxHeartbeats 16000000 in
set_option maxRecDepth 1000000 in
theorem refAsks_step {n : Nat} (IH : RaOk n) (k op : Int) (kl al : Int) (vl : Val) (pl : Option Addr) (cl : Nat) (yl : List Cx) (kr ar : Int) (vr : Val) (pr : Option Addr) (cr : Nat) (yr : List Cx) (p : Option Addr) (c : Nat) (ys : List Tx) (w : World) (hx : TxAt w (n + 1) (.mk k op (.mk kl al vl pl cl yl) (.mk kr ar vr pr cr yr) p c ys)) (hs : sizeT (.mk k op (.mk kl al vl pl cl yl) (.mk kr ar vr pr cr yr) p c ys) ≤ 8000000) :
    Calls Try.prog 17 #[.agg #[.int .i64 k, .int .i64 op, .int .i64 kl, .int .i64 al, .int .i64 vl.k, .int .i64 vl.n, .string vl.s, .slice pl yl.length cl, .int .i64 kr, .int .i64 ar, .int .i64 vr.k, .int .i64 vr.n, .string vr.s, .slice pr yr.length cr, .slice p ys.length c]] w (ListAns w (rise (asT (.mk k op (.mk kl al vl pl cl yl) (.mk kr ar vr pr cr yr) p c ys)))) := by
  obtain ⟨⟨hl, hr⟩, hk, hA⟩ := hx
  rw [sizeT] at hs
  have H : ∀ j (hj : j < ys.length), ListHalf 17 w (ys[j]).val (rise (asT ys[j])) := fun j hj => IH.half (hA _ (List.getElem_mem hj)) (by have := sizeTL_mem (List.getElem_mem hj); omega)
  have HH := hid0 H
  have HK := hid0 hk
  have hroom := hk.room
  have C1 : ListHalf 13 w (.agg #[.int .i64 kl, .int .i64 al, .int .i64 vl.k, .int .i64 vl.n, .string vl.s, .slice pl yl.length cl]) (rise (rdC (.mk kl al vl pl cl yl))) := (refReads_all n).half hl (by omega)
  have C2 : ListHalf 13 w (.agg #[.int .i64 kr, .int .i64 ar, .int .i64 vr.k, .int .i64 vr.n, .string vr.s, .slice pr yr.length cr]) (rise (rdC (.mk kr ar vr pr cr yr))) := (refReads_all n).half hr (by omega)
  have sl := rdC_len (.mk kl al vl pl cl yl)
  have sr := rdC_len (.mk kr ar vr pr cr yr)
  have tl := rise_len (rdC (.mk kl al vl pl cl yl))
  have tr := rise_len (rdC (.mk kr ar vr pr cr yr))
  have HR := hid0 (show rise (asT (.mk k op (.mk kl al vl pl cl yl) (.mk kr ar vr pr cr yr) p c ys)) = rise ((rdC (.mk kl al vl pl cl yl) ++ rdC (.mk kr ar vr pr cr yr)) ++ asL ys) by rw [asT])
  have HU := hid0 (rise_two (rdC (.mk kl al vl pl cl yl)) (rdC (.mk kr ar vr pr cr yr)))
  have hgs : (rdC (.mk kl al vl pl cl yl) ++ rdC (.mk kr ar vr pr cr yr)).length + sizeTL ys ≤ 8000000 := by rw [List.length_append]; omega
  generalize rdC (.mk kl al vl pl cl yl) ++ rdC (.mk kr ar vr pr cr yr) = G at HR HU hgs
  generalize rise (rdC (.mk kl al vl pl cl yl)) = QL at C1 HU tl
  generalize rise (rdC (.mk kr ar vr pr cr yr)) = QR at C2 HU tr
  have hq : QL.length + QR.length ≤ 8000000 := by omega
  obtain ⟨NL, hNL⟩ : ∃ N, QL.length = N := ⟨_, rfl⟩
  obtain ⟨NR, hNR⟩ : ∃ N, QR.length = N := ⟨_, rfl⟩
  rw [hNL, hNR] at hq
  have HNL := hid0 hNL
  have HNR := hid0 hNR
  clear IH hA H hk hl hr sl sr tl tr hNL hNR
  have V := VarB.new w [.int .i64 k, .int .i64 op, .int .i64 kl, .int .i64 al, .int .i64 vl.k, .int .i64 vl.n, .string vl.s, .slice pl yl.length cl, .int .i64 kr, .int .i64 ar, .int .i64 vr.k, .int .i64 vr.n, .string vr.s, .slice pr yr.length cr, .slice p ys.length c] 38
  have hB0 : Below w.heap.size w (w.alloc (.cells #[.int .i64 k, .int .i64 op, .int .i64 kl, .int .i64 al, .int .i64 vl.k, .int .i64 vl.n, .string vl.s, .slice pl yl.length cl, .int .i64 kr, .int .i64 ar, .int .i64 vr.k, .int .i64 vr.n, .string vr.s, .slice pr yr.length cr, .slice p ys.length c] 38)) := (Below.refl _ _).alloc (Nat.le_refl _) _
  have V := hid0 V
  have hB0 := hid0 hB0
  go_enter Try.func17, Try.ntmps17
  go_wp2_with fail
  have hS : BoxS w w.heap.size [.int .i64 k, .int .i64 op, .int .i64 kl, .int .i64 al, .int .i64 vl.k, .int .i64 vl.n, .string vl.s, .slice pl yl.length cl, .int .i64 kr, .int .i64 ar, .int .i64 vr.k, .int .i64 vr.n, .string vr.s, .slice pr yr.length cr, .slice p ys.length c] _ := ⟨V.out.drew, Below.drew hB0.out⟩
  refine wp_region_held_drew (S := BoxS w w.heap.size [.int .i64 k, .int .i64 op, .int .i64 kl, .int .i64 al, .int .i64 vl.k, .int .i64 vl.n, .string vl.s, .slice pl yl.length cl, .int .i64 kr, .int .i64 ar, .int .i64 vr.k, .int .i64 vr.n, .string vr.s, .slice pr yr.length cr, .slice p ys.length c]) (by kernel_rfl) hS (fun hHeld => ?_)
  refine wpAnyH_take (i := 0) (v := ?_) rfl (by kernel_rfl) (by kernel_rfl) (by kernel_rfl) (fun _ _ _ h => h) (Or.inl ⟨by rfl, ?_⟩) (by assumption) ?_
  rotate_left
  · (intro wx hSw; have q1 := hSw.a.cell 1 rfl; go_simp; (try with_reducible rfl); (try omega))
  (try simp only [Act.put, List.setIfInBounds_toArray, List.set_cons_zero, List.set_cons_succ, List.getElem_toArray, List.getElem_cons_zero])
  refine wpAnyH_take (i := 1) (v := .agg [.int .i64 kl, .int .i64 al, .int .i64 vl.k, .int .i64 vl.n, .string vl.s, .slice pl yl.length cl].toArray) rfl (by kernel_rfl) (by kernel_rfl) (by kernel_rfl) (fun _ _ _ h => h) (yieldsIf_load_mid rfl 26 _ rfl w.heap.size (2) rfl [.int .i64 kl, .int .i64 al, .int .i64 vl.k, .int .i64 vl.n, .string vl.s, .slice pl yl.length cl] _ (fun w h => range_mid (xs := [.int .i64 k, .int .i64 op]) (ys := [.int .i64 kl, .int .i64 al, .int .i64 vl.k, .int .i64 vl.n, .string vl.s, .slice pl yl.length cl]) (zs := [.int .i64 kr, .int .i64 ar, .int .i64 vr.k, .int .i64 vr.n, .string vr.s, .slice pr yr.length cr, .slice p ys.length c]) h.a.at_) Try.underlying26 rfl (sizeX)) (by assumption) ?_
  (try simp only [Act.put, List.setIfInBounds_toArray, List.set_cons_zero, List.set_cons_succ, List.getElem_toArray, List.getElem_cons_zero, List.getElem_cons_succ])
  refine wpAnyH_take (i := 3) (v := ?_) rfl (by kernel_rfl) (by kernel_rfl) (by kernel_rfl) (fun _ _ _ h => h) (Or.inl ⟨by rfl, ?_⟩) (by assumption) ?_
  rotate_left
  · (intro wx hSw; have q1 := hSw.a.cell 1 rfl; go_simp; (try with_reducible rfl); (try omega))
  (try simp only [Act.put, List.setIfInBounds_toArray, List.set_cons_zero, List.set_cons_succ, List.getElem_toArray, List.getElem_cons_zero, List.getElem_cons_succ])
  refine wpAnyH_take (i := 4) (v := .agg [.int .i64 kr, .int .i64 ar, .int .i64 vr.k, .int .i64 vr.n, .string vr.s, .slice pr yr.length cr].toArray) rfl (by kernel_rfl) (by kernel_rfl) (by kernel_rfl) (fun _ _ _ h => h) (yieldsIf_load_mid rfl 26 _ rfl w.heap.size (8) rfl [.int .i64 kr, .int .i64 ar, .int .i64 vr.k, .int .i64 vr.n, .string vr.s, .slice pr yr.length cr] _ (fun w h => range_mid (xs := [.int .i64 k, .int .i64 op, .int .i64 kl, .int .i64 al, .int .i64 vl.k, .int .i64 vl.n, .string vl.s, .slice pl yl.length cl]) (ys := [.int .i64 kr, .int .i64 ar, .int .i64 vr.k, .int .i64 vr.n, .string vr.s, .slice pr yr.length cr]) (zs := [.slice p ys.length c]) h.a.at_) Try.underlying26 rfl (sizeX)) (by assumption) ?_
  (try simp only [Act.put, List.setIfInBounds_toArray, List.set_cons_zero, List.set_cons_succ, List.getElem_toArray, List.getElem_cons_zero, List.getElem_cons_succ])
  refine wpAnyH_ready (rs := [2]) (by kernel_rfl) (by simp) ?_
  refine AllReadyH.cons rfl (fun K hK => ?_) AllReadyH.nil
  go_simp
  refine (C1.out _ hS.b).mono ?_
  rintro e w3 ⟨⟨a3, c3, rfl, hI3⟩, hb3⟩
  rw [HNL.out]
  have hS3 := hS.below hb3
  refine hK.out _ _ hS3 (fun hHeld => ?_)
  clear hK K
  (try simp only [Act.put, List.setIfInBounds_toArray, List.set_cons_zero, List.set_cons_succ, List.getElem_toArray, List.getElem_cons_zero, List.getElem_cons_succ])
  refine wpAnyH_ready (rs := [5]) (by kernel_rfl) (by simp) ?_
  refine AllReadyH.cons rfl (fun K hK => ?_) AllReadyH.nil
  go_simp
  refine (C2.out _ hS3.b).mono ?_
  rintro e w4 ⟨⟨a4, c4, rfl, hI4⟩, hb4⟩
  rw [HNR.out]
  have hS4 := hS3.below hb4
  have hI3 := hI3.later hb4
  refine hK.out _ _ hS4 (fun hHeld => ?_)
  clear hK K
  (try simp only [Act.put, List.setIfInBounds_toArray, List.set_cons_zero, List.set_cons_succ, List.getElem_toArray, List.getElem_cons_zero, List.getElem_cons_succ])
  refine wpAnyH_ready (rs := [6]) (by kernel_rfl) (by simp) ?_
  refine AllReadyH.cons rfl (fun K hK => ?_) AllReadyH.nil
  go_simp
  refine (union_il hI3 HNL.out hI4 HNR.out hq).mono ?_
  rintro e w5 ⟨⟨a5, c5, rfl, hI5⟩, hb5⟩
  have hS5 := hS4.below hb5
  refine hK.out _ _ hS5 (fun hHeld => ?_)
  clear hK K
  (try simp only [Act.put, List.setIfInBounds_toArray, List.set_cons_zero, List.set_cons_succ, List.getElem_toArray, List.getElem_cons_zero, List.getElem_cons_succ])
  refine wpAnyH_take (i := 7) (v := ?_) rfl (by kernel_rfl) (by kernel_rfl) (by kernel_rfl) (fun _ _ _ h => h) (Or.inl ⟨by rfl, ?_⟩) (by assumption) ?_
  rotate_left
  · (intro wx hSw; have q1 := hSw.a.cell 1 rfl; go_simp; (try with_reducible rfl); (try omega))
  (try simp only [Act.put, List.setIfInBounds_toArray, List.set_cons_zero, List.set_cons_succ, List.getElem_toArray, List.getElem_cons_zero, List.getElem_cons_succ])
  refine wpAnyH_done (by kernel_rfl) ?_ _
  rw [HU.out] at hI5 ⊢
  have a14 := hS5.a.cell 14 rfl
  have HI5 := hid0 (show LL w5 (.slice a5 (rise G).length c5) (rise (G ++ asL [])) from by rw [asL, List.append_nil]; exact ⟨⟨a5, c5, rfl, hI5⟩⟩)
  have HS5 := hid0 hS5
  have hz5 := hS5.b.size
  clear hI3 hI4 hI5 hS hS3 hS4 hS5 hHeld C1 C2 V hB0
  generalize (rise G).length = gl at HI5 ⊢
  go_wp2_with fail
  clear a14
  go_loopw [3, 4] (fun u iv wr => ∃ j : Nat, j ≤ ys.length ∧ iv = .int .i64 j ∧ LL wr u (rise (G ++ asL (ys.take j))) ∧ Below w.heap.size w wr ∧ VarB wr w.heap.size [.int .i64 k, .int .i64 op, .int .i64 kl, .int .i64 al, .int .i64 vl.k, .int .i64 vl.n, .string vl.s, .slice pl yl.length cl, .int .i64 kr, .int .i64 ar, .int .i64 vr.k, .int .i64 vr.n, .string vr.s, .slice pr yr.length cr, .slice p ys.length c]) (fun _ iv _ => ys.length - (intOf iv).toNat)
  case atStart => exact ⟨0, Nat.zero_le _, rfl, by rw [List.take_zero]; exact HI5.out, HS5.out.b, HS5.out.a⟩
  case round =>
    obtain ⟨j, hj, rfl, hIO, hnx, hV⟩ := hrel
    have hsz := hnx.size
    have hVl := hV.lt
    have b5 := hV.cell 14 rfl
    have hV := hid0 hV
    obtain ⟨ao, cO, rfl, hI0⟩ := hIO.out
    by_cases hlt : j < ys.length
    · have H := HH.out j hlt
      have HT := asL_take ys j hlt
      obtain ⟨b, o, rfl, hb, hX⟩ := HK.out.arg j hlt
      have hs1 := sizeTL_take ys j hlt
      have hs2 := asL_len (ys.take j)
      have hs3 := asT_len ys[j]
      have hs4 := rise_len (G ++ asL (ys.take j))
      have hs5 := rise_len (asT ys[j])
      have HT2 : rise (rise (G ++ asL (ys.take j)) ++ rise (asT ys[j])) = rise (G ++ asL (ys.take (j + 1))) := by rw [rise_two, HT, List.append_assoc]
      have hs6 : (rise (G ++ asL (ys.take j))).length + (rise (asT ys[j])).length ≤ 8000000 := by
        simp only [List.length_append] at hs4; omega
      clear hs1 hs2 hs3 hs4 hs5 HT
      generalize rise (G ++ asL (ys.take j)) = O at hI0 HT2 hs6 ⊢
      generalize rise (asT ys[j]) = Q at H HT2 hs6
      obtain ⟨t, ht⟩ : ∃ t, ys[j] = t := ⟨_, rfl⟩
      rw [ht] at H hX
      clear ht
      obtain ⟨kt, ot, ⟨kf, af, vf, pf, cf, yf⟩, ⟨kg, ag, vg, pg, cg, yg⟩, pt, ct, yt⟩ := t
      have hb' : b < wr.heap.size := by omega
      have q0 := cell_later hnx (rng hX 0 rfl)
      have q1 := cell_later hnx (rng hX 1 rfl)
      have q2 := cell_later hnx (rng hX 2 rfl)
      have q3 := cell_later hnx (rng hX 3 rfl)
      have q4 := cell_later hnx (rng hX 4 rfl)
      have q5 := cell_later hnx (rng hX 5 rfl)
      have q6 := cell_later hnx (rng hX 6 rfl)
      have q7 := cell_later hnx (rng hX 7 rfl)
      have q8 := cell_later hnx (rng hX 8 rfl)
      have q9 := cell_later hnx (rng hX 9 rfl)
      have q10 := cell_later hnx (rng hX 10 rfl)
      have q11 := cell_later hnx (rng hX 11 rfl)
      have q12 := cell_later hnx (rng hX 12 rfl)
      have q13 := cell_later hnx (rng hX 13 rfl)
      have q14 := cell_later hnx (rng hX 14 rfl)
      simp only [Nat.add_zero] at q0
      have HT2 := hid0 HT2
      obtain ⟨N, hN⟩ : ∃ N, O.length = N := ⟨_, rfl⟩
      obtain ⟨M, hM⟩ : ∃ M, Q.length = M := ⟨_, rfl⟩
      rw [hN, hM] at hs6
      rw [hN]
      have HN := hid0 hN
      have HM := hid0 hM
      have HI0 := hid0 hI0
      have hnx := hid0 hnx
      clear hX hI0 hIO hN hM
      go_wp2_with fail
      go_at_call 17
      refine (H.out _ hnx.out).mono ?_
      rintro e w3 ⟨⟨a3, c3, rfl, hI3⟩, hb3⟩
      have hO3 := hid0 (HI0.out.later hb3)
      have hV3 := hid0 (hV.out.below hb3)
      have hB3 := hid0 (below_through hb3 hnx.out.size hnx.out)
      have hI3 := hid0 hI3
      rw [HM.out]
      clear hb3 b5 q0 q1 q2 q3 q4 q5 q6 q7 q8 q9 q10 q11 q12 q13 q14
      go_wp2_with fail
      go_at_call 29
      refine (union_il hO3.out HN.out hI3.out HM.out hs6).mono ?_
      rintro e w4 ⟨⟨a4, c4, rfl, hI4⟩, hb4⟩
      have hV4 := hid0 (hV3.out.below hb4)
      have hB4 := hid0 (below_through hb4 hB3.out.size hB3.out)
      rw [HT2.out] at hI4 ⊢
      have hI4 := hid0 hI4
      clear hb4 hV3 hB3
      go_wp2_with fail
      exact ⟨⟨j + 1, by omega, by go_num, ⟨⟨a4, c4, rfl, hI4.out⟩⟩, hB4.out, hV4.out⟩, by simp [intOf]; omega⟩
    · obtain rfl : j = ys.length := by omega
      rw [List.take_length] at hI0 ⊢
      have HI0 := hid0 hI0
      clear hI0 hIO
      go_wp2_with fail
      go_ret
      rw [HR.out]
      exact ⟨⟨ao, cO, rfl, HI0.out⟩, hnx⟩
theorem refAsks_all : ∀ n, RaOk n
  | 0 => ⟨fun _ _ h _ => h.elim⟩
  | n + 1 => ⟨fun x w hx hs => by
    obtain ⟨k, op, ⟨kl, al, vl, pl, cl, yl⟩, ⟨kr, ar, vr, pr, cr, yr⟩, p, c, ys⟩ := x
    exact refAsks_step (refAsks_all n) k op kl al vl pl cl yl kr ar vr pr cr yr p c ys w hx hs⟩
theorem refAsks_any {n : Nat} {x : Tx} {w : World} (hx : TxAt w n x) (hs : sizeT x ≤ 8000000) : Calls Try.prog 17 #[x.val] w (ListAns w (rise (asT x))) := (refAsks_all n).out x w hx hs
end Go.Proofs.Ytolcebbpbihnoaa
