/- The walk of the law ExprApart: it returns true, and below the heap's end memory is as it was. Conditions: what comes in lies somewhere and is not too great. -/
import Derived.Test.YtolcebbpbihnoaaAf
namespace Go.Proofs.Ytolcebbpbihnoaa
open Go.RowKit

theorem and_two (row : List Val) : ∀ (l : List Tx) (m : Int), m ≤ 2 → ((hoL row l).foldl (fun m t => min m (knownV t)) m = 2 ↔ m = 2 ∧ ∀ z ∈ l, hoT row z = 2)
  | [], m, _ => by simp [hoL]
  | x :: l, m, hm => by
    have hk := known_ho row x
    have hc := hoT_cases row x
    rw [hoL, List.foldl_cons, and_two row l _ (by omega), hk]
    constructor
    · rintro ⟨h1, h2⟩
      exact ⟨by omega, fun z hz => by rcases List.mem_cons.1 hz with rfl | hz; (omega); exact h2 z hz⟩
    · rintro ⟨h1, h2⟩
      have := h2 x (by simp)
      exact ⟨by omega, fun z hz => h2 z (by simp [hz])⟩
mutual
theorem ho_both (row : List Val) : ∀ t : Tx, hoT row t = 2 ↔ ∀ z ∈ boT t, hoT row z = 2
  | .mk k op l r p c ys => by
    rw [boT]
    by_cases h0 : k = 0
    · subst h0; rw [if_pos rfl, hoT]; exact ⟨fun _ z hz => absurd hz (by simp), fun _ => rfl⟩
    by_cases h4 : k = 4
    · rw [if_neg h0, if_pos h4, hoT]
      subst h4
      have e : hoOf 4 op (sdC row l) (sdC row r) (hoL row ys) = andV (hoL row ys) := rfl
      rw [e, andV, and_two row ys 2 (by decide), ← ho_bothL row ys]
      simp
    · rw [if_neg h0, if_neg h4]; simp
theorem ho_bothL (row : List Val) : ∀ l : List Tx, (∀ z ∈ l, hoT row z = 2) ↔ ∀ z ∈ boL l, hoT row z = 2
  | [] => by simp [boL]
  | x :: l => by
    rw [boL]
    refine ⟨fun h z hz => ?_, fun h z hz => ?_⟩
    · rcases List.mem_append.1 hz with hz | hz
      · exact (ho_both row x).1 (h x (by simp)) z hz
      · exact (ho_bothL row l).1 (fun y hy => h y (by simp [hy])) z hz
    · rcases List.mem_cons.1 hz with e | hz
      · rw [e]; exact (ho_both row x).2 (fun y hy => h y (by simp [hy]))
      · exact (ho_bothL row l).2 (fun y hy => h y (by simp [hy])) z hz
end
def allH (row : List Val) (l : List Tx) : Bool := l.all fun z => hoT row z == 2
theorem allH_snoc (row : List Val) (l : List Tx) (j : Nat) (h : j < l.length) : allH row (l.take (j + 1)) = (allH row (l.take j) && (hoT row l[j] == 2)) := by
  rw [List.take_succ_eq_append_getElem h, allH, List.all_append]; simp [allH]
theorem allH_bo (row : List Val) (t : Tx) : (allH row (boT t) == (hoT row t == 2)) = true := by
  have h := ho_both row t
  have e : allH row (boT t) = true ↔ hoT row t = 2 := by rw [h, allH, List.all_eq_true]; simp
  by_cases h2 : hoT row t = 2
  · rw [e.2 h2, h2]; rfl
  · have h3 : allH row (boT t) = false := by
      cases h4 : allH row (boT t) with
      | false => rfl
      | true => exact absurd (e.1 h4) h2
    have h5 : (hoT row t == 2) = false := by simpa using h2
    rw [h3, h5]; rfl
structure BoH (f : Nat) (w : World) (t : Tx) (Q : World → Ending → World → Prop) : Prop where
  out : ∀ W, Below w.heap.size w W → Calls Try.prog f #[t.val] W (Q W)
set_option maxHeartbeats 16000000 in
set_option maxRecDepth 1000000 in
theorem lawExprApart {n : Nat} {t : Tx} {a : Option Addr} {row : List Val} {w : World} (cc : Nat) (ht : TxAt w n t) (hr : RowIn w a row) (hs : sizeT t ≤ 2000000) :
    Calls Try.prog 5 #[t.val, .slice a row.length cc] w fun e w' => e = .returned (.bool true) ∧ Below w.heap.size w w' := by
  have HP : BoH 18 w t (fun W => BoAns W n ((boT t).map datT)) := ⟨fun W hb => both_any (ht.later hb) hs⟩
  have HQ : BoH 19 w t (fun W e w' => (∃ (a : Option Addr) (c : Nat), e = .returned (.slice a (boT t).length c) ∧ RowC w' 15 a ((boT t).map Tx.cells)) ∧ Below W.heap.size W w') := ⟨fun W hb => (refBoth_all n).out t W (ht.later hb) hs⟩
  have HH := hid0 (fun (W : World) (hb : Below w.heap.size w W) => show IntHalf 14 W t.val (.slice a row.length cc) (hoT row t) from ⟨fun W2 hb2 => holds_any cc ((ht.later hb).later hb2) ((hr.later hb).later hb2)⟩)
  have HE := hid0 (fun (W : World) (hb : Below w.heap.size w W) (z : Tx) (hz : TxAt W n z) => show IntHalf 14 W z.val (.slice a row.length cc) (hoT row z) from ⟨fun W2 hb2 => holds_any cc (hz.later hb2) ((hr.later hb).later hb2)⟩)
  have HB := hid0 (boT_at ht)
  have HF := hid0 (allH_bo row t)
  have hbl := boT_len t
  have HT := hid0 ht
  have hsT := hs
  generalize boT t = Q at HP HQ HB HF hbl
  generalize hoT row t = h at HH HF
  generalize sizeT t = St at hs hbl hsT
  clear hr ht
  obtain ⟨k, op, ⟨kl, al, vl, pl, cl, yl⟩, ⟨kr, ar, vr, pr, cr, yr⟩, p, c, ys⟩ := t
  have V := VarB.new w [.int .i64 k, .int .i64 op, .int .i64 kl, .int .i64 al, .int .i64 vl.k, .int .i64 vl.n, .string vl.s, .slice pl yl.length cl, .int .i64 kr, .int .i64 ar, .int .i64 vr.k, .int .i64 vr.n, .string vr.s, .slice pr yr.length cr, .slice p ys.length c] 38
  have hB : Below w.heap.size w (w.alloc (.cells #[.int .i64 k, .int .i64 op, .int .i64 kl, .int .i64 al, .int .i64 vl.k, .int .i64 vl.n, .string vl.s, .slice pl yl.length cl, .int .i64 kr, .int .i64 ar, .int .i64 vr.k, .int .i64 vr.n, .string vr.s, .slice pr yr.length cr, .slice p ys.length c] 38)) := (Below.refl _ _).alloc (Nat.le_refl _) _
  have HS0 : Hid (BoxS w w.heap.size [.int .i64 k, .int .i64 op, .int .i64 kl, .int .i64 al, .int .i64 vl.k, .int .i64 vl.n, .string vl.s, .slice pl yl.length cl, .int .i64 kr, .int .i64 ar, .int .i64 vr.k, .int .i64 vr.n, .string vr.s, .slice pr yr.length cr, .slice p ys.length c] _) := hid0 ⟨V, hB⟩
  clear V hB
  show Calls Try.prog 5 #[.agg #[.int .i64 k, .int .i64 op, .int .i64 kl, .int .i64 al, .int .i64 vl.k, .int .i64 vl.n, .string vl.s, .slice pl yl.length cl, .int .i64 kr, .int .i64 ar, .int .i64 vr.k, .int .i64 vr.n, .string vr.s, .slice pr yr.length cr, .slice p ys.length c], .slice a row.length cc] w _
  go_enter Try.func5, Try.ntmps5
  go_wp2_with fail
  have hS := HS0.out.drew
  clear HS0
  refine wp_region_held_drew (S := BoxS w w.heap.size [.int .i64 k, .int .i64 op, .int .i64 kl, .int .i64 al, .int .i64 vl.k, .int .i64 vl.n, .string vl.s, .slice pl yl.length cl, .int .i64 kr, .int .i64 ar, .int .i64 vr.k, .int .i64 vr.n, .string vr.s, .slice pr yr.length cr, .slice p ys.length c]) (by kernel_rfl) hS (fun hHeld => ?_)
  refine wpAnyH_take (i := 0) (v := .agg [.int .i64 k, .int .i64 op, .int .i64 kl, .int .i64 al, .int .i64 vl.k, .int .i64 vl.n, .string vl.s, .slice pl yl.length cl, .int .i64 kr, .int .i64 ar, .int .i64 vr.k, .int .i64 vr.n, .string vr.s, .slice pr yr.length cr, .slice p ys.length c].toArray) rfl (by kernel_rfl) (by kernel_rfl) (by kernel_rfl) (fun _ _ _ h => h) (yieldsIf_load_mid rfl 38 _ rfl w.heap.size (0) rfl [.int .i64 k, .int .i64 op, .int .i64 kl, .int .i64 al, .int .i64 vl.k, .int .i64 vl.n, .string vl.s, .slice pl yl.length cl, .int .i64 kr, .int .i64 ar, .int .i64 vr.k, .int .i64 vr.n, .string vr.s, .slice pr yr.length cr, .slice p ys.length c] _ (fun w h => h.a.at_) Try.underlying38 rfl (sizeTT)) (by assumption) ?_
  (try simp only [Act.put, List.setIfInBounds_toArray, List.set_cons_zero, List.set_cons_succ, List.getElem_toArray, List.getElem_cons_zero])
  refine wpAnyH_take (i := 2) (v := .agg [.int .i64 k, .int .i64 op, .int .i64 kl, .int .i64 al, .int .i64 vl.k, .int .i64 vl.n, .string vl.s, .slice pl yl.length cl, .int .i64 kr, .int .i64 ar, .int .i64 vr.k, .int .i64 vr.n, .string vr.s, .slice pr yr.length cr, .slice p ys.length c].toArray) rfl (by kernel_rfl) (by kernel_rfl) (by kernel_rfl) (fun _ _ _ h => h) (yieldsIf_load_mid rfl 38 _ rfl w.heap.size (0) rfl [.int .i64 k, .int .i64 op, .int .i64 kl, .int .i64 al, .int .i64 vl.k, .int .i64 vl.n, .string vl.s, .slice pl yl.length cl, .int .i64 kr, .int .i64 ar, .int .i64 vr.k, .int .i64 vr.n, .string vr.s, .slice pr yr.length cr, .slice p ys.length c] _ (fun w h => h.a.at_) Try.underlying38 rfl (sizeTT)) (by assumption) ?_
  (try simp only [Act.put, List.setIfInBounds_toArray, List.set_cons_zero, List.set_cons_succ, List.getElem_toArray, List.getElem_cons_zero, List.getElem_cons_succ])
  refine wpAnyH_ready (rs := [1]) (by kernel_rfl) (by simp) ?_
  refine AllReadyH.cons rfl (fun K hK => ?_) AllReadyH.nil
  go_simp
  refine (HP.out _ hS.b).mono ?_
  rintro e W1 ⟨⟨a1, c1, zs, rfl, hR1, hA1, hd1⟩, hb⟩
  have hS := hS.below hb
  clear hb
  refine hK.out _ _ hS (fun hHeld => ?_)
  clear hK K
  (try simp only [Act.put, List.setIfInBounds_toArray, List.set_cons_zero, List.set_cons_succ, List.getElem_toArray, List.getElem_cons_zero, List.getElem_cons_succ])
  refine wpAnyH_ready (rs := [3]) (by kernel_rfl) (by simp) ?_
  refine AllReadyH.cons rfl (fun K hK => ?_) AllReadyH.nil
  go_simp
  refine (HQ.out _ hS.b).mono ?_
  rintro e W2 ⟨⟨a2, c2, rfl, hR2⟩, hb⟩
  have hS := hS.below hb
  have hR1 := hR1.later hb
  have hA1 : ∀ z ∈ zs, TxAt W2 n z := fun z hz => (hA1 z hz).later hb
  clear hb
  refine hK.out _ _ hS (fun hHeld => ?_)
  clear hK K
  (try simp only [Act.put, List.setIfInBounds_toArray, List.set_cons_zero, List.set_cons_succ, List.getElem_toArray, List.getElem_cons_zero, List.getElem_cons_succ])
  refine wpAnyH_take (i := 4) (v := ?_) rfl (by kernel_rfl) (by kernel_rfl) (by kernel_rfl) (fun _ _ _ h => h) (Or.inl ⟨by rfl, ?_⟩) (by assumption) ?_
  rotate_left
  · (intro wx hSw; go_simp; (try with_reducible rfl); (try omega))
  (try simp only [Act.put, List.setIfInBounds_toArray, List.set_cons_zero, List.set_cons_succ, List.getElem_toArray, List.getElem_cons_zero, List.getElem_cons_succ])
  refine wpAnyH_take (i := 5) (v := ?_) rfl (by kernel_rfl) (by kernel_rfl) (by kernel_rfl) (fun _ _ _ h => h) (Or.inl ⟨by rfl, ?_⟩) (by assumption) ?_
  rotate_left
  · (intro wx hSw; go_simp; (try with_reducible rfl); (try omega))
  (try simp only [Act.put, List.setIfInBounds_toArray, List.set_cons_zero, List.set_cons_succ, List.getElem_toArray, List.getElem_cons_zero, List.getElem_cons_succ])
  refine wpAnyH_done (by kernel_rfl) ?_ _
  have hl : Q.length = zs.length := by have := congrArg List.length hd1; simpa [datTL_map] using this.symm
  rw [hl]
  generalize W2 = wl at hS hR1 hR2 hA1 ⊢
  have hbw := hS.b
  have HBw := hid0 hbw
  have hS : BoxS wl w.heap.size [.int .i64 k, .int .i64 op, .int .i64 kl, .int .i64 al, .int .i64 vl.k, .int .i64 vl.n, .string vl.s, .slice pl yl.length cl, .int .i64 kr, .int .i64 ar, .int .i64 vr.k, .int .i64 vr.n, .string vr.s, .slice pr yr.length cr, .slice p ys.length c] wl := ⟨hS.a, Below.refl _ _⟩
  have hz : zs.length ≤ 2000000 := by omega
  have HD := hid0 hd1
  have hR1 := hid0 hR1
  have hR2 := hid0 hR2
  have hA1 := hid0 hA1
  obtain ⟨N, hN⟩ : ∃ N, zs.length = N := ⟨_, rfl⟩
  have HL := hid0 hl
  rw [hN] at hz ⊢
  have HN := hid0 hN
  have nl : ((N : Int) != (N : Int)) = false := by simp
  clear hd1 hl hN HP HQ hbw hbl
  have hSh := hid0 hS
  clear hS
  go_wp2_with fail
  go_at_call 10
  refine (awake11_any _).mono ?_
  rintro e w3 ⟨rfl, hb⟩
  have hS := hSh.out.below hb
  clear hb hSh
  have hSh := hid0 hS
  clear hS
  go_wp2_with fail
  go_loopw [7, 8] (fun uv iv wr => ∃ j : Nat, j ≤ N ∧ iv = .int .i64 j ∧ uv = .bool (allH row (Q.take j)) ∧ BoxS wl w.heap.size [.int .i64 k, .int .i64 op, .int .i64 kl, .int .i64 al, .int .i64 vl.k, .int .i64 vl.n, .string vl.s, .slice pl yl.length cl, .int .i64 kr, .int .i64 ar, .int .i64 vr.k, .int .i64 vr.n, .string vr.s, .slice pr yr.length cr, .slice p ys.length c] wr) (fun _ iv _ => N - (intOf iv).toNat)
  case atStart => exact ⟨0, Nat.zero_le _, rfl, by simp [allH], hSh.out⟩
  case round =>
    obtain ⟨j, hj, rfl, rfl, hS⟩ := hrel
    by_cases hlt : j < N
    · have g0 : decide ((j : Int) < (N : Int)) = true := by simpa using hlt
      have h1 : j < zs.length := by rw [HN.out]; exact hlt
      have h2 : j < Q.length := by rw [HL.out]; exact h1
      obtain ⟨b1, o1, rfl, hb1, hX1⟩ := hR1.out.out j (by simpa using h1)
      obtain ⟨b2, o2, rfl, hb2, hX2⟩ := hR2.out.out j (by simpa using h2)
      rw [List.getElem_map] at hX1 hX2
      have hdj : datT zs[j] = datT Q[j] := by
        have h := HD.out
        rw [← datTL_map] at h
        exact datTL_get h j h1 h2
      have HX : SamHalf wl zs[j] Q[j] := ⟨fun W hb => (sameT_all n).out n _ _ W ((hA1.out _ (List.getElem_mem h1)).later hb) (((HB.out _ (List.getElem_mem h2)).later HBw.out).later hb) hdj⟩
      have HJ := HE.out wl HBw.out zs[j] (hA1.out _ (List.getElem_mem h1))
      rw [ho_dat row _ _ hdj] at HJ
      have HA := hid0 (allH_snoc row Q j h2)
      clear hdj
      generalize hoT row Q[j] = hq at HJ HA
      generalize zs[j] = t1 at HX HJ hX1
      generalize Q[j] = t2 at HX hX2
      obtain ⟨k1, o1', ⟨kf, af, vf, pf, cf, yf⟩, ⟨kg, ag, vg, pg, cg, yg⟩, p1, c1', y1⟩ := t1
      obtain ⟨k2, o2', ⟨kh, ah, vh, ph, ch, yh⟩, ⟨ki, ai, vi, pi, ci, yi⟩, p2, c2', y2⟩ := t2
      have HS := HX
      clear h1 h2 HX
      have hSh := hid0 hS
      clear hS
      generalize hal : allH row (Q.take j) = al' at HA ⊢
      clear hal
      go_wp2_with fail
      have hS := hSh.out.drew
      clear hSh
      refine wp_region_held_drew (S := BoxS wl w.heap.size [.int .i64 k, .int .i64 op, .int .i64 kl, .int .i64 al, .int .i64 vl.k, .int .i64 vl.n, .string vl.s, .slice pl yl.length cl, .int .i64 kr, .int .i64 ar, .int .i64 vr.k, .int .i64 vr.n, .string vr.s, .slice pr yr.length cr, .slice p ys.length c]) (by kernel_rfl) hS (fun hHeld => ?_)
      refine wpAnyH_take (i := 0) (v := ?_) rfl (by kernel_rfl) (by kernel_rfl) (by kernel_rfl) (fun _ _ _ h => h) (Or.inl ⟨by rfl, ?_⟩) (by assumption) ?_
      rotate_left
      · (intro wx hSw; go_simp; (try with_reducible rfl); (try omega))
      (try simp only [Act.put, List.setIfInBounds_toArray, List.set_cons_zero, List.set_cons_succ, List.getElem_toArray, List.getElem_cons_zero])
      refine wpAnyH_take (i := 1) (v := ?_) rfl (by kernel_rfl) (by kernel_rfl) (by kernel_rfl) (fun _ _ _ h => h) (Or.inl ⟨by rfl, ?_⟩) (by assumption) ?_
      rotate_left
      · (intro wx hSw; go_simp; (try with_reducible rfl); (try omega))
      (try simp only [Act.put, List.setIfInBounds_toArray, List.set_cons_zero, List.set_cons_succ, List.getElem_toArray, List.getElem_cons_zero, List.getElem_cons_succ])
      refine wpAnyH_take (i := 2) (v := ?_) rfl (by kernel_rfl) (by kernel_rfl) (by kernel_rfl) (fun _ _ _ h => h) (Or.inl ⟨by rfl, ?_⟩) (by assumption) ?_
      rotate_left
      · (intro wx hSw; go_simp; (try with_reducible rfl); (try omega))
      (try simp only [Act.put, List.setIfInBounds_toArray, List.set_cons_zero, List.set_cons_succ, List.getElem_toArray, List.getElem_cons_zero, List.getElem_cons_succ])
      refine wpAnyH_take (i := 3) (v := .agg [.int .i64 k1, .int .i64 o1', .int .i64 kf, .int .i64 af, .int .i64 vf.k, .int .i64 vf.n, .string vf.s, .slice pf yf.length cf, .int .i64 kg, .int .i64 ag, .int .i64 vg.k, .int .i64 vg.n, .string vg.s, .slice pg yg.length cg, .slice p1 y1.length c1'].toArray) rfl (by kernel_rfl) (by kernel_rfl) (by kernel_rfl) (fun _ _ _ h => h) (yieldsIf_load_mid rfl 38 _ rfl b1 (o1 + j * 15) rfl [.int .i64 k1, .int .i64 o1', .int .i64 kf, .int .i64 af, .int .i64 vf.k, .int .i64 vf.n, .string vf.s, .slice pf yf.length cf, .int .i64 kg, .int .i64 ag, .int .i64 vg.k, .int .i64 vg.n, .string vg.s, .slice pg yg.length cg, .slice p1 y1.length c1'] _ (fun w h => rangeAt_blk hX1 (h.b.block b1 hb1)) Try.underlying38 rfl (sizeTT)) (by assumption) ?_
      (try simp only [Act.put, List.setIfInBounds_toArray, List.set_cons_zero, List.set_cons_succ, List.getElem_toArray, List.getElem_cons_zero, List.getElem_cons_succ])
      refine wpAnyH_take (i := 4) (v := ?_) rfl (by kernel_rfl) (by kernel_rfl) (by kernel_rfl) (fun _ _ _ h => h) (Or.inl ⟨by rfl, ?_⟩) (by assumption) ?_
      rotate_left
      · (intro wx hSw; go_simp; (try with_reducible rfl); (try omega))
      (try simp only [Act.put, List.setIfInBounds_toArray, List.set_cons_zero, List.set_cons_succ, List.getElem_toArray, List.getElem_cons_zero, List.getElem_cons_succ])
      refine wpAnyH_take (i := 5) (v := ?_) rfl (by kernel_rfl) (by kernel_rfl) (by kernel_rfl) (fun _ _ _ h => h) (Or.inl ⟨by rfl, ?_⟩) (by assumption) ?_
      rotate_left
      · (intro wx hSw; go_simp; (try with_reducible rfl); (try omega))
      (try simp only [Act.put, List.setIfInBounds_toArray, List.set_cons_zero, List.set_cons_succ, List.getElem_toArray, List.getElem_cons_zero, List.getElem_cons_succ])
      refine wpAnyH_take (i := 6) (v := ?_) rfl (by kernel_rfl) (by kernel_rfl) (by kernel_rfl) (fun _ _ _ h => h) (Or.inl ⟨by rfl, ?_⟩) (by assumption) ?_
      rotate_left
      · (intro wx hSw; go_simp; (try with_reducible rfl); (try omega))
      (try simp only [Act.put, List.setIfInBounds_toArray, List.set_cons_zero, List.set_cons_succ, List.getElem_toArray, List.getElem_cons_zero, List.getElem_cons_succ])
      refine wpAnyH_take (i := 7) (v := .agg [.int .i64 k2, .int .i64 o2', .int .i64 kh, .int .i64 ah, .int .i64 vh.k, .int .i64 vh.n, .string vh.s, .slice ph yh.length ch, .int .i64 ki, .int .i64 ai, .int .i64 vi.k, .int .i64 vi.n, .string vi.s, .slice pi yi.length ci, .slice p2 y2.length c2'].toArray) rfl (by kernel_rfl) (by kernel_rfl) (by kernel_rfl) (fun _ _ _ h => h) (yieldsIf_load_mid rfl 38 _ rfl b2 (o2 + j * 15) rfl [.int .i64 k2, .int .i64 o2', .int .i64 kh, .int .i64 ah, .int .i64 vh.k, .int .i64 vh.n, .string vh.s, .slice ph yh.length ch, .int .i64 ki, .int .i64 ai, .int .i64 vi.k, .int .i64 vi.n, .string vi.s, .slice pi yi.length ci, .slice p2 y2.length c2'] _ (fun w h => rangeAt_blk hX2 (h.b.block b2 hb2)) Try.underlying38 rfl (sizeTT)) (by assumption) ?_
      (try simp only [Act.put, List.setIfInBounds_toArray, List.set_cons_zero, List.set_cons_succ, List.getElem_toArray, List.getElem_cons_zero, List.getElem_cons_succ])
      refine wpAnyH_ready (rs := [8]) (by kernel_rfl) (by simp) ?_
      refine AllReadyH.cons rfl (fun K hK => ?_) AllReadyH.nil
      go_simp
      refine (HS.out _ hS.b).mono ?_
      rintro e W3 ⟨rfl, hb⟩
      have hS := hS.below hb
      clear hb
      refine hK.out _ _ hS (fun hHeld => ?_)
      clear hK K
      (try simp only [Act.put, List.setIfInBounds_toArray, List.set_cons_zero, List.set_cons_succ, List.getElem_toArray, List.getElem_cons_zero, List.getElem_cons_succ])
      refine wpAnyH_take (i := 9) (v := ?_) rfl (by kernel_rfl) (by kernel_rfl) (by kernel_rfl) (fun _ _ _ h => h) (Or.inl ⟨by rfl, ?_⟩) (by assumption) ?_
      rotate_left
      · (intro wx hSw; go_simp; (try with_reducible rfl); (try omega))
      (try simp only [Act.put, List.setIfInBounds_toArray, List.set_cons_zero, List.set_cons_succ, List.getElem_toArray, List.getElem_cons_zero, List.getElem_cons_succ])
      refine wpAnyH_done (by kernel_rfl) ?_ _
      cases al'
      · go_wp2_with fail
        exact ⟨⟨j + 1, by omega, by go_num, by rw [HA.out]; rfl, hS⟩, by simp [intOf]; omega⟩
      · have hb1' := Nat.lt_of_lt_of_le hb1 hS.b.size
        have q0 := cell_later hS.b (rng hX1 0 rfl)
        have q1 := cell_later hS.b (rng hX1 1 rfl)
        have q2 := cell_later hS.b (rng hX1 2 rfl)
        have q3 := cell_later hS.b (rng hX1 3 rfl)
        have q4 := cell_later hS.b (rng hX1 4 rfl)
        have q5 := cell_later hS.b (rng hX1 5 rfl)
        have q6 := cell_later hS.b (rng hX1 6 rfl)
        have q7 := cell_later hS.b (rng hX1 7 rfl)
        have q8 := cell_later hS.b (rng hX1 8 rfl)
        have q9 := cell_later hS.b (rng hX1 9 rfl)
        have q10 := cell_later hS.b (rng hX1 10 rfl)
        have q11 := cell_later hS.b (rng hX1 11 rfl)
        have q12 := cell_later hS.b (rng hX1 12 rfl)
        have q13 := cell_later hS.b (rng hX1 13 rfl)
        have q14 := cell_later hS.b (rng hX1 14 rfl)
        simp only [Nat.add_zero] at q0
        have hSh := hid0 hS
        clear hS
        go_wp2_with fail
        go_at_call 14
        refine (HJ.out _ hSh.out.b).mono ?_
        rintro e w5 ⟨rfl, hb⟩
        have hS5 := hid0 (hSh.out.below hb)
        clear hb q0 q1 q2 q3 q4 q5 q6 q7 q8 q9 q10 q11 q12 q13 q14 hSh
        go_wp2_with fail
        exact ⟨⟨j + 1, by omega, by go_num, by rw [HA.out]; rfl, hS5.out⟩, by simp [intOf]; omega⟩
    · have g0 : decide ((j : Int) < (N : Int)) = false := by simpa using hlt
      rw [List.take_of_length_le (by rw [HL.out, HN.out]; omega)]
      have HG := HH.out wl HBw.out
      have hf := HF.out
      generalize allH row Q = al' at hf ⊢
      have a0 := hS.a.cell 0 rfl
      have a1 := hS.a.cell 1 rfl
      have a2 := hS.a.cell 2 rfl
      have a3 := hS.a.cell 3 rfl
      have a4 := hS.a.cell 4 rfl
      have a5 := hS.a.cell 5 rfl
      have a6 := hS.a.cell 6 rfl
      have a7 := hS.a.cell 7 rfl
      have a8 := hS.a.cell 8 rfl
      have a9 := hS.a.cell 9 rfl
      have a10 := hS.a.cell 10 rfl
      have a11 := hS.a.cell 11 rfl
      have a12 := hS.a.cell 12 rfl
      have a13 := hS.a.cell 13 rfl
      have a14 := hS.a.cell 14 rfl
      have hSh := hid0 hS
      clear hS
      go_wp2_with fail
      go_at_call 14
      refine (HG.out _ hSh.out.b).mono ?_
      rintro e w5 ⟨rfl, hb⟩
      have hS5 := hid0 (hSh.out.below hb)
      clear hb a0 a1 a2 a3 a4 a5 a6 a7 a8 a9 a10 a11 a12 a13 a14 hSh
      go_wp2_with fail
      go_ret
      exact ⟨by first | rfl | (rw [hf]) | (simp [hf]), below_through hS5.out.b HBw.out.size HBw.out⟩
end Go.Proofs.Ytolcebbpbihnoaa
