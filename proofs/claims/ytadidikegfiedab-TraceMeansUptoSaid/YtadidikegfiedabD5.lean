/- Several of my texts laid together, each as it was: T26. Conditions: each names its own. -/
import Derived.Test.YtadidikegfiedabD4
/- TraceMeans: the law's call, in whatever memory: it is true. Conditions: the steps' cells are known. -/
namespace Go.Proofs.Ytadidikegfiedab
open Go.RowKit

theorem InvT.since {i : Nat} {D : List Dat} {Bs : List (List Pair)} {low : Nat} (h : InvT i D Bs low) (k : Nat) : sinceM 0 D (k : Int) = (ofB ((keepD k D).map pairD), true) := by
  unfold sinceM
  rw [if_pos ⟨h.right, Int.natCast_nonneg k⟩]
theorem prs_at (Bs : List Bg) (k : Nat) (hk : k < Bs.length) : (Bs.map Bg.prs)[k]'(by simpa using hk) = Bs[k].E.map pr := by rw [List.getElem_map]; rfl
/-- What is told of each time. -/
structure Then (w : World) (L : List Ent) (k : Nat) (x y : Bg) : Prop where
  xa : ElemsAt w x.a x.E
  ya : ElemsAt w y.a y.E
  xl : x.E.length ≤ 240000 ∧ absS (x.E.map pr) ≤ 240000
  ll : (ofB ((keepD k (L.map dat)).map pairD)).length ≤ 240000 ∧ absS (ofB ((keepD k (L.map dat)).map pairD)) ≤ 240000
  eq : ofB (x.E.map pr ++ ofB ((keepD k (L.map dat)).map pairD)) = y.E.map pr
theorem then_of {w : World} {i : Nat} {L : List Ent} {ba : Option Addr} {Bs : List Bg} {low k : Nat} (hi : i ≤ 60) (hB : BagsAt w ba Bs) (hI : InvT i (L.map dat) (Bs.map Bg.prs) low) (hk : k < Bs.length) (hl : low ≤ k) (hn : Bs.length - 1 < Bs.length) : Then w L k Bs[k] Bs[Bs.length - 1] := by
  have h1 := hI.len
  rw [List.length_map] at h1
  have hk' : k < (Bs.map Bg.prs).length := by simpa using hk
  have h2 := hI.small k hk'
  have h3 := len_abs (hI.rises k hk')
  rw [prs_at Bs k hk] at h2 h3
  rw [List.length_map] at h3
  have h4 := hI.few
  have h5 := keep_abs (k := (k : Int)) hI.plain
  have h6 := absS_ofB ((keepD k (L.map dat)).map pairD)
  have h7 := len_ofB ((keepD k (L.map dat)).map pairD)
  have h8 := List.length_filter_le (fun x : Dat => decide ((k : Int) < x.1)) (L.map dat)
  have h9 : ((keepD k (L.map dat)).map pairD).length ≤ (L.map dat).length := by rw [List.length_map]; exact h8
  have h10 := hI.means hk' hl
  rw [prs_at Bs k hk] at h10
  have h11 : (Bs.map Bg.prs)[i]'(by rw [List.length_map]; omega) = Bs[Bs.length - 1].E.map pr := by
    have : i = Bs.length - 1 := by omega
    subst this
    exact prs_at Bs _ hn
  rw [h11] at h10
  exact ⟨hB.el _ (List.getElem_mem hk), hB.el _ (List.getElem_mem hn), by omega, by omega, h10⟩
structure SMn (b3 : Nat) (us : List Value) (bb p1 p2 : Nat) (v1 v2 : Value) (w0 W : World) : Prop where
  v3 : VarB W b3 us
  q1 : W.cell? ⟨bb, p1, none⟩ = some v1
  q2 : W.cell? ⟨bb, p2, none⟩ = some v2
  b : Below w0.heap.size w0 W
theorem SMn.below {b3 : Nat} {us : List Value} {bb p1 p2 : Nat} {v1 v2 : Value} {w0 W W' : World} (h : SMn b3 us bb p1 p2 v1 v2 w0 W) (hb : Below W.heap.size W W') : SMn b3 us bb p1 p2 v1 v2 w0 W' := ⟨h.v3.below hb, cell_later hb h.q1, cell_later hb h.q2, below_through hb h.b.size h.b⟩
set_option maxHeartbeats 8000000 in
set_option maxRecDepth 1000000 in
theorem lawTraceMeans (a : Option Addr) (c : Nat) (S : List StX) (w : World) (h : StepsAt w a S) :
    Calls Try.prog 3 #[.slice a S.length c] w fun e w' => e = .returned (.bool true) ∧ Below w.heap.size w w' := by
  have CP := play_any a c S w h
  have CA := hid0 awake16_any
  obtain ⟨N, hN⟩ : ∃ N, S.length = N := ⟨_, rfl⟩
  rw [hN] at CP ⊢
  clear h hN
  go_enter Try.func3, Try.ntmps3
  have HCP := hid0 CP
  clear CP
  go_wp2_with fail
  refine Calls.mono HCP.out ?_
  rintro e w2 ⟨⟨i, la, lc, L, ba, cb, Bs, low, rfl, hi, hL, hB, hI⟩, hb2⟩
  have hBl : Bs.length = i + 1 := by have := hI.len; rwa [List.length_map] at this
  obtain ⟨n, hn⟩ : ∃ n, L.length = n := ⟨_, rfl⟩
  obtain ⟨nb, hnb⟩ : ∃ nb, Bs.length = nb := ⟨_, rfl⟩
  rw [hn, hnb]
  rw [hnb] at hBl
  have hfw : n ≤ 240000 := by have := hI.few; rw [List.length_map] at this; omega
  have V3 := VarB.new w2 [.int .i64 0, .slice la n lc, .slice ba nb cb, .int .i64 low] 28
  have hbA : Below w2.heap.size w2 (w2.alloc (Obj.cells #[.int .i64 0, .slice la n lc, .slice ba nb cb, .int .i64 low] 28)) := (Below.refl _ _).alloc (Nat.le_refl _) _
  replace hL := hL.later hbA
  replace hB := hB.later hbA
  have HI := hid0 hI
  have HBW := hid0 (below_through hbA hb2.size hb2)
  have HN := hid0 hn
  have HNB := hid0 hnb
  have HBL := hid0 hBl
  have hlow : low ≤ i := hI.lo
  have hbn : nb ≤ 61 := by omega
  clear hI hn hnb hbA hb2 HCP
  have hc0 := V3.cell 0 rfl
  have hc1 := V3.cell 1 rfl
  have hc3 := V3.cell 3 rfl
  have HL := hid0 hL
  have HBB := hid0 hB
  have HV := hid0 V3
  have CRt : Calls Try.prog 7 #[.agg #[.int .i64 0, .slice la n lc]] (w2.alloc (Obj.cells #[.int .i64 0, .slice la n lc, .slice ba nb cb, .int .i64 low] 28)) (fun e w' => e = .returned (.bool true) ∧ Below (w2.alloc (Obj.cells #[.int .i64 0, .slice la n lc, .slice ba nb cb, .int .i64 low] 28)).heap.size (w2.alloc (Obj.cells #[.int .i64 0, .slice la n lc, .slice ba nb cb, .int .i64 low] 28)) w') := by
    have h := trRight_any 0 la lc L _ hL (by rw [HN.out]; omega)
    rwa [HN.out, HI.out.right] at h
  have HCR := hid0 CRt
  clear hL hB V3 CRt hBl
  go_wp2_with fail
  refine Calls.mono HCR.out ?_
  generalize w2.alloc (Obj.cells #[.int .i64 0, .slice la n lc, .slice ba nb cb, .int .i64 low] 28) = w3 at *
  generalize w2.heap.size = b3 at *
  rintro e w4 ⟨rfl, hb4⟩
  have HBW := hid0 (below_through hb4 HBW.out.size HBW.out)
  have HL := hid0 (HL.out.later hb4)
  have HBB := hid0 (HBB.out.later hb4)
  have HV := hid0 (HV.out.below hb4)
  have hc3 := HV.out.cell 3 rfl
  clear hb4 hc0 hc1 HCR
  go_wp2_with fail
  clear hc3
  go_loopw [5] (fun kv wr => ∃ k : Nat, low ≤ k ∧ k ≤ nb ∧ kv = .int .i64 k ∧ Below w4.heap.size w4 wr) (fun kv _ => nb - (intOf kv).toNat)
  case atStart => exact ⟨low, Nat.le_refl _, by have := HBL.out; omega, rfl, Below.refl _ _⟩
  case round =>
    obtain ⟨k, hlk, hkn, rfl, hB⟩ := hrel
    have hc0 := (HV.out.below hB).cell 0 rfl
    have hc1 := (HV.out.below hB).cell 1 rfl
    have hc2 := (HV.out.below hB).cell 2 rfl
    by_cases hlt : k < nb
    rotate_left
    · have hie : ¬ (k : Int) < (nb : Int) := by omega
      have HB := hid0 hB
      clear hB
      go_wp2_with (first | (go_at_call 11; go_must (refine (CA.out _).mono ?_; rintro e w9 ⟨rfl, hb9⟩)) | fail)
      go_ret
      exact ⟨rfl, below_through (below_through hb9 HB.out.size HB.out) HBW.out.size HBW.out⟩
    · have hkB : k < Bs.length := by rw [HNB.out]; exact hlt
      have hlB : Bs.length - 1 < Bs.length := by omega
      have hT := then_of hi HBB.out HI.out hkB hlk hlB
      obtain ⟨bb, ob, rfl, q1⟩ := HBB.out.at_ k hkB
      obtain ⟨bb2, ob2, e2, q2⟩ := HBB.out.at_ (Bs.length - 1) hlB
      obtain ⟨rfl, rfl⟩ : bb = bb2 ∧ ob = ob2 := by simpa using e2
      generalize Bs[k] = x at hT q1
      generalize Bs[Bs.length - 1] = y at hT q2
      obtain ⟨m, hm⟩ : ∃ m, nb - 1 = m := ⟨_, rfl⟩
      rw [HNB.out, hm] at q2
      have hw : IntKind.i64.wrap ((nb : Int) - 1) = (m : Int) := by rw [IntWalk.i64_in _ (by omega)]; omega
      have hmn : m < nb := by omega
      clear hm
      have HT := hid0 hT
      obtain ⟨nx, hnx⟩ : ∃ nx, x.E.length = nx := ⟨_, rfl⟩
      obtain ⟨ny, hny⟩ : ∃ ny, y.E.length = ny := ⟨_, rfl⟩
      rw [hnx] at q1
      rw [hny] at q2
      have HNX := hid0 hnx
      have HNY := hid0 hny
      have HQ := hid0 (And.intro q1 q2)
      have HB := hid0 hB
      have hnb0 : 0 < nb := by omega
      have CSn := hid0 (fun W (hW : Below w4.heap.size w4 W) => (show Calls Try.prog 8 #[.agg #[.int .i64 0, .slice la n lc], .int .i64 k] W (SinceAns W (ofB ((keepD k (L.map dat)).map pairD), true)) from by
        have h := trSince_any 0 la lc L k W (HL.out.later hW) (by rw [HN.out]; omega)
        rwa [HN.out, HI.out.since] at h))
      clear hT hkB hlB e2 hnx hny q1 q2 hB
      go_wp2_with fail
      refine Calls.mono (CSn.out _ HB.out) ?_
      rintro e w8 ⟨⟨a8, c8, E8, rfl, _, hE8, hm8⟩, hb8⟩
      have hB8 := below_through hb8 HB.out.size HB.out
      have CAd := hid0 (fun W (hW : Below w8.heap.size w8 W) => (show Calls Try.prog 10 #[.slice x.a nx x.c, .slice a8 E8.length c8] W (OfAns2 W (x.E.map pr ++ E8.map pr)) from by
        have hl8 := congrArg List.length hm8
        rw [List.length_map] at hl8
        have h := refAdd2 x.a a8 x.c c8 x.E E8 W ((HT.out.xa.later hB8).later hW) (hE8.later hW) (by have := HT.out.xl; have := HT.out.ll; dsimp only at hl8; omega) (by rw [absS_append, hm8]; have := HT.out.xl; have := HT.out.ll; dsimp only; omega)
        rwa [HNX.out] at h))
      have CSame := hid0 (fun (W : World) (a9 : Option Addr) (c9 : Nat) (E9 : List Elem) (n9 : Nat) (hn9 : E9.length = n9) (hE9 : ElemsAt W a9 E9) (hm9 : E9.map pr = ofB (x.E.map pr ++ E8.map pr)) (hW : Below w8.heap.size w8 W) => (show Calls Try.prog 9 #[.slice a9 n9 c9, .slice y.a ny y.c] W (fun e w' => e = .returned (.bool true) ∧ Below W.heap.size W w') from by
        have hl9 := congrArg List.length hm9
        have hl8 := congrArg List.length hm8
        have hlo := len_ofB (x.E.map pr ++ E8.map pr)
        rw [List.length_append, List.length_map, List.length_map] at hlo
        rw [List.length_map] at hl9 hl8
        have h := refSame_any a9 y.a c9 y.c E9 y.E W hE9 ((HT.out.ya.later hB8).later hW) (by have := HT.out.xl; have := HT.out.ll; dsimp only at hl8; omega) (by rw [hm9, hm8]; exact HT.out.eq)
        rwa [hn9, HNY.out] at h))
      have hS : SMn b3 [.int .i64 0, .slice la n lc, .slice (some ⟨bb, ob, none⟩) nb cb, .int .i64 low] bb (ob + k) (ob + m) (.slice x.a nx x.c) (.slice y.a ny y.c) w8 w8 := ⟨HV.out.below hB8, cell_later hB8 HQ.out.1, cell_later hB8 HQ.out.2, Below.refl _ _⟩
      obtain ⟨n8, hn8⟩ : ∃ n8, E8.length = n8 := ⟨_, rfl⟩
      rw [hn8] at CAd ⊢
      have HB8 := hid0 hB8
      clear hc0 hc1 hc2 hb8 hE8 hm8 hB8 hn8 CSn
      go_wp2_with fail
      have hS := hS.below (Below.drew (Below.refl _ _))
      refine wp_region_held_drew (S := SMn b3 [.int .i64 0, .slice la n lc, .slice (some ⟨bb, ob, none⟩) nb cb, .int .i64 low] bb (ob + k) (ob + m) (.slice x.a nx x.c) (.slice y.a ny y.c) w8) (by kernel_rfl) hS (fun hHeld => ?_)
      generalize w8.drew = W0 at hS hHeld ⊢
      refine wpAnyH_take (i := 0) (v := ?_) rfl (by kernel_rfl) (by kernel_rfl) (by kernel_rfl) (fun _ _ _ h => h) (Or.inl ⟨by rfl, ?_⟩) (by assumption) ?_
      rotate_left
      · (intro wx hSw; have l2 := hSw.v3.cell 2 rfl; have q1 := hSw.q1; have q2 := hSw.q2; go_simp; (try with_reducible rfl); (try omega))
      (try simp only [Act.put, List.setIfInBounds_toArray, List.set_cons_zero, List.set_cons_succ, List.getElem_toArray, List.getElem_cons_zero])
      refine wpAnyH_take (i := 1) (v := .bool false) rfl (by kernel_rfl) (by kernel_rfl) (by kernel_rfl) (fun _ _ _ h => h) (Or.inl ⟨by rfl, ?_⟩) (by assumption) ?_
      · (intro wx hSw; go_simp; (try with_reducible rfl); (try simp))
      (try simp only [Act.put, List.setIfInBounds_toArray, List.set_cons_zero, List.set_cons_succ, List.getElem_toArray, List.getElem_cons_zero, List.getElem_cons_succ])
      refine wpAnyH_take (i := 2) (v := ?_) rfl (by kernel_rfl) (by kernel_rfl) (by kernel_rfl) (fun _ _ _ h => h) (Or.inl ⟨by rfl, ?_⟩) (by assumption) ?_
      rotate_left
      · (intro wx hSw; have l2 := hSw.v3.cell 2 rfl; have q1 := hSw.q1; have q2 := hSw.q2; go_simp; (try with_reducible rfl); (try omega))
      (try simp only [Act.put, List.setIfInBounds_toArray, List.set_cons_zero, List.set_cons_succ, List.getElem_toArray, List.getElem_cons_zero, List.getElem_cons_succ])
      refine wpAnyH_take (i := 3) (v := ?_) rfl (by kernel_rfl) (by kernel_rfl) (by kernel_rfl) (fun _ _ _ h => h) (Or.inl ⟨by rfl, ?_⟩) (by assumption) ?_
      rotate_left
      · (intro wx hSw; have l2 := hSw.v3.cell 2 rfl; have q1 := hSw.q1; have q2 := hSw.q2; go_simp; (try with_reducible rfl); (try omega))
      (try simp only [Act.put, List.setIfInBounds_toArray, List.set_cons_zero, List.set_cons_succ, List.getElem_toArray, List.getElem_cons_zero, List.getElem_cons_succ])
      refine wpAnyH_take (i := 4) (v := ?_) rfl (by kernel_rfl) (by kernel_rfl) (by kernel_rfl) (fun _ _ _ h => h) (Or.inl ⟨by rfl, ?_⟩) (by assumption) ?_
      rotate_left
      · (intro wx hSw; have l2 := hSw.v3.cell 2 rfl; have q1 := hSw.q1; have q2 := hSw.q2; go_simp; (try with_reducible rfl); (try omega))
      (try simp only [Act.put, List.setIfInBounds_toArray, List.set_cons_zero, List.set_cons_succ, List.getElem_toArray, List.getElem_cons_zero, List.getElem_cons_succ])
      refine wpAnyH_take (i := 5) (v := ?_) rfl (by kernel_rfl) (by kernel_rfl) (by kernel_rfl) (fun _ _ _ h => h) (Or.inl ⟨by rfl, ?_⟩) (by assumption) ?_
      rotate_left
      · (intro wx hSw; have l2 := hSw.v3.cell 2 rfl; have q1 := hSw.q1; have q2 := hSw.q2; go_simp; (try with_reducible rfl); (try omega))
      (try simp only [Act.put, List.setIfInBounds_toArray, List.set_cons_zero, List.set_cons_succ, List.getElem_toArray, List.getElem_cons_zero, List.getElem_cons_succ])
      refine wpAnyH_take (i := 6) (v := ?_) rfl (by kernel_rfl) (by kernel_rfl) (by kernel_rfl) (fun _ _ _ h => h) (Or.inl ⟨by rfl, ?_⟩) (by assumption) ?_
      rotate_left
      · (intro wx hSw; have l2 := hSw.v3.cell 2 rfl; have q1 := hSw.q1; have q2 := hSw.q2; go_simp; (try with_reducible rfl); (try omega))
      (try simp only [Act.put, List.setIfInBounds_toArray, List.set_cons_zero, List.set_cons_succ, List.getElem_toArray, List.getElem_cons_zero, List.getElem_cons_succ])
      refine wpAnyH_take (i := 7) (v := ?_) rfl (by kernel_rfl) (by kernel_rfl) (by kernel_rfl) (fun _ _ _ h => h) (Or.inl ⟨by rfl, ?_⟩) (by assumption) ?_
      rotate_left
      · (intro wx hSw; have l2 := hSw.v3.cell 2 rfl; have q1 := hSw.q1; have q2 := hSw.q2; go_simp; (try with_reducible rfl); (try omega))
      (try simp only [Act.put, List.setIfInBounds_toArray, List.set_cons_zero, List.set_cons_succ, List.getElem_toArray, List.getElem_cons_zero, List.getElem_cons_succ])
      refine wpAnyH_take (i := 8) (v := ?_) rfl (by kernel_rfl) (by kernel_rfl) (by kernel_rfl) (fun _ _ _ h => h) (Or.inl ⟨by rfl, ?_⟩) (by assumption) ?_
      rotate_left
      · (intro wx hSw; have l2 := hSw.v3.cell 2 rfl; have q1 := hSw.q1; have q2 := hSw.q2; go_simp; (try with_reducible rfl); (try omega))
      (try simp only [Act.put, List.setIfInBounds_toArray, List.set_cons_zero, List.set_cons_succ, List.getElem_toArray, List.getElem_cons_zero, List.getElem_cons_succ])
      refine wpAnyH_take (i := 10) (v := ?_) rfl (by kernel_rfl) (by kernel_rfl) (by kernel_rfl) (fun _ _ _ h => h) (Or.inl ⟨by rfl, ?_⟩) (by assumption) ?_
      rotate_left
      · (intro wx hSw; have l2 := hSw.v3.cell 2 rfl; have q1 := hSw.q1; have q2 := hSw.q2; go_simp; (try with_reducible rfl); (try omega))
      (try simp only [Act.put, List.setIfInBounds_toArray, List.set_cons_zero, List.set_cons_succ, List.getElem_toArray, List.getElem_cons_zero, List.getElem_cons_succ])
      refine wpAnyH_take (i := 11) (v := ?_) rfl (by kernel_rfl) (by kernel_rfl) (by kernel_rfl) (fun _ _ _ h => h) (Or.inl ⟨by rfl, ?_⟩) (by assumption) ?_
      rotate_left
      · (intro wx hSw; have l2 := hSw.v3.cell 2 rfl; have q1 := hSw.q1; have q2 := hSw.q2; go_simp; (try with_reducible rfl); (try omega))
      (try simp only [Act.put, List.setIfInBounds_toArray, List.set_cons_zero, List.set_cons_succ, List.getElem_toArray, List.getElem_cons_zero, List.getElem_cons_succ])
      refine wpAnyH_take (i := 12) (v := ?_) rfl (by kernel_rfl) (by kernel_rfl) (by kernel_rfl) (fun _ _ _ h => h) (Or.inl ⟨by rfl, ?_⟩) (by assumption) ?_
      rotate_left
      · (intro wx hSw; have l2 := hSw.v3.cell 2 rfl; have q1 := hSw.q1; have q2 := hSw.q2; go_simp; (try with_reducible rfl); (try omega))
      (try simp only [Act.put, List.setIfInBounds_toArray, List.set_cons_zero, List.set_cons_succ, List.getElem_toArray, List.getElem_cons_zero, List.getElem_cons_succ])
      refine wpAnyH_take (i := 13) (v := ?_) rfl (by kernel_rfl) (by kernel_rfl) (by kernel_rfl) (fun _ _ _ h => h) (Or.inl ⟨by rfl, ?_⟩) (by assumption) ?_
      rotate_left
      · (intro wx hSw; have l2 := hSw.v3.cell 2 rfl; have q1 := hSw.q1; have q2 := hSw.q2; go_simp; (try with_reducible rfl); (try omega))
      (try simp only [Act.put, List.setIfInBounds_toArray, List.set_cons_zero, List.set_cons_succ, List.getElem_toArray, List.getElem_cons_zero, List.getElem_cons_succ])
      refine wpAnyH_take (i := 14) (v := ?_) rfl (by kernel_rfl) (by kernel_rfl) (by kernel_rfl) (fun _ _ _ h => h) (Or.inl ⟨by rfl, ?_⟩) (by assumption) ?_
      rotate_left
      · (intro wx hSw; have l2 := hSw.v3.cell 2 rfl; have q1 := hSw.q1; have q2 := hSw.q2; go_simp; (try with_reducible rfl); (try omega))
      (try simp only [Act.put, List.setIfInBounds_toArray, List.set_cons_zero, List.set_cons_succ, List.getElem_toArray, List.getElem_cons_zero, List.getElem_cons_succ])
      refine wpAnyH_take (i := 15) (v := ?_) rfl (by kernel_rfl) (by kernel_rfl) (by kernel_rfl) (fun _ _ _ h => h) (Or.inl ⟨by rfl, ?_⟩) (by assumption) ?_
      rotate_left
      · (intro wx hSw; have l2 := hSw.v3.cell 2 rfl; have q1 := hSw.q1; have q2 := hSw.q2; go_simp; (try with_reducible rfl); (try omega))
      (try simp only [Act.put, List.setIfInBounds_toArray, List.set_cons_zero, List.set_cons_succ, List.getElem_toArray, List.getElem_cons_zero, List.getElem_cons_succ])
      refine wpAnyH_take (i := 16) (v := ?_) rfl (by kernel_rfl) (by kernel_rfl) (by kernel_rfl) (fun _ _ _ h => h) (Or.inl ⟨by rfl, ?_⟩) (by assumption) ?_
      rotate_left
      · (intro wx hSw; have l2 := hSw.v3.cell 2 rfl; have q1 := hSw.q1; have q2 := hSw.q2; go_simp; (try with_reducible rfl); (try omega))
      (try simp only [Act.put, List.setIfInBounds_toArray, List.set_cons_zero, List.set_cons_succ, List.getElem_toArray, List.getElem_cons_zero, List.getElem_cons_succ])
      refine wpAnyH_take (i := 17) (v := ?_) rfl (by kernel_rfl) (by kernel_rfl) (by kernel_rfl) (fun _ _ _ h => h) (Or.inl ⟨by rfl, ?_⟩) (by assumption) ?_
      rotate_left
      · (intro wx hSw; have l2 := hSw.v3.cell 2 rfl; have q1 := hSw.q1; have q2 := hSw.q2; go_simp; (try with_reducible rfl); (try omega))
      (try simp only [Act.put, List.setIfInBounds_toArray, List.set_cons_zero, List.set_cons_succ, List.getElem_toArray, List.getElem_cons_zero, List.getElem_cons_succ])
      refine wpAnyH_ready (rs := [9]) (by kernel_rfl) (by simp) ?_
      refine AllReadyH.cons rfl (fun K hK => ?_) AllReadyH.nil
      go_simp
      refine Calls.mono (CAd.out _ hS.b) ?_
      rintro e W9 ⟨⟨a9, c9, E9, rfl, _, hE9, hm9, _, _⟩, hb9⟩
      have hS := hS.below hb9
      have HE9 := hid0 hE9
      have HM9 := hid0 hm9
      obtain ⟨n9, hn9⟩ : ∃ n9, E9.length = n9 := ⟨_, rfl⟩
      have HN9 := hid0 hn9
      rw [hn9]
      clear hb9 hE9 hm9 hn9
      refine hK.out _ _ hS (fun hHeld => ?_)
      clear hK K
      (try simp only [Act.put, List.setIfInBounds_toArray, List.set_cons_zero, List.set_cons_succ, List.getElem_toArray, List.getElem_cons_zero, List.getElem_cons_succ])
      refine wpAnyH_ready (rs := [18]) (by kernel_rfl) (by simp) ?_
      refine AllReadyH.cons rfl (fun K hK => ?_) AllReadyH.nil
      go_simp
      have CSm := CSame.out W9 a9 c9 E9 n9 HN9.out HE9.out HM9.out hS.b
      refine Calls.mono CSm ?_
      rintro e WA ⟨rfl, hbA⟩
      have hS := hS.below hbA
      clear hbA CSm
      refine hK.out _ _ hS (fun hHeld => ?_)
      clear hK K
      (try simp only [Act.put, List.setIfInBounds_toArray, List.set_cons_zero, List.set_cons_succ, List.getElem_toArray, List.getElem_cons_zero, List.getElem_cons_succ])
      refine wpAnyH_take (i := 19) (v := ?_) rfl (by kernel_rfl) (by kernel_rfl) (by kernel_rfl) (fun _ _ _ h => h) (Or.inl ⟨by rfl, ?_⟩) (by assumption) ?_
      rotate_left
      · (intro wx hSw; have l2 := hSw.v3.cell 2 rfl; have q1 := hSw.q1; have q2 := hSw.q2; go_simp; (try with_reducible rfl); (try omega))
      (try simp only [Act.put, List.setIfInBounds_toArray, List.set_cons_zero, List.set_cons_succ, List.getElem_toArray, List.getElem_cons_zero, List.getElem_cons_succ])
      refine wpAnyH_take (i := 20) (v := ?_) rfl (by kernel_rfl) (by kernel_rfl) (by kernel_rfl) (fun _ _ _ h => h) (Or.inl ⟨by rfl, ?_⟩) (by assumption) ?_
      rotate_left
      · (intro wx hSw; have l2 := hSw.v3.cell 2 rfl; have q1 := hSw.q1; have q2 := hSw.q2; go_simp; (try with_reducible rfl); (try omega))
      (try simp only [Act.put, List.setIfInBounds_toArray, List.set_cons_zero, List.set_cons_succ, List.getElem_toArray, List.getElem_cons_zero, List.getElem_cons_succ])
      refine wpAnyH_done (by kernel_rfl) ?_ _
      have HB9 := hid0 (below_through hS.b HB8.out.size HB8.out)
      clear hS hHeld
      go_wp2_with fail
      exact ⟨⟨k + 1, by omega, by omega, by go_num, HB9.out⟩, by simp [intOf]; omega⟩
end Go.Proofs.Ytadidikegfiedab
