/- Several of my texts laid together, each as it was: T13, T14. Conditions: each names its own. -/
import Derived.Test.YtadidikegfiedaaC6
/- What came and went behind a time (trace.Since); what a purge leaves (trace.Purge): contracts of the calls, in whatever memory. Conditions: the log's cells are known. -/
namespace Go.Proofs.Ytadidikegfiedaa
open Go.RowKit

def entE (x : Ent) : Elem := ⟨x.a, x.c, x.r, x.n⟩
theorem entE_pr (K : List Ent) : (K.map entE).map pr = (K.map dat).map pairD := by
  rw [List.map_map, List.map_map]; rfl
theorem entE_in {w : World} {K : List Ent} (h : RowsInN w K) : RowsIn w (K.map entE) := fun e he => by
  obtain ⟨x, hx, rfl⟩ := List.mem_map.1 he
  exact h x hx
/-- What came and went behind a time, and whether the log goes back so far. -/
def sinceM (f : Int) (D : List Dat) (scn : Int) : List Pair × Bool :=
  if rightD f D = true ∧ f ≤ scn then (ofB ((keepD scn D).map pairD), true) else ([], false)
def SinceAns (w : World) (R : List Pair × Bool) (e : Ending) (w' : World) : Prop := (∃ a c E, e = .returned (.tuple #[.slice a E.length c, .bool R.2]) ∧ E.length ≤ c ∧ ElemsAt w' a E ∧ E.map pr = R.1) ∧ Below w.heap.size w w'
set_option maxHeartbeats 8000000 in
set_option maxRecDepth 1000000 in
theorem trSince_any (f : Int) (a : Option Addr) (c : Nat) (L : List Ent) (scn : Int) (w : World) (hL : EntsAt w a L) (hfew : L.length ≤ 1000000) :
    Calls Try.prog 8 #[.agg #[.int .i64 f, .slice a L.length c], .int .i64 scn] w (SinceAns w (sinceM f (L.map dat) scn)) := by
  have V := VarB.new w [.int .i64 f, .slice a L.length c] 24
  have hb1 : Below w.heap.size w (w.alloc (Obj.cells #[.int .i64 f, .slice a L.length c] 24)) := (Below.refl _ _).alloc (Nat.le_refl _) _
  have CR := hid0 (fun W (hW : Below w.heap.size w W) => trRight_any f a c L W (hL.later hW) (by omega))
  have CK := hid0 (fun W (hW : Below w.heap.size w W) => behind_any a c L scn W (hL.later hW) (by omega))
  have HK := hid0 (keepN_dat scn L)
  have HKL := hid0 (show (keepN scn L).length ≤ 1000000 from Nat.le_trans (List.length_filter_le ..) hfew)
  obtain ⟨D, hD⟩ : ∃ D, L.map dat = D := ⟨_, rfl⟩
  rw [hD] at CR HK ⊢
  generalize keepN scn L = K at CK HK HKL
  obtain ⟨n, hn⟩ : ∃ n, L.length = n := ⟨_, rfl⟩
  rw [hn] at V hb1 CR CK ⊢
  clear hL hD hn hfew
  have a0 := V.cell 0 rfl
  have a1 := V.cell 1 rfl
  go_enter Try.func8, Try.ntmps8
  go_wp2_with fail
  generalize w.alloc (Obj.cells #[.int .i64 f, .slice a n c] 24) = w1 at *
  go_wp2_with fail
  refine Calls.mono (CR.out _ hb1) ?_
  rintro e w2 ⟨rfl, hb2⟩
  have hB2 := below_through hb2 hb1.size hb1
  have V2 := V.below hb2
  have a0 := V2.cell 0 rfl
  have a1 := V2.cell 1 rfl
  clear hb1 hb2 V CR
  obtain ⟨rd, hrd⟩ : ∃ rd, rightD f D = rd := ⟨_, rfl⟩
  rw [hrd]
  cases rd with
  | false =>
    have hmod : sinceM f D scn = ([], false) := by unfold sinceM; rw [if_neg (by rw [hrd]; simp)]
    rw [hmod]
    go_wp2_with fail
    go_returns
    exact ⟨⟨none, 0, [], by rw [hmod]; rfl, Nat.le_refl _, ElemsAt.nil _ _, by rw [hmod]; rfl⟩, hB2⟩
  | true =>
    by_cases hf : scn < f
    · have hmod : sinceM f D scn = ([], false) := by unfold sinceM; rw [if_neg (by intro h; omega)]
      have hd : decide (scn < f) = true := by simpa using hf
      rw [hmod]
      go_wp2_with fail
      go_returns
      exact ⟨⟨none, 0, [], by rw [hmod]; rfl, Nat.le_refl _, ElemsAt.nil _ _, by rw [hmod]; rfl⟩, hB2⟩
    · have HMD := hid0 (show sinceM f D scn = (ofB (K.map dat |>.map pairD), true) by unfold sinceM; rw [if_pos ⟨hrd, by omega⟩, HK.out])
      have HABS := hid0 (show absS ((K.map entE).map pr) ≤ 1000000 by
        rw [entE_pr, absS_ents _ (fun x hx => by
          rw [HK.out] at hx
          exact (okD_lt (((rightD_iff f D).1 hrd).2.1 x (List.mem_filter.1 hx).1)).2), List.length_map]
        have := HKL.out; omega)
      have hd : decide (scn < f) = false := by simpa using hf
      have HB2 := hid0 hB2
      clear hrd hf
      go_wp2_with fail
      refine Calls.mono (CK.out _ HB2.out) ?_
      rintro e w3 ⟨v3, rfl, hM3⟩
      obtain ⟨a3, c3, rfl, _, hE3⟩ := hM3.ents
      have hB3 := hid0 (below_through hM3.b HB2.out.size HB2.out)
      have HE3 := hid0 hE3
      obtain ⟨n3, hn3⟩ : ∃ n3, K.length = n3 := ⟨_, rfl⟩
      have HN3 := hid0 hn3
      rw [hn3]
      clear hE3 hM3 V2 a0 a1 CK hB2 HB2 hn3
      have hn3f : n3 ≤ 1000000 := by rw [← HN3.out]; exact HKL.out
      go_wp2_with fail
      go_loopw [6, 23] (fun ov iv wr => ∃ i : Nat, i ≤ n3 ∧ iv = .int .i64 i ∧ OwnB wr w3.heap.size ov ((K.map entE).take i) ∧ Below w3.heap.size w3 wr) (fun _ iv _ => n3 - (intOf iv).toNat)
      case atStart => exact ⟨0, Nat.zero_le _, rfl, OwnB.nil _ _, Below.refl _ _⟩
      case round =>
        obtain ⟨i, hi, rfl, hown, hB⟩ := hrel
        by_cases hlt : i < n3
        · have hiK : i < K.length := by rw [HN3.out]; exact hlt
          obtain ⟨b1, o1, rfl, hc1⟩ := (HE3.out.1.later hB) (by intro e; rw [e] at hiK; exact absurd hiK (by simp))
          obtain ⟨q0, q1, q2⟩ := hc1 i hiK
          have e1 : (K.map entE).take i ++ [entE K[i]] = (K.map entE).take (i + 1) := by rw [List.take_succ_eq_append_getElem (by simpa using hiK)]; simp
          have HE1 := hid0 e1
          have hlen : ((K.map entE).take i).length = i := by rw [List.length_take, List.length_map]; omega
          have HLen := hid0 hlen
          have ho2 := fun o1 o2 => (hown.alloc o1).alloc o2
          clear hc1 e1 hlen
          generalize K[i] = x at q0 q1 q2 HE1
          go_wp2_with (at_builtin; go_must (refine wp_bag1 rfl _ _ rfl rfl (ho2 _ _) (entE x) (wr.heap.size + 1) rfl ?c0 ?c1 ?hl ?hb ?_))
          case c0 => show _ = some (Value.slice x.a x.r.length x.c); go_cell
          case c1 => show _ = some (Value.int .i64 x.n); go_cell
          case hl => have := HLen.out; omega
          case hb => have := hB.size; simp; omega
          intro v1 w4 hown1 hK1
          have hB1 := ((hB.alloc hB.size (Obj.cells #[.int .i64 x.s, .int .i64 x.n, .slice x.a x.r.length x.c] 49)).alloc (by have := hB.size; simp; omega) (Obj.cells #[.slice x.a x.r.length x.c, .int .i64 x.n] 46)).trans hK1.below
          rw [HE1.out] at hown1
          clear hown ho2 hK1 q0 q1 q2 hB
          go_wp2
          exact ⟨⟨i + 1, by omega, by go_num, hown1, hB1⟩, by simp [intOf]; omega⟩
        · rw [List.take_of_length_le (by rw [List.length_map, HN3.out]; omega)] at hown
          obtain ⟨a', c', rfl, hcap, _, hcl⟩ := elems_owned hown.out
          have hE : ElemsAt wr a' (K.map entE) := ⟨hcl, entE_in (HE3.out.2.later hB)⟩
          have hlen : (K.map entE).length = n3 := by rw [List.length_map, HN3.out]
          have hC := bagOf_any a' c' (K.map entE) wr hE hcap (by omega) (by have := HABS.out; omega)
          rw [hlen] at hC ⊢
          have HC := hid0 hC
          clear hown hcl hE hC hcap hlen
          have hie : ¬ (i : Int) < n3 := by omega
          go_wp2_with (go_at_call 29; refine HC.out.mono ?_; rintro e w1 ⟨⟨a2, c2, E2, rfl, h1, h2, h3⟩, hb⟩)
          go_returns
          exact ⟨⟨a2, c2, E2, by rw [HMD.out]; rfl, h1, h2, by rw [HMD.out, h3, entE_pr]⟩, below_through (below_through hb hB.size hB) hB3.out.size hB3.out⟩
end Go.Proofs.Ytadidikegfiedaa

/- What a purge leaves (trace.Purge): a contract of the call, in whatever memory. Conditions: the log's cells are known. -/
namespace Go.Proofs.Ytadidikegfiedaa
open Go.RowKit

structure SPg (w : World) (us : List Value) (W : World) : Prop where
  v2 : VarB W w.heap.size us
  v4 : VarT W (w.heap.size + 1) [.int .i64 0, .slice none 0 0] 24
  b : Below w.heap.size w W
theorem SPg.below {w : World} {us : List Value} {W W' : World} (h : SPg w us W) (hb : Below W.heap.size W W') : SPg w us W' := ⟨h.v2.below hb, h.v4.below hb, below_through hb h.b.size h.b⟩
set_option maxHeartbeats 8000000 in
set_option maxRecDepth 1000000 in
theorem trPurge_any (f : Int) (a : Option Addr) (c : Nat) (L : List Ent) (k : Int) (w : World) (hL : EntsAt w a L) (hfew : L.length ≤ 1000000) :
    Calls Try.prog 13 #[.agg #[.int .i64 f, .slice a L.length c], .int .i64 k] w fun e w' => ∃ v F, e = .returned (.agg #[.int .i64 f, v]) ∧ MkN 0 w w' v F ∧ F.map dat = keepD k (L.map dat) := by
  have CK := hid0 (fun W (hW : Below w.heap.size w W) => behind_any a c L k W (hL.later hW) (by omega))
  have HK := hid0 (keepN_dat k L)
  have HKL := hid0 (show (keepN k L).length ≤ 1000000 from Nat.le_trans (List.length_filter_le ..) hfew)
  have hT0 : SPg w [.int .i64 f, .slice a L.length c] ((w.alloc (Obj.cells #[.int .i64 f, .slice a L.length c] 24)).alloc (Obj.cells #[.int .i64 0, .slice none 0 0] 24)) :=
    ⟨(VarB.new w [.int .i64 f, .slice a L.length c] 24).alloc _, VarT.newAt (w.alloc (Obj.cells #[.int .i64 f, .slice a L.length c] 24)) [.int .i64 0, .slice none 0 0] 24 (by simp), ((Below.refl _ _).alloc (Nat.le_refl _) _).alloc (by simp) _⟩
  rw [← HK.out]
  obtain ⟨n, hn⟩ : ∃ n, L.length = n := ⟨_, rfl⟩
  rw [hn] at CK hT0 ⊢
  clear hL hn hfew HK
  go_enter Try.func13, Try.ntmps13
  go_wp2_with fail
  have hT := hT0.below (Below.drew (Below.refl _ _))
  clear hT0
  generalize ((w.alloc (Obj.cells #[.int .i64 f, .slice a n c] 24)).alloc (Obj.cells #[.int .i64 0, .slice none 0 0] 24)) = w1 at *
  refine wp_region_held_drew (S := (fun W => VarB W w.heap.size [.int .i64 f, .slice a n c])) (by kernel_rfl) hT.v2 (fun hHeld => ?_)
  generalize w1.drew = W0 at hT hHeld ⊢
  refine wpAnyH_take (i := 0) (v := ?_) rfl (by kernel_rfl) (by kernel_rfl) (by kernel_rfl) (fun _ _ _ h => h) (Or.inl ⟨by rfl, ?_⟩) (by assumption) ?_
  rotate_left
  · (intro wx hSw; have l0 := hSw.cell 0 rfl; have l1 := hSw.cell 1 rfl; go_simp; (try with_reducible rfl); (try omega))
  (try simp only [Act.put, List.setIfInBounds_toArray, List.set_cons_zero, List.set_cons_succ, List.getElem_toArray, List.getElem_cons_zero])
  refine wpAnyH_take (i := 1) (v := ?_) rfl (by kernel_rfl) (by kernel_rfl) (by kernel_rfl) (fun _ _ _ h => h) (Or.inl ⟨by rfl, ?_⟩) (by assumption) ?_
  rotate_left
  · (intro wx hSw; have l0 := hSw.cell 0 rfl; have l1 := hSw.cell 1 rfl; go_simp; (try with_reducible rfl); (try omega))
  (try simp only [Act.put, List.setIfInBounds_toArray, List.set_cons_zero, List.set_cons_succ, List.getElem_toArray, List.getElem_cons_zero, List.getElem_cons_succ])
  refine wpAnyH_take (i := 2) (v := ?_) rfl (by kernel_rfl) (by kernel_rfl) (by kernel_rfl) (fun _ _ _ h => h) (Or.inl ⟨by rfl, ?_⟩) (by assumption) ?_
  rotate_left
  · (intro wx hSw; have l0 := hSw.cell 0 rfl; have l1 := hSw.cell 1 rfl; go_simp; (try with_reducible rfl); (try omega))
  (try simp only [Act.put, List.setIfInBounds_toArray, List.set_cons_zero, List.set_cons_succ, List.getElem_toArray, List.getElem_cons_zero, List.getElem_cons_succ])
  refine wpAnyH_take (i := 3) (v := ?_) rfl (by kernel_rfl) (by kernel_rfl) (by kernel_rfl) (fun _ _ _ h => h) (Or.inl ⟨by rfl, ?_⟩) (by assumption) ?_
  rotate_left
  · (intro wx hSw; have l0 := hSw.cell 0 rfl; have l1 := hSw.cell 1 rfl; go_simp; (try with_reducible rfl); (try omega))
  (try simp only [Act.put, List.setIfInBounds_toArray, List.set_cons_zero, List.set_cons_succ, List.getElem_toArray, List.getElem_cons_zero, List.getElem_cons_succ])
  refine wpAnyH_take (i := 4) (v := ?_) rfl (by kernel_rfl) (by kernel_rfl) (by kernel_rfl) (fun _ _ _ h => h) (Or.inl ⟨by rfl, ?_⟩) (by assumption) ?_
  rotate_left
  · (intro wx hSw; have l0 := hSw.cell 0 rfl; have l1 := hSw.cell 1 rfl; go_simp; (try with_reducible rfl); (try omega))
  (try simp only [Act.put, List.setIfInBounds_toArray, List.set_cons_zero, List.set_cons_succ, List.getElem_toArray, List.getElem_cons_zero, List.getElem_cons_succ])
  refine wpAnyH_ready (rs := [5]) (by kernel_rfl) (by simp) ?_
  refine AllReadyH.cons rfl (fun K hK => ?_) AllReadyH.nil
  go_simp
  refine (CK.out _ hT.b).mono ?_
  rintro e w3 ⟨v3, rfl, hM3⟩
  have hT := hT.below hM3.b
  obtain ⟨a3, c3, rfl, _, hE3⟩ := hM3.ents
  obtain ⟨n3, hn3⟩ : ∃ n3, (keepN k L).length = n3 := ⟨_, rfl⟩
  have CC := hid0 (copiedN_any f a3 c3 (keepN k L) w3 hE3 (by have := HKL.out; omega))
  rw [hn3] at CC ⊢
  clear hM3 hE3 hn3
  refine hK.out _ _ hT.v2 (fun hHeld => ?_)
  clear hK K
  (try simp only [Act.put, List.setIfInBounds_toArray, List.set_cons_zero, List.set_cons_succ, List.getElem_toArray, List.getElem_cons_zero, List.getElem_cons_succ])
  refine wpAnyH_take (i := 6) (v := ?_) rfl (by kernel_rfl) (by kernel_rfl) (by kernel_rfl) (fun _ _ _ h => h) (Or.inl ⟨by rfl, ?_⟩) (by assumption) ?_
  rotate_left
  · (intro wx hSw; have l0 := hSw.cell 0 rfl; have l1 := hSw.cell 1 rfl; go_simp; (try with_reducible rfl); (try omega))
  (try simp only [Act.put, List.setIfInBounds_toArray, List.set_cons_zero, List.set_cons_succ, List.getElem_toArray, List.getElem_cons_zero, List.getElem_cons_succ])
  refine wpAnyH_ready (rs := [7]) (by kernel_rfl) (by simp) ?_
  refine AllReadyH.cons rfl (fun K hK => ?_) AllReadyH.nil
  go_simp
  refine CC.out.mono ?_
  rintro e w4 ⟨v4, F4, rfl, hM4, hF4⟩
  have hM := hM4.low hT.b
  have hT := hT.below hM4.b
  have HF4 := hid0 hF4
  obtain ⟨a4, c4, rfl, _, _⟩ := hM.ents
  obtain ⟨n4, hn4⟩ : ∃ n4, F4.length = n4 := ⟨_, rfl⟩
  rw [hn4] at hM ⊢
  clear hM4 hF4 hn4
  refine hK.out _ _ hT.v2 (fun hHeld => ?_)
  clear hK K
  (try simp only [Act.put, List.setIfInBounds_toArray, List.set_cons_zero, List.set_cons_succ, List.getElem_toArray, List.getElem_cons_zero, List.getElem_cons_succ])
  refine wpAnyH_ready (rs := [8]) (by kernel_rfl) (by simp) ?_
  refine AllReadyH.cons rfl (fun K hK => ?_) AllReadyH.nil
  have z0 := hT.v4.v.cell 0 rfl
  have z1 := hT.v4.v.cell 1 rfl
  have y0 := hT.v4.v.frz 0 (by simp)
  have y1 := hT.v4.v.frz 1 (by simp)
  go_simp
  have hP := hid0 (hM.puts hT.v4 (by omega) (by decide) (hM.apart hT.v4 (by decide)) [.int .i64 f, .slice a4 n4 c4])
  have hV4 := hid0 (hT.v4.v.puts [.int .i64 f, .slice a4 n4 c4] rfl)
  have hV2 := hT.v2.other (b := w.heap.size + 1) (o := 0) [.int .i64 f, .slice a4 n4 c4] (by omega)
  refine hK.out _ _ hV2 (fun hHeld => ?_)
  clear hK K
  (try simp only [Act.put, List.setIfInBounds_toArray, List.set_cons_zero, List.set_cons_succ, List.getElem_toArray, List.getElem_cons_zero, List.getElem_cons_succ])
  refine wpAnyH_done (by kernel_rfl) ?_ _
  clear hT hHeld
  go_wp2_with fail
  exact end_blk hV4.out rfl rfl _ Try.underlying24 rfl sizeLog rfl ⟨_, F4, rfl, hP.out, HF4.out⟩
end Go.Proofs.Ytadidikegfiedaa
