/- Several of my texts laid together, each as it was: Yw, Yx. Conditions: each names its own. -/
import Derived.Test.YtfdkajefcplfjaaF4
import Derived.Test.YtfdkajefcplfjaaB3
/- The reference's Reads: a contract of the call, in whatever memory. Conditions: an expression's cells are known; it is not too great. -/
namespace Go.Proofs.Ytfdkajefcplfjaa
open Go.RowKit

theorem rise_one (x : Int) : rise [x] = [x] := lt_same _ _ (rise_lt _) (by simp) (fun y => mem_rise _ y)
theorem rise_idem (F : List Int) : rise (rise F) = rise F := rise_same (mem_rise F)
theorem rise_two (F G : List Int) : rise (rise F ++ rise G) = rise (F ++ G) := rise_same fun x => by
  rw [List.mem_append, List.mem_append, mem_rise, mem_rise]
structure RrOk (n : Nat) : Prop where
  out : ∀ (x : Cx) (w : World), CxAt w n x → sizeC x ≤ 8000000 → Calls Try.prog 42 #[x.val] w (ListAns w (rise (rdC x)))
structure ListHalf (f : Nat) (w : World) (u : Value) (L : List Int) : Prop where
  out : ∀ W, Below w.heap.size w W → Calls Try.prog f #[u] W (ListAns W L)
theorem RrOk.half {n : Nat} (H : RrOk n) {w : World} {x : Cx} (hx : CxAt w n x) (hs : sizeC x ≤ 8000000) : ListHalf 42 w x.val (rise (rdC x)) := ⟨fun W hb => H.out x W (hx.later hb) hs⟩
theorem union_il {aa ab : Option Addr} {ca cb na nb : Nat} {A C : List Int} {w : World} (hA : IntsAt w aa A) (hna : A.length = na) (hC : IntsAt w ab C) (hnb : C.length = nb) (hs : na + nb ≤ 8000000) :
    Calls Try.prog 58 #[.slice aa na ca, .slice ab nb cb] w (ListAns w (rise (A ++ C))) := by subst hna; subst hnb; exact union_any hA hC hs
/-- A list of numbers that lies somewhere. -/
structure LL (w : World) (v : Value) (L : List Int) : Prop where
  out : ∃ a c, v = .slice a L.length c ∧ IntsAt w a L
theorem LL.nil (w : World) : LL w (.slice none 0 0) [] := ⟨none, 0, rfl, IntsAt.nil _ _⟩
set_option maxHeartbeats 16000000 in
set_option maxRecDepth 1000000 in
theorem refReads_one {n : Nat} (IH : RrOk n) (q : Int) (v : Val) (p : Option Addr) (c : Nat) (ys : List Cx) (w : World) (hx : CxAt w (n + 1) (.mk 1 q v p c ys)) (hs : sizeC (.mk 1 q v p c ys) ≤ 8000000) :
    Calls Try.prog 42 #[.agg #[.int .i64 1, .int .i64 q, .int .i64 v.k, .int .i64 v.n, .string v.s, .slice p ys.length c]] w (ListAns w (rise (rdC (.mk 1 q v p c ys)))) := by
  obtain ⟨hk, hA⟩ := hx
  rw [sizeC] at hs
  have H : ∀ j (hj : j < ys.length), ListHalf 42 w (ys[j]).val (rise (rdC ys[j])) := fun j hj => IH.half (hA _ (List.getElem_mem hj)) (by have := sizeCL_mem (List.getElem_mem hj); omega)
  have HH := hid0 H
  have HK := hid0 hk
  have hroom := hk.room
  have HR := hid0 (show rise (rdC (.mk 1 q v p c ys)) = rise ([q] ++ rdL ys) by rw [rdC, if_pos rfl])
  clear IH hA H hk
  have V := VarB.new w [.int .i64 1, .int .i64 q, .int .i64 v.k, .int .i64 v.n, .string v.s, .slice p ys.length c] 34
  have hB0 : Below w.heap.size w (w.alloc (.cells #[.int .i64 1, .int .i64 q, .int .i64 v.k, .int .i64 v.n, .string v.s, .slice p ys.length c] 34)) := (Below.refl _ _).alloc (Nat.le_refl _) _
  have a0 := V.cell 0 rfl
  have a1 := V.cell 1 rfl
  have a2 := V.cell 2 rfl
  have a3 := V.cell 3 rfl
  have a4 := V.cell 4 rfl
  have a5 := V.cell 5 rfl
  have V := hid0 V
  have hB0 := hid0 hB0
  go_enter Try.func42, Try.ntmps42
  go_wp2_with (at_builtin; refine app_list rfl _ _ rfl rfl w.heap.size 0 (ints []) (World.ownsRow_nil _ _ _ _) (some ⟨w.heap.size + 1, 0, none⟩) 1 1 rfl [q] rfl (fun _ => ⟨_, 0, rfl, fun i hi => ?c1⟩) (by omega) (by simp; omega) ?_)
  case c1 =>
    match i, hi with
    | 0, _ =>
      have h := (VarB.new (w.alloc (.cells #[.int .i64 1, .int .i64 q, .int .i64 v.k, .int .i64 v.n, .string v.s, .slice p ys.length c] 34)) [.int .i64 q] 3).cell 0 rfl
      rw [World.size_alloc] at h
      exact h
    | i + 1, hi => exact absurd hi (by simp)
  intro v1 w1 hO1 hg1 hat1
  have hB1 : Below w.heap.size w w1 := (hB0.out.alloc hB0.out.size _).grown hg1 (by simp; omega) (fun k hk => by cases hk)
  have hV1 : VarB w1 w.heap.size _ := (V.out.alloc (.cells #[.int .i64 q] 3)).keep (hg1.block _ (by simp; omega) (by simp [Value.ownBlock])) hg1.size
  have hO1' : LL w1 v1 (rise ([q] ++ rdL [])) := by
    have h : w1.ownsRow w.heap.size 3 1 v1 1 (ints [q]) := by have h := hO1; simpa [ints] using h
    obtain ⟨a, c, e, _, hI⟩ := ints_owned h rfl
    rw [show rise ([q] ++ rdL []) = [q] by rw [rdL, List.append_nil, rise_one]]
    exact ⟨⟨a, c, e, hI⟩⟩
  have a5 := hV1.cell 5 rfl
  have hB1 := hid0 hB1
  have hV1 := hid0 hV1
  have hO1' := hid0 hO1'
  clear hO1 hg1 hat1 a0 a1 a2 a3 a4 V hB0
  go_wp2_with fail
  clear a5
  go_loopw [3, 4] (fun u iv wr => ∃ j : Nat, j ≤ ys.length ∧ iv = .int .i64 j ∧ LL wr u (rise ([q] ++ rdL (ys.take j))) ∧ Below w.heap.size w wr ∧ VarB wr w.heap.size [.int .i64 1, .int .i64 q, .int .i64 v.k, .int .i64 v.n, .string v.s, .slice p ys.length c]) (fun _ iv _ => ys.length - (intOf iv).toNat)
  case atStart => exact ⟨0, Nat.zero_le _, rfl, by rw [List.take_zero]; exact hO1'.out, hB1.out, hV1.out⟩
  case round =>
    obtain ⟨j, hj, rfl, hIO, hnx, hV⟩ := hrel
    have hsz := hnx.size
    have hVl := hV.lt
    have b5 := hV.cell 5 rfl
    have hV := hid0 hV
    obtain ⟨ao, cO, rfl, hI0⟩ := hIO.out
    by_cases hlt : j < ys.length
    · have H := HH.out j hlt
      have HT := rdL_take ys j hlt
      obtain ⟨b, o, rfl, hb, hX⟩ := HK.out.arg j hlt
      have hs1 := sizeCL_take ys j hlt
      have hs2 := rdL_len (ys.take j)
      have hs3 := rdC_len ys[j]
      have hs4 := rise_len ([q] ++ rdL (ys.take j))
      have hs5 := rise_len (rdC ys[j])
      have HT2 : rise (rise ([q] ++ rdL (ys.take j)) ++ rise (rdC ys[j])) = rise ([q] ++ rdL (ys.take (j + 1))) := by rw [rise_two, HT, List.append_assoc]
      have hs6 : (rise ([q] ++ rdL (ys.take j))).length + (rise (rdC ys[j])).length ≤ 8000000 := by
        simp only [List.length_append, List.length_cons, List.length_nil] at hs4; omega
      clear hs1 hs2 hs3 hs4 hs5 HT
      generalize rise ([q] ++ rdL (ys.take j)) = O at hI0 HT2 hs6 ⊢
      generalize rise (rdC ys[j]) = Q at H HT2 hs6
      obtain ⟨t, ht⟩ : ∃ t, ys[j] = t := ⟨_, rfl⟩
      rw [ht] at H hX
      clear ht
      obtain ⟨kx, ax, vx, px, cx, yx⟩ := t
      have hb' : b < wr.heap.size := by omega
      have q0 := cell_later hnx (rng hX 0 rfl)
      have q1 := cell_later hnx (rng hX 1 rfl)
      have q2 := cell_later hnx (rng hX 2 rfl)
      have q3 := cell_later hnx (rng hX 3 rfl)
      have q4 := cell_later hnx (rng hX 4 rfl)
      have q5 := cell_later hnx (rng hX 5 rfl)
      simp only [Nat.add_zero] at q0
      have HT2 := hid0 HT2
      obtain ⟨N, hN⟩ : ∃ N, O.length = N := ⟨_, rfl⟩
      obtain ⟨M, hM⟩ : ∃ M, Q.length = M := ⟨_, rfl⟩
      rw [hN, hM] at hs6
      rw [hN]
      have HN := hid0 hN
      have HM := hid0 hM
      have HI0 := hid0 hI0
      have hnx := hid0 hnx
      clear hX hI0 hIO hN hM
      go_wp2_with fail
      go_at_call 42
      refine (H.out _ hnx.out).mono ?_
      rintro e w3 ⟨⟨a3, c3, rfl, hI3⟩, hb3⟩
      have hO3 := hid0 (HI0.out.later hb3)
      have hV3 := hid0 (hV.out.below hb3)
      have hB3 := hid0 (below_through hb3 hnx.out.size hnx.out)
      have hI3 := hid0 hI3
      rw [HM.out]
      clear hb3 b5 q0 q1 q2 q3 q4 q5
      go_wp2_with fail
      go_at_call 58
      refine (union_il hO3.out HN.out hI3.out HM.out hs6).mono ?_
      rintro e w4 ⟨⟨a4, c4, rfl, hI4⟩, hb4⟩
      have hV4 := hid0 (hV3.out.below hb4)
      have hB4 := hid0 (below_through hb4 hB3.out.size hB3.out)
      rw [HT2.out] at hI4 ⊢
      have hI4 := hid0 hI4
      clear hb4 hV3 hB3
      go_wp2_with fail
      exact ⟨⟨j + 1, by omega, by go_num, ⟨⟨a4, c4, rfl, hI4.out⟩⟩, hB4.out, hV4.out⟩, by simp [intOf]; omega⟩
    · obtain rfl : j = ys.length := by omega
      rw [List.take_length] at hI0 ⊢
      have HI0 := hid0 hI0
      clear hI0 hIO
      go_wp2_with fail
      go_ret
      rw [HR.out]
      exact ⟨⟨ao, cO, rfl, HI0.out⟩, hnx⟩
set_option maxHeartbeats 16000000 in
set_option maxRecDepth 1000000 in
theorem refReads_other {n : Nat} (IH : RrOk n) (k : Int) (hk1 : k ≠ 1) (q : Int) (v : Val) (p : Option Addr) (c : Nat) (ys : List Cx) (w : World) (hx : CxAt w (n + 1) (.mk k q v p c ys)) (hs : sizeC (.mk k q v p c ys) ≤ 8000000) :
    Calls Try.prog 42 #[.agg #[.int .i64 k, .int .i64 q, .int .i64 v.k, .int .i64 v.n, .string v.s, .slice p ys.length c]] w (ListAns w (rise (rdC (.mk k q v p c ys)))) := by
  obtain ⟨hk, hA⟩ := hx
  rw [sizeC] at hs
  have H : ∀ j (hj : j < ys.length), ListHalf 42 w (ys[j]).val (rise (rdC ys[j])) := fun j hj => IH.half (hA _ (List.getElem_mem hj)) (by have := sizeCL_mem (List.getElem_mem hj); omega)
  have HH := hid0 H
  have HK := hid0 hk
  have hroom := hk.room
  have HR := hid0 (show rise (rdC (.mk k q v p c ys)) = rise (([] : List Int) ++ rdL ys) by rw [rdC, if_neg hk1])
  clear IH hA H hk
  have V := VarB.new w [.int .i64 k, .int .i64 q, .int .i64 v.k, .int .i64 v.n, .string v.s, .slice p ys.length c] 34
  have hB0 : Below w.heap.size w (w.alloc (.cells #[.int .i64 k, .int .i64 q, .int .i64 v.k, .int .i64 v.n, .string v.s, .slice p ys.length c] 34)) := (Below.refl _ _).alloc (Nat.le_refl _) _
  have a0 := V.cell 0 rfl
  have a1 := V.cell 1 rfl
  have a2 := V.cell 2 rfl
  have a3 := V.cell 3 rfl
  have a4 := V.cell 4 rfl
  have a5 := V.cell 5 rfl
  have V := hid0 V
  have hB0 := hid0 hB0
  have t1 : (k == 1) = false := by simpa using hk1
  clear hk1
  go_enter Try.func42, Try.ntmps42
  go_wp2_with fail
  clear a0 a1 a2 a3 a4 a5
  go_loopw [3, 4] (fun u iv wr => ∃ j : Nat, j ≤ ys.length ∧ iv = .int .i64 j ∧ LL wr u (rise (([] : List Int) ++ rdL (ys.take j))) ∧ Below w.heap.size w wr ∧ VarB wr w.heap.size [.int .i64 k, .int .i64 q, .int .i64 v.k, .int .i64 v.n, .string v.s, .slice p ys.length c]) (fun _ iv _ => ys.length - (intOf iv).toNat)
  case atStart => exact ⟨0, Nat.zero_le _, rfl, by rw [List.take_zero, rdL, List.append_nil, rise_nil]; exact LL.nil _, hB0.out, V.out⟩
  case round =>
    obtain ⟨j, hj, rfl, hIO, hnx, hV⟩ := hrel
    have hsz := hnx.size
    have hVl := hV.lt
    have b5 := hV.cell 5 rfl
    have hV := hid0 hV
    obtain ⟨ao, cO, rfl, hI0⟩ := hIO.out
    by_cases hlt : j < ys.length
    · have H := HH.out j hlt
      have HT := rdL_take ys j hlt
      obtain ⟨b, o, rfl, hb, hX⟩ := HK.out.arg j hlt
      have hs1 := sizeCL_take ys j hlt
      have hs2 := rdL_len (ys.take j)
      have hs3 := rdC_len ys[j]
      have hs4 := rise_len (([] : List Int) ++ rdL (ys.take j))
      have hs5 := rise_len (rdC ys[j])
      have HT2 : rise (rise (([] : List Int) ++ rdL (ys.take j)) ++ rise (rdC ys[j])) = rise (([] : List Int) ++ rdL (ys.take (j + 1))) := by rw [rise_two, HT, List.append_assoc]
      have hs6 : (rise (([] : List Int) ++ rdL (ys.take j))).length + (rise (rdC ys[j])).length ≤ 8000000 := by
        simp only [List.length_append, List.length_nil] at hs4; omega
      clear hs1 hs2 hs3 hs4 hs5 HT
      generalize rise (([] : List Int) ++ rdL (ys.take j)) = O at hI0 HT2 hs6 ⊢
      generalize rise (rdC ys[j]) = Q at H HT2 hs6
      obtain ⟨t, ht⟩ : ∃ t, ys[j] = t := ⟨_, rfl⟩
      rw [ht] at H hX
      clear ht
      obtain ⟨kx, ax, vx, px, cx, yx⟩ := t
      have hb' : b < wr.heap.size := by omega
      have q0 := cell_later hnx (rng hX 0 rfl)
      have q1 := cell_later hnx (rng hX 1 rfl)
      have q2 := cell_later hnx (rng hX 2 rfl)
      have q3 := cell_later hnx (rng hX 3 rfl)
      have q4 := cell_later hnx (rng hX 4 rfl)
      have q5 := cell_later hnx (rng hX 5 rfl)
      simp only [Nat.add_zero] at q0
      have HT2 := hid0 HT2
      obtain ⟨N, hN⟩ : ∃ N, O.length = N := ⟨_, rfl⟩
      obtain ⟨M, hM⟩ : ∃ M, Q.length = M := ⟨_, rfl⟩
      rw [hN, hM] at hs6
      rw [hN]
      have HN := hid0 hN
      have HM := hid0 hM
      have HI0 := hid0 hI0
      have hnx := hid0 hnx
      clear hX hI0 hIO hN hM
      go_wp2_with fail
      go_at_call 42
      refine (H.out _ hnx.out).mono ?_
      rintro e w3 ⟨⟨a3, c3, rfl, hI3⟩, hb3⟩
      have hO3 := hid0 (HI0.out.later hb3)
      have hV3 := hid0 (hV.out.below hb3)
      have hB3 := hid0 (below_through hb3 hnx.out.size hnx.out)
      have hI3 := hid0 hI3
      rw [HM.out]
      clear hb3 b5 q0 q1 q2 q3 q4 q5
      go_wp2_with fail
      go_at_call 58
      refine (union_il hO3.out HN.out hI3.out HM.out hs6).mono ?_
      rintro e w4 ⟨⟨a4, c4, rfl, hI4⟩, hb4⟩
      have hV4 := hid0 (hV3.out.below hb4)
      have hB4 := hid0 (below_through hb4 hB3.out.size hB3.out)
      rw [HT2.out] at hI4 ⊢
      have hI4 := hid0 hI4
      clear hb4 hV3 hB3
      go_wp2_with fail
      exact ⟨⟨j + 1, by omega, by go_num, ⟨⟨a4, c4, rfl, hI4.out⟩⟩, hB4.out, hV4.out⟩, by simp [intOf]; omega⟩
    · obtain rfl : j = ys.length := by omega
      rw [List.take_length] at hI0 ⊢
      have HI0 := hid0 hI0
      clear hI0 hIO
      go_wp2_with fail
      go_ret
      rw [HR.out]
      exact ⟨⟨ao, cO, rfl, HI0.out⟩, hnx⟩
theorem refReads_all : ∀ n, RrOk n
  | 0 => ⟨fun _ _ h _ => h.elim⟩
  | n + 1 => ⟨fun x w hx hs => by
    obtain ⟨k, q, v, p, c, ys⟩ := x
    by_cases hk : k = 1
    · subst hk; exact refReads_one (refReads_all n) q v p c ys w hx hs
    · exact refReads_other (refReads_all n) k hk q v p c ys w hx hs⟩
theorem refReads_any {n : Nat} {x : Cx} {w : World} (hx : CxAt w n x) (hs : sizeC x ≤ 8000000) : Calls Try.prog 42 #[x.val] w (ListAns w (rise (rdC x))) := (refReads_all n).out x w hx hs
end Go.Proofs.Ytfdkajefcplfjaa

/- The reference's Asks, and the law's own same: contracts of the calls, in whatever memory. Conditions: a condition's cells are known; it is not too great. -/
namespace Go.Proofs.Ytfdkajefcplfjaa
open Go.RowKit

structure RaOk (n : Nat) : Prop where
  out : ∀ (x : Tx) (w : World), TxAt w n x → sizeT x ≤ 8000000 → Calls Try.prog 41 #[x.val] w (ListAns w (rise (asT x)))
theorem RaOk.half {n : Nat} (H : RaOk n) {w : World} {x : Tx} (hx : TxAt w n x) (hs : sizeT x ≤ 8000000) : ListHalf 41 w x.val (rise (asT x)) := ⟨fun W hb => H.out x W (hx.later hb) hs⟩
set_option maxHeartbeats 16000000 in
set_option maxRecDepth 1000000 in
theorem refAsks_step {n : Nat} (IH : RaOk n) (k op : Int) (kl al : Int) (vl : Val) (pl : Option Addr) (cl : Nat) (yl : List Cx) (kr ar : Int) (vr : Val) (pr : Option Addr) (cr : Nat) (yr : List Cx) (p : Option Addr) (c : Nat) (ys : List Tx) (w : World) (hx : TxAt w (n + 1) (.mk k op (.mk kl al vl pl cl yl) (.mk kr ar vr pr cr yr) p c ys)) (hs : sizeT (.mk k op (.mk kl al vl pl cl yl) (.mk kr ar vr pr cr yr) p c ys) ≤ 8000000) :
    Calls Try.prog 41 #[.agg #[.int .i64 k, .int .i64 op, .int .i64 kl, .int .i64 al, .int .i64 vl.k, .int .i64 vl.n, .string vl.s, .slice pl yl.length cl, .int .i64 kr, .int .i64 ar, .int .i64 vr.k, .int .i64 vr.n, .string vr.s, .slice pr yr.length cr, .slice p ys.length c]] w (ListAns w (rise (asT (.mk k op (.mk kl al vl pl cl yl) (.mk kr ar vr pr cr yr) p c ys)))) := by
  obtain ⟨⟨hl, hr⟩, hk, hA⟩ := hx
  rw [sizeT] at hs
  have H : ∀ j (hj : j < ys.length), ListHalf 41 w (ys[j]).val (rise (asT ys[j])) := fun j hj => IH.half (hA _ (List.getElem_mem hj)) (by have := sizeTL_mem (List.getElem_mem hj); omega)
  have HH := hid0 H
  have HK := hid0 hk
  have hroom := hk.room
  have C1 : ListHalf 42 w (.agg #[.int .i64 kl, .int .i64 al, .int .i64 vl.k, .int .i64 vl.n, .string vl.s, .slice pl yl.length cl]) (rise (rdC (.mk kl al vl pl cl yl))) := (refReads_all n).half hl (by omega)
  have C2 : ListHalf 42 w (.agg #[.int .i64 kr, .int .i64 ar, .int .i64 vr.k, .int .i64 vr.n, .string vr.s, .slice pr yr.length cr]) (rise (rdC (.mk kr ar vr pr cr yr))) := (refReads_all n).half hr (by omega)
  have sl := rdC_len (.mk kl al vl pl cl yl)
  have sr := rdC_len (.mk kr ar vr pr cr yr)
  have tl := rise_len (rdC (.mk kl al vl pl cl yl))
  have tr := rise_len (rdC (.mk kr ar vr pr cr yr))
  have HR := hid0 (show rise (asT (.mk k op (.mk kl al vl pl cl yl) (.mk kr ar vr pr cr yr) p c ys)) = rise ((rdC (.mk kl al vl pl cl yl) ++ rdC (.mk kr ar vr pr cr yr)) ++ asL ys) by rw [asT])
  have HU := hid0 (rise_two (rdC (.mk kl al vl pl cl yl)) (rdC (.mk kr ar vr pr cr yr)))
  have hgs : (rdC (.mk kl al vl pl cl yl) ++ rdC (.mk kr ar vr pr cr yr)).length + sizeTL ys ≤ 8000000 := by rw [List.length_append]; omega
  generalize rdC (.mk kl al vl pl cl yl) ++ rdC (.mk kr ar vr pr cr yr) = G at HR HU hgs
  generalize rise (rdC (.mk kl al vl pl cl yl)) = QL at C1 HU tl
  generalize rise (rdC (.mk kr ar vr pr cr yr)) = QR at C2 HU tr
  have hq : QL.length + QR.length ≤ 8000000 := by omega
  obtain ⟨NL, hNL⟩ : ∃ N, QL.length = N := ⟨_, rfl⟩
  obtain ⟨NR, hNR⟩ : ∃ N, QR.length = N := ⟨_, rfl⟩
  rw [hNL, hNR] at hq
  have HNL := hid0 hNL
  have HNR := hid0 hNR
  clear IH hA H hk hl hr sl sr tl tr hNL hNR
  have V := VarB.new w [.int .i64 k, .int .i64 op, .int .i64 kl, .int .i64 al, .int .i64 vl.k, .int .i64 vl.n, .string vl.s, .slice pl yl.length cl, .int .i64 kr, .int .i64 ar, .int .i64 vr.k, .int .i64 vr.n, .string vr.s, .slice pr yr.length cr, .slice p ys.length c] 37
  have hB0 : Below w.heap.size w (w.alloc (.cells #[.int .i64 k, .int .i64 op, .int .i64 kl, .int .i64 al, .int .i64 vl.k, .int .i64 vl.n, .string vl.s, .slice pl yl.length cl, .int .i64 kr, .int .i64 ar, .int .i64 vr.k, .int .i64 vr.n, .string vr.s, .slice pr yr.length cr, .slice p ys.length c] 37)) := (Below.refl _ _).alloc (Nat.le_refl _) _
  have V := hid0 V
  have hB0 := hid0 hB0
  go_enter Try.func41, Try.ntmps41
  go_wp2_with fail
  have hS : BoxS w w.heap.size [.int .i64 k, .int .i64 op, .int .i64 kl, .int .i64 al, .int .i64 vl.k, .int .i64 vl.n, .string vl.s, .slice pl yl.length cl, .int .i64 kr, .int .i64 ar, .int .i64 vr.k, .int .i64 vr.n, .string vr.s, .slice pr yr.length cr, .slice p ys.length c] _ := ⟨V.out.drew, Below.drew hB0.out⟩
  refine wp_region_held_drew (S := BoxS w w.heap.size [.int .i64 k, .int .i64 op, .int .i64 kl, .int .i64 al, .int .i64 vl.k, .int .i64 vl.n, .string vl.s, .slice pl yl.length cl, .int .i64 kr, .int .i64 ar, .int .i64 vr.k, .int .i64 vr.n, .string vr.s, .slice pr yr.length cr, .slice p ys.length c]) (by kernel_rfl) hS (fun hHeld => ?_)
  refine wpAnyH_take (i := 0) (v := ?_) rfl (by kernel_rfl) (by kernel_rfl) (by kernel_rfl) (fun _ _ _ h => h) (Or.inl ⟨by rfl, ?_⟩) (by assumption) ?_
  rotate_left
  · (intro wx hSw; have q1 := hSw.a.cell 1 rfl; go_simp; (try with_reducible rfl); (try omega))
  (try simp only [Act.put, List.setIfInBounds_toArray, List.set_cons_zero, List.set_cons_succ, List.getElem_toArray, List.getElem_cons_zero])
  refine wpAnyH_take (i := 1) (v := .agg [.int .i64 kl, .int .i64 al, .int .i64 vl.k, .int .i64 vl.n, .string vl.s, .slice pl yl.length cl].toArray) rfl (by kernel_rfl) (by kernel_rfl) (by kernel_rfl) (fun _ _ _ h => h) (yieldsIf_load_mid rfl 34 _ rfl w.heap.size (2) rfl [.int .i64 kl, .int .i64 al, .int .i64 vl.k, .int .i64 vl.n, .string vl.s, .slice pl yl.length cl] _ (fun w h => range_mid (xs := [.int .i64 k, .int .i64 op]) (ys := [.int .i64 kl, .int .i64 al, .int .i64 vl.k, .int .i64 vl.n, .string vl.s, .slice pl yl.length cl]) (zs := [.int .i64 kr, .int .i64 ar, .int .i64 vr.k, .int .i64 vr.n, .string vr.s, .slice pr yr.length cr, .slice p ys.length c]) h.a.at_) Try.underlying34 rfl (sizeX)) (by assumption) ?_
  (try simp only [Act.put, List.setIfInBounds_toArray, List.set_cons_zero, List.set_cons_succ, List.getElem_toArray, List.getElem_cons_zero, List.getElem_cons_succ])
  refine wpAnyH_take (i := 3) (v := ?_) rfl (by kernel_rfl) (by kernel_rfl) (by kernel_rfl) (fun _ _ _ h => h) (Or.inl ⟨by rfl, ?_⟩) (by assumption) ?_
  rotate_left
  · (intro wx hSw; have q1 := hSw.a.cell 1 rfl; go_simp; (try with_reducible rfl); (try omega))
  (try simp only [Act.put, List.setIfInBounds_toArray, List.set_cons_zero, List.set_cons_succ, List.getElem_toArray, List.getElem_cons_zero, List.getElem_cons_succ])
  refine wpAnyH_take (i := 4) (v := .agg [.int .i64 kr, .int .i64 ar, .int .i64 vr.k, .int .i64 vr.n, .string vr.s, .slice pr yr.length cr].toArray) rfl (by kernel_rfl) (by kernel_rfl) (by kernel_rfl) (fun _ _ _ h => h) (yieldsIf_load_mid rfl 34 _ rfl w.heap.size (8) rfl [.int .i64 kr, .int .i64 ar, .int .i64 vr.k, .int .i64 vr.n, .string vr.s, .slice pr yr.length cr] _ (fun w h => range_mid (xs := [.int .i64 k, .int .i64 op, .int .i64 kl, .int .i64 al, .int .i64 vl.k, .int .i64 vl.n, .string vl.s, .slice pl yl.length cl]) (ys := [.int .i64 kr, .int .i64 ar, .int .i64 vr.k, .int .i64 vr.n, .string vr.s, .slice pr yr.length cr]) (zs := [.slice p ys.length c]) h.a.at_) Try.underlying34 rfl (sizeX)) (by assumption) ?_
  (try simp only [Act.put, List.setIfInBounds_toArray, List.set_cons_zero, List.set_cons_succ, List.getElem_toArray, List.getElem_cons_zero, List.getElem_cons_succ])
  refine wpAnyH_ready (rs := [2]) (by kernel_rfl) (by simp) ?_
  refine AllReadyH.cons rfl (fun K hK => ?_) AllReadyH.nil
  go_simp
  refine (C1.out _ hS.b).mono ?_
  rintro e w3 ⟨⟨a3, c3, rfl, hI3⟩, hb3⟩
  rw [HNL.out]
  have hS3 := hS.below hb3
  refine hK.out _ _ hS3 (fun hHeld => ?_)
  clear hK K
  (try simp only [Act.put, List.setIfInBounds_toArray, List.set_cons_zero, List.set_cons_succ, List.getElem_toArray, List.getElem_cons_zero, List.getElem_cons_succ])
  refine wpAnyH_ready (rs := [5]) (by kernel_rfl) (by simp) ?_
  refine AllReadyH.cons rfl (fun K hK => ?_) AllReadyH.nil
  go_simp
  refine (C2.out _ hS3.b).mono ?_
  rintro e w4 ⟨⟨a4, c4, rfl, hI4⟩, hb4⟩
  rw [HNR.out]
  have hS4 := hS3.below hb4
  have hI3 := hI3.later hb4
  refine hK.out _ _ hS4 (fun hHeld => ?_)
  clear hK K
  (try simp only [Act.put, List.setIfInBounds_toArray, List.set_cons_zero, List.set_cons_succ, List.getElem_toArray, List.getElem_cons_zero, List.getElem_cons_succ])
  refine wpAnyH_ready (rs := [6]) (by kernel_rfl) (by simp) ?_
  refine AllReadyH.cons rfl (fun K hK => ?_) AllReadyH.nil
  go_simp
  refine (union_il hI3 HNL.out hI4 HNR.out hq).mono ?_
  rintro e w5 ⟨⟨a5, c5, rfl, hI5⟩, hb5⟩
  have hS5 := hS4.below hb5
  refine hK.out _ _ hS5 (fun hHeld => ?_)
  clear hK K
  (try simp only [Act.put, List.setIfInBounds_toArray, List.set_cons_zero, List.set_cons_succ, List.getElem_toArray, List.getElem_cons_zero, List.getElem_cons_succ])
  refine wpAnyH_take (i := 7) (v := ?_) rfl (by kernel_rfl) (by kernel_rfl) (by kernel_rfl) (fun _ _ _ h => h) (Or.inl ⟨by rfl, ?_⟩) (by assumption) ?_
  rotate_left
  · (intro wx hSw; have q1 := hSw.a.cell 1 rfl; go_simp; (try with_reducible rfl); (try omega))
  (try simp only [Act.put, List.setIfInBounds_toArray, List.set_cons_zero, List.set_cons_succ, List.getElem_toArray, List.getElem_cons_zero, List.getElem_cons_succ])
  refine wpAnyH_done (by kernel_rfl) ?_ _
  rw [HU.out] at hI5 ⊢
  have a14 := hS5.a.cell 14 rfl
  have HI5 := hid0 (show LL w5 (.slice a5 (rise G).length c5) (rise (G ++ asL [])) from by rw [asL, List.append_nil]; exact ⟨⟨a5, c5, rfl, hI5⟩⟩)
  have HS5 := hid0 hS5
  have hz5 := hS5.b.size
  clear hI3 hI4 hI5 hS hS3 hS4 hS5 hHeld C1 C2 V hB0
  generalize (rise G).length = gl at HI5 ⊢
  go_wp2_with fail
  clear a14
  go_loopw [3, 4] (fun u iv wr => ∃ j : Nat, j ≤ ys.length ∧ iv = .int .i64 j ∧ LL wr u (rise (G ++ asL (ys.take j))) ∧ Below w.heap.size w wr ∧ VarB wr w.heap.size [.int .i64 k, .int .i64 op, .int .i64 kl, .int .i64 al, .int .i64 vl.k, .int .i64 vl.n, .string vl.s, .slice pl yl.length cl, .int .i64 kr, .int .i64 ar, .int .i64 vr.k, .int .i64 vr.n, .string vr.s, .slice pr yr.length cr, .slice p ys.length c]) (fun _ iv _ => ys.length - (intOf iv).toNat)
  case atStart => exact ⟨0, Nat.zero_le _, rfl, by rw [List.take_zero]; exact HI5.out, HS5.out.b, HS5.out.a⟩
  case round =>
    obtain ⟨j, hj, rfl, hIO, hnx, hV⟩ := hrel
    have hsz := hnx.size
    have hVl := hV.lt
    have b5 := hV.cell 14 rfl
    have hV := hid0 hV
    obtain ⟨ao, cO, rfl, hI0⟩ := hIO.out
    by_cases hlt : j < ys.length
    · have H := HH.out j hlt
      have HT := asL_take ys j hlt
      obtain ⟨b, o, rfl, hb, hX⟩ := HK.out.arg j hlt
      have hs1 := sizeTL_take ys j hlt
      have hs2 := asL_len (ys.take j)
      have hs3 := asT_len ys[j]
      have hs4 := rise_len (G ++ asL (ys.take j))
      have hs5 := rise_len (asT ys[j])
      have HT2 : rise (rise (G ++ asL (ys.take j)) ++ rise (asT ys[j])) = rise (G ++ asL (ys.take (j + 1))) := by rw [rise_two, HT, List.append_assoc]
      have hs6 : (rise (G ++ asL (ys.take j))).length + (rise (asT ys[j])).length ≤ 8000000 := by
        simp only [List.length_append] at hs4; omega
      clear hs1 hs2 hs3 hs4 hs5 HT
      generalize rise (G ++ asL (ys.take j)) = O at hI0 HT2 hs6 ⊢
      generalize rise (asT ys[j]) = Q at H HT2 hs6
      obtain ⟨t, ht⟩ : ∃ t, ys[j] = t := ⟨_, rfl⟩
      rw [ht] at H hX
      clear ht
      obtain ⟨kt, ot, ⟨kf, af, vf, pf, cf, yf⟩, ⟨kg, ag, vg, pg, cg, yg⟩, pt, ct, yt⟩ := t
      have hb' : b < wr.heap.size := by omega
      have q0 := cell_later hnx (rng hX 0 rfl)
      have q1 := cell_later hnx (rng hX 1 rfl)
      have q2 := cell_later hnx (rng hX 2 rfl)
      have q3 := cell_later hnx (rng hX 3 rfl)
      have q4 := cell_later hnx (rng hX 4 rfl)
      have q5 := cell_later hnx (rng hX 5 rfl)
      have q6 := cell_later hnx (rng hX 6 rfl)
      have q7 := cell_later hnx (rng hX 7 rfl)
      have q8 := cell_later hnx (rng hX 8 rfl)
      have q9 := cell_later hnx (rng hX 9 rfl)
      have q10 := cell_later hnx (rng hX 10 rfl)
      have q11 := cell_later hnx (rng hX 11 rfl)
      have q12 := cell_later hnx (rng hX 12 rfl)
      have q13 := cell_later hnx (rng hX 13 rfl)
      have q14 := cell_later hnx (rng hX 14 rfl)
      simp only [Nat.add_zero] at q0
      have HT2 := hid0 HT2
      obtain ⟨N, hN⟩ : ∃ N, O.length = N := ⟨_, rfl⟩
      obtain ⟨M, hM⟩ : ∃ M, Q.length = M := ⟨_, rfl⟩
      rw [hN, hM] at hs6
      rw [hN]
      have HN := hid0 hN
      have HM := hid0 hM
      have HI0 := hid0 hI0
      have hnx := hid0 hnx
      clear hX hI0 hIO hN hM
      go_wp2_with fail
      go_at_call 41
      refine (H.out _ hnx.out).mono ?_
      rintro e w3 ⟨⟨a3, c3, rfl, hI3⟩, hb3⟩
      have hO3 := hid0 (HI0.out.later hb3)
      have hV3 := hid0 (hV.out.below hb3)
      have hB3 := hid0 (below_through hb3 hnx.out.size hnx.out)
      have hI3 := hid0 hI3
      rw [HM.out]
      clear hb3 b5 q0 q1 q2 q3 q4 q5 q6 q7 q8 q9 q10 q11 q12 q13 q14
      go_wp2_with fail
      go_at_call 58
      refine (union_il hO3.out HN.out hI3.out HM.out hs6).mono ?_
      rintro e w4 ⟨⟨a4, c4, rfl, hI4⟩, hb4⟩
      have hV4 := hid0 (hV3.out.below hb4)
      have hB4 := hid0 (below_through hb4 hB3.out.size hB3.out)
      rw [HT2.out] at hI4 ⊢
      have hI4 := hid0 hI4
      clear hb4 hV3 hB3
      go_wp2_with fail
      exact ⟨⟨j + 1, by omega, by go_num, ⟨⟨a4, c4, rfl, hI4.out⟩⟩, hB4.out, hV4.out⟩, by simp [intOf]; omega⟩
    · obtain rfl : j = ys.length := by omega
      rw [List.take_length] at hI0 ⊢
      have HI0 := hid0 hI0
      clear hI0 hIO
      go_wp2_with fail
      go_ret
      rw [HR.out]
      exact ⟨⟨ao, cO, rfl, HI0.out⟩, hnx⟩
theorem refAsks_all : ∀ n, RaOk n
  | 0 => ⟨fun _ _ h _ => h.elim⟩
  | n + 1 => ⟨fun x w hx hs => by
    obtain ⟨k, op, ⟨kl, al, vl, pl, cl, yl⟩, ⟨kr, ar, vr, pr, cr, yr⟩, p, c, ys⟩ := x
    exact refAsks_step (refAsks_all n) k op kl al vl pl cl yl kr ar vr pr cr yr p c ys w hx hs⟩
theorem refAsks_any {n : Nat} {x : Tx} {w : World} (hx : TxAt w n x) (hs : sizeT x ≤ 8000000) : Calls Try.prog 41 #[x.val] w (ListAns w (rise (asT x))) := (refAsks_all n).out x w hx hs
end Go.Proofs.Ytfdkajefcplfjaa
