/- The walk of the law ExprEvals: it returns true, and below the heap's end memory is as it was. Conditions: an expression's and a row's cells are known; it is not too great. -/
import Derived.Test.YtolcebbpbihnoaaYm
import Derived.Test.YtolcebbpbihnoaaYx
import Derived.Test.YtolcebbpbihnoaaWq
namespace Go.Proofs.Ytolcebbpbihnoaa
open Go.RowKit

theorem eqRefl (k n : Int) (s : ByteArray) (W : World) : (binOp .eql 23 (.agg #[.int .i64 k, .int .i64 n, .string s]) (.agg #[.int .i64 k, .int .i64 n, .string s])).run Try.prog W = .ok (.bool true) W := by
  have h := eql23 k n s k n s W
  rw [(sameV_iff k n s k n s).2 ⟨rfl, rfl, rfl⟩] at h
  exact h
/-- Three boxes, and what was there. -/
structure EvS (w0 : World) (B U V : Nat) (us vs ws : List Value) (w : World) : Prop where
  a : VarB w B us
  u : VarB w U vs
  v : VarB w V ws
  b : Below w0.heap.size w0 w
theorem EvS.drew {w0 w : World} {B U V : Nat} {us vs ws : List Value} (h : EvS w0 B U V us vs ws w) : EvS w0 B U V us vs ws w.drew := ⟨h.a.drew, h.u.drew, h.v.drew, Below.drew h.b⟩
theorem EvS.below {w0 w w1 : World} {B U V : Nat} {us vs ws : List Value} (h : EvS w0 B U V us vs ws w) (hb : Below w.heap.size w w1) : EvS w0 B U V us vs ws w1 := ⟨h.a.below hb, h.u.below hb, h.v.below hb, below_through hb h.b.size h.b⟩
set_option maxHeartbeats 16000000 in
set_option maxRecDepth 1000000 in
theorem lawExprEvals {n : Nat} {x : Cx} {a : Option Addr} {row : List Val} {w : World} (cc : Nat) (hx : CxAt w n x) (hr : RowIn w a row) (hs : sizeC x ≤ 8000000) :
    Calls Try.prog 3 #[x.val, .slice a row.length cc] w fun e w' => e = .returned (.bool true) ∧ Below w.heap.size w w' := by
  have H0 : EvHalf w x.val (.slice a row.length cc) (evC row x) := ⟨fun W hb => eval_any cc (hx.later hb) (hr.later hb)⟩
  have H1 : EvHalfR w x.val (.slice a row.length cc) (evC row x) := ⟨fun W hb => refEval_any cc (hx.later hb) (hr.later hb)⟩
  have H2 : ListHalf 12 w x.val (rise (rdC x)) := ⟨fun W hb => reads_any (hx.later hb) hs⟩
  have H3 : ListHalf 13 w x.val (rise (rdC x)) := ⟨fun W hb => refReads_any (hx.later hb) hs⟩
  have hQ : (rise (rdC x)).length ≤ 8000000 := by have := rise_len (rdC x); have := rdC_len x; omega
  generalize rise (rdC x) = Q at H2 H3 hQ
  generalize evC row x = r at H0 H1
  obtain ⟨⟨k1, n1, s1⟩, f1⟩ := r
  clear hx hr hs
  obtain ⟨k, q, v, p, c, ys⟩ := x
  have V := VarB.new w [.int .i64 k, .int .i64 q, .int .i64 v.k, .int .i64 v.n, .string v.s, .slice p ys.length c] 26
  have hB : Below w.heap.size w (w.alloc (.cells #[.int .i64 k, .int .i64 q, .int .i64 v.k, .int .i64 v.n, .string v.s, .slice p ys.length c] 26)) := (Below.refl _ _).alloc (Nat.le_refl _) _
  have a0 := V.cell 0 rfl
  have a1 := V.cell 1 rfl
  have a2 := V.cell 2 rfl
  have a3 := V.cell 3 rfl
  have a4 := V.cell 4 rfl
  have a5 := V.cell 5 rfl
  have V := hid0 V
  have hB := hid0 hB
  show Calls Try.prog 3 #[.agg #[.int .i64 k, .int .i64 q, .int .i64 v.k, .int .i64 v.n, .string v.s, .slice p ys.length c], .slice a row.length cc] w _
  go_enter Try.func3, Try.ntmps3
  go_wp2_with fail
  go_at_call 8
  refine (H0.out _ hB.out).mono ?_
  rintro e w1 ⟨rfl, hb⟩
  clear a0 a1 a2 a3 a4 a5
  have V := hid0 ((V.out.below hb).alloc (.cells #[.int .i64 k1, .int .i64 n1, .string s1] 23))
  have hB := hid0 ((below_through hb hB.out.size hB.out))
  have U := hid0 (VarB.new w1 [.int .i64 k1, .int .i64 n1, .string s1] 23)
  have hB := hid0 (hB.out.alloc hB.out.size (.cells #[.int .i64 k1, .int .i64 n1, .string s1] 23))
  clear hb
  have a0 := V.out.cell 0 rfl
  have a1 := V.out.cell 1 rfl
  have a2 := V.out.cell 2 rfl
  have a3 := V.out.cell 3 rfl
  have a4 := V.out.cell 4 rfl
  have a5 := V.out.cell 5 rfl
  have z1 := V.out.lt
  go_wp2_with fail
  go_at_call 9
  refine (H1.out _ hB.out).mono ?_
  rintro e w2 ⟨rfl, hb⟩
  clear a0 a1 a2 a3 a4 a5 z1
  have V := hid0 ((V.out.below hb).alloc (.cells #[.int .i64 k1, .int .i64 n1, .string s1] 23))
  have U := hid0 ((U.out.below hb).alloc (.cells #[.int .i64 k1, .int .i64 n1, .string s1] 23))
  have hB := hid0 ((below_through hb hB.out.size hB.out))
  have X := hid0 (VarB.new w2 [.int .i64 k1, .int .i64 n1, .string s1] 23)
  have hB := hid0 (hB.out.alloc hB.out.size (.cells #[.int .i64 k1, .int .i64 n1, .string s1] 23))
  clear hb
  go_wp2_with fail
  have hS : EvS w w.heap.size w1.heap.size w2.heap.size [.int .i64 k, .int .i64 q, .int .i64 v.k, .int .i64 v.n, .string v.s, .slice p ys.length c] [.int .i64 k1, .int .i64 n1, .string s1] [.int .i64 k1, .int .i64 n1, .string s1] _ := ⟨V.out.drew, U.out.drew, X.out.drew, Below.drew hB.out⟩
  clear V U X hB
  refine wp_region_held_drew (S := EvS w w.heap.size w1.heap.size w2.heap.size [.int .i64 k, .int .i64 q, .int .i64 v.k, .int .i64 v.n, .string v.s, .slice p ys.length c] [.int .i64 k1, .int .i64 n1, .string s1] [.int .i64 k1, .int .i64 n1, .string s1]) (by kernel_rfl) hS (fun hHeld => ?_)
  refine wpAnyH_ready (rs := [0]) (by kernel_rfl) (by simp) ?_
  refine AllReadyH.cons rfl (fun K hK => ?_) ?_
  · (try simp only [Act.put, List.setIfInBounds_toArray, List.set_cons_zero, List.set_cons_succ, List.getElem_toArray, List.getElem_cons_zero])
    go_simp
    refine (awake11_any _).mono ?_
    rintro e W3 ⟨rfl, hb⟩
    have hS := hS.below hb
    clear hb
    refine hK.out _ _ hS (fun hHeld => ?_)
    clear hK K
    (try simp only [Act.put, List.setIfInBounds_toArray, List.set_cons_zero, List.set_cons_succ, List.getElem_toArray, List.getElem_cons_zero, List.getElem_cons_succ])
    refine wpAnyH_take (i := 1) (v := ?_) rfl (by kernel_rfl) (by kernel_rfl) (by kernel_rfl) (fun _ _ _ h => h) (Or.inl ⟨by rfl, ?_⟩) (by assumption) ?_
    rotate_left
    · (intro wx hSw; go_simp; (try with_reducible rfl); (try omega))
    (try simp only [Act.put, List.setIfInBounds_toArray, List.set_cons_zero, List.set_cons_succ, List.getElem_toArray, List.getElem_cons_zero, List.getElem_cons_succ])
    refine wpAnyH_take (i := 2) (v := .agg [.int .i64 k1, .int .i64 n1, .string s1].toArray) rfl (by kernel_rfl) (by kernel_rfl) (by kernel_rfl) (fun _ _ _ h => h) (yieldsIf_load_mid rfl 23 _ rfl w1.heap.size (0) rfl [.int .i64 k1, .int .i64 n1, .string s1] _ (fun w h => h.u.at_) Try.underlying23 rfl (infoV)) (by assumption) ?_
    (try simp only [Act.put, List.setIfInBounds_toArray, List.set_cons_zero, List.set_cons_succ, List.getElem_toArray, List.getElem_cons_zero, List.getElem_cons_succ])
    refine wpAnyH_take (i := 3) (v := .agg [.int .i64 k1, .int .i64 n1, .string s1].toArray) rfl (by kernel_rfl) (by kernel_rfl) (by kernel_rfl) (fun _ _ _ h => h) (yieldsIf_load_mid rfl 23 _ rfl w2.heap.size (0) rfl [.int .i64 k1, .int .i64 n1, .string s1] _ (fun w h => h.v.at_) Try.underlying23 rfl (infoV)) (by assumption) ?_
    (try simp only [Act.put, List.setIfInBounds_toArray, List.set_cons_zero, List.set_cons_succ, List.getElem_toArray, List.getElem_cons_zero, List.getElem_cons_succ])
    refine wpAnyH_take (i := 4) (v := ?_) rfl (by kernel_rfl) (by kernel_rfl) (by kernel_rfl) (fun _ _ _ h => h) (Or.inl ⟨by rfl, ?_⟩) (by assumption) ?_
    rotate_left
    · (intro wx hSw; have q9 := eqRefl k1 n1 s1 wx; go_simp; (try with_reducible rfl); (try omega))
    (try simp only [Act.put, List.setIfInBounds_toArray, List.set_cons_zero, List.set_cons_succ, List.getElem_toArray, List.getElem_cons_zero, List.getElem_cons_succ])
    refine wpAnyH_take (i := 5) (v := ?_) rfl (by kernel_rfl) (by kernel_rfl) (by kernel_rfl) (fun _ _ _ h => h) (Or.inl ⟨by rfl, ?_⟩) (by assumption) ?_
    rotate_left
    · (intro wx hSw; go_simp; (try with_reducible rfl); (try omega))
    (try simp only [Act.put, List.setIfInBounds_toArray, List.set_cons_zero, List.set_cons_succ, List.getElem_toArray, List.getElem_cons_zero, List.getElem_cons_succ])
    refine wpAnyH_take (i := 6) (v := ?_) rfl (by kernel_rfl) (by kernel_rfl) (by kernel_rfl) (fun _ _ _ h => h) (Or.inl ⟨by rfl, ?_⟩) (by assumption) ?_
    rotate_left
    · (intro wx hSw; go_simp; (try with_reducible rfl); (try omega))
    (try simp only [Act.put, List.setIfInBounds_toArray, List.set_cons_zero, List.set_cons_succ, List.getElem_toArray, List.getElem_cons_zero, List.getElem_cons_succ])
    refine wpAnyH_take (i := 7) (v := ?_) rfl (by kernel_rfl) (by kernel_rfl) (by kernel_rfl) (fun _ _ _ h => h) (Or.inl ⟨by rfl, ?_⟩) (by assumption) ?_
    rotate_left
    · (intro wx hSw; go_simp; (try with_reducible rfl); (try omega))
    (try simp only [Act.put, List.setIfInBounds_toArray, List.set_cons_zero, List.set_cons_succ, List.getElem_toArray, List.getElem_cons_zero, List.getElem_cons_succ])
    refine wpAnyH_take (i := 8) (v := ?_) rfl (by kernel_rfl) (by kernel_rfl) (by kernel_rfl) (fun _ _ _ h => h) (Or.inl ⟨by rfl, ?_⟩) (by assumption) ?_
    rotate_left
    · (intro wx hSw; go_simp; (try with_reducible rfl); (try omega))
    (try simp only [Act.put, List.setIfInBounds_toArray, List.set_cons_zero, List.set_cons_succ, List.getElem_toArray, List.getElem_cons_zero, List.getElem_cons_succ])
    refine wpAnyH_take (i := 9) (v := ?_) rfl (by kernel_rfl) (by kernel_rfl) (by kernel_rfl) (fun _ _ _ h => h) (Or.inl ⟨by rfl, ?_⟩) (by assumption) ?_
    rotate_left
    · (intro wx hSw; go_simp; (try with_reducible rfl); (try omega))
    (try simp only [Act.put, List.setIfInBounds_toArray, List.set_cons_zero, List.set_cons_succ, List.getElem_toArray, List.getElem_cons_zero, List.getElem_cons_succ])
    refine wpAnyH_take (i := 10) (v := ?_) rfl (by kernel_rfl) (by kernel_rfl) (by kernel_rfl) (fun _ _ _ h => h) (Or.inl ⟨by rfl, ?_⟩) (by assumption) ?_
    rotate_left
    · (intro wx hSw; go_simp; (try with_reducible rfl); (try omega))
    (try simp only [Act.put, List.setIfInBounds_toArray, List.set_cons_zero, List.set_cons_succ, List.getElem_toArray, List.getElem_cons_zero, List.getElem_cons_succ])
    refine wpAnyH_take (i := 11) (v := ?_) rfl (by kernel_rfl) (by kernel_rfl) (by kernel_rfl) (fun _ _ _ h => h) (Or.inl ⟨by rfl, ?_⟩) (by assumption) ?_
    rotate_left
    · (intro wx hSw; go_simp; (try with_reducible rfl); (try omega))
    (try simp only [Act.put, List.setIfInBounds_toArray, List.set_cons_zero, List.set_cons_succ, List.getElem_toArray, List.getElem_cons_zero, List.getElem_cons_succ])
    refine wpAnyH_take (i := 12) (v := .agg [.int .i64 k, .int .i64 q, .int .i64 v.k, .int .i64 v.n, .string v.s, .slice p ys.length c].toArray) rfl (by kernel_rfl) (by kernel_rfl) (by kernel_rfl) (fun _ _ _ h => h) (yieldsIf_load_mid rfl 26 _ rfl w.heap.size (0) rfl [.int .i64 k, .int .i64 q, .int .i64 v.k, .int .i64 v.n, .string v.s, .slice p ys.length c] _ (fun w h => h.a.at_) Try.underlying26 rfl (sizeX)) (by assumption) ?_
    (try simp only [Act.put, List.setIfInBounds_toArray, List.set_cons_zero, List.set_cons_succ, List.getElem_toArray, List.getElem_cons_zero, List.getElem_cons_succ])
    refine wpAnyH_take (i := 14) (v := .agg [.int .i64 k, .int .i64 q, .int .i64 v.k, .int .i64 v.n, .string v.s, .slice p ys.length c].toArray) rfl (by kernel_rfl) (by kernel_rfl) (by kernel_rfl) (fun _ _ _ h => h) (yieldsIf_load_mid rfl 26 _ rfl w.heap.size (0) rfl [.int .i64 k, .int .i64 q, .int .i64 v.k, .int .i64 v.n, .string v.s, .slice p ys.length c] _ (fun w h => h.a.at_) Try.underlying26 rfl (sizeX)) (by assumption) ?_
    (try simp only [Act.put, List.setIfInBounds_toArray, List.set_cons_zero, List.set_cons_succ, List.getElem_toArray, List.getElem_cons_zero, List.getElem_cons_succ])
    refine wpAnyH_ready (rs := [13]) (by kernel_rfl) (by simp) ?_
    refine AllReadyH.cons rfl (fun K hK => ?_) ?_
    · (try simp only [Act.put, List.setIfInBounds_toArray, List.set_cons_zero, List.set_cons_succ, List.getElem_toArray, List.getElem_cons_zero, List.getElem_cons_succ])
      go_simp
      refine (H2.out _ hS.b).mono ?_
      rintro e W4 ⟨⟨a3, c3, rfl, hI3⟩, hb⟩
      have hS := hS.below hb
      clear hb
      refine hK.out _ _ hS (fun hHeld => ?_)
      clear hK K
      (try simp only [Act.put, List.setIfInBounds_toArray, List.set_cons_zero, List.set_cons_succ, List.getElem_toArray, List.getElem_cons_zero, List.getElem_cons_succ])
      refine wpAnyH_ready (rs := [15]) (by kernel_rfl) (by simp) ?_
      refine AllReadyH.cons rfl (fun K hK => ?_) ?_
      · (try simp only [Act.put, List.setIfInBounds_toArray, List.set_cons_zero, List.set_cons_succ, List.getElem_toArray, List.getElem_cons_zero, List.getElem_cons_succ])
        go_simp
        refine (H3.out _ hS.b).mono ?_
        rintro e W5 ⟨⟨a4, c4, rfl, hI4⟩, hb⟩
        have hS := hS.below hb
        have hI3 := hI3.later hb
        clear hb
        refine hK.out _ _ hS (fun hHeld => ?_)
        clear hK K
        (try simp only [Act.put, List.setIfInBounds_toArray, List.set_cons_zero, List.set_cons_succ, List.getElem_toArray, List.getElem_cons_zero, List.getElem_cons_succ])
        refine wpAnyH_ready (rs := [16]) (by kernel_rfl) (by simp) ?_
        refine AllReadyH.cons rfl (fun K hK => ?_) ?_
        · (try simp only [Act.put, List.setIfInBounds_toArray, List.set_cons_zero, List.set_cons_succ, List.getElem_toArray, List.getElem_cons_zero, List.getElem_cons_succ])
          go_simp
          refine (same_any hI3 hI4 rfl hQ).mono ?_
          rintro e W6 ⟨rfl, hb⟩
          have hS := hS.below hb
          have hI3 := hI3.later hb
          have hI4 := hI4.later hb
          clear hb
          refine hK.out _ _ hS (fun hHeld => ?_)
          clear hK K
          (try simp only [Act.put, List.setIfInBounds_toArray, List.set_cons_zero, List.set_cons_succ, List.getElem_toArray, List.getElem_cons_zero, List.getElem_cons_succ])
          refine wpAnyH_take (i := 17) (v := ?_) rfl (by kernel_rfl) (by kernel_rfl) (by kernel_rfl) (fun _ _ _ h => h) (Or.inl ⟨by rfl, ?_⟩) (by assumption) ?_
          rotate_left
          · (intro wx hSw; go_simp; (try with_reducible rfl); (try omega))
          (try simp only [Act.put, List.setIfInBounds_toArray, List.set_cons_zero, List.set_cons_succ, List.getElem_toArray, List.getElem_cons_zero, List.getElem_cons_succ])
          refine wpAnyH_take (i := 18) (v := ?_) rfl (by kernel_rfl) (by kernel_rfl) (by kernel_rfl) (fun _ _ _ h => h) (Or.inl ⟨by rfl, ?_⟩) (by assumption) ?_
          rotate_left
          · (intro wx hSw; go_simp; (try with_reducible rfl); (try omega))
          (try simp only [Act.put, List.setIfInBounds_toArray, List.set_cons_zero, List.set_cons_succ, List.getElem_toArray, List.getElem_cons_zero, List.getElem_cons_succ])
          refine wpAnyH_done (by kernel_rfl) ?_ _
          go_wp2_with fail
          go_ret
          exact ⟨rfl, hS.b⟩
        exact AllReadyH.nil
      exact AllReadyH.nil
    exact AllReadyH.nil
  exact AllReadyH.nil
end Go.Proofs.Ytolcebbpbihnoaa
