/- The walk of the law ExprHolds: it returns true, and below the heap's end memory is as it was. Conditions: a condition's and a row's cells are known; it is not too great. -/
import Derived.Test.YtolcebbpbihnoaaYm
import Derived.Test.YtolcebbpbihnoaaYx
import Derived.Test.YtolcebbpbihnoaaYs
namespace Go.Proofs.Ytolcebbpbihnoaa
open Go.RowKit

set_option maxHeartbeats 16000000 in
set_option maxRecDepth 1000000 in
theorem lawExprHolds {n : Nat} {t : Tx} {a : Option Addr} {row : List Val} {w : World} (cc : Nat) (ht : TxAt w n t) (hr : RowIn w a row) (hs : sizeT t ≤ 8000000) :
    Calls Try.prog 4 #[t.val, .slice a row.length cc] w fun e w' => e = .returned (.bool true) ∧ Below w.heap.size w w' := by
  have H0 : IntHalf 14 w t.val (.slice a row.length cc) (hoT row t) := ⟨fun W hb => holds_any cc (ht.later hb) (hr.later hb)⟩
  have H1 : IntHalf 15 w t.val (.slice a row.length cc) (hoT row t) := ⟨fun W hb => refHolds_any cc (ht.later hb) (hr.later hb)⟩
  have H2 : ListHalf 16 w t.val (rise (asT t)) := ⟨fun W hb => asks_any (ht.later hb) hs⟩
  have H3 : ListHalf 17 w t.val (rise (asT t)) := ⟨fun W hb => refAsks_any (ht.later hb) hs⟩
  have hQ : (rise (asT t)).length ≤ 8000000 := by have := rise_len (asT t); have := asT_len t; omega
  generalize rise (asT t) = Q at H2 H3 hQ
  generalize hoT row t = x at H0 H1
  clear ht hr hs
  obtain ⟨k, op, ⟨kl, al, vl, pl, cl, yl⟩, ⟨kr, ar, vr, pr, cr, yr⟩, p, c, ys⟩ := t
  have V := VarB.new w [.int .i64 k, .int .i64 op, .int .i64 kl, .int .i64 al, .int .i64 vl.k, .int .i64 vl.n, .string vl.s, .slice pl yl.length cl, .int .i64 kr, .int .i64 ar, .int .i64 vr.k, .int .i64 vr.n, .string vr.s, .slice pr yr.length cr, .slice p ys.length c] 38
  have hB : Below w.heap.size w (w.alloc (.cells #[.int .i64 k, .int .i64 op, .int .i64 kl, .int .i64 al, .int .i64 vl.k, .int .i64 vl.n, .string vl.s, .slice pl yl.length cl, .int .i64 kr, .int .i64 ar, .int .i64 vr.k, .int .i64 vr.n, .string vr.s, .slice pr yr.length cr, .slice p ys.length c] 38)) := (Below.refl _ _).alloc (Nat.le_refl _) _
  have V := hid0 V
  have hB := hid0 hB
  show Calls Try.prog 4 #[.agg #[.int .i64 k, .int .i64 op, .int .i64 kl, .int .i64 al, .int .i64 vl.k, .int .i64 vl.n, .string vl.s, .slice pl yl.length cl, .int .i64 kr, .int .i64 ar, .int .i64 vr.k, .int .i64 vr.n, .string vr.s, .slice pr yr.length cr, .slice p ys.length c], .slice a row.length cc] w _
  go_enter Try.func4, Try.ntmps4
  go_wp2_with fail
  have hS : BoxS w w.heap.size [.int .i64 k, .int .i64 op, .int .i64 kl, .int .i64 al, .int .i64 vl.k, .int .i64 vl.n, .string vl.s, .slice pl yl.length cl, .int .i64 kr, .int .i64 ar, .int .i64 vr.k, .int .i64 vr.n, .string vr.s, .slice pr yr.length cr, .slice p ys.length c] _ := ⟨V.out.drew, Below.drew hB.out⟩
  clear V hB
  refine wp_region_held_drew (S := BoxS w w.heap.size [.int .i64 k, .int .i64 op, .int .i64 kl, .int .i64 al, .int .i64 vl.k, .int .i64 vl.n, .string vl.s, .slice pl yl.length cl, .int .i64 kr, .int .i64 ar, .int .i64 vr.k, .int .i64 vr.n, .string vr.s, .slice pr yr.length cr, .slice p ys.length c]) (by kernel_rfl) hS (fun hHeld => ?_)
  refine wpAnyH_ready (rs := [0]) (by kernel_rfl) (by simp) ?_
  refine AllReadyH.cons rfl (fun K hK => ?_) ?_
  · (try simp only [Act.put, List.setIfInBounds_toArray, List.set_cons_zero, List.set_cons_succ, List.getElem_toArray, List.getElem_cons_zero])
    go_simp
    refine (awake11_any _).mono ?_
    rintro e W1 ⟨rfl, hb⟩
    have hS := hS.below hb
    clear hb
    refine hK.out _ _ hS (fun hHeld => ?_)
    clear hK K
    (try simp only [Act.put, List.setIfInBounds_toArray, List.set_cons_zero, List.set_cons_succ, List.getElem_toArray, List.getElem_cons_zero, List.getElem_cons_succ])
    refine wpAnyH_take (i := 1) (v := ?_) rfl (by kernel_rfl) (by kernel_rfl) (by kernel_rfl) (fun _ _ _ h => h) (Or.inl ⟨by rfl, ?_⟩) (by assumption) ?_
    rotate_left
    · (intro wx hSw; go_simp; (try with_reducible rfl); (try omega))
    (try simp only [Act.put, List.setIfInBounds_toArray, List.set_cons_zero, List.set_cons_succ, List.getElem_toArray, List.getElem_cons_zero, List.getElem_cons_succ])
    refine wpAnyH_take (i := 2) (v := .agg [.int .i64 k, .int .i64 op, .int .i64 kl, .int .i64 al, .int .i64 vl.k, .int .i64 vl.n, .string vl.s, .slice pl yl.length cl, .int .i64 kr, .int .i64 ar, .int .i64 vr.k, .int .i64 vr.n, .string vr.s, .slice pr yr.length cr, .slice p ys.length c].toArray) rfl (by kernel_rfl) (by kernel_rfl) (by kernel_rfl) (fun _ _ _ h => h) (yieldsIf_load_mid rfl 38 _ rfl w.heap.size (0) rfl [.int .i64 k, .int .i64 op, .int .i64 kl, .int .i64 al, .int .i64 vl.k, .int .i64 vl.n, .string vl.s, .slice pl yl.length cl, .int .i64 kr, .int .i64 ar, .int .i64 vr.k, .int .i64 vr.n, .string vr.s, .slice pr yr.length cr, .slice p ys.length c] _ (fun w h => h.a.at_) Try.underlying38 rfl (sizeTT)) (by assumption) ?_
    (try simp only [Act.put, List.setIfInBounds_toArray, List.set_cons_zero, List.set_cons_succ, List.getElem_toArray, List.getElem_cons_zero, List.getElem_cons_succ])
    refine wpAnyH_take (i := 3) (v := ?_) rfl (by kernel_rfl) (by kernel_rfl) (by kernel_rfl) (fun _ _ _ h => h) (Or.inl ⟨by rfl, ?_⟩) (by assumption) ?_
    rotate_left
    · (intro wx hSw; go_simp; (try with_reducible rfl); (try omega))
    (try simp only [Act.put, List.setIfInBounds_toArray, List.set_cons_zero, List.set_cons_succ, List.getElem_toArray, List.getElem_cons_zero, List.getElem_cons_succ])
    refine wpAnyH_take (i := 5) (v := .agg [.int .i64 k, .int .i64 op, .int .i64 kl, .int .i64 al, .int .i64 vl.k, .int .i64 vl.n, .string vl.s, .slice pl yl.length cl, .int .i64 kr, .int .i64 ar, .int .i64 vr.k, .int .i64 vr.n, .string vr.s, .slice pr yr.length cr, .slice p ys.length c].toArray) rfl (by kernel_rfl) (by kernel_rfl) (by kernel_rfl) (fun _ _ _ h => h) (yieldsIf_load_mid rfl 38 _ rfl w.heap.size (0) rfl [.int .i64 k, .int .i64 op, .int .i64 kl, .int .i64 al, .int .i64 vl.k, .int .i64 vl.n, .string vl.s, .slice pl yl.length cl, .int .i64 kr, .int .i64 ar, .int .i64 vr.k, .int .i64 vr.n, .string vr.s, .slice pr yr.length cr, .slice p ys.length c] _ (fun w h => h.a.at_) Try.underlying38 rfl (sizeTT)) (by assumption) ?_
    (try simp only [Act.put, List.setIfInBounds_toArray, List.set_cons_zero, List.set_cons_succ, List.getElem_toArray, List.getElem_cons_zero, List.getElem_cons_succ])
    refine wpAnyH_take (i := 6) (v := ?_) rfl (by kernel_rfl) (by kernel_rfl) (by kernel_rfl) (fun _ _ _ h => h) (Or.inl ⟨by rfl, ?_⟩) (by assumption) ?_
    rotate_left
    · (intro wx hSw; go_simp; (try with_reducible rfl); (try omega))
    (try simp only [Act.put, List.setIfInBounds_toArray, List.set_cons_zero, List.set_cons_succ, List.getElem_toArray, List.getElem_cons_zero, List.getElem_cons_succ])
    refine wpAnyH_ready (rs := [4]) (by kernel_rfl) (by simp) ?_
    refine AllReadyH.cons rfl (fun K hK => ?_) ?_
    · (try simp only [Act.put, List.setIfInBounds_toArray, List.set_cons_zero, List.set_cons_succ, List.getElem_toArray, List.getElem_cons_zero, List.getElem_cons_succ])
      go_simp
      refine (H0.out _ hS.b).mono ?_
      rintro e W2 ⟨rfl, hb⟩
      have hS := hS.below hb
      clear hb
      refine hK.out _ _ hS (fun hHeld => ?_)
      clear hK K
      (try simp only [Act.put, List.setIfInBounds_toArray, List.set_cons_zero, List.set_cons_succ, List.getElem_toArray, List.getElem_cons_zero, List.getElem_cons_succ])
      refine wpAnyH_ready (rs := [7]) (by kernel_rfl) (by simp) ?_
      refine AllReadyH.cons rfl (fun K hK => ?_) ?_
      · (try simp only [Act.put, List.setIfInBounds_toArray, List.set_cons_zero, List.set_cons_succ, List.getElem_toArray, List.getElem_cons_zero, List.getElem_cons_succ])
        go_simp
        refine (H1.out _ hS.b).mono ?_
        rintro e W3 ⟨rfl, hb⟩
        have hS := hS.below hb
        clear hb
        refine hK.out _ _ hS (fun hHeld => ?_)
        clear hK K
        (try simp only [Act.put, List.setIfInBounds_toArray, List.set_cons_zero, List.set_cons_succ, List.getElem_toArray, List.getElem_cons_zero, List.getElem_cons_succ])
        refine wpAnyH_take (i := 8) (v := ?_) rfl (by kernel_rfl) (by kernel_rfl) (by kernel_rfl) (fun _ _ _ h => h) (Or.inl ⟨by rfl, ?_⟩) (by assumption) ?_
        rotate_left
        · (intro wx hSw; go_simp; (try with_reducible rfl); (try omega))
        (try simp only [Act.put, List.setIfInBounds_toArray, List.set_cons_zero, List.set_cons_succ, List.getElem_toArray, List.getElem_cons_zero, List.getElem_cons_succ])
        refine wpAnyH_take (i := 9) (v := ?_) rfl (by kernel_rfl) (by kernel_rfl) (by kernel_rfl) (fun _ _ _ h => h) (Or.inl ⟨by rfl, ?_⟩) (by assumption) ?_
        rotate_left
        · (intro wx hSw; go_simp; (try with_reducible rfl); (try omega))
        (try simp only [Act.put, List.setIfInBounds_toArray, List.set_cons_zero, List.set_cons_succ, List.getElem_toArray, List.getElem_cons_zero, List.getElem_cons_succ])
        refine wpAnyH_take (i := 10) (v := ?_) rfl (by kernel_rfl) (by kernel_rfl) (by kernel_rfl) (fun _ _ _ h => h) (Or.inl ⟨by rfl, ?_⟩) (by assumption) ?_
        rotate_left
        · (intro wx hSw; go_simp; (try with_reducible rfl); (try omega))
        (try simp only [Act.put, List.setIfInBounds_toArray, List.set_cons_zero, List.set_cons_succ, List.getElem_toArray, List.getElem_cons_zero, List.getElem_cons_succ])
        refine wpAnyH_take (i := 11) (v := .agg [.int .i64 k, .int .i64 op, .int .i64 kl, .int .i64 al, .int .i64 vl.k, .int .i64 vl.n, .string vl.s, .slice pl yl.length cl, .int .i64 kr, .int .i64 ar, .int .i64 vr.k, .int .i64 vr.n, .string vr.s, .slice pr yr.length cr, .slice p ys.length c].toArray) rfl (by kernel_rfl) (by kernel_rfl) (by kernel_rfl) (fun _ _ _ h => h) (yieldsIf_load_mid rfl 38 _ rfl w.heap.size (0) rfl [.int .i64 k, .int .i64 op, .int .i64 kl, .int .i64 al, .int .i64 vl.k, .int .i64 vl.n, .string vl.s, .slice pl yl.length cl, .int .i64 kr, .int .i64 ar, .int .i64 vr.k, .int .i64 vr.n, .string vr.s, .slice pr yr.length cr, .slice p ys.length c] _ (fun w h => h.a.at_) Try.underlying38 rfl (sizeTT)) (by assumption) ?_
        (try simp only [Act.put, List.setIfInBounds_toArray, List.set_cons_zero, List.set_cons_succ, List.getElem_toArray, List.getElem_cons_zero, List.getElem_cons_succ])
        refine wpAnyH_take (i := 13) (v := .agg [.int .i64 k, .int .i64 op, .int .i64 kl, .int .i64 al, .int .i64 vl.k, .int .i64 vl.n, .string vl.s, .slice pl yl.length cl, .int .i64 kr, .int .i64 ar, .int .i64 vr.k, .int .i64 vr.n, .string vr.s, .slice pr yr.length cr, .slice p ys.length c].toArray) rfl (by kernel_rfl) (by kernel_rfl) (by kernel_rfl) (fun _ _ _ h => h) (yieldsIf_load_mid rfl 38 _ rfl w.heap.size (0) rfl [.int .i64 k, .int .i64 op, .int .i64 kl, .int .i64 al, .int .i64 vl.k, .int .i64 vl.n, .string vl.s, .slice pl yl.length cl, .int .i64 kr, .int .i64 ar, .int .i64 vr.k, .int .i64 vr.n, .string vr.s, .slice pr yr.length cr, .slice p ys.length c] _ (fun w h => h.a.at_) Try.underlying38 rfl (sizeTT)) (by assumption) ?_
        (try simp only [Act.put, List.setIfInBounds_toArray, List.set_cons_zero, List.set_cons_succ, List.getElem_toArray, List.getElem_cons_zero, List.getElem_cons_succ])
        refine wpAnyH_ready (rs := [12]) (by kernel_rfl) (by simp) ?_
        refine AllReadyH.cons rfl (fun K hK => ?_) ?_
        · (try simp only [Act.put, List.setIfInBounds_toArray, List.set_cons_zero, List.set_cons_succ, List.getElem_toArray, List.getElem_cons_zero, List.getElem_cons_succ])
          go_simp
          refine (H2.out _ hS.b).mono ?_
          rintro e W4 ⟨⟨a3, c3, rfl, hI3⟩, hb⟩
          have hS := hS.below hb
          clear hb
          refine hK.out _ _ hS (fun hHeld => ?_)
          clear hK K
          (try simp only [Act.put, List.setIfInBounds_toArray, List.set_cons_zero, List.set_cons_succ, List.getElem_toArray, List.getElem_cons_zero, List.getElem_cons_succ])
          refine wpAnyH_ready (rs := [14]) (by kernel_rfl) (by simp) ?_
          refine AllReadyH.cons rfl (fun K hK => ?_) ?_
          · (try simp only [Act.put, List.setIfInBounds_toArray, List.set_cons_zero, List.set_cons_succ, List.getElem_toArray, List.getElem_cons_zero, List.getElem_cons_succ])
            go_simp
            refine (H3.out _ hS.b).mono ?_
            rintro e W5 ⟨⟨a4, c4, rfl, hI4⟩, hb⟩
            have hS := hS.below hb
            have hI3 := hI3.later hb
            clear hb
            refine hK.out _ _ hS (fun hHeld => ?_)
            clear hK K
            (try simp only [Act.put, List.setIfInBounds_toArray, List.set_cons_zero, List.set_cons_succ, List.getElem_toArray, List.getElem_cons_zero, List.getElem_cons_succ])
            refine wpAnyH_ready (rs := [15]) (by kernel_rfl) (by simp) ?_
            refine AllReadyH.cons rfl (fun K hK => ?_) ?_
            · (try simp only [Act.put, List.setIfInBounds_toArray, List.set_cons_zero, List.set_cons_succ, List.getElem_toArray, List.getElem_cons_zero, List.getElem_cons_succ])
              go_simp
              refine (same_any hI3 hI4 rfl hQ).mono ?_
              rintro e W6 ⟨rfl, hb⟩
              have hS := hS.below hb
              have hI3 := hI3.later hb
              have hI4 := hI4.later hb
              clear hb
              refine hK.out _ _ hS (fun hHeld => ?_)
              clear hK K
              (try simp only [Act.put, List.setIfInBounds_toArray, List.set_cons_zero, List.set_cons_succ, List.getElem_toArray, List.getElem_cons_zero, List.getElem_cons_succ])
              refine wpAnyH_take (i := 16) (v := ?_) rfl (by kernel_rfl) (by kernel_rfl) (by kernel_rfl) (fun _ _ _ h => h) (Or.inl ⟨by rfl, ?_⟩) (by assumption) ?_
              rotate_left
              · (intro wx hSw; go_simp; (try with_reducible rfl); (try omega))
              (try simp only [Act.put, List.setIfInBounds_toArray, List.set_cons_zero, List.set_cons_succ, List.getElem_toArray, List.getElem_cons_zero, List.getElem_cons_succ])
              refine wpAnyH_take (i := 17) (v := ?_) rfl (by kernel_rfl) (by kernel_rfl) (by kernel_rfl) (fun _ _ _ h => h) (Or.inl ⟨by rfl, ?_⟩) (by assumption) ?_
              rotate_left
              · (intro wx hSw; go_simp; (try with_reducible rfl); (try omega))
              (try simp only [Act.put, List.setIfInBounds_toArray, List.set_cons_zero, List.set_cons_succ, List.getElem_toArray, List.getElem_cons_zero, List.getElem_cons_succ])
              refine wpAnyH_done (by kernel_rfl) ?_ _
              go_wp2_with fail
              go_ret
              exact ⟨rfl, hS.b⟩
            exact AllReadyH.nil
          exact AllReadyH.nil
        exact AllReadyH.nil
      exact AllReadyH.nil
    exact AllReadyH.nil
  exact AllReadyH.nil
end Go.Proofs.Ytolcebbpbihnoaa
