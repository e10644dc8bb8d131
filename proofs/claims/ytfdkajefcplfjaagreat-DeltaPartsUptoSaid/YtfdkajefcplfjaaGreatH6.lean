/- Several of my texts laid together, each as it was: Yh. Conditions: each names its own. -/
import Derived.Test.YtfdkajefcplfjaaGreatH2
/- The project's Holds, of a condition of any depth: a contract of the call, in whatever memory. Conditions: a condition's and a row's cells are known. -/
namespace Go.Proofs.YtfdkajefcplfjaaGreat
open Go.RowKit

set_option maxHeartbeats 8000000 in
set_option maxRecDepth 1000000 in
theorem holds_0 (op : Int) (kl al : Int) (vl : Val) (pl : Option Addr) (cl : Nat) (yl : List Cx) (kr ar : Int) (vr : Val) (pr : Option Addr) (cr : Nat) (yr : List Cx) (p : Option Addr) (c : Nat) (ys : List Tx) (a : Option Addr) (cc : Nat) (row : List Val) (w : World) :
    Calls Tryz.prog 121 #[(Tx.mk 0 op (.mk kl al vl pl cl yl) (.mk kr ar vr pr cr yr) p c ys).val, .slice a row.length cc] w (IntAns (hoT row (.mk 0 op (.mk kl al vl pl cl yl) (.mk kr ar vr pr cr yr) p c ys)) w) := by
  have V := VarB.new w [.int .i64 0, .int .i64 op, .int .i64 kl, .int .i64 al, .int .i64 vl.k, .int .i64 vl.n, .string vl.s, .slice pl yl.length cl, .int .i64 kr, .int .i64 ar, .int .i64 vr.k, .int .i64 vr.n, .string vr.s, .slice pr yr.length cr, .slice p ys.length c] 47
  have a0 := V.cell 0 rfl
  have a1 := V.cell 1 rfl
  have a2 := V.cell 2 rfl
  have a3 := V.cell 3 rfl
  have a4 := V.cell 4 rfl
  have a5 := V.cell 5 rfl
  have a6 := V.cell 6 rfl
  have a7 := V.cell 7 rfl
  have a8 := V.cell 8 rfl
  have a9 := V.cell 9 rfl
  have a10 := V.cell 10 rfl
  have a11 := V.cell 11 rfl
  have a12 := V.cell 12 rfl
  have a13 := V.cell 13 rfl
  have a14 := V.cell 14 rfl
  have V := hid0 V
  show Calls Tryz.prog 121 #[.agg #[.int .i64 0, .int .i64 op, .int .i64 kl, .int .i64 al, .int .i64 vl.k, .int .i64 vl.n, .string vl.s, .slice pl yl.length cl, .int .i64 kr, .int .i64 ar, .int .i64 vr.k, .int .i64 vr.n, .string vr.s, .slice pr yr.length cr, .slice p ys.length c], .slice a row.length cc] w (IntAns (hoT row (.mk 0 op (.mk kl al vl pl cl yl) (.mk kr ar vr pr cr yr) p c ys)) w)
  go_enter Tryz.func121, Tryz.ntmps121
  go_wp2
  go_ret
  exact IntAns.of (by rw [hoT]; rfl) (by go_grown)
set_option maxHeartbeats 8000000 in
set_option maxRecDepth 1000000 in
theorem holds_1 (op : Int) (kl al : Int) (vl : Val) (pl : Option Addr) (cl : Nat) (yl : List Cx) (kr ar : Int) (vr : Val) (pr : Option Addr) (cr : Nat) (yr : List Cx) (p : Option Addr) (c : Nat) (ys : List Tx) (a : Option Addr) (cc : Nat) (row : List Val) (w : World) (xl xr : Val)
    (HL : SdHalf 165 w (.agg #[.int .i64 kl, .int .i64 al, .int .i64 vl.k, .int .i64 vl.n, .string vl.s, .slice pl yl.length cl]) (.slice a row.length cc) xl) (HR : SdHalf 165 w (.agg #[.int .i64 kr, .int .i64 ar, .int .i64 vr.k, .int .i64 vr.n, .string vr.s, .slice pr yr.length cr]) (.slice a row.length cc) xr) :
    Calls Tryz.prog 121 #[(Tx.mk 1 op (.mk kl al vl pl cl yl) (.mk kr ar vr pr cr yr) p c ys).val, .slice a row.length cc] w (IntAns (cmpO op xl.k xl.n xl.s xr.k xr.n xr.s) w) := by
  obtain ⟨k1, n1, s1⟩ := xl
  obtain ⟨k2, n2, s2⟩ := xr
  have V := VarB.new w [.int .i64 1, .int .i64 op, .int .i64 kl, .int .i64 al, .int .i64 vl.k, .int .i64 vl.n, .string vl.s, .slice pl yl.length cl, .int .i64 kr, .int .i64 ar, .int .i64 vr.k, .int .i64 vr.n, .string vr.s, .slice pr yr.length cr, .slice p ys.length c] 47
  have a0 := V.cell 0 rfl
  have a1 := V.cell 1 rfl
  have a2 := V.cell 2 rfl
  have a3 := V.cell 3 rfl
  have a4 := V.cell 4 rfl
  have a5 := V.cell 5 rfl
  have a6 := V.cell 6 rfl
  have a7 := V.cell 7 rfl
  have a8 := V.cell 8 rfl
  have a9 := V.cell 9 rfl
  have a10 := V.cell 10 rfl
  have a11 := V.cell 11 rfl
  have a12 := V.cell 12 rfl
  have a13 := V.cell 13 rfl
  have a14 := V.cell 14 rfl
  have V := hid0 V
  show Calls Tryz.prog 121 #[.agg #[.int .i64 1, .int .i64 op, .int .i64 kl, .int .i64 al, .int .i64 vl.k, .int .i64 vl.n, .string vl.s, .slice pl yl.length cl, .int .i64 kr, .int .i64 ar, .int .i64 vr.k, .int .i64 vr.n, .string vr.s, .slice pr yr.length cr, .slice p ys.length c], .slice a row.length cc] w (IntAns (cmpO op k1 n1 s1 k2 n2 s2) w)
  go_enter Tryz.func121, Tryz.ntmps121
  go_wp2_with fail
  have hS : BoxS w w.heap.size [.int .i64 1, .int .i64 op, .int .i64 kl, .int .i64 al, .int .i64 vl.k, .int .i64 vl.n, .string vl.s, .slice pl yl.length cl, .int .i64 kr, .int .i64 ar, .int .i64 vr.k, .int .i64 vr.n, .string vr.s, .slice pr yr.length cr, .slice p ys.length c] _ := ⟨V.out, (Below.refl _ _).alloc (Nat.le_refl _) _⟩
  replace hS := hS.drew
  clear a0 a1 a2 a3 a4 a5 a6 a7 a8 a9 a10 a11 a12 a13 a14 V
  refine wp_region_held_drew (S := BoxS w w.heap.size [.int .i64 1, .int .i64 op, .int .i64 kl, .int .i64 al, .int .i64 vl.k, .int .i64 vl.n, .string vl.s, .slice pl yl.length cl, .int .i64 kr, .int .i64 ar, .int .i64 vr.k, .int .i64 vr.n, .string vr.s, .slice pr yr.length cr, .slice p ys.length c]) (by kernel_rfl) hS (fun hHeld => ?_)
  refine wpAnyH_take (i := 0) (v := ?_) rfl (by kernel_rfl) (by kernel_rfl) (by kernel_rfl) (fun _ _ _ h => h) (Or.inl ⟨by rfl, ?_⟩) (by assumption) ?_
  rotate_left
  · (intro wx hSw; have q1 := hSw.a.cell 1 rfl; go_simp; (try with_reducible rfl); (try omega))
  (try simp only [Act.put, List.setIfInBounds_toArray, List.set_cons_zero, List.set_cons_succ, List.getElem_toArray, List.getElem_cons_zero])
  refine wpAnyH_take (i := 1) (v := ?_) rfl (by kernel_rfl) (by kernel_rfl) (by kernel_rfl) (fun _ _ _ h => h) (Or.inl ⟨by rfl, ?_⟩) (by assumption) ?_
  rotate_left
  · (intro wx hSw; have q1 := hSw.a.cell 1 rfl; go_simp; (try with_reducible rfl); (try omega))
  (try simp only [Act.put, List.setIfInBounds_toArray, List.set_cons_zero, List.set_cons_succ, List.getElem_toArray, List.getElem_cons_zero, List.getElem_cons_succ])
  refine wpAnyH_take (i := 2) (v := ?_) rfl (by kernel_rfl) (by kernel_rfl) (by kernel_rfl) (fun _ _ _ h => h) (Or.inl ⟨by rfl, ?_⟩) (by assumption) ?_
  rotate_left
  · (intro wx hSw; have q1 := hSw.a.cell 1 rfl; go_simp; (try with_reducible rfl); (try omega))
  (try simp only [Act.put, List.setIfInBounds_toArray, List.set_cons_zero, List.set_cons_succ, List.getElem_toArray, List.getElem_cons_zero, List.getElem_cons_succ])
  refine wpAnyH_take (i := 3) (v := .agg [.int .i64 kl, .int .i64 al, .int .i64 vl.k, .int .i64 vl.n, .string vl.s, .slice pl yl.length cl].toArray) rfl (by kernel_rfl) (by kernel_rfl) (by kernel_rfl) (fun _ _ _ h => h) (yieldsIf_load_mid rfl 44 _ rfl w.heap.size (2) rfl [.int .i64 kl, .int .i64 al, .int .i64 vl.k, .int .i64 vl.n, .string vl.s, .slice pl yl.length cl] _ (fun w h => range_mid (xs := [.int .i64 1, .int .i64 op]) (ys := [.int .i64 kl, .int .i64 al, .int .i64 vl.k, .int .i64 vl.n, .string vl.s, .slice pl yl.length cl]) (zs := [.int .i64 kr, .int .i64 ar, .int .i64 vr.k, .int .i64 vr.n, .string vr.s, .slice pr yr.length cr, .slice p ys.length c]) h.a.at_) Tryz.underlying44 rfl (sizeX)) (by assumption) ?_
  (try simp only [Act.put, List.setIfInBounds_toArray, List.set_cons_zero, List.set_cons_succ, List.getElem_toArray, List.getElem_cons_zero, List.getElem_cons_succ])
  refine wpAnyH_take (i := 4) (v := ?_) rfl (by kernel_rfl) (by kernel_rfl) (by kernel_rfl) (fun _ _ _ h => h) (Or.inl ⟨by rfl, ?_⟩) (by assumption) ?_
  rotate_left
  · (intro wx hSw; have q1 := hSw.a.cell 1 rfl; go_simp; (try with_reducible rfl); (try omega))
  (try simp only [Act.put, List.setIfInBounds_toArray, List.set_cons_zero, List.set_cons_succ, List.getElem_toArray, List.getElem_cons_zero, List.getElem_cons_succ])
  refine wpAnyH_take (i := 6) (v := ?_) rfl (by kernel_rfl) (by kernel_rfl) (by kernel_rfl) (fun _ _ _ h => h) (Or.inl ⟨by rfl, ?_⟩) (by assumption) ?_
  rotate_left
  · (intro wx hSw; have q1 := hSw.a.cell 1 rfl; go_simp; (try with_reducible rfl); (try omega))
  (try simp only [Act.put, List.setIfInBounds_toArray, List.set_cons_zero, List.set_cons_succ, List.getElem_toArray, List.getElem_cons_zero, List.getElem_cons_succ])
  refine wpAnyH_take (i := 7) (v := .agg [.int .i64 kr, .int .i64 ar, .int .i64 vr.k, .int .i64 vr.n, .string vr.s, .slice pr yr.length cr].toArray) rfl (by kernel_rfl) (by kernel_rfl) (by kernel_rfl) (fun _ _ _ h => h) (yieldsIf_load_mid rfl 44 _ rfl w.heap.size (8) rfl [.int .i64 kr, .int .i64 ar, .int .i64 vr.k, .int .i64 vr.n, .string vr.s, .slice pr yr.length cr] _ (fun w h => range_mid (xs := [.int .i64 1, .int .i64 op, .int .i64 kl, .int .i64 al, .int .i64 vl.k, .int .i64 vl.n, .string vl.s, .slice pl yl.length cl]) (ys := [.int .i64 kr, .int .i64 ar, .int .i64 vr.k, .int .i64 vr.n, .string vr.s, .slice pr yr.length cr]) (zs := [.slice p ys.length c]) h.a.at_) Tryz.underlying44 rfl (sizeX)) (by assumption) ?_
  (try simp only [Act.put, List.setIfInBounds_toArray, List.set_cons_zero, List.set_cons_succ, List.getElem_toArray, List.getElem_cons_zero, List.getElem_cons_succ])
  refine wpAnyH_take (i := 8) (v := ?_) rfl (by kernel_rfl) (by kernel_rfl) (by kernel_rfl) (fun _ _ _ h => h) (Or.inl ⟨by rfl, ?_⟩) (by assumption) ?_
  rotate_left
  · (intro wx hSw; have q1 := hSw.a.cell 1 rfl; go_simp; (try with_reducible rfl); (try omega))
  (try simp only [Act.put, List.setIfInBounds_toArray, List.set_cons_zero, List.set_cons_succ, List.getElem_toArray, List.getElem_cons_zero, List.getElem_cons_succ])
  refine wpAnyH_ready (rs := [5]) (by kernel_rfl) (by simp) ?_
  refine AllReadyH.cons rfl (fun K hK => ?_) AllReadyH.nil
  go_simp
  refine (HL.out _ hS.b).mono ?_
  rintro e w3 ⟨rfl, hb3⟩
  have hS3 := hS.below hb3
  refine hK.out _ _ hS3 (fun hHeld => ?_)
  clear hK K
  (try simp only [])
  refine wpAnyH_ready (rs := [9]) (by kernel_rfl) (by simp) ?_
  refine AllReadyH.cons rfl (fun K hK => ?_) AllReadyH.nil
  go_simp
  refine (HR.out _ hS3.b).mono ?_
  rintro e w4 ⟨rfl, hb4⟩
  have hS4 := hS3.below hb4
  refine hK.out _ _ hS4 (fun hHeld => ?_)
  clear hK K
  (try simp only [])
  refine wpAnyH_ready (rs := [10]) (by kernel_rfl) (by simp) ?_
  refine AllReadyH.cons rfl (fun K hK => ?_) AllReadyH.nil
  go_simp
  refine (compare_any _ _ _ _ _ _ _ _).mono ?_
  rintro e w5 ⟨rfl, hb5⟩
  have hS5 := hS4.below hb5
  refine hK.out _ _ hS5 (fun hHeld => ?_)
  clear hK K
  (try simp only [Act.put, List.setIfInBounds_toArray, List.set_cons_zero, List.set_cons_succ, List.getElem_toArray, List.getElem_cons_zero, List.getElem_cons_succ])
  refine wpAnyH_take (i := 11) (v := ?_) rfl (by kernel_rfl) (by kernel_rfl) (by kernel_rfl) (fun _ _ _ h => h) (Or.inl ⟨by rfl, ?_⟩) (by assumption) ?_
  rotate_left
  · (intro wx hSw; have q1 := hSw.a.cell 1 rfl; go_simp; (try with_reducible rfl); (try omega))
  (try simp only [Act.put, List.setIfInBounds_toArray, List.set_cons_zero, List.set_cons_succ, List.getElem_toArray, List.getElem_cons_zero, List.getElem_cons_succ])
  refine wpAnyH_done (by kernel_rfl) ?_ _
  go_wp2_with fail
  go_ret
  exact IntAns.of rfl hS5.b
set_option maxHeartbeats 8000000 in
set_option maxRecDepth 1000000 in
theorem holds_2 (op : Int) (kl al : Int) (vl : Val) (pl : Option Addr) (cl : Nat) (yl : List Cx) (kr ar : Int) (vr : Val) (pr : Option Addr) (cr : Nat) (yr : List Cx) (p : Option Addr) (c : Nat) (ys : List Tx) (a : Option Addr) (cc : Nat) (row : List Val) (w : World) (x : Int)
    (H : IntHalf 166 w (.agg #[.int .i64 kl, .int .i64 al, .int .i64 vl.k, .int .i64 vl.n, .string vl.s, .slice pl yl.length cl]) (.slice a row.length cc) x) :
    Calls Tryz.prog 121 #[(Tx.mk 2 op (.mk kl al vl pl cl yl) (.mk kr ar vr pr cr yr) p c ys).val, .slice a row.length cc] w (IntAns x w) := by
  have V := VarB.new w [.int .i64 2, .int .i64 op, .int .i64 kl, .int .i64 al, .int .i64 vl.k, .int .i64 vl.n, .string vl.s, .slice pl yl.length cl, .int .i64 kr, .int .i64 ar, .int .i64 vr.k, .int .i64 vr.n, .string vr.s, .slice pr yr.length cr, .slice p ys.length c] 47
  have a0 := V.cell 0 rfl
  have a1 := V.cell 1 rfl
  have a2 := V.cell 2 rfl
  have a3 := V.cell 3 rfl
  have a4 := V.cell 4 rfl
  have a5 := V.cell 5 rfl
  have a6 := V.cell 6 rfl
  have a7 := V.cell 7 rfl
  have a8 := V.cell 8 rfl
  have a9 := V.cell 9 rfl
  have a10 := V.cell 10 rfl
  have a11 := V.cell 11 rfl
  have a12 := V.cell 12 rfl
  have a13 := V.cell 13 rfl
  have a14 := V.cell 14 rfl
  have V := hid0 V
  show Calls Tryz.prog 121 #[.agg #[.int .i64 2, .int .i64 op, .int .i64 kl, .int .i64 al, .int .i64 vl.k, .int .i64 vl.n, .string vl.s, .slice pl yl.length cl, .int .i64 kr, .int .i64 ar, .int .i64 vr.k, .int .i64 vr.n, .string vr.s, .slice pr yr.length cr, .slice p ys.length c], .slice a row.length cc] w (IntAns x w)
  go_enter Tryz.func121, Tryz.ntmps121
  go_wp2_with fail
  go_at_call 166
  refine (H.out _ (by go_grown)).mono ?_
  rintro e w1 ⟨rfl, hb1⟩
  have hB1 : Below w.heap.size w w1 := below_through hb1 (by simp) ((Below.refl _ _).alloc (Nat.le_refl _) _)
  clear hb1 a0 a1 a2 a3 a4 a5 a6 a7 a8 a9 a10 a11 a12 a13 a14 V
  go_wp2_with fail
  go_ret
  exact IntAns.of rfl hB1
set_option maxHeartbeats 8000000 in
set_option maxRecDepth 1000000 in
theorem holds_3 (op : Int) (kl al : Int) (vl : Val) (pl : Option Addr) (cl : Nat) (yl : List Cx) (kr ar : Int) (vr : Val) (pr : Option Addr) (cr : Nat) (yr : List Cx) (p : Option Addr) (c : Nat) (ys : List Tx) (a : Option Addr) (cc : Nat) (row : List Val) (w : World) (x : Int)
    (H : IntHalf 166 w (.agg #[.int .i64 kl, .int .i64 al, .int .i64 vl.k, .int .i64 vl.n, .string vl.s, .slice pl yl.length cl]) (.slice a row.length cc) x) :
    Calls Tryz.prog 121 #[(Tx.mk 3 op (.mk kl al vl pl cl yl) (.mk kr ar vr pr cr yr) p c ys).val, .slice a row.length cc] w (IntAns (notV x) w) := by
  have V := VarB.new w [.int .i64 3, .int .i64 op, .int .i64 kl, .int .i64 al, .int .i64 vl.k, .int .i64 vl.n, .string vl.s, .slice pl yl.length cl, .int .i64 kr, .int .i64 ar, .int .i64 vr.k, .int .i64 vr.n, .string vr.s, .slice pr yr.length cr, .slice p ys.length c] 47
  have a0 := V.cell 0 rfl
  have a1 := V.cell 1 rfl
  have a2 := V.cell 2 rfl
  have a3 := V.cell 3 rfl
  have a4 := V.cell 4 rfl
  have a5 := V.cell 5 rfl
  have a6 := V.cell 6 rfl
  have a7 := V.cell 7 rfl
  have a8 := V.cell 8 rfl
  have a9 := V.cell 9 rfl
  have a10 := V.cell 10 rfl
  have a11 := V.cell 11 rfl
  have a12 := V.cell 12 rfl
  have a13 := V.cell 13 rfl
  have a14 := V.cell 14 rfl
  have V := hid0 V
  show Calls Tryz.prog 121 #[.agg #[.int .i64 3, .int .i64 op, .int .i64 kl, .int .i64 al, .int .i64 vl.k, .int .i64 vl.n, .string vl.s, .slice pl yl.length cl, .int .i64 kr, .int .i64 ar, .int .i64 vr.k, .int .i64 vr.n, .string vr.s, .slice pr yr.length cr, .slice p ys.length c], .slice a row.length cc] w (IntAns (notV x) w)
  go_enter Tryz.func121, Tryz.ntmps121
  go_wp2_with fail
  go_at_call 166
  refine (H.out _ (by go_grown)).mono ?_
  rintro e w1 ⟨rfl, hb1⟩
  have hB1 : Below w.heap.size w w1 := below_through hb1 (by simp) ((Below.refl _ _).alloc (Nat.le_refl _) _)
  clear hb1 a0 a1 a2 a3 a4 a5 a6 a7 a8 a9 a10 a11 a12 a13 a14 V
  go_wp2_with (go_at_call 167; refine (not_any _ _).mono ?_; rintro e w3 ⟨rfl, rfl⟩)
  go_ret
  exact IntAns.of rfl hB1
set_option maxHeartbeats 8000000 in
set_option maxRecDepth 1000000 in
theorem holds_4 (op : Int) (kl al : Int) (vl : Val) (pl : Option Addr) (cl : Nat) (yl : List Cx) (kr ar : Int) (vr : Val) (pr : Option Addr) (cr : Nat) (yr : List Cx) (p : Option Addr) (c : Nat) (ys : List Tx) (a : Option Addr) (cc : Nat) (row : List Val) (w : World) (L : List Int) (hL : L.length ≤ maxLen)
    (H : StandHalf w (.slice p ys.length c) (.slice a row.length cc) L) :
    Calls Tryz.prog 121 #[(Tx.mk 4 op (.mk kl al vl pl cl yl) (.mk kr ar vr pr cr yr) p c ys).val, .slice a row.length cc] w (IntAns (andV L) w) := by
  have hL := hid0 hL
  have V := VarB.new w [.int .i64 4, .int .i64 op, .int .i64 kl, .int .i64 al, .int .i64 vl.k, .int .i64 vl.n, .string vl.s, .slice pl yl.length cl, .int .i64 kr, .int .i64 ar, .int .i64 vr.k, .int .i64 vr.n, .string vr.s, .slice pr yr.length cr, .slice p ys.length c] 47
  have a0 := V.cell 0 rfl
  have a1 := V.cell 1 rfl
  have a2 := V.cell 2 rfl
  have a3 := V.cell 3 rfl
  have a4 := V.cell 4 rfl
  have a5 := V.cell 5 rfl
  have a6 := V.cell 6 rfl
  have a7 := V.cell 7 rfl
  have a8 := V.cell 8 rfl
  have a9 := V.cell 9 rfl
  have a10 := V.cell 10 rfl
  have a11 := V.cell 11 rfl
  have a12 := V.cell 12 rfl
  have a13 := V.cell 13 rfl
  have a14 := V.cell 14 rfl
  have V := hid0 V
  show Calls Tryz.prog 121 #[.agg #[.int .i64 4, .int .i64 op, .int .i64 kl, .int .i64 al, .int .i64 vl.k, .int .i64 vl.n, .string vl.s, .slice pl yl.length cl, .int .i64 kr, .int .i64 ar, .int .i64 vr.k, .int .i64 vr.n, .string vr.s, .slice pr yr.length cr, .slice p ys.length c], .slice a row.length cc] w (IntAns (andV L) w)
  go_enter Tryz.func121, Tryz.ntmps121
  go_wp2_with fail
  go_at_call 169
  refine (H.out _ (by go_grown)).mono ?_
  rintro e w1 ⟨⟨a', c', rfl, hI⟩, hb1⟩
  have hI := hid0 hI
  have hB1 : Below w.heap.size w w1 := below_through hb1 (by simp) ((Below.refl _ _).alloc (Nat.le_refl _) _)
  clear hb1 a0 a1 a2 a3 a4 a5 a6 a7 a8 a9 a10 a11 a12 a13 a14 V
  go_wp2_with (go_at_call 168; refine (and_any _ _ _ _ hI.out hL.out).mono ?_; rintro e w3 ⟨rfl, rfl⟩)
  go_ret
  exact IntAns.of rfl hB1
set_option maxHeartbeats 8000000 in
set_option maxRecDepth 1000000 in
theorem holds_5 (op : Int) (kl al : Int) (vl : Val) (pl : Option Addr) (cl : Nat) (yl : List Cx) (kr ar : Int) (vr : Val) (pr : Option Addr) (cr : Nat) (yr : List Cx) (p : Option Addr) (c : Nat) (ys : List Tx) (a : Option Addr) (cc : Nat) (row : List Val) (w : World) (L : List Int) (hL : L.length ≤ maxLen)
    (H : StandHalf w (.slice p ys.length c) (.slice a row.length cc) L) :
    Calls Tryz.prog 121 #[(Tx.mk 5 op (.mk kl al vl pl cl yl) (.mk kr ar vr pr cr yr) p c ys).val, .slice a row.length cc] w (IntAns (orV L) w) := by
  have hL := hid0 hL
  have V := VarB.new w [.int .i64 5, .int .i64 op, .int .i64 kl, .int .i64 al, .int .i64 vl.k, .int .i64 vl.n, .string vl.s, .slice pl yl.length cl, .int .i64 kr, .int .i64 ar, .int .i64 vr.k, .int .i64 vr.n, .string vr.s, .slice pr yr.length cr, .slice p ys.length c] 47
  have a0 := V.cell 0 rfl
  have a1 := V.cell 1 rfl
  have a2 := V.cell 2 rfl
  have a3 := V.cell 3 rfl
  have a4 := V.cell 4 rfl
  have a5 := V.cell 5 rfl
  have a6 := V.cell 6 rfl
  have a7 := V.cell 7 rfl
  have a8 := V.cell 8 rfl
  have a9 := V.cell 9 rfl
  have a10 := V.cell 10 rfl
  have a11 := V.cell 11 rfl
  have a12 := V.cell 12 rfl
  have a13 := V.cell 13 rfl
  have a14 := V.cell 14 rfl
  have V := hid0 V
  show Calls Tryz.prog 121 #[.agg #[.int .i64 5, .int .i64 op, .int .i64 kl, .int .i64 al, .int .i64 vl.k, .int .i64 vl.n, .string vl.s, .slice pl yl.length cl, .int .i64 kr, .int .i64 ar, .int .i64 vr.k, .int .i64 vr.n, .string vr.s, .slice pr yr.length cr, .slice p ys.length c], .slice a row.length cc] w (IntAns (orV L) w)
  go_enter Tryz.func121, Tryz.ntmps121
  go_wp2_with fail
  go_at_call 169
  refine (H.out _ (by go_grown)).mono ?_
  rintro e w1 ⟨⟨a', c', rfl, hI⟩, hb1⟩
  have hI := hid0 hI
  have hB1 : Below w.heap.size w w1 := below_through hb1 (by simp) ((Below.refl _ _).alloc (Nat.le_refl _) _)
  clear hb1 a0 a1 a2 a3 a4 a5 a6 a7 a8 a9 a10 a11 a12 a13 a14 V
  go_wp2_with (go_at_call 170; refine (or_any _ _ _ _ hI.out hL.out).mono ?_; rintro e w3 ⟨rfl, rfl⟩)
  go_ret
  exact IntAns.of rfl hB1
set_option maxHeartbeats 8000000 in
set_option maxRecDepth 1000000 in
theorem holds_6 (op : Int) (kl al : Int) (vl : Val) (pl : Option Addr) (cl : Nat) (yl : List Cx) (kr ar : Int) (vr : Val) (pr : Option Addr) (cr : Nat) (yr : List Cx) (b o : Nat) (c : Nat) (t : Tx) (a : Option Addr) (cc : Nat) (row : List Val) (w : World) (x : Int)
    (hb : b < w.heap.size) (hX : w.rangeAt b o t.cells) (H : IntHalf 121 w t.val (.slice a row.length cc) x) :
    Calls Tryz.prog 121 #[(Tx.mk 6 op (.mk kl al vl pl cl yl) (.mk kr ar vr pr cr yr) (some ⟨b, o, none⟩) c [t]).val, .slice a row.length cc] w (IntAns (notV x) w) := by
  obtain ⟨kt, ot, ⟨kf, af, vf, pf, cf, yf⟩, ⟨kg, ag, vg, pg, cg, yg⟩, pt, ct, yt⟩ := t
  have q0 := rng hX 0 rfl
  have q1 := rng hX 1 rfl
  have q2 := rng hX 2 rfl
  have q3 := rng hX 3 rfl
  have q4 := rng hX 4 rfl
  have q5 := rng hX 5 rfl
  have q6 := rng hX 6 rfl
  have q7 := rng hX 7 rfl
  have q8 := rng hX 8 rfl
  have q9 := rng hX 9 rfl
  have q10 := rng hX 10 rfl
  have q11 := rng hX 11 rfl
  have q12 := rng hX 12 rfl
  have q13 := rng hX 13 rfl
  have q14 := rng hX 14 rfl
  simp only [Nat.add_zero] at q0
  clear hX
  have V := VarB.new w [.int .i64 6, .int .i64 op, .int .i64 kl, .int .i64 al, .int .i64 vl.k, .int .i64 vl.n, .string vl.s, .slice pl yl.length cl, .int .i64 kr, .int .i64 ar, .int .i64 vr.k, .int .i64 vr.n, .string vr.s, .slice pr yr.length cr, .slice (some ⟨b, o, none⟩) 1 c] 47
  have a0 := V.cell 0 rfl
  have a1 := V.cell 1 rfl
  have a2 := V.cell 2 rfl
  have a3 := V.cell 3 rfl
  have a4 := V.cell 4 rfl
  have a5 := V.cell 5 rfl
  have a6 := V.cell 6 rfl
  have a7 := V.cell 7 rfl
  have a8 := V.cell 8 rfl
  have a9 := V.cell 9 rfl
  have a10 := V.cell 10 rfl
  have a11 := V.cell 11 rfl
  have a12 := V.cell 12 rfl
  have a13 := V.cell 13 rfl
  have a14 := V.cell 14 rfl
  have V := hid0 V
  show Calls Tryz.prog 121 #[.agg #[.int .i64 6, .int .i64 op, .int .i64 kl, .int .i64 al, .int .i64 vl.k, .int .i64 vl.n, .string vl.s, .slice pl yl.length cl, .int .i64 kr, .int .i64 ar, .int .i64 vr.k, .int .i64 vr.n, .string vr.s, .slice pr yr.length cr, .slice (some ⟨b, o, none⟩) 1 c], .slice a row.length cc] w (IntAns (notV x) w)
  go_enter Tryz.func121, Tryz.ntmps121
  go_wp2_with fail
  go_at_call 121
  refine (H.out _ (by go_grown)).mono ?_
  rintro e w1 ⟨rfl, hb1⟩
  have hB1 : Below w.heap.size w w1 := below_through hb1 (by simp) ((Below.refl _ _).alloc (Nat.le_refl _) _)
  clear hb1 a0 a1 a2 a3 a4 a5 a6 a7 a8 a9 a10 a11 a12 a13 a14 V
  go_wp2_with (go_at_call 167; refine (not_any _ _).mono ?_; rintro e w3 ⟨rfl, rfl⟩)
  go_ret
  exact IntAns.of rfl hB1
set_option maxHeartbeats 8000000 in
set_option maxRecDepth 1000000 in
theorem holds_6n (op : Int) (kl al : Int) (vl : Val) (pl : Option Addr) (cl : Nat) (yl : List Cx) (kr ar : Int) (vr : Val) (pr : Option Addr) (cr : Nat) (yr : List Cx) (p : Option Addr) (c : Nat) (ys : List Tx) (a : Option Addr) (cc : Nat) (row : List Val) (w : World) (hl : ys.length ≠ 1) :
    Calls Tryz.prog 121 #[(Tx.mk 6 op (.mk kl al vl pl cl yl) (.mk kr ar vr pr cr yr) p c ys).val, .slice a row.length cc] w (IntAns 1 w) := by
  have hne : (((ys.length : Nat) : Int) == 1) = false := by simp; omega
  have V := VarB.new w [.int .i64 6, .int .i64 op, .int .i64 kl, .int .i64 al, .int .i64 vl.k, .int .i64 vl.n, .string vl.s, .slice pl yl.length cl, .int .i64 kr, .int .i64 ar, .int .i64 vr.k, .int .i64 vr.n, .string vr.s, .slice pr yr.length cr, .slice p ys.length c] 47
  have a0 := V.cell 0 rfl
  have a1 := V.cell 1 rfl
  have a2 := V.cell 2 rfl
  have a3 := V.cell 3 rfl
  have a4 := V.cell 4 rfl
  have a5 := V.cell 5 rfl
  have a6 := V.cell 6 rfl
  have a7 := V.cell 7 rfl
  have a8 := V.cell 8 rfl
  have a9 := V.cell 9 rfl
  have a10 := V.cell 10 rfl
  have a11 := V.cell 11 rfl
  have a12 := V.cell 12 rfl
  have a13 := V.cell 13 rfl
  have a14 := V.cell 14 rfl
  have V := hid0 V
  show Calls Tryz.prog 121 #[.agg #[.int .i64 6, .int .i64 op, .int .i64 kl, .int .i64 al, .int .i64 vl.k, .int .i64 vl.n, .string vl.s, .slice pl yl.length cl, .int .i64 kr, .int .i64 ar, .int .i64 vr.k, .int .i64 vr.n, .string vr.s, .slice pr yr.length cr, .slice p ys.length c], .slice a row.length cc] w (IntAns 1 w)
  go_enter Tryz.func121, Tryz.ntmps121
  generalize ys.length = m at *
  go_wp2
  go_ret
  exact IntAns.of rfl (by go_grown)
set_option maxHeartbeats 8000000 in
set_option maxRecDepth 1000000 in
theorem holds_n (k op : Int) (kl al : Int) (vl : Val) (pl : Option Addr) (cl : Nat) (yl : List Cx) (kr ar : Int) (vr : Val) (pr : Option Addr) (cr : Nat) (yr : List Cx) (p : Option Addr) (c : Nat) (ys : List Tx) (a : Option Addr) (cc : Nat) (row : List Val) (w : World) (hk : k < 0 ∨ 6 < k) :
    Calls Tryz.prog 121 #[(Tx.mk k op (.mk kl al vl pl cl yl) (.mk kr ar vr pr cr yr) p c ys).val, .slice a row.length cc] w (IntAns 1 w) := by
  have t0 : (k == 0) = false := by simp; omega
  have t1 : (k == 1) = false := by simp; omega
  have t2 : (k == 2) = false := by simp; omega
  have t3 : (k == 3) = false := by simp; omega
  have t4 : (k == 4) = false := by simp; omega
  have t5 : (k == 5) = false := by simp; omega
  have t6 : (k == 6) = false := by simp; omega
  clear hk
  have V := VarB.new w [.int .i64 k, .int .i64 op, .int .i64 kl, .int .i64 al, .int .i64 vl.k, .int .i64 vl.n, .string vl.s, .slice pl yl.length cl, .int .i64 kr, .int .i64 ar, .int .i64 vr.k, .int .i64 vr.n, .string vr.s, .slice pr yr.length cr, .slice p ys.length c] 47
  have a0 := V.cell 0 rfl
  have a1 := V.cell 1 rfl
  have a2 := V.cell 2 rfl
  have a3 := V.cell 3 rfl
  have a4 := V.cell 4 rfl
  have a5 := V.cell 5 rfl
  have a6 := V.cell 6 rfl
  have a7 := V.cell 7 rfl
  have a8 := V.cell 8 rfl
  have a9 := V.cell 9 rfl
  have a10 := V.cell 10 rfl
  have a11 := V.cell 11 rfl
  have a12 := V.cell 12 rfl
  have a13 := V.cell 13 rfl
  have a14 := V.cell 14 rfl
  have V := hid0 V
  show Calls Tryz.prog 121 #[.agg #[.int .i64 k, .int .i64 op, .int .i64 kl, .int .i64 al, .int .i64 vl.k, .int .i64 vl.n, .string vl.s, .slice pl yl.length cl, .int .i64 kr, .int .i64 ar, .int .i64 vr.k, .int .i64 vr.n, .string vr.s, .slice pr yr.length cr, .slice p ys.length c], .slice a row.length cc] w (IntAns 1 w)
  go_enter Tryz.func121, Tryz.ntmps121
  go_wp2
  go_ret
  exact IntAns.of rfl (by go_grown)
theorem ho_6n {op : Int} {l r : Val} {L : List Int} (h : L.length ≠ 1) : hoOf 6 op l r L = 1 := by
  unfold hoOf
  rw [if_neg (by omega), if_neg (by omega), if_neg (by omega), if_neg (by omega), if_neg (by omega), if_neg (by omega), if_pos rfl]
  match L, h with
  | [], _ => rfl
  | [_], h => exact absurd rfl h
  | _ :: _ :: _, _ => rfl
theorem holds_step {n : Nat} (IH : HoOk n) (t : Tx) (a : Option Addr) (cc : Nat) (row : List Val) (w : World) (ht : TxAt w (n + 1) t) (hr : RowIn w a row) : Calls Tryz.prog 121 #[t.val, .slice a row.length cc] w (IntAns (hoT row t) w) := by
  obtain ⟨k, op, ⟨kl, al, vl, pl, cl, yl⟩, ⟨kr, ar, vr, pr, cr, yr⟩, p, c, ys⟩ := t
  obtain ⟨⟨hl, hrr⟩, hk, hA⟩ := ht
  rw [hoT]
  unfold hoOf
  by_cases h0 : k = 0
  · subst h0; have h := holds_0 op kl al vl pl cl yl kr ar vr pr cr yr p c ys a cc row w; rw [hoT] at h; exact h
  by_cases h1 : k = 1
  · subst h1; exact holds_1 op kl al vl pl cl yl kr ar vr pr cr yr p c ys a cc row w _ _ ⟨fun W hb => side_any cc (hl.later hb) (hr.later hb)⟩ ⟨fun W hb => side_any cc (hrr.later hb) (hr.later hb)⟩
  by_cases h2 : k = 2
  · subst h2; exact holds_2 op kl al vl pl cl yl kr ar vr pr cr yr p c ys a cc row w _ ⟨fun W hb => empty_any cc (hl.later hb) (hr.later hb)⟩
  by_cases h3 : k = 3
  · subst h3
    have h := holds_3 op kl al vl pl cl yl kr ar vr pr cr yr p c ys a cc row w (nulV (sdC row (.mk kl al vl pl cl yl))) ⟨fun W hb => empty_any cc (hl.later hb) (hr.later hb)⟩
    have e : ∀ v, notV (nulV v) = 2 - nulV v := fun v => by unfold nulV; split <;> rfl
    rw [e] at h; exact h
  have hL : (hoL row ys).length ≤ maxLen := by rw [hoL_len]; have := hk.room; unfold maxLen; omega
  have HS : StandHalf w (.slice p ys.length c) (.slice a row.length cc) (hoL row ys) := ⟨fun W hb => stand_step IH p c ys a cc row W ⟨hk.c, hk.room, hk.row.later hb⟩ (fun x hx => (hA x hx).later hb) (hr.later hb)⟩
  by_cases h4 : k = 4
  · subst h4; exact holds_4 op kl al vl pl cl yl kr ar vr pr cr yr p c ys a cc row w _ hL HS
  by_cases h5 : k = 5
  · subst h5; exact holds_5 op kl al vl pl cl yl kr ar vr pr cr yr p c ys a cc row w _ hL HS
  by_cases h6 : k = 6
  · subst h6
    by_cases hl1 : ys.length = 1
    · obtain ⟨x, rfl⟩ : ∃ x, ys = [x] := by
        match ys, hl1 with
        | [x], _ => exact ⟨x, rfl⟩
      obtain ⟨b, o, rfl, hb, hX⟩ := hk.arg 0 (by simp)
      rw [Nat.zero_mul, Nat.add_zero] at hX
      exact holds_6 op kl al vl pl cl yl kr ar vr pr cr yr b o c x a cc row w _ hb hX (IH.half (hA x (by simp)) hr)
    · have h := holds_6n op kl al vl pl cl yl kr ar vr pr cr yr p c ys a cc row w hl1
      have e := ho_6n (op := op) (l := sdC row (.mk kl al vl pl cl yl)) (r := sdC row (.mk kr ar vr pr cr yr)) (L := hoL row ys) (by rw [hoL_len]; exact hl1)
      unfold hoOf at e
      rw [e]
      exact h
  · simp only [if_neg h0, if_neg h1, if_neg h2, if_neg h3, if_neg h4, if_neg h5, if_neg h6]
    exact holds_n k op kl al vl pl cl yl kr ar vr pr cr yr p c ys a cc row w (by omega)
theorem holds_all : ∀ n, HoOk n
  | 0 => ⟨fun _ _ _ _ _ h _ => h.elim⟩
  | n + 1 => ⟨fun t a cc row w ht hr => holds_step (holds_all n) t a cc row w ht hr⟩
theorem holds_any {n : Nat} {t : Tx} {a : Option Addr} {row : List Val} {w : World} (cc : Nat) (ht : TxAt w n t) (hr : RowIn w a row) : Calls Tryz.prog 121 #[t.val, .slice a row.length cc] w (IntAns (hoT row t) w) := (holds_all n).out t a cc row w ht hr
end Go.Proofs.YtfdkajefcplfjaaGreat
