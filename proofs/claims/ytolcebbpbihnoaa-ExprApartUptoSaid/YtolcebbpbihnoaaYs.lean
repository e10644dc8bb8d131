/- The reference's Holds, of a condition of any depth: a contract of the call, in whatever memory. Conditions: a condition's and a row's cells are known. -/
import Derived.Test.YtolcebbpbihnoaaYr
import Derived.Test.YtolcebbpbihnoaaYh
import Derived.Test.YtolcebbpbihnoaaYj
namespace Go.Proofs.Ytolcebbpbihnoaa
open Go.RowKit

structure HoOkR (n : Nat) : Prop where
  out : ∀ (t : Tx) (a : Option Addr) (cc : Nat) (row : List Val) (w : World), TxAt w n t → RowIn w a row → Calls Try.prog 15 #[t.val, .slice a row.length cc] w (IntAns (hoT row t) w)
theorem HoOkR.half {n : Nat} (H : HoOkR n) {t : Tx} {a : Option Addr} {cc : Nat} {row : List Val} {w : World} (ht : TxAt w n t) (hr : RowIn w a row) : IntHalf 15 w t.val (.slice a row.length cc) (hoT row t) :=
  ⟨fun W hb => H.out t a cc row W (ht.later hb) (hr.later hb)⟩
theorem nul_yes {k n : Int} {s : ByteArray} (h : (k == 0) = true) : nulV ⟨k, n, s⟩ = 2 := by unfold nulV; rw [if_pos (by simpa using h)]
theorem nul_no {k n : Int} {s : ByteArray} (h : (k == 0) = false) : nulV ⟨k, n, s⟩ = 0 := by unfold nulV; rw [if_neg (by simpa using h)]
set_option maxHeartbeats 16000000 in
set_option maxRecDepth 1000000 in
theorem refHolds_step {n : Nat} (IH : HoOkR n) (k op : Int) (kl al : Int) (vl : Val) (pl : Option Addr) (cl : Nat) (yl : List Cx) (kr ar : Int) (vr : Val) (pr : Option Addr) (cr : Nat) (yr : List Cx) (p : Option Addr) (c : Nat) (ys : List Tx) (a : Option Addr) (cc : Nat) (row : List Val) (w : World) (ht : TxAt w (n + 1) (.mk k op (.mk kl al vl pl cl yl) (.mk kr ar vr pr cr yr) p c ys)) (hr : RowIn w a row) :
    Calls Try.prog 15 #[.agg #[.int .i64 k, .int .i64 op, .int .i64 kl, .int .i64 al, .int .i64 vl.k, .int .i64 vl.n, .string vl.s, .slice pl yl.length cl, .int .i64 kr, .int .i64 ar, .int .i64 vr.k, .int .i64 vr.n, .string vr.s, .slice pr yr.length cr, .slice p ys.length c], .slice a row.length cc] w (IntAns (hoT row (.mk k op (.mk kl al vl pl cl yl) (.mk kr ar vr pr cr yr) p c ys)) w) := by
  obtain ⟨⟨hl, hrr⟩, hk, hA⟩ := ht
  obtain ⟨i0, hi, hz0, hz1, hz2⟩ := info_parts infoI
  have H : ∀ j (hj : j < ys.length), IntHalf 15 w (ys[j]).val (.slice a row.length cc) (hoT row ys[j]) := fun j hj => IH.half (hA _ (List.getElem_mem hj)) hr
  have HSL : SdHalf 37 w (.agg #[.int .i64 kl, .int .i64 al, .int .i64 vl.k, .int .i64 vl.n, .string vl.s, .slice pl yl.length cl]) (.slice a row.length cc) (sdC row (.mk kl al vl pl cl yl)) := ⟨fun W hb => refSide_any cc (hl.later hb) (hr.later hb)⟩
  have HSR : SdHalf 37 w (.agg #[.int .i64 kr, .int .i64 ar, .int .i64 vr.k, .int .i64 vr.n, .string vr.s, .slice pr yr.length cr]) (.slice a row.length cc) (sdC row (.mk kr ar vr pr cr yr)) := ⟨fun W hb => refSide_any cc (hrr.later hb) (hr.later hb)⟩
  have HV := hid0 (show hoT row (.mk k op (.mk kl al vl pl cl yl) (.mk kr ar vr pr cr yr) p c ys) = hoOf k op (sdC row (.mk kl al vl pl cl yl)) (sdC row (.mk kr ar vr pr cr yr)) (hoL row ys) by rw [hoT])
  generalize sdC row (.mk kl al vl pl cl yl) = xl at HSL HV
  generalize sdC row (.mk kr ar vr pr cr yr) = xr at HSR HV
  obtain ⟨k1, n1, s1⟩ := xl
  obtain ⟨k2, n2, s2⟩ := xr
  have HH := hid0 H
  have HK := hid0 hk
  have hroom := hk.room
  have fl : ∀ W : World, (Instr.field 23 (.agg #[.int .i64 k1, .int .i64 n1, .string s1]) 0).run Try.prog W = .ok (.int .i64 k1) W := fun W => rfl
  have fl := hid0 fl
  clear IH hA hr H hk hl hrr
  have V := VarB.new w [.int .i64 k, .int .i64 op, .int .i64 kl, .int .i64 al, .int .i64 vl.k, .int .i64 vl.n, .string vl.s, .slice pl yl.length cl, .int .i64 kr, .int .i64 ar, .int .i64 vr.k, .int .i64 vr.n, .string vr.s, .slice pr yr.length cr, .slice p ys.length c] 38
  have hB0 : Below w.heap.size w (w.alloc (.cells #[.int .i64 k, .int .i64 op, .int .i64 kl, .int .i64 al, .int .i64 vl.k, .int .i64 vl.n, .string vl.s, .slice pl yl.length cl, .int .i64 kr, .int .i64 ar, .int .i64 vr.k, .int .i64 vr.n, .string vr.s, .slice pr yr.length cr, .slice p ys.length c] 38)) := (Below.refl _ _).alloc (Nat.le_refl _) _
  have a14 := V.cell 14 rfl
  have V := hid0 V
  have hB0 := hid0 hB0
  go_enter Try.func15, Try.ntmps15
  go_wp2_with fail
  clear a14
  go_loopw [5, 6] (fun v i wr => ∃ j : Nat, j ≤ ys.length ∧ i = .int .i64 j ∧ wr.ownsRow w.heap.size 3 1 v j (ints (hoL row (ys.take j))) ∧ Below w.heap.size w wr ∧ VarB wr w.heap.size [.int .i64 k, .int .i64 op, .int .i64 kl, .int .i64 al, .int .i64 vl.k, .int .i64 vl.n, .string vl.s, .slice pl yl.length cl, .int .i64 kr, .int .i64 ar, .int .i64 vr.k, .int .i64 vr.n, .string vr.s, .slice pr yr.length cr, .slice p ys.length c] ∧ (∀ g, v.ownBlock = some g → g ≠ w.heap.size)) (fun _ i _ => ys.length - (intOf i).toNat)
  case atStart => exact ⟨0, Nat.zero_le _, rfl, World.ownsRow_nil _ _ _ _, hB0.out, V.out, fun g h => by cases h⟩
  case round =>
    obtain ⟨j, hj, rfl, hown, hnx, hV, hne⟩ := hrel
    have hsz := hnx.size
    have a14 := hV.cell 14 rfl
    have hVl := hV.lt
    have hV := hid0 hV
    have hne := hid0 hne
    by_cases hlt : j < ys.length
    · have H := HH.out j hlt
      have HT := hid0 (hoL_take row ys j hlt)
      obtain ⟨b, o, rfl, hb, hX⟩ := HK.out.arg j hlt
      generalize hy : ys[j] = t at H hX HT
      clear hy
      generalize hoT row t = x at H HT
      obtain ⟨kt, ot, ⟨kf, af, vf, pf, cf, yf⟩, ⟨kg, ag, vg, pg, cg, yg⟩, pt, ct, yt⟩ := t
      have hb' : b < wr.heap.size := by omega
      have q0 := cell_later hnx (rng hX 0 rfl)
      have q1 := cell_later hnx (rng hX 1 rfl)
      have q2 := cell_later hnx (rng hX 2 rfl)
      have q3 := cell_later hnx (rng hX 3 rfl)
      have q4 := cell_later hnx (rng hX 4 rfl)
      have q5 := cell_later hnx (rng hX 5 rfl)
      have q6 := cell_later hnx (rng hX 6 rfl)
      have q7 := cell_later hnx (rng hX 7 rfl)
      have q8 := cell_later hnx (rng hX 8 rfl)
      have q9 := cell_later hnx (rng hX 9 rfl)
      have q10 := cell_later hnx (rng hX 10 rfl)
      have q11 := cell_later hnx (rng hX 11 rfl)
      have q12 := cell_later hnx (rng hX 12 rfl)
      have q13 := cell_later hnx (rng hX 13 rfl)
      have q14 := cell_later hnx (rng hX 14 rfl)
      simp only [Nat.add_zero] at q0
      clear hX
      have hO := hid0 hown
      have hnx := hid0 hnx
      clear hown
      go_wp2_with fail
      go_at_call 15
      refine (H.out _ hnx.out).mono ?_
      rintro e w3 ⟨rfl, hb3⟩
      have hown := own_below hO.out hb3
      have hnx3 : Below w.heap.size w w3 := below_through hb3 hnx.out.size hnx.out
      have hV3 := hid0 (hV.out.below hb3)
      have hs3 := hnx3.size
      have hs4 := hV3.out.lt
      clear hb3 a14 q0 q1 q2 q3 q4 q5 q6 q7 q8 q9 q10 q11 q12 q13 q14
      go_wp2_with (at_builtin; refine wpList_append_own_at _ rfl _ _ 33 rfl w.heap.size 3 i0 (.int .i64 0) 1 8 Try.underlying33 hi hz0 hz1 hz2 rfl (by decide) _ _ _ rfl (hown.alloc _) ⟨w3.heap.size, 0, none⟩ 1 1 [.int .i64 x] rfl rfl ?c1 ?c2 ?c3 ?c4 ?c5 ?_)
      case c1 =>
        intro j u hj
        match j, hj with
        | 0, hj => simp at hj; subst hj; simp [Addr.add]
      case c2 => intro u hu; simp at hu; subst hu; rfl
      case c3 => unfold maxLen; omega
      case c4 => omega
      case c5 => simp; omega
      intro v' w4 hown' hgrow _ hat
      have R := own_next hnx3 hown hown' hgrow
      rw [← ints_snoc, ← HT.out] at R
      have hV4 : VarB w4 w.heap.size _ := (hV3.out.alloc (.cells #[.int .i64 x] 3)).keep (hgrow.block _ (by simp; omega) (fun e => hne.out _ e.symm rfl)) hgrow.size
      have hne4 : ∀ g, v'.ownBlock = some g → g ≠ w.heap.size := fun g hg => by
        rcases hat with e | e
        · exact hne.out g (by rw [← e]; exact hg)
        · rw [hg] at e; cases e; simp; omega
      have R1 := hid0 R.1
      have R2 := R.2
      have R3 := hid0 hV4
      have R4 := hid0 hne4
      clear R hown' hgrow hown hnx3 hnx hO hat hV4 hne4 hV3
      go_wp2_with fail
      exact ⟨⟨j + 1, by omega, by go_num, R1.out, R2, R3.out, R4.out⟩, by simp [intOf]; omega⟩
    · obtain rfl : j = ys.length := by omega
      rw [List.take_length] at hown
      obtain ⟨a', c', rfl, hc', hR⟩ := ints_owned hown (hoL_len row ys)
      have hLl := hoL_len row ys
      generalize hoL row ys = L at hR HV hLl hc'
      have hR := hid0 hR
      have hLm : L.length ≤ maxLen := by rw [hLl]; unfold maxLen; omega
      have hLm := hid0 hLm
      clear hLl
      have hnx := hid0 hnx
      have b2 := hV.out.cell 2 rfl
      have b3 := hV.out.cell 3 rfl
      have b4 := hV.out.cell 4 rfl
      have b5 := hV.out.cell 5 rfl
      have b6 := hV.out.cell 6 rfl
      have b7 := hV.out.cell 7 rfl
      clear hown hlt hne HH HK
      go_wp2_with fail
      go_at_call 37
      refine (HSL.out _ hnx.out).mono ?_
      rintro e w3 ⟨rfl, hb3⟩
      have hV3 := hV.out.below hb3
      have hB3 := below_through hb3 hnx.out.size hnx.out
      have hI3 := hid0 (hR.out.later hb3)
      have d0 := hV3.cell 0 rfl
      have d1 := hV3.cell 1 rfl
      have hV3 := hid0 hV3
      have hB3 := hid0 hB3
      have fl := fl.out
      clear hb3 hR b2 b3 b4 b5 b6 b7 a14 hV hnx
      by_cases h0 : k = 0
      · subst h0
        have C : hoT row (.mk 0 op (.mk kl al vl pl cl yl) (.mk kr ar vr pr cr yr) p c ys) = 2 := HV.out.trans (by unfold hoOf; rw [if_pos rfl])
        have C := hid0 C
        go_wp2
        go_ret
        exact IntAns.of C.out hB3.out
      by_cases h1 : k = 1
      · subst h1
        have C := hid0 (HV.out.trans (show hoOf 1 op ⟨k1, n1, s1⟩ ⟨k2, n2, s2⟩ L = cmpO op k1 n1 s1 k2 n2 s2 by unfold hoOf; rw [if_neg (by omega), if_pos rfl]))
        have t0 : ((1 : Int) == 0) = false := by decide
        go_wp2_with fail
        have hS : BoxS w w.heap.size [.int .i64 1, .int .i64 op, .int .i64 kl, .int .i64 al, .int .i64 vl.k, .int .i64 vl.n, .string vl.s, .slice pl yl.length cl, .int .i64 kr, .int .i64 ar, .int .i64 vr.k, .int .i64 vr.n, .string vr.s, .slice pr yr.length cr, .slice p ys.length c] _ := ⟨hV3.out, hB3.out⟩
        replace hS := hS.drew
        clear d0 d1 hV3 hB3 fl
        refine wp_region_held_drew (S := BoxS w w.heap.size [.int .i64 1, .int .i64 op, .int .i64 kl, .int .i64 al, .int .i64 vl.k, .int .i64 vl.n, .string vl.s, .slice pl yl.length cl, .int .i64 kr, .int .i64 ar, .int .i64 vr.k, .int .i64 vr.n, .string vr.s, .slice pr yr.length cr, .slice p ys.length c]) (by kernel_rfl) hS (fun hHeld => ?_)
        refine wpAnyH_take (i := 0) (v := ?_) rfl (by kernel_rfl) (by kernel_rfl) (by kernel_rfl) (fun _ _ _ h => h) (Or.inl ⟨by rfl, ?_⟩) (by assumption) ?_
        rotate_left
        · (intro wx hSw; have q1 := hSw.a.cell 1 rfl; go_simp; (try with_reducible rfl); (try omega))
        (try simp only [Act.put, List.setIfInBounds_toArray, List.set_cons_zero, List.set_cons_succ, List.getElem_toArray, List.getElem_cons_zero])
        refine wpAnyH_take (i := 1) (v := ?_) rfl (by kernel_rfl) (by kernel_rfl) (by kernel_rfl) (fun _ _ _ h => h) (Or.inl ⟨by rfl, ?_⟩) (by assumption) ?_
        rotate_left
        · (intro wx hSw; have q1 := hSw.a.cell 1 rfl; go_simp; (try with_reducible rfl); (try omega))
        (try simp only [Act.put, List.setIfInBounds_toArray, List.set_cons_zero, List.set_cons_succ, List.getElem_toArray, List.getElem_cons_zero, List.getElem_cons_succ])
        refine wpAnyH_take (i := 2) (v := ?_) rfl (by kernel_rfl) (by kernel_rfl) (by kernel_rfl) (fun _ _ _ h => h) (Or.inl ⟨by rfl, ?_⟩) (by assumption) ?_
        rotate_left
        · (intro wx hSw; have q1 := hSw.a.cell 1 rfl; go_simp; (try with_reducible rfl); (try omega))
        (try simp only [Act.put, List.setIfInBounds_toArray, List.set_cons_zero, List.set_cons_succ, List.getElem_toArray, List.getElem_cons_zero, List.getElem_cons_succ])
        refine wpAnyH_take (i := 3) (v := .agg [.int .i64 kl, .int .i64 al, .int .i64 vl.k, .int .i64 vl.n, .string vl.s, .slice pl yl.length cl].toArray) rfl (by kernel_rfl) (by kernel_rfl) (by kernel_rfl) (fun _ _ _ h => h) (yieldsIf_load_mid rfl 26 _ rfl w.heap.size (2) rfl [.int .i64 kl, .int .i64 al, .int .i64 vl.k, .int .i64 vl.n, .string vl.s, .slice pl yl.length cl] _ (fun w h => range_mid (xs := [.int .i64 1, .int .i64 op]) (ys := [.int .i64 kl, .int .i64 al, .int .i64 vl.k, .int .i64 vl.n, .string vl.s, .slice pl yl.length cl]) (zs := [.int .i64 kr, .int .i64 ar, .int .i64 vr.k, .int .i64 vr.n, .string vr.s, .slice pr yr.length cr, .slice p ys.length c]) h.a.at_) Try.underlying26 rfl (sizeX)) (by assumption) ?_
        (try simp only [Act.put, List.setIfInBounds_toArray, List.set_cons_zero, List.set_cons_succ, List.getElem_toArray, List.getElem_cons_zero, List.getElem_cons_succ])
        refine wpAnyH_take (i := 4) (v := ?_) rfl (by kernel_rfl) (by kernel_rfl) (by kernel_rfl) (fun _ _ _ h => h) (Or.inl ⟨by rfl, ?_⟩) (by assumption) ?_
        rotate_left
        · (intro wx hSw; have q1 := hSw.a.cell 1 rfl; go_simp; (try with_reducible rfl); (try omega))
        (try simp only [Act.put, List.setIfInBounds_toArray, List.set_cons_zero, List.set_cons_succ, List.getElem_toArray, List.getElem_cons_zero, List.getElem_cons_succ])
        refine wpAnyH_take (i := 6) (v := ?_) rfl (by kernel_rfl) (by kernel_rfl) (by kernel_rfl) (fun _ _ _ h => h) (Or.inl ⟨by rfl, ?_⟩) (by assumption) ?_
        rotate_left
        · (intro wx hSw; have q1 := hSw.a.cell 1 rfl; go_simp; (try with_reducible rfl); (try omega))
        (try simp only [Act.put, List.setIfInBounds_toArray, List.set_cons_zero, List.set_cons_succ, List.getElem_toArray, List.getElem_cons_zero, List.getElem_cons_succ])
        refine wpAnyH_take (i := 7) (v := .agg [.int .i64 kr, .int .i64 ar, .int .i64 vr.k, .int .i64 vr.n, .string vr.s, .slice pr yr.length cr].toArray) rfl (by kernel_rfl) (by kernel_rfl) (by kernel_rfl) (fun _ _ _ h => h) (yieldsIf_load_mid rfl 26 _ rfl w.heap.size (8) rfl [.int .i64 kr, .int .i64 ar, .int .i64 vr.k, .int .i64 vr.n, .string vr.s, .slice pr yr.length cr] _ (fun w h => range_mid (xs := [.int .i64 1, .int .i64 op, .int .i64 kl, .int .i64 al, .int .i64 vl.k, .int .i64 vl.n, .string vl.s, .slice pl yl.length cl]) (ys := [.int .i64 kr, .int .i64 ar, .int .i64 vr.k, .int .i64 vr.n, .string vr.s, .slice pr yr.length cr]) (zs := [.slice p ys.length c]) h.a.at_) Try.underlying26 rfl (sizeX)) (by assumption) ?_
        (try simp only [Act.put, List.setIfInBounds_toArray, List.set_cons_zero, List.set_cons_succ, List.getElem_toArray, List.getElem_cons_zero, List.getElem_cons_succ])
        refine wpAnyH_take (i := 8) (v := ?_) rfl (by kernel_rfl) (by kernel_rfl) (by kernel_rfl) (fun _ _ _ h => h) (Or.inl ⟨by rfl, ?_⟩) (by assumption) ?_
        rotate_left
        · (intro wx hSw; have q1 := hSw.a.cell 1 rfl; go_simp; (try with_reducible rfl); (try omega))
        (try simp only [Act.put, List.setIfInBounds_toArray, List.set_cons_zero, List.set_cons_succ, List.getElem_toArray, List.getElem_cons_zero, List.getElem_cons_succ])
        refine wpAnyH_ready (rs := [5]) (by kernel_rfl) (by simp) ?_
        refine AllReadyH.cons rfl (fun K hK => ?_) AllReadyH.nil
        go_simp
        refine (HSL.out _ hS.b).mono ?_
        rintro e w5 ⟨rfl, hb5⟩
        have hS3 := hS.below hb5
        refine hK.out _ _ hS3 (fun hHeld => ?_)
        clear hK K
        (try simp only [])
        refine wpAnyH_ready (rs := [9]) (by kernel_rfl) (by simp) ?_
        refine AllReadyH.cons rfl (fun K hK => ?_) AllReadyH.nil
        go_simp
        refine (HSR.out _ hS3.b).mono ?_
        rintro e w6 ⟨rfl, hb6⟩
        have hS4 := hS3.below hb6
        refine hK.out _ _ hS4 (fun hHeld => ?_)
        clear hK K
        (try simp only [])
        refine wpAnyH_ready (rs := [10]) (by kernel_rfl) (by simp) ?_
        refine AllReadyH.cons rfl (fun K hK => ?_) AllReadyH.nil
        go_simp
        refine (refCompare_any _ _ _ _ _ _ _ _).mono ?_
        rintro e w7 ⟨rfl, hb7⟩
        have hS5 := hS4.below hb7
        refine hK.out _ _ hS5 (fun hHeld => ?_)
        clear hK K
        (try simp only [Act.put, List.setIfInBounds_toArray, List.set_cons_zero, List.set_cons_succ, List.getElem_toArray, List.getElem_cons_zero, List.getElem_cons_succ])
        refine wpAnyH_take (i := 11) (v := ?_) rfl (by kernel_rfl) (by kernel_rfl) (by kernel_rfl) (fun _ _ _ h => h) (Or.inl ⟨by rfl, ?_⟩) (by assumption) ?_
        rotate_left
        · (intro wx hSw; have q1 := hSw.a.cell 1 rfl; go_simp; (try with_reducible rfl); (try omega))
        (try simp only [Act.put, List.setIfInBounds_toArray, List.set_cons_zero, List.set_cons_succ, List.getElem_toArray, List.getElem_cons_zero, List.getElem_cons_succ])
        refine wpAnyH_done (by kernel_rfl) ?_ _
        go_wp2_with fail
        go_ret
        exact IntAns.of C.out hS5.b
      by_cases h2 : k = 2
      · subst h2
        have C := hid0 (HV.out.trans (show hoOf 2 op ⟨k1, n1, s1⟩ ⟨k2, n2, s2⟩ L = nulV ⟨k1, n1, s1⟩ by unfold hoOf; rw [if_neg (by omega), if_neg (by omega), if_pos rfl]))
        cases hn : (k1 == 0)
        · go_wp2
          go_ret
          exact IntAns.of (C.out.trans (nul_no hn)) hB3.out
        · go_wp2
          go_ret
          exact IntAns.of (C.out.trans (nul_yes hn)) hB3.out
      by_cases h3 : k = 3
      · subst h3
        have C := hid0 (HV.out.trans (show hoOf 3 op ⟨k1, n1, s1⟩ ⟨k2, n2, s2⟩ L = 2 - nulV ⟨k1, n1, s1⟩ by unfold hoOf; rw [if_neg (by omega), if_neg (by omega), if_neg (by omega), if_pos rfl]))
        cases hn : (k1 == 0)
        · go_wp2
          go_ret
          exact IntAns.of (C.out.trans (by rw [nul_no hn]; rfl)) hB3.out
        · go_wp2
          go_ret
          exact IntAns.of (C.out.trans (by rw [nul_yes hn]; rfl)) hB3.out
      by_cases h4 : k = 4
      · subst h4
        have C := hid0 (HV.out.trans (show hoOf 4 op ⟨k1, n1, s1⟩ ⟨k2, n2, s2⟩ L = andV L by unfold hoOf; rw [if_neg (by omega), if_neg (by omega), if_neg (by omega), if_neg (by omega), if_pos rfl]))
        go_wp2_with (go_at_call 39; refine (refAnd_any _ _ _ _ hI3.out hLm.out).mono ?_; rintro e w5 ⟨rfl, rfl⟩)
        go_ret
        exact IntAns.of C.out hB3.out
      by_cases h5 : k = 5
      · subst h5
        have C := hid0 (HV.out.trans (show hoOf 5 op ⟨k1, n1, s1⟩ ⟨k2, n2, s2⟩ L = orV L by unfold hoOf; rw [if_neg (by omega), if_neg (by omega), if_neg (by omega), if_neg (by omega), if_neg (by omega), if_pos rfl]))
        go_wp2_with (go_at_call 40; refine (refOr_any _ _ _ _ hI3.out hLm.out).mono ?_; rintro e w5 ⟨rfl, rfl⟩)
        go_ret
        exact IntAns.of C.out hB3.out
      by_cases h6 : k = 6
      · subst h6
        by_cases hl1 : L.length = 1
        · obtain ⟨x, rfl⟩ : ∃ x, L = [x] := by
            match L, hl1 with
            | [x], _ => exact ⟨x, rfl⟩
          have C := hid0 (HV.out.trans (show hoOf 6 op ⟨k1, n1, s1⟩ ⟨k2, n2, s2⟩ [x] = notV x by unfold hoOf; rw [if_neg (by omega), if_neg (by omega), if_neg (by omega), if_neg (by omega), if_neg (by omega), if_neg (by omega), if_pos rfl]))
          obtain ⟨b, off, rfl, hc⟩ := hI3.out (by simp)
          have hc0 := hc 0 (by simp)
          rw [Nat.add_zero] at hc0
          have hc0' : w3.cell? ⟨b, off, none⟩ = some (.int .i64 x) := hc0
          have hcl := World.block_lt_of_cell? w3 _ hc0'
          clear hc hc0 hI3
          go_wp2_with (go_at_call 41; refine (refNot_any _ _).mono ?_; rintro e w5 ⟨rfl, rfl⟩)
          go_ret
          exact IntAns.of C.out hB3.out
        · have C := hid0 (HV.out.trans (ho_6n (op := op) (l := ⟨k1, n1, s1⟩) (r := ⟨k2, n2, s2⟩) hl1))
          have hne1 : (((L.length : Nat) : Int) == 1) = false := by simp; omega
          generalize L.length = m at *
          go_wp2
          go_ret
          exact IntAns.of C.out hB3.out
      · have C := hid0 (HV.out.trans (show hoOf k op ⟨k1, n1, s1⟩ ⟨k2, n2, s2⟩ L = 1 by unfold hoOf; rw [if_neg h0, if_neg h1, if_neg h2, if_neg h3, if_neg h4, if_neg h5, if_neg h6]))
        have t0 : (k == 0) = false := by simp; omega
        have t1 : (k == 1) = false := by simp; omega
        have t2 : (k == 2) = false := by simp; omega
        have t3 : (k == 3) = false := by simp; omega
        have t4 : (k == 4) = false := by simp; omega
        have t5 : (k == 5) = false := by simp; omega
        have t6 : (k == 6) = false := by simp; omega
        go_wp2
        go_ret
        exact IntAns.of C.out hB3.out
theorem refHolds_all : ∀ n, HoOkR n
  | 0 => ⟨fun _ _ _ _ _ h _ => h.elim⟩
  | n + 1 => ⟨fun t a cc row w ht hr => by
    obtain ⟨k, op, ⟨kl, al, vl, pl, cl, yl⟩, ⟨kr, ar, vr, pr, cr, yr⟩, p, c, ys⟩ := t
    exact refHolds_step (refHolds_all n) k op kl al vl pl cl yl kr ar vr pr cr yr p c ys a cc row w ht hr⟩
theorem refHolds_any {n : Nat} {t : Tx} {a : Option Addr} {row : List Val} {w : World} (cc : Nat) (ht : TxAt w n t) (hr : RowIn w a row) : Calls Try.prog 15 #[t.val, .slice a row.length cc] w (IntAns (hoT row t) w) := (refHolds_all n).out t a cc row w ht hr
end Go.Proofs.Ytolcebbpbihnoaa
