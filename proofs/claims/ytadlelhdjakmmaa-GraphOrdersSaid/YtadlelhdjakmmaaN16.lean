/- The reference's Below: the contract of the call. Conditions: the names' cells are known. -/
import Derived.Test.YtadlelhdjakmmaaN15
namespace Go.Proofs.Ytadlelhdjakmmaa
open Go.RowKit

theorem sweep_step (D : List Gn) (O nd : List ByteArray) (k : Nat) (h : k < O.length) : sweepG D (O.take (k + 1)).reverse nd = sweepG D (O.take k).reverse (if O[k] ∈ nd then nd ++ refsG D O[k] else nd) := by
  rw [List.take_succ_eq_append_getElem h, List.reverse_append]
  rfl
theorem below_take (_D : List Gn) (O : List ByteArray) (name : ByteArray) (P : List ByteArray) (i : Nat) (h : i < O.length) : (O.take (i + 1)).filter (fun s => decide (s ≠ name ∧ s ∈ P)) = if O[i] ≠ name ∧ O[i] ∈ P then (O.take i).filter (fun s => decide (s ≠ name ∧ s ∈ P)) ++ [O[i]] else (O.take i).filter (fun s => decide (s ≠ name ∧ s ∈ P)) := by
  rw [List.take_succ_eq_append_getElem h, List.filter_append]
  by_cases hc : O[i] ≠ name ∧ O[i] ∈ P
  · rw [if_pos hc, List.filter_cons_of_pos (by simpa using hc)]
    rfl
  · rw [if_neg hc, List.filter_cons_of_neg (by simpa using hc)]
    simp
theorem refs_node {l : List Nn} (hn : (l.map Nn.s).Nodup) {p : Nat} (hp : p < l.length) : refsG (dat l) l[p].s = l[p].rs :=
  refsG_of (l := dat l) (x := (l[p]).dat) (by rw [dat_names]; exact hn) (List.mem_map_of_mem (List.getElem_mem hp))
set_option maxHeartbeats 8000000 in
set_option maxRecDepth 1000000 in
theorem refBelow_any (a : Option Addr) (c : Nat) (l : List Nn) (name : ByteArray) (w : World) (h : NodesAt w a c l) (hns : name.size ≤ maxLen) (hsl : ∀ x ∈ l, x.rs.length ≤ 1048576) :
    Calls Try.prog 13 #[.slice a l.length c, .string name] w fun e w' => (∃ v, e = .returned (.tuple #[v, .int .i64 (belowM (dat l) name).2]) ∧ SRow w w' v (belowM (dat l) name).1) ∧ Below w.heap.size w w' := by
  have CN := refOrd_any a c l w h
  have A := hid0 h
  have hsm : ∀ s ∈ l.map Nn.s, s.size ≤ maxLen := fun s hs => by obtain ⟨x, hx, rfl⟩ := List.mem_map.1 hs; exact (h.ok x hx).small
  have CP := hid0 (fun s (W : World) (hW : Below w.heap.size w W) => refPlace_any a c l s W (h.later hW))
  have hfew := h.few
  obtain ⟨R, hR⟩ : ∃ R, belowM (dat l) name = R := ⟨_, rfl⟩
  rw [hR]
  obtain ⟨n, hn⟩ : ∃ n, l.length = n := ⟨_, rfl⟩
  have HN := hid0 hn
  rw [hn] at CN CP hfew ⊢
  by_cases h0 : checkG (dat l) = 0
  · have hall := check_ok h0
    have e1 : orderM (dat l) = (nextAll (dat l), 0) := by unfold orderM; rw [if_pos h0]
    rw [e1] at CN
    have hn16 : n ≤ 16 := by have := hall.few; rw [dat_len] at this; omega
    have hlen : (nextAll (dat l)).length = n := by rw [hall.len, dat_len, hn]
    have hnm : ∀ s ∈ nextAll (dat l), s ∈ l.map Nn.s := fun s hs => order_names (i := (dat l).length) rfl s hs
    have hON : ∀ s ∈ nextAll (dat l), s.size ≤ maxLen := fun s hs => hsm s (hnm s hs)
    have hnd : (l.map Nn.s).Nodup := by rw [← dat_names]; exact hall.once
    by_cases hin : name ∈ l.map Nn.s
    · have hR2 : R = ((nextAll (dat l)).filter (fun s => decide (s ≠ name ∧ s ∈ needG (dat l) (nextAll (dat l)) name)), 0) := by
        rw [← hR]
        unfold belowM
        rw [if_neg (fun h' => h' h0), dat_names, if_pos hin]
        rfl
      have HR := hid0 hR2
      have CP0 := hid0 (show ¬ (atS (l.map Nn.s) name < 0) from fun h => (atS_neg _ _).1 h hin)
      have HOP := hid0 (fun (s : ByteArray) (hs : s ∈ nextAll (dat l)) => show ∃ p, ∃ hp : p < l.length, l[p].s = s ∧ atS (l.map Nn.s) s = (p : Int) ∧ refsG (dat l) s = l[p].rs from by
        obtain ⟨p, hp, e, hk⟩ := atS_at (hnm s hs)
        rw [List.length_map] at hp
        rw [List.getElem_map] at e
        exact ⟨p, hp, e, hk, by rw [← e]; exact refs_node hnd hp⟩)
      have HND : needG (dat l) (nextAll (dat l)) name = sweepG (dat l) ((nextAll (dat l)).take n).reverse [name] := by
        unfold needG
        rw [List.take_of_length_le (by omega)]
      have HSW := hid0 (fun nd k h => sweep_step (dat l) (nextAll (dat l)) nd k h)
      have HBT := hid0 (fun P i h => below_take (dat l) (nextAll (dat l)) name P i h)
      have HNDS := hid0 HND.symm
      have HRS := hid0 (fun (p : Nat) (hp : p < l.length) => (h.ok _ (List.getElem_mem hp)).rs)
      have HRF := hid0 (fun (p : Nat) (hp : p < l.length) => hsl _ (List.getElem_mem hp))
      clear h hR h0 hall e1 hnm hnd hR2 HND hsm hin hn
      generalize needG (dat l) (nextAll (dat l)) name = ND at *
      generalize atS (l.map Nn.s) = AT at *
      generalize nextAll (dat l) = O at *
      generalize dat l = D at *
      have HON := hid0 hON
      have HOL := hid0 hlen
      clear hON hlen
      have gp : ¬ (AT name < 0) := CP0.out
      go_enter Try.func13, Try.ntmps13
      go_wp2_with (first | (go_at_call 11; go_must ((with_reducible refine CN.mono ?_); rintro e w1 ⟨⟨v, rfl, hS⟩, hb1⟩; (obtain ⟨ao, co, rfl, hco, hSA⟩ := (hS.sl HON.out).out); rw [HOL.out] at hco hS ⊢; (have HSA := hid0 hSA); (have HS := hid0 hS); (have HB1 := hid0 hb1); clear hS hSA hb1 CN)) | (go_at_call 28; go_must ((with_reducible refine (CP.out name _ HB1.out).mono ?_); rintro e w6 ⟨rfl, hw6⟩; rw [hw6]; clear hw6)) | fail)
      have hN0 := hid0 (show SRow w1 (w1.alloc (.cells #[.string name] 9)) (.slice (some ⟨w1.heap.size, 0, none⟩) 1 1) [name] from ⟨own_one w1 name (Nat.le_refl _), (Below.refl _ _).alloc (Nat.le_refl _) _⟩)
      clear gp CP0
      go_loopw [8, 9] (fun nv iv wr => ∃ (k : Nat) (x : Int) (nd : List ByteArray), k ≤ n ∧ iv = .int .i64 x ∧ x = (k : Int) - 1 ∧ SRow w1 wr nv nd ∧ Hid (sweepG D (O.take k).reverse nd = ND) ∧ nd.length ≤ 1 + (n - k) * 1048576 ∧ Hid (∀ s ∈ nd, s.size ≤ maxLen)) (fun _ iv _ => (intOf iv + 1).toNat)
      case atStart => exact ⟨n, (n : Int) - 1, [name], Nat.le_refl _, by go_num, rfl, hN0.out, HNDS, by simp, hid0 (fun s hs => by rw [List.mem_singleton.1 hs]; exact hns)⟩
      case round =>
        clear hN0
        obtain ⟨k, x, nd, hk, rfl, hx, hS, hT, hlim, hsmn⟩ := hrel
        have hbw : Below w.heap.size w wr := below_through hS.b HB1.out.size HB1.out
        obtain ⟨av, cv, rfl, hcv, hSV⟩ := (hS.sl hsmn.out).out
        have hlim2 : nd.length ≤ 16777217 := by
          have : (n - k) * 1048576 ≤ 16 * 1048576 := Nat.mul_le_mul_right _ (by omega)
          omega
        rcases Nat.eq_zero_or_pos k with hk0 | hk1
        · subst hk0
          obtain rfl : x = -1 := by omega
          have hT2 : nd = ND := hT.out
          subst hT2
          have HSV := hid0 hSV
          have HB2 := hid0 hbw
          have HSO := hid0 (HSA.out.later hS.b)
          clear hT hS hSV hbw hlim
          obtain ⟨w4, hw4⟩ : ∃ W, wr = W := ⟨_, rfl⟩
          rw [hw4] at HSV HB2 HSO ⊢
          clear hw4
          have hF0 := hid0 (SRow.nil (Below.refl w4.heap.size w4))
          clear hx
          go_wp2_with fail
          go_loopw [10, 11] (fun fv iv wr => ∃ i : Nat, i ≤ n ∧ iv = .int .i64 i ∧ SRow w4 wr fv ((O.take i).filter (fun s => decide (s ≠ name ∧ s ∈ nd)))) (fun _ iv _ => n - (intOf iv).toNat)
          case atStart => exact ⟨0, Nat.zero_le _, rfl, hF0.out⟩
          case round =>
            clear hF0
            obtain ⟨i, hi, rfl, hS⟩ := hrel
            by_cases hlt : i < n
            · have g0 : (i : Int) < (n : Int) := by omega
              have g1 : i < O.length := by rw [HOL.out]; exact hlt
              obtain ⟨b2, o2, rfl, hc⟩ := (HSO.out.later hS.b).out (fun e => by rw [e] at g1; exact absurd g1 (by simp))
              have q0 := hc i g1
              have hst := HBT.out nd i g1
              have hxs := hid0 (HON.out _ (List.getElem_mem g1))
              have hle : ((O.take i).filter (fun s => decide (s ≠ name ∧ s ∈ nd))).length ≤ 16 := Nat.le_trans (List.length_filter_le _ _) (by rw [List.length_take]; omega)
              generalize O[i] = y at q0 hst hxs
              have CI := refIn_any av cv nd y wr (HSV.out.later hS.b) (by omega)
              generalize (O.take i).filter (fun s => decide (s ≠ name ∧ s ∈ nd)) = F at hS hst hle
              have hst := hid0 hst
              have HS2 := hid0 hS
              clear hc hS
              by_cases hyn : y = name
              · have g2 : (y.toList == name.toList) = true := by rw [eqB]; simpa using hyn
                have HE := hid0 (hst.out.trans (if_neg (fun h => h.1 hyn)))
                clear hyn hst
                go_wp2_with fail
                exact ⟨⟨i + 1, by omega, by go_num, by rw [HE.out]; exact HS2.out⟩, by simp [intOf]; omega⟩
              · have g2 : (y.toList == name.toList) = false := by rw [eqB]; simpa using hyn
                by_cases hyi : y ∈ nd
                · have HE := hid0 (hst.out.trans (if_pos ⟨hyn, hyi⟩))
                  rw [decide_eq_true hyi] at CI
                  clear hyn hyi hst
                  go_wp2_with (first | (go_at_call 29; go_must ((with_reducible refine CI.mono ?_); rintro e w6 ⟨rfl, hw6⟩; rw [hw6]; clear hw6)) | (at_builtin; refine app_strL rfl _ _ rfl rfl (HS2.out.alloc _) _ 1 1 rfl [y] rfl (one_new _ y _ hxs.out) (by omega) ?_; intro v6 w6 hS6; (have HS6 := hid0 hS6); clear hS6) | fail)
                  exact ⟨⟨i + 1, by omega, by go_num, by rw [HE.out]; exact HS6.out⟩, by simp [intOf]; omega⟩
                · have HE := hid0 (hst.out.trans (if_neg (fun h => hyi h.2)))
                  rw [decide_eq_false hyi] at CI
                  clear hyn hyi hst
                  go_wp2_with (first | (go_at_call 29; go_must ((with_reducible refine CI.mono ?_); rintro e w6 ⟨rfl, hw6⟩; rw [hw6]; clear hw6)) | fail)
                  exact ⟨⟨i + 1, by omega, by go_num, by rw [HE.out]; exact HS2.out⟩, by simp [intOf]; omega⟩
            · have hie : ¬ (i : Int) < (n : Int) := by omega
              obtain rfl : i = n := by omega
              rw [List.take_of_length_le (by rw [HOL.out]; omega)] at hS
              have HS2 := hid0 (hS.lower HB2.out)
              clear hS
              go_wp2_with fail
              go_ret2
              exact ⟨⟨_, ret_p HR.out, by rw [HR.out]; exact HS2.out⟩, HS2.out.b⟩
        · obtain ⟨k, rfl⟩ : ∃ m, k = m + 1 := ⟨k - 1, by omega⟩
          obtain rfl : x = (k : Int) := by omega
          clear hx
          have g0 : (k : Int) ≥ 0 := by omega
          have g1 : k < O.length := by rw [HOL.out]; omega
          obtain ⟨b2, o2, rfl, hc⟩ := (HSA.out.later hS.b).out (fun e => by rw [e] at g1; exact absurd g1 (by simp))
          have q0 := hc k g1
          have hst := hT.out.symm.trans (HSW.out nd k g1)
          obtain ⟨p, hp, ep, hat, hrf⟩ := HOP.out _ (List.getElem_mem g1)
          have C1 := CP.out O[k] wr hbw
          generalize O[k] = y at q0 hst hat hrf C1
          have CI := refIn_any av cv nd y wr hSV (by omega)
          have HS2 := hid0 hS
          have hst := hid0 hst
          have HBW := hid0 hbw
          have HB2 := hid0 hS.b
          clear hc hS hT hSV hbw ep
          by_cases hyi : y ∈ nd
          · have HE := hid0 (show sweepG D (O.take k).reverse (nd ++ l[p].rs) = ND by rw [← hrf]; exact (hst.out.trans (by rw [if_pos hyi])).symm)
            rw [decide_eq_true hyi] at CI
            rw [hat] at C1
            have hpn : p < n := by rw [← HN.out]; exact hp
            obtain ⟨b1, o1, rfl, _, hR⟩ := (A.out.later HBW.out).node p hp
            have q1 := rng hR 1 (Nn.cells1 _)
            have hrs := hid0 ((HRS.out p hp).later HBW.out)
            have hrfw := HRF.out p hp
            clear hyi hst hat hrf hR
            generalize l[p].rs = rs at HE q1 hrs hrfw
            generalize l[p].a = pa at q1 hrs
            generalize l[p].c = pc at q1
            have hsm2 := hid0 (show ∀ s ∈ nd ++ rs, s.size ≤ maxLen from fun s hs => (List.mem_append.1 hs).elim (hsmn.out s) (hrs.out.small s))
            obtain ⟨rn, hrn⟩ : ∃ m, rs.length = m := ⟨_, rfl⟩
            have HRN := hid0 hrn
            rw [hrn] at q1 hrfw
            obtain ⟨dn, hdn⟩ : ∃ m, nd.length = m := ⟨_, rfl⟩
            have HDN := hid0 hdn
            rw [hdn] at CI hlim hlim2 hcv ⊢
            have HS2 : Hid (SRow w1 wr (.slice av dn cv) nd) := hid0 (by have := HS2.out; rwa [hdn] at this)
            clear hrn hdn hsmn
            go_wp2_with (first | (go_at_call 29; go_must ((with_reducible refine CI.mono ?_); rintro e w6 ⟨rfl, hw6⟩; rw [hw6]; clear hw6)) | (go_at_call 28; go_must ((with_reducible refine C1.mono ?_); rintro e w6 ⟨rfl, hw6⟩; rw [hw6]; clear hw6)) | (at_builtin; refine app_strL rfl _ _ rfl rfl HS2.out pa rn pc rfl rs HRN.out hrs.out (by rw [HDN.out]; omega) ?_; intro v6 w6 hS6; (have HS6 := hid0 hS6); clear hS6) | fail)
            exact ⟨⟨k, (k : Int) - 1, nd ++ rs, by omega, by go_num, rfl, HS6.out, HE, by
              rw [List.length_append, HDN.out, HRN.out]
              have e : n - k = (n - (k + 1)) + 1 := by omega
              rw [e, Nat.add_mul]
              omega, hsm2⟩, by first | (simp [intOf]; done) | (simp [intOf]; omega)⟩
          · have HE := hid0 (hst.out.trans (by rw [if_neg hyi]))
            rw [decide_eq_false hyi] at CI
            clear hyi hst hat hrf C1
            go_wp2_with (first | (go_at_call 29; go_must ((with_reducible refine CI.mono ?_); rintro e w6 ⟨rfl, hw6⟩; rw [hw6]; clear hw6)) | fail)
            exact ⟨⟨k, (k : Int) - 1, nd, by omega, by go_num, rfl, HS2.out, hid0 HE.out.symm, by
              have h5 : (n - (k + 1)) * 1048576 ≤ (n - k) * 1048576 := Nat.mul_le_mul_right 1048576 (show n - (k + 1) ≤ n - k by omega)
              exact Nat.le_trans hlim (Nat.add_le_add_left h5 1), hsmn⟩, by first | (simp [intOf]; done) | (simp [intOf]; omega)⟩
    · have HR := hid0 (show R = ([], 5) by
        rw [← hR]
        unfold belowM
        rw [if_neg (fun h' => h' h0), dat_names, if_neg hin])
      have gp : atS (l.map Nn.s) name < 0 := (atS_neg _ _).2 hin
      have C1 := hid0 (CP.out name)
      have HON := hid0 hON
      have HOL := hid0 hlen
      clear h hR h0 hall e1 hnm hnd hsm hin hn hON hlen CP A
      generalize atS (l.map Nn.s) name = x at gp C1
      generalize nextAll (dat l) = O at *
      go_enter Try.func13, Try.ntmps13
      go_wp2_with (first | (go_at_call 11; go_must ((with_reducible refine CN.mono ?_); rintro e w1 ⟨⟨v, rfl, hS⟩, hb1⟩; (have HB1 := hid0 hb1); clear hS hb1 CN)) | (go_at_call 28; go_must ((with_reducible refine (C1.out _ HB1.out).mono ?_); rintro e w6 ⟨rfl, hw6⟩; rw [hw6]; clear hw6)) | fail)
      go_ret2
      exact ⟨⟨_, ret_p HR.out, by rw [HR.out]; exact SRow.nil HB1.out⟩, HB1.out⟩
  · have HR := hid0 (hR.symm.trans (belowM_err h0))
    have e1 : orderM (dat l) = ([], checkG (dat l)) := by unfold orderM; rw [if_neg h0]
    rw [e1] at CN
    obtain ⟨k, hk⟩ : ∃ k, checkG (dat l) = k := ⟨_, rfl⟩
    rw [hk] at h0 HR CN
    clear h hR hsm hn hk HN e1 CP A
    go_enter Try.func13, Try.ntmps13
    go_wp2_with (first | (go_at_call 11; go_must ((with_reducible refine CN.mono ?_); rintro e w1 ⟨⟨v, rfl, hS⟩, hb1⟩; (have HB1 := hid0 hb1); clear hS CN hb1)) | fail)
    go_ret2
    exact ⟨⟨_, ret_p HR.out, by rw [HR.out]; exact SRow.nil HB1.out⟩, HB1.out⟩
end Go.Proofs.Ytadlelhdjakmmaa
