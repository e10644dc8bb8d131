/- GraphBelow: the law, in whatever memory: the contract of the call. Conditions: the names' cells are known. -/
import Derived.Test.YtadlelhdjakmmaaN22
namespace Go.Proofs.Ytadlelhdjakmmaa
open Go.RowKit

theorem below_facts {l : List Nn} {name : ByteArray} (h0 : checkG (dat l) = 0) (hn : name ∈ (dat l).map (·.1)) :
    (∀ i (hi : i < l.length), (l[i].s = name ∨ l[i].s ∈ belowG (dat l) (nextAll (dat l)) name) → ∀ r ∈ l[i].rs, r ∈ belowG (dat l) (nextAll (dat l)) name) ∧
      (∀ s ∈ belowG (dat l) (nextAll (dat l)) name, s ≠ name ∧ (l.any fun x => (decide (x.s = name) || decide (x.s ∈ belowG (dat l) (nextAll (dat l)) name)) && decide (s ∈ x.rs)) = true) := by
  have hall := check_ok h0
  obtain ⟨p, hp, ep⟩ := hall.node hn
  refine ⟨fun i hi hc r hr => ?_, fun s hs => ⟨(below_mem.1 hs).2.1, ?_⟩⟩
  · rw [ep] at hc ⊢
    exact below_closed hall.good hall.once hp (x := (l[i]).dat) (List.mem_map_of_mem (List.getElem_mem hi)) hc r hr
  · obtain ⟨x, hx, hc, hr⟩ := below_read hs
    obtain ⟨y, hy, rfl⟩ := List.mem_map.1 hx
    rw [List.any_eq_true]
    refine ⟨y, hy, ?_⟩
    have hc2 : y.s = name ∨ y.s ∈ belowG (dat l) (nextAll (dat l)) name := hc
    have hr2 : s ∈ y.rs := hr
    simp [hc2, hr2]
theorem any_take {α : Type} (l : List α) (f : α → Bool) (i : Nat) (h : i < l.length) : (l.take (i + 1)).any f = ((l.take i).any f || f l[i]) := by
  rw [List.take_succ_eq_append_getElem h, List.any_append]
  simp
set_option maxHeartbeats 8000000 in
set_option maxRecDepth 1000000 in
theorem lawGraphBelow (a : Option Addr) (c : Nat) (l : List Nn) (name : ByteArray) (w : World) (h : NodesAt w a c l) (hns : name.size ≤ maxLen) :
    Calls Try.prog 5 #[.slice a l.length c, .string name] w fun e w' => e = .returned (.bool true) ∧ Below w.heap.size w w' := by
  have CA := hid0 (fun (W : World) (_ : Below w.heap.size w W) => awake17_any W)
  have CB := below_any a c l name w h hns
  have hfew := h.few
  have hsm : ∀ s ∈ l.map Nn.s, s.size ≤ maxLen := fun s hs => by obtain ⟨x, hx, rfl⟩ := List.mem_map.1 hs; exact (h.ok x hx).small
  rcases belowM_cases (dat l) name with ⟨hk, hnil⟩ | ⟨h0, hn, e1⟩
  · rw [hnil] at CB
    generalize (belowM (dat l) name).2 = k at *
    generalize l.length = n at *
    clear h hnil hsm hns hfew
    go_enter Try.func5, Try.ntmps5
    go_wp2_with (first | (go_at_call 12; go_must ((with_reducible refine CB.mono ?_); rintro e w1 ⟨⟨v1, rfl, hS1⟩, hb1⟩; (obtain ⟨ao, co, rfl, hco, hA1⟩ := (hS1.sl (fun s hs => absurd hs (by simp))).out); (have HB := hid0 hb1); clear hS1 hA1 hb1 hco CB)) | (go_at_call 8; go_must ((with_reducible refine (CA.out _ HB.out).mono ?_); rintro e w7 ⟨rfl, hb7⟩; (have HB := hid0 (below_through hb7 HB.out.size HB.out)); clear hb7)) | fail)
    go_ret
    exact ⟨rfl, HB.out⟩
  · rw [e1] at CB
    obtain ⟨f1, f2⟩ := below_facts h0 hn
    have F1 := hid0 f1
    have F2 := hid0 f2
    have hAS := hid0 (show ∀ s ∈ belowG (dat l) (nextAll (dat l)) name, s.size ≤ maxLen from fun s hs => hsm s (belowG_names s hs))
    have hal := belowG_len (dat l) name
    rw [dat_len] at hal
    have A0 := hid0 h
    generalize hAe : belowG (dat l) (nextAll (dat l)) name = A at *
    obtain ⟨n, hn2⟩ : ∃ n, l.length = n := ⟨_, rfl⟩
    have HN := hid0 hn2
    rw [hn2] at CB hfew hal ⊢
    obtain ⟨m, hm⟩ : ∃ m, A.length = m := ⟨_, rfl⟩
    have HM := hid0 hm
    rw [hm] at hal
    have CP := hid0 (fun (W : World) (ao : Option Addr) (co : Nat) (s : ByteArray) (hO : StrsA W ao A) => lawPlace_any ao co A s W hO (by omega))
    rw [hm] at CP
    have HAT := hid0 (fun s => atS_neg A s)
    clear h h0 hn e1 hsm hns hn2 hm hAe f1 f2
    go_enter Try.func5, Try.ntmps5
    go_wp2_with (first | (go_at_call 12; go_must ((with_reducible refine CB.mono ?_); rintro e w1 ⟨⟨v1, rfl, hS1⟩, hb1⟩; (obtain ⟨ao, co, rfl, hco, hA1⟩ := (hS1.sl hAS.out).out); (have HA := hid0 hA1); (have HB := hid0 hb1); rw [HM.out]; clear hS1 hA1 hb1 hco CB)) | fail)
    have AN := hid0 (A0.out.later HB.out)
    go_loopw [7, 8] (fun iv _ wr => ∃ i : Nat, i ≤ n ∧ iv = .int .i64 i ∧ wr = w1) (fun iv _ _ => n - (intOf iv).toNat)
    case atStart => exact ⟨0, Nat.zero_le _, rfl, rfl⟩
    case round =>
      obtain ⟨i, hi, rfl, hw⟩ := hrel
      have hw := hw.symm
      subst hw
      by_cases hlt : i < n
      · have g0 : (i : Int) < (n : Int) := by omega
        have g1 : i < l.length := by rw [HN.out]; exact hlt
        obtain ⟨b1, o1, rfl, _, hR⟩ := AN.out.node i g1
        have hok := AN.out.ok _ (List.getElem_mem g1)
        have q0 := rng hR 0 (Nn.cells0 _)
        have q1 := rng hR 1 (Nn.cells1 _)
        rw [Nat.add_zero] at q0
        have HRS := hid0 hok.rs
        have hrf := hok.few
        have HF := hid0 (F1.out i g1)
        clear hR hok
        generalize l[i].rs = rs at q1 HRS hrf HF
        generalize l[i].a = pa at q1 HRS
        generalize l[i].c = pc at q1
        generalize l[i].s = s at q0 HF
        have C1 := hid0 (CP.out w1 ao co s HA.out)
        have hneg := HAT.out s
        obtain ⟨rn, hrn⟩ : ∃ m, rs.length = m := ⟨_, rfl⟩
        have HRN := hid0 hrn
        rw [hrn] at q1 hrf
        generalize atS A s = z at C1 hneg
        have inner : (s = name ∨ s ∈ A) → Hid (∀ r ∈ rs, r ∈ A) := fun hc => hid0 (HF.out hc)
        clear hrn HF
        by_cases hsn : s = name
        · have g2 : (s.toList == name.toList) = true := by rw [eqB]; simpa using hsn
          have HRR := inner (.inl hsn)
          clear hneg inner hsn C1
          go_wp2_with fail
          go_loopw [8] (fun jv wr => ∃ j : Nat, j ≤ rn ∧ jv = .int .i64 j ∧ wr = w1) (fun jv _ => rn - (intOf jv).toNat)
          case atStart => exact ⟨0, Nat.zero_le _, rfl, rfl⟩
          case round =>
            obtain ⟨j, hj, rfl, hw⟩ := hrel
            have hw := hw.symm
            subst hw
            by_cases hltj : j < rn
            · have g4 : (j : Int) < (rn : Int) := by omega
              have g5 : j < rs.length := by rw [HRN.out]; exact hltj
              obtain ⟨b3, o3, rfl, hc⟩ := HRS.out.out (fun e => by rw [e] at g5; exact absurd g5 (by simp))
              have q2 := hc j g5
              have hin := HRR.out _ (List.getElem_mem g5)
              generalize rs[j] = r at q2 hin
              have C3 := hid0 (CP.out w1 ao co r HA.out)
              have hneg3 := HAT.out r
              generalize atS A r = y at C3 hneg3
              have g6 : ¬ (y < 0) := fun h => hneg3.1 h hin
              clear hc hin hneg3
              go_wp2_with (first | (go_at_call 18; go_must ((with_reducible refine C3.out.mono ?_); rintro e w6 ⟨rfl, hw6⟩; rw [hw6]; clear hw6)) | fail)
              exact ⟨⟨j + 1, by omega, by go_num, trivial⟩, by simp [intOf]; omega⟩
            · have hie2 : ¬ (j : Int) < (rn : Int) := by omega
              go_wp2_with fail
              exact ⟨⟨i + 1, by omega, by go_num, trivial⟩, by simp [intOf]; omega⟩
        · have g2 : (s.toList == name.toList) = false := by rw [eqB]; simpa using hsn
          by_cases hsa : s ∈ A
          · have g3 : ¬ (z < 0) := fun h => hneg.1 h hsa
            have HRR := inner (.inr hsa)
            clear hneg inner hsn hsa
            go_wp2_with (first | (go_at_call 18; go_must ((with_reducible refine C1.out.mono ?_); rintro e w6 ⟨rfl, hw6⟩; rw [hw6]; clear hw6)) | fail)
            go_loopw [8] (fun jv wr => ∃ j : Nat, j ≤ rn ∧ jv = .int .i64 j ∧ wr = w1) (fun jv _ => rn - (intOf jv).toNat)
            case atStart => exact ⟨0, Nat.zero_le _, rfl, rfl⟩
            case round =>
              obtain ⟨j, hj, rfl, hw⟩ := hrel
              have hw := hw.symm
              subst hw
              by_cases hltj : j < rn
              · have g4 : (j : Int) < (rn : Int) := by omega
                have g5 : j < rs.length := by rw [HRN.out]; exact hltj
                obtain ⟨b3, o3, rfl, hc⟩ := HRS.out.out (fun e => by rw [e] at g5; exact absurd g5 (by simp))
                have q2 := hc j g5
                have hin := HRR.out _ (List.getElem_mem g5)
                generalize rs[j] = r at q2 hin
                have C3 := hid0 (CP.out w1 ao co r HA.out)
                have hneg3 := HAT.out r
                generalize atS A r = y at C3 hneg3
                have g6 : ¬ (y < 0) := fun h => hneg3.1 h hin
                clear hc hin hneg3
                go_wp2_with (first | (go_at_call 18; go_must ((with_reducible refine C3.out.mono ?_); rintro e w6 ⟨rfl, hw6⟩; rw [hw6]; clear hw6)) | fail)
                exact ⟨⟨j + 1, by omega, by go_num, trivial⟩, by simp [intOf]; omega⟩
              · have hie2 : ¬ (j : Int) < (rn : Int) := by omega
                go_wp2_with fail
                exact ⟨⟨i + 1, by omega, by go_num, trivial⟩, by simp [intOf]; omega⟩
          · have g3 : z < 0 := hneg.2 hsa
            clear hneg inner hsn hsa
            go_wp2_with (first | (go_at_call 18; go_must ((with_reducible refine C1.out.mono ?_); rintro e w6 ⟨rfl, hw6⟩; rw [hw6]; clear hw6)) | fail)
            exact ⟨⟨i + 1, by omega, by go_num, trivial⟩, by simp [intOf]; omega⟩
      · have hie : ¬ (i : Int) < (n : Int) := by omega
        go_wp2_with fail
        go_loopw [9, 10, 11] (fun iv _ _ wr => ∃ i : Nat, i ≤ m ∧ iv = .int .i64 i ∧ Below w1.heap.size w1 wr) (fun iv _ _ _ => m - (intOf iv).toNat)
        case atStart => exact ⟨0, Nat.zero_le _, rfl, Below.refl _ _⟩
        case round =>
          obtain ⟨i, hi, rfl, hb0⟩ := hrel
          by_cases hlt : i < m
          · have g0 : (i : Int) < (m : Int) := by omega
            have g1 : i < A.length := by rw [HM.out]; exact hlt
            obtain ⟨w2, hw2⟩ : ∃ W, wr = W := ⟨_, rfl⟩
            rw [hw2] at hb0 ⊢
            clear hw2
            have HB0 := hid0 hb0
            have HA2 := hid0 (HA.out.later hb0)
            obtain ⟨b2, o2, rfl, hc⟩ := HA2.out.out (fun e => by rw [e] at g1; exact absurd g1 (by simp))
            have q5 := hc i g1
            obtain ⟨ft1, ft2⟩ := F2.out _ (List.getElem_mem g1)
            generalize A[i] = t at q5 ft1 ft2
            have FT2 := hid0 ft2
            have gt : (t.toList == name.toList) = false := by rw [eqB]; simpa using ft1
            have hst := hid0 (fun j hj => any_take l (fun x => (decide (x.s = name) || decide (x.s ∈ A)) && decide (t ∈ x.rs)) j hj)
            clear hc hb0 ft1 ft2
            go_wp2_with fail
            go_loopw [10, 11] (fun rv jv wr => ∃ (j : Nat) (rb : Bool), j ≤ n ∧ jv = .int .i64 j ∧ rv = .bool rb ∧ Hid ((l.take j).any (fun x => (decide (x.s = name) || decide (x.s ∈ A)) && decide (t ∈ x.rs)) = rb) ∧ Below w2.heap.size w2 wr) (fun _ jv _ => n - (intOf jv).toNat)
            case atStart => exact ⟨0, false, Nat.zero_le _, rfl, rfl, hid0 rfl, Below.refl _ _⟩
            case round =>
              obtain ⟨j, rb, hj, rfl, rfl, hT, hb⟩ := hrel
              by_cases hltj : j < n
              · have g2 : (j : Int) < (n : Int) := by omega
                have g3 : j < l.length := by rw [HN.out]; exact hltj
                have hbw := below_through hb HB0.out.size HB0.out
                obtain ⟨b1, o1, rfl, _, hR⟩ := (AN.out.later hbw).node j g3
                have hok := (AN.out.ok _ (List.getElem_mem g3)).later hbw
                have q0 := rng hR 0 (Nn.cells0 _)
                have q1 := rng hR 1 (Nn.cells1 _)
                rw [Nat.add_zero] at q0
                have q2 := cell_later hb q5
                have HRS := hid0 hok.rs
                have HA3 := hid0 (HA2.out.later hb)
                have hrf := hok.few
                have hst2 := hst.out j g3
                rw [hT.out] at hst2
                clear hR hok hT
                generalize l[j].rs = rs at q1 HRS hrf hst2
                generalize l[j].a = pa at q1 HRS
                generalize l[j].c = pc at q1
                generalize l[j].s = s at q0 hst2
                have C1 := hid0 (fun (W : World) (hW : Below wr.heap.size wr W) => CP.out W (some ⟨b2, o2, none⟩) co s (HA3.out.later hW))
                have C2 := hid0 (fun (W : World) (hW : Below wr.heap.size wr W) => lawPlace_any pa pc rs t W (HRS.out.later hW) (by omega))
                have n1 := HAT.out s
                have n2 := atS_neg rs t
                obtain ⟨rn, hrn⟩ : ∃ m, rs.length = m := ⟨_, rfl⟩
                rw [hrn] at q1 hrf C2
                generalize atS A s = z at C1 n1
                generalize atS rs t = y at C2 n2
                clear hbw hrn
                cases rb with
                | true =>
                  have HX := hid0 (show (l.take (j + 1)).any (fun x => (decide (x.s = name) || decide (x.s ∈ A)) && decide (t ∈ x.rs)) = true by rw [hst2]; rfl)
                  clear hst2 n1 n2
                  go_wp2_with fail
                  go_quiet (fail)
                  go_wp2_with fail
                  exact ⟨⟨j + 1, true, by omega, by go_num, rfl, HX, drewK hb⟩, by simp [intOf]; omega⟩
                | false =>
                  rw [Bool.false_or] at hst2
                  by_cases hsn : s = name
                  · have ga : (s.toList == name.toList) = true := by rw [eqB]; simpa using hsn
                    by_cases htr : t ∈ rs
                    · have gy : y ≥ 0 := Int.not_lt.1 (fun h => n2.1 h htr)
                      have HX := hid0 (show (l.take (j + 1)).any (fun x => (decide (x.s = name) || decide (x.s ∈ A)) && decide (t ∈ x.rs)) = true by rw [hst2]; simp [hsn, htr])
                      clear hst2 n1 n2 hsn htr
                      go_wp2_with fail
                      go_quiet (first | (go_at_call 18; (with_reducible exact Calls.quiet_of_same (C2.out _ (drewK (Below.refl _ _))))) | fail)
                      go_wp2_with fail
                      exact ⟨⟨j + 1, true, by omega, by go_num, rfl, HX, drewK hb⟩, by simp [intOf]; omega⟩
                    · have gy : decide (0 ≤ y) = false := decide_eq_false (Int.not_le.2 (n2.2 htr)); have gy9 : decide (y ≥ 0) = false := decide_eq_false (Int.not_le.2 (n2.2 htr))
                      have HX := hid0 (show (l.take (j + 1)).any (fun x => (decide (x.s = name) || decide (x.s ∈ A)) && decide (t ∈ x.rs)) = false by rw [hst2]; simp [htr])
                      clear hst2 n1 n2 hsn htr
                      go_wp2_with fail
                      go_quiet (first | (go_at_call 18; (with_reducible exact Calls.quiet_of_same (C2.out _ (drewK (Below.refl _ _))))) | fail)
                      go_wp2_with fail
                      exact ⟨⟨j + 1, false, by omega, by go_num, rfl, HX, drewK hb⟩, by simp [intOf]; omega⟩
                  · have ga : (s.toList == name.toList) = false := by rw [eqB]; simpa using hsn
                    by_cases hsa : s ∈ A
                    · have gz : z ≥ 0 := Int.not_lt.1 (fun h => n1.1 h hsa)
                      by_cases htr : t ∈ rs
                      · have gy : y ≥ 0 := Int.not_lt.1 (fun h => n2.1 h htr)
                        have HX := hid0 (show (l.take (j + 1)).any (fun x => (decide (x.s = name) || decide (x.s ∈ A)) && decide (t ∈ x.rs)) = true by rw [hst2]; simp [hsa, htr])
                        clear hst2 n1 n2 hsn hsa htr
                        go_wp2_with fail
                        go_quiet (first | (go_at_call 18; (first | (with_reducible exact Calls.quiet_of_same (C1.out _ (drewK (Below.refl _ _)))) | (with_reducible exact Calls.quiet_of_same (C2.out _ (drewK (Below.refl _ _)))))) | fail)
                        go_wp2_with fail
                        exact ⟨⟨j + 1, true, by omega, by go_num, rfl, HX, drewK hb⟩, by simp [intOf]; omega⟩
                      · have gy : decide (0 ≤ y) = false := decide_eq_false (Int.not_le.2 (n2.2 htr)); have gy9 : decide (y ≥ 0) = false := decide_eq_false (Int.not_le.2 (n2.2 htr))
                        have HX := hid0 (show (l.take (j + 1)).any (fun x => (decide (x.s = name) || decide (x.s ∈ A)) && decide (t ∈ x.rs)) = false by rw [hst2]; simp [htr])
                        clear hst2 n1 n2 hsn hsa htr
                        go_wp2_with fail
                        go_quiet (first | (go_at_call 18; (first | (with_reducible exact Calls.quiet_of_same (C1.out _ (drewK (Below.refl _ _)))) | (with_reducible exact Calls.quiet_of_same (C2.out _ (drewK (Below.refl _ _)))))) | fail)
                        go_wp2_with fail
                        exact ⟨⟨j + 1, false, by omega, by go_num, rfl, HX, drewK hb⟩, by simp [intOf]; omega⟩
                    · have gz : decide (0 ≤ z) = false := decide_eq_false (Int.not_le.2 (n1.2 hsa)); have gz9 : decide (z ≥ 0) = false := decide_eq_false (Int.not_le.2 (n1.2 hsa))
                      have HX := hid0 (show (l.take (j + 1)).any (fun x => (decide (x.s = name) || decide (x.s ∈ A)) && decide (t ∈ x.rs)) = false by rw [hst2]; simp [hsn, hsa])
                      clear hst2 n1 n2 hsn hsa
                      go_wp2_with fail
                      go_quiet (first | (go_at_call 18; (with_reducible exact Calls.quiet_of_same (C1.out _ (drewK (Below.refl _ _))))) | fail)
                      go_wp2_with fail
                      exact ⟨⟨j + 1, false, by omega, by go_num, rfl, HX, drewK hb⟩, by simp [intOf]; omega⟩
              · have hie : ¬ (j : Int) < (n : Int) := by omega
                have q2 := cell_later hb q5
                have hrb : rb = true := by
                  have h1 := hT.out
                  rw [List.take_of_length_le (by rw [HN.out]; omega)] at h1
                  rw [← h1]; exact FT2.out
                subst hrb
                have HB9 := hid0 (below_through hb HB0.out.size HB0.out)
                clear hT hb
                go_wp2_with fail
                exact ⟨⟨i + 1, by omega, by go_num, HB9.out⟩, by simp [intOf]; omega⟩
          · have hie : ¬ (i : Int) < (m : Int) := by omega
            have HB9 := hid0 (below_through hb0 HB.out.size HB.out)
            go_wp2_with (first | (go_at_call 8; go_must ((with_reducible refine (CA.out _ HB9.out).mono ?_); rintro e w7 ⟨rfl, hb7⟩; (have HB9 := hid0 (below_through hb7 HB9.out.size HB9.out)); clear hb7)) | fail)
            go_ret
            exact ⟨rfl, HB9.out⟩
end Go.Proofs.Ytadlelhdjakmmaa
