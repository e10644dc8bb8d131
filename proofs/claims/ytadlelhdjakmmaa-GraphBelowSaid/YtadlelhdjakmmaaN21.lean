/- GraphOrders: the law, in whatever memory: the contract of the call. Conditions: the names' cells are known. -/
import Derived.Test.YtadlelhdjakmmaaN20
namespace Go.Proofs.Ytadlelhdjakmmaa
open Go.RowKit

theorem atS_take {L : List ByteArray} {r : ByteArray} {k : Nat} (h : r ∈ L.take k) : ∃ j : Nat, atS L r = j ∧ j < k := by
  obtain ⟨i, hi, e⟩ := List.mem_take_iff_getElem.1 h
  obtain ⟨m, hm, em, ek⟩ := atS_at (List.mem_of_mem_take h)
  refine ⟨m, ek, ?_⟩
  unfold atS at ek
  cases hf : L.findIdx? (fun x => decide (x = r)) with
  | none =>
    rw [hf] at ek
    have ek2 : (-1 : Int) = (m : Int) := ek
    omega
  | some q =>
    rw [hf] at ek
    have ek2 : (q : Int) = (m : Int) := ek
    obtain rfl : q = m := by omega
    obtain ⟨_, _, hn⟩ := List.findIdx?_eq_some_iff_getElem.1 hf
    rcases Nat.lt_or_ge i q with hlt | hge
    · have := hn i hlt
      simp [e] at this
    · omega
/-- Where a name stands in the order, and what it reads. -/
theorem order_places {l : List Nn} (h0 : checkG (dat l) = 0) {i : Nat} (hi : i < l.length) : ∃ p : Nat, atS (nextAll (dat l)) l[i].s = p ∧ ∀ r ∈ l[i].rs, ∃ j : Nat, atS (nextAll (dat l)) r = j ∧ j < p := by
  have hall := check_ok h0
  have hx : (l[i]).dat ∈ dat l := List.mem_map_of_mem (List.getElem_mem hi)
  obtain ⟨p, hp, e, ek⟩ := atS_at (hall.has hx)
  refine ⟨p, ek, fun r hr => atS_take (hall.good.ahead hall.once hx hp e.symm r hr)⟩
set_option maxHeartbeats 8000000 in
set_option maxRecDepth 1000000 in
theorem lawGraphOrders (a : Option Addr) (c : Nat) (l : List Nn) (w : World) (h : NodesAt w a c l) :
    Calls Try.prog 4 #[.slice a l.length c] w fun e w' => e = .returned (.bool true) ∧ Below w.heap.size w w' := by
  have CA := hid0 (fun (W : World) (_ : Below w.heap.size w W) => awake17_any W)
  have CC := hid0 (fun (W : World) (hW : Below w.heap.size w W) => check_any a c l W (h.later hW))
  have CO := order_any a c l w h
  have hfew := h.few
  by_cases h0 : checkG (dat l) = 0
  · have hall := check_ok h0
    have e1 : orderM (dat l) = (nextAll (dat l), 0) := by unfold orderM; rw [if_pos h0]
    rw [e1] at CO
    have hlen : (nextAll (dat l)).length = l.length := by rw [hall.len, dat_len]
    have hON := hid0 (show ∀ s ∈ nextAll (dat l), s.size ≤ maxLen from fun s hs => by
      obtain ⟨x, hx, rfl⟩ := List.mem_map.1 (order_names (i := (dat l).length) rfl s hs)
      exact (h.ok x hx).small)
    have HPL := hid0 (fun (i : Nat) (hi : i < l.length) => order_places h0 hi)
    have A := hid0 h
    generalize nextAll (dat l) = O at *
    have CP := hid0 (fun (W : World) (ao : Option Addr) (co : Nat) (s : ByteArray) (hO : StrsA W ao O) => lawPlace_any ao co O s W hO (by omega))
    obtain ⟨n, hn⟩ : ∃ n, l.length = n := ⟨_, rfl⟩
    have HN := hid0 hn
    rw [hlen, hn] at CP
    rw [hn] at CO hfew hlen ⊢
    have HLN := hid0 hlen
    have hnn : ¬ ((n : Int) ≠ (n : Int)) := by omega
    clear h hn h0 hall e1 hlen CC
    go_enter Try.func4, Try.ntmps4
    go_wp2_with (first | (go_at_call 10; go_must ((with_reducible refine CO.mono ?_); rintro e w1 ⟨⟨v1, rfl, hS1⟩, hb1⟩; (obtain ⟨ao, co, rfl, hco, hA1⟩ := (hS1.sl hON.out).out); (have HA := hid0 hA1); (have HB := hid0 hb1); rw [HLN.out]; clear hS1 hA1 hb1 hco CO)) | fail)
    go_loopw [5] (fun iv wr => ∃ i : Nat, i ≤ n ∧ iv = .int .i64 i ∧ wr = w1) (fun iv _ => n - (intOf iv).toNat)
    case atStart => exact ⟨0, Nat.zero_le _, rfl, rfl⟩
    case round =>
      obtain ⟨i, hi, rfl, hw⟩ := hrel
      have hw := hw.symm
      subst hw
      by_cases hlt : i < n
      · have g0 : (i : Int) < (n : Int) := by omega
        have g1 : i < l.length := by rw [HN.out]; exact hlt
        obtain ⟨b1, o1, rfl, _, hR⟩ := (A.out.later HB.out).node i g1
        have hok := (A.out.ok _ (List.getElem_mem g1)).later HB.out
        obtain ⟨p, hp, hrr⟩ := HPL.out i g1
        have q0 := rng hR 0 (Nn.cells0 _)
        have q1 := rng hR 1 (Nn.cells1 _)
        rw [Nat.add_zero] at q0
        have HRS := hid0 hok.rs
        have hrf := hok.few
        clear hR hok
        generalize l[i].rs = rs at q1 HRS hrf hrr
        generalize l[i].a = pa at q1 HRS
        generalize l[i].c = pc at q1
        generalize l[i].s = s at q0 hp
        have C1 := CP.out w1 ao co s HA.out
        rw [hp] at C1
        have HRR := hid0 hrr
        obtain ⟨m, hm⟩ : ∃ m, rs.length = m := ⟨_, rfl⟩
        have HM := hid0 hm
        rw [hm] at q1 hrf
        have gp : ¬ ((p : Int) < 0) := by omega
        clear hrr hm hp
        go_wp2_with (first | (go_at_call 18; go_must ((with_reducible refine C1.mono ?_); rintro e w6 ⟨rfl, hw6⟩; rw [hw6]; clear hw6)) | fail)
        go_loopw [7, 8] (fun jv _ wr => ∃ j : Nat, j ≤ m ∧ jv = .int .i64 j ∧ wr = w1) (fun jv _ _ => m - (intOf jv).toNat)
        case atStart => exact ⟨0, Nat.zero_le _, rfl, rfl⟩
        case round =>
          obtain ⟨j, hj, rfl, hw⟩ := hrel
          have hw := hw.symm
          subst hw
          by_cases hlt2 : j < m
          · have g2 : (j : Int) < (m : Int) := by omega
            have g3 : j < rs.length := by rw [HM.out]; exact hlt2
            obtain ⟨b2, o2, rfl, hc⟩ := HRS.out.out (fun e => by rw [e] at g3; exact absurd g3 (by simp))
            have q2 := hc j g3
            obtain ⟨x, hx, hxp⟩ := HRR.out _ (List.getElem_mem g3)
            generalize rs[j] = r at q2 hx
            have C2 := CP.out w1 ao co r HA.out
            rw [hx] at C2
            have gx : ¬ ((x : Int) < 0) := by omega
            have gy : ¬ ((x : Int) ≥ (p : Int)) := by omega
            clear hc hx hxp C1
            go_wp2_with (first | (go_at_call 18; go_must ((with_reducible refine C2.mono ?_); rintro e w6 ⟨rfl, hw6⟩; rw [hw6]; clear hw6)) | fail)
            exact ⟨⟨j + 1, by omega, by go_num, trivial⟩, by simp [intOf]; omega⟩
          · have hie2 : ¬ (j : Int) < (m : Int) := by omega
            go_wp2_with fail
            exact ⟨⟨i + 1, by omega, by go_num, trivial⟩, by simp [intOf]; omega⟩
      · have hie : ¬ (i : Int) < (n : Int) := by omega
        go_wp2_with (first | (go_at_call 8; go_must ((with_reducible refine (CA.out _ HB.out).mono ?_); rintro e w7 ⟨rfl, hb7⟩; (have HB := hid0 (below_through hb7 HB.out.size HB.out)); clear hb7)) | fail)
        go_ret
        exact ⟨rfl, HB.out⟩
  · have e1 : orderM (dat l) = ([], checkG (dat l)) := by unfold orderM; rw [if_neg h0]
    rw [e1] at CO
    obtain ⟨k, hk⟩ : ∃ k, checkG (dat l) = k := ⟨_, rfl⟩
    rw [hk] at h0 CO CC
    generalize l.length = n at *
    clear h e1 hk hfew
    go_enter Try.func4, Try.ntmps4
    go_wp2_with (first | (go_at_call 10; go_must ((with_reducible refine CO.mono ?_); rintro e w1 ⟨⟨v1, rfl, hS1⟩, hb1⟩; (obtain ⟨ao, co, rfl, hco, hA1⟩ := (hS1.sl (fun s hs => absurd hs (by simp))).out); (have HB := hid0 hb1); clear hS1 hA1 hb1 hco CO)) | (go_at_call 8; go_must ((with_reducible refine (CA.out _ HB.out).mono ?_); rintro e w7 ⟨rfl, hb7⟩; (have HB := hid0 (below_through hb7 HB.out.size HB.out)); clear hb7)) | (go_at_call 9; go_must ((with_reducible refine (CC.out _ HB.out).mono ?_); rintro e w8 ⟨rfl, hb8⟩; (have HB := hid0 (below_through hb8 HB.out.size HB.out)); clear hb8)) | fail)
    go_ret
    exact ⟨rfl, HB.out⟩
end Go.Proofs.Ytadlelhdjakmmaa
