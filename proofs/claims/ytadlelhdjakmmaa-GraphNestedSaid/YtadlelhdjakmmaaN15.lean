/- The reference's Check and Order: the contracts of the calls. Conditions: the names' cells are known. -/
import Derived.Test.YtadlelhdjakmmaaN14
namespace Go.Proofs.Ytadlelhdjakmmaa
open Go.RowKit

theorem check_long {l : List Nn} (h : 16 < l.length) : checkG (dat l) = 3 := by
  have := named_long h
  rw [named_check, this]
  rfl
theorem check_twice {l : List Nn} (h : l.length ≤ 16) (h2 : ¬ (l.map Nn.s).Nodup) : checkG (dat l) = 6 := by
  have := named_twice h h2
  rw [named_check, this]
  rfl
theorem check_lost {l : List Nn} (h : l.length ≤ 16) (h2 : (l.map Nn.s).Nodup) {i : Nat} (hi : i < l.length) {r : ByteArray} (hr : r ∈ l[i].rs) (h3 : r ∉ l.map Nn.s) : checkG (dat l) = 5 := by
  have := named_lost h h2 hi (fun hh => h3 (hh r hr))
  rw [named_check, this]
  rfl
theorem check_last {l : List Nn} (h : l.length ≤ 16) (h2 : (l.map Nn.s).Nodup) (h3 : ∀ i (hi : i < l.length), ∀ r ∈ l[i].rs, r ∈ l.map Nn.s) : checkG (dat l) = if (nextAll (dat l)).length < l.length then 20 else 0 := by
  have := named_good h h2 h3
  rw [named_check, this, dat_len]
  rfl
theorem once_at {L : List ByteArray} {i : Nat} (hi : i < L.length) : atS L L[i] < (i : Int) ↔ L[i] ∈ L.take i := by
  constructor
  · intro h
    obtain ⟨k, hk, e, ek⟩ := atS_at (List.getElem_mem hi)
    rw [ek] at h
    exact List.mem_take_iff_getElem.2 ⟨k, by omega, e⟩
  · intro h
    obtain ⟨k, hk, e⟩ := List.mem_take_iff_getElem.1 h
    obtain ⟨m, hm, em, ek⟩ := atS_at (List.getElem_mem hi)
    rw [ek]
    have hmk : m ≤ k := by
      unfold atS at ek
      cases hf : L.findIdx? (fun x => decide (x = L[i])) with
      | none =>
        rw [hf] at ek
        have ek2 : (-1 : Int) = (m : Int) := ek
        omega
      | some q =>
        rw [hf] at ek
        have ek2 : (q : Int) = (m : Int) := ek
        obtain rfl : q = m := by omega
        obtain ⟨_, _, hn⟩ := List.findIdx?_eq_some_iff_getElem.1 hf
        rcases Nat.lt_or_ge k q with hlt | hge
        · have := hn k hlt
          simp [e] at this
        · exact hge
    omega
set_option maxHeartbeats 4000000 in
set_option maxRecDepth 100000 in
theorem refCheck_any (a : Option Addr) (c : Nat) (l : List Nn) (w : World) (h : NodesAt w a c l) :
    Calls Try.prog 14 #[.slice a l.length c] w fun e w' => e = .returned (.int .i64 (checkG (dat l))) ∧ Below w.heap.size w w' := by
  have hfew := h.few
  have A := hid0 h
  obtain ⟨R, hR⟩ : ∃ R, checkG (dat l) = R := ⟨_, rfl⟩
  obtain ⟨n, hn⟩ : ∃ n, l.length = n := ⟨_, rfl⟩
  have HN := hid0 hn
  by_cases hlong : 16 < n
  · have HR := hid0 (hR.symm.trans (check_long (by omega)))
    rw [hn, hR]
    have g0 : ((n : Int) > 16) := by omega
    clear h hR hn A
    go_enter Try.func14, Try.ntmps14
    go_wp2_with fail
    go_ret
    exact ⟨ret_i HR.out, Below.refl _ _⟩
  have g0 : ¬ ((n : Int) > 16) := by omega
  have HT := hid0 (fun h2 => hR.symm.trans (check_twice (l := l) (by omega) h2))
  have HL := hid0 (fun h2 (i : Nat) (hi : i < l.length) (r : ByteArray) hr h3 => hR.symm.trans (check_lost (l := l) (r := r) (by omega) h2 hi hr h3))
  have HG := hid0 (fun (h2 : (l.map Nn.s).Nodup) (h3 : ∀ i (hi : i < l.length), ∀ r ∈ l[i].rs, r ∈ l.map Nn.s) => show R = if (nextAll (dat l)).length < n then 20 else 0 by rw [← hn]; exact hR.symm.trans (check_last (l := l) (by omega) h2 h3))
  have CP := hid0 (fun s => refPlace_any a c l s w h)
  have CO := refOrder_any a c l w h (by omega)
  have hln : (l.map Nn.s).length = n := by rw [List.length_map]; exact hn
  have hat := hid0 (fun (i : Nat) (hi : i < l.length) => show (l.map Nn.s)[i]? = some l[i].s by rw [List.getElem?_map, List.getElem?_eq_getElem hi]; rfl)
  have hNO := hid0 (show ∀ s ∈ nextAll (dat l), s.size ≤ maxLen from fun s hs => by
    obtain ⟨x, hx, rfl⟩ := List.mem_map.1 (order_names (i := (dat l).length) rfl s hs)
    exact (h.ok x hx).small)
  rw [hn] at CP CO hfew
  rw [hn, hR]
  clear h hR hn
  generalize l.map Nn.s = L at *
  have HLN := hid0 hln
  clear hln
  go_enter Try.func14, Try.ntmps14
  go_wp2_with fail
  go_loopw [3] (fun iv wr => ∃ i : Nat, i ≤ n ∧ iv = .int .i64 i ∧ Hid ((L.take i).Nodup) ∧ wr = w) (fun iv _ => n - (intOf iv).toNat)
  case atStart => exact ⟨0, Nat.zero_le _, rfl, hid0 (by simp), rfl⟩
  case round =>
    obtain ⟨i, hi, rfl, hO, hw⟩ := hrel
    have hw := hw.symm
    subst hw
    by_cases hlt : i < n
    · have hlt' : (i : Int) < (n : Int) := by omega
      have g1 : i < l.length := by rw [HN.out]; exact hlt
      have g2 : i < L.length := by rw [HLN.out]; exact hlt
      obtain ⟨b, o, rfl, _, hR⟩ := A.out.node i g1
      have q0 := rng hR 0 (Nn.cells0 _)
      have hli : l[i].s = L[i] := by have := hat.out i g1; rw [List.getElem?_eq_getElem g2] at this; exact (Option.some.inj this).symm
      rw [Nat.add_zero, hli] at q0
      have C1 := CP.out (L[i])
      have h1 := once_at g2
      by_cases hs : L[i] ∈ L.take i
      · have HE := hid0 (HT.out (nod_bad g2 hs))
        have g3 := h1.2 hs
        generalize L[i] = x at q0 C1 h1 g3
        generalize atS L x = k at C1 g3
        clear hs hR hO h1
        go_wp2_with (first | (go_at_call 28; ((with_reducible refine C1.mono ?_); rintro e w4 ⟨rfl, rfl⟩)) | fail)
        go_ret
        exact ⟨ret_i HE.out, Below.refl _ _⟩
      · have HE := hid0 (nod_step g2 hO.out hs)
        have g3 : ¬ (atS L L[i] < (i : Int)) := fun h => hs (h1.1 h)
        generalize L[i] = x at q0 C1 g3
        generalize atS L x = k at C1 g3
        clear hs hR hO h1
        go_wp2_with (first | (go_at_call 28; ((with_reducible refine C1.mono ?_); rintro e w4 ⟨rfl, rfl⟩)) | fail)
        exact ⟨⟨i + 1, by omega, by go_num, HE, trivial⟩, by simp [intOf]; omega⟩
    · have hie : ¬ (i : Int) < (n : Int) := by omega
      have HND := hid0 (show L.Nodup by have := hO.out; rwa [List.take_of_length_le (by rw [HLN.out]; omega)] at this)
      clear hO
      go_wp2_with fail
      go_loopw [4] (fun kv wr => ∃ k : Nat, k ≤ n ∧ kv = .int .i64 k ∧ Hid (∀ j (hj : j < l.length), j < k → ∀ r ∈ l[j].rs, r ∈ L) ∧ wr = w) (fun kv _ => n - (intOf kv).toNat)
      case atStart => exact ⟨0, Nat.zero_le _, rfl, hid0 (fun j _ h => absurd h (by omega)), rfl⟩
      case round =>
        obtain ⟨k, hk, rfl, hO, hw⟩ := hrel
        have hw := hw.symm
        subst hw
        by_cases hlt2 : k < n
        · have hlt2' : (k : Int) < (n : Int) := by omega
          have g1 : k < l.length := by rw [HN.out]; exact hlt2
          obtain ⟨b1, o1, rfl, hb1, hR⟩ := A.out.node k g1
          have hok := (A.out.ok _ (List.getElem_mem g1))
          have HO' := hid0 (fun (h : ∀ r ∈ l[k].rs, r ∈ L) (j : Nat) (hj : j < l.length) (hji : j < k + 1) => show ∀ r ∈ l[j].rs, r ∈ L by
            rcases Nat.lt_or_ge j k with h1 | h1
            · exact hO.out j hj h1
            · obtain rfl : j = k := by omega
              exact h)
          have HF1 := hid0 (HL.out HND.out k g1)
          have q1 := rng hR 1 (Nn.cells1 _)
          have HRS := hid0 hok.rs
          have hfw := hok.few
          clear hR hok hO
          generalize l[k].rs = rs at HRS hfw HO' HF1 q1
          generalize l[k].a = pa at HRS q1
          generalize l[k].c = pc at q1
          obtain ⟨m, hm⟩ : ∃ m, rs.length = m := ⟨_, rfl⟩
          have HM := hid0 hm
          rw [hm] at hfw q1
          clear hm
          go_wp2_with fail
          go_loopw [5] (fun jv wr => ∃ j : Nat, j ≤ m ∧ jv = .int .i64 j ∧ Hid (∀ t (ht : t < rs.length), t < j → rs[t] ∈ L) ∧ wr = w) (fun jv _ => m - (intOf jv).toNat)
          case atStart => exact ⟨0, Nat.zero_le _, rfl, hid0 (fun j _ h => absurd h (by omega)), rfl⟩
          case round =>
            obtain ⟨j, hj, rfl, hO, hw⟩ := hrel
            have hw := hw.symm
            subst hw
            by_cases hlt3 : j < m
            · have hlt3' : (j : Int) < (m : Int) := by omega
              have g2 : j < rs.length := by rw [HM.out]; exact hlt3
              obtain ⟨b2, o2, rfl, hc⟩ := HRS.out.out (fun e => by rw [e] at g2; exact absurd g2 (by simp))
              have q2 := hc j g2
              have C1 := CP.out (rs[j])
              have hneg := atS_neg L rs[j]
              have HO2 := hid0 (fun (h : rs[j] ∈ L) (t : Nat) (ht : t < rs.length) (htj : t < j + 1) => show rs[t] ∈ L by
                rcases Nat.lt_or_ge t j with h1 | h1
                · exact hO.out t ht h1
                · obtain rfl : t = j := by omega
                  exact h)
              have HF2 := hid0 (HF1.out rs[j] (List.getElem_mem g2))
              generalize rs[j] = x at q2 C1 hneg HO2 HF2
              clear hc hO
              by_cases hs : x ∈ L
              · have HE := hid0 (HO2.out hs)
                have g3 : ¬ (atS L x < 0) := fun h => hneg.1 h hs
                generalize atS L x = v at C1 g3
                clear hs hneg HO2 HF2
                go_wp2_with (first | (go_at_call 28; ((with_reducible refine C1.mono ?_); rintro e w4 ⟨rfl, rfl⟩)) | fail)
                exact ⟨⟨j + 1, by omega, by go_num, HE, trivial⟩, by simp [intOf]; omega⟩
              · have HE := hid0 (HF2.out hs)
                have g3 : atS L x < 0 := hneg.2 hs
                generalize atS L x = v at C1 g3
                clear hs hneg HO2 HF2
                go_wp2_with (first | (go_at_call 28; ((with_reducible refine C1.mono ?_); rintro e w4 ⟨rfl, rfl⟩)) | fail)
                go_ret
                exact ⟨ret_i HE.out, Below.refl _ _⟩
            · have hie3 : ¬ (j : Int) < (m : Int) := by omega
              have HE := hid0 (HO'.out (fun r hr => by
                obtain ⟨t, ht, rfl⟩ := List.mem_iff_getElem.1 hr
                exact hO.out t ht (by rw [HM.out] at ht; omega)))
              clear hO
              go_wp2_with fail
              exact ⟨⟨k + 1, by omega, by go_num, HE, trivial⟩, by simp [intOf]; omega⟩
        · have hie2 : ¬ (k : Int) < (n : Int) := by omega
          have hE := HG.out HND.out (fun j hj => hO.out j hj (by rw [HN.out] at hj; omega))
          clear hO
          generalize nextAll (dat l) = N at hE CO hNO
          by_cases hlast : N.length < n
          · rw [if_pos hlast] at hE
            have HE := hid0 hE
            have gl : (N.length : Int) < (n : Int) := by omega
            obtain ⟨m, hm⟩ : ∃ m, N.length = m := ⟨_, rfl⟩
            have HM := hid0 hm
            rw [hm] at gl
            clear hE hlast hm
            go_wp2_with (first | (go_at_call 23; ((with_reducible refine CO.mono ?_); rintro e w4 ⟨⟨v, rfl, hS⟩, hb4⟩; (obtain ⟨av, cv, rfl, hcv, hSA⟩ := (hS.sl hNO.out).out); rw [HM.out]; clear hS hSA hcv)) | fail)
            go_ret
            exact ⟨ret_i HE.out, hb4⟩
          · rw [if_neg hlast] at hE
            have HE := hid0 hE
            have gl : ¬ (N.length : Int) < (n : Int) := by omega
            obtain ⟨m, hm⟩ : ∃ m, N.length = m := ⟨_, rfl⟩
            have HM := hid0 hm
            rw [hm] at gl
            clear hE hlast hm
            go_wp2_with (first | (go_at_call 23; ((with_reducible refine CO.mono ?_); rintro e w4 ⟨⟨v, rfl, hS⟩, hb4⟩; (obtain ⟨av, cv, rfl, hcv, hSA⟩ := (hS.sl hNO.out).out); rw [HM.out]; clear hS hSA hcv)) | fail)
            go_ret
            exact ⟨ret_i HE.out, hb4⟩
set_option maxHeartbeats 1000000 in
set_option maxRecDepth 100000 in
theorem refOrd_any (a : Option Addr) (c : Nat) (l : List Nn) (w : World) (h : NodesAt w a c l) :
    Calls Try.prog 11 #[.slice a l.length c] w fun e w' => (∃ v, e = .returned (.tuple #[v, .int .i64 (orderM (dat l)).2]) ∧ SRow w w' v (orderM (dat l)).1) ∧ Below w.heap.size w w' := by
  have CC := refCheck_any a c l w h
  have A := hid0 h
  obtain ⟨R, hR⟩ : ∃ R, orderM (dat l) = R := ⟨_, rfl⟩
  rw [hR]
  by_cases h0 : checkG (dat l) = 0
  · have h16 := (check_ok h0).few
    rw [dat_len] at h16
    have CO := hid0 (fun (W : World) (hW : Below w.heap.size w W) => refOrder_any a c l W (h.later hW) h16)
    have HR := hid0 (show R = (nextAll (dat l), 0) by rw [← hR]; unfold orderM; rw [if_pos h0])
    rw [h0] at CC
    generalize l.length = n at *
    generalize nextAll (dat l) = N at *
    clear h hR h0 h16 A
    go_enter Try.func11, Try.ntmps11
    go_wp2_with (first | (go_at_call 14; ((with_reducible refine CC.mono ?_); rintro e w1 ⟨rfl, hb1⟩; clear CC)) | (go_at_call 23; ((with_reducible refine (CO.out _ hb1).mono ?_); rintro e w2 ⟨⟨v, rfl, hS⟩, hb2⟩; (have HS := hid0 (hS.lower hb1)); clear hS)) | fail)
    go_ret2
    exact ⟨⟨_, ret_p HR.out, by rw [HR.out]; exact HS.out⟩, HS.out.b⟩
  · have HR := hid0 (show R = ([], checkG (dat l)) by rw [← hR]; unfold orderM; rw [if_neg h0])
    generalize checkG (dat l) = k at *
    generalize l.length = n at *
    clear h hR A
    go_enter Try.func11, Try.ntmps11
    go_wp2_with (first | (go_at_call 14; ((with_reducible refine CC.mono ?_); rintro e w1 ⟨rfl, hb1⟩; clear CC)) | fail)
    go_ret2
    exact ⟨⟨_, ret_p HR.out, by rw [HR.out]; exact SRow.nil hb1⟩, hb1⟩
end Go.Proofs.Ytadlelhdjakmmaa
