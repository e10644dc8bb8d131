/- GraphNested: the law, in whatever memory: the contract of the call. Conditions: the names' cells are known. -/
import Derived.Test.YtadlelhdjakmmaaN21
namespace Go.Proofs.Ytadlelhdjakmmaa
open Go.RowKit

theorem belowM_cases (D : List Gn) (name : ByteArray) : ((belowM D name).2 ≠ 0 ∧ (belowM D name).1 = []) ∨ (checkG D = 0 ∧ name ∈ D.map (·.1) ∧ belowM D name = (belowG D (nextAll D) name, 0)) := by
  unfold belowM
  by_cases h0 : checkG D ≠ 0
  · rw [if_pos h0]
    exact .inl ⟨h0, rfl⟩
  · rw [if_neg h0]
    by_cases hn : name ∈ D.map (·.1)
    · rw [if_pos hn]
      exact .inr ⟨Decidable.not_not.1 h0, hn, rfl⟩
    · rw [if_neg hn]
      exact .inl ⟨by show (5 : Int) ≠ 0; decide, rfl⟩
theorem nested_facts {D : List Gn} (h0 : checkG D = 0) {name : ByteArray} (hn : name ∈ D.map (·.1)) {i : Nat} (hi : i < (belowG D (nextAll D) name).length) :
    belowM D (belowG D (nextAll D) name)[i] = (belowG D (nextAll D) (belowG D (nextAll D) name)[i], 0) ∧ (belowG D (nextAll D) name)[i] ∉ belowG D (nextAll D) (belowG D (nextAll D) name)[i] ∧ name ∉ belowG D (nextAll D) (belowG D (nextAll D) name)[i] ∧
      ∀ r ∈ belowG D (nextAll D) (belowG D (nextAll D) name)[i], ∃ j : Nat, atS (belowG D (nextAll D) name) r = j ∧ j < i := by
  have hall := check_ok h0
  have hmem := List.getElem_mem hi
  obtain ⟨p, hp, ep⟩ := hall.node hn
  have hO := (below_mem.1 hmem).1
  obtain ⟨q, hq, eq⟩ := List.mem_iff_getElem.1 hO
  have hs : (nextAll D)[q] ∈ belowG D (nextAll D) (nextAll D)[p] := by rw [eq, ← ep]; exact hmem
  obtain ⟨n1, n2, n3⟩ := below_nested hall.good hall.once hp hq hs
  rw [eq, ← ep] at n2 n3
  rw [eq] at n1
  refine ⟨?_, n1, n2, fun r hr => ?_⟩
  · have hin : (belowG D (nextAll D) name)[i] ∈ D.map (·.1) := hall.good.names _ hO
    unfold belowM
    rw [if_neg (fun h => h h0), if_pos hin]
  · obtain ⟨r1, r2⟩ := n3 r hr
    obtain ⟨j, hj, ej, ek⟩ := atS_at r1
    refine ⟨j, ek, ?_⟩
    exact filter_place hall.good.once (fun s => decide (s ≠ name ∧ s ∈ needG D (nextAll D) name)) hq hi hj eq.symm (by
      have : (belowG D (nextAll D) name)[j] ∈ (nextAll D).take q := by rw [ej]; exact r2
      exact this)
theorem belowG_names {l : List Nn} {name : ByteArray} : ∀ s ∈ belowG (dat l) (nextAll (dat l)) name, s ∈ l.map Nn.s := fun s hs => order_names (i := (dat l).length) rfl s (below_mem.1 hs).1
theorem belowG_len (D : List Gn) (name : ByteArray) : (belowG D (nextAll D) name).length ≤ D.length := by
  have h1 := orderG_len (l := D) D.length []
  have h2 : (belowG D (nextAll D) name).length ≤ (nextAll D).length := List.length_filter_le _ _
  have h3 : (nextAll D).length ≤ D.length := by simpa [nextAll] using h1
  exact Nat.le_trans h2 h3
set_option maxHeartbeats 8000000 in
set_option maxRecDepth 1000000 in
theorem lawGraphNested (a : Option Addr) (c : Nat) (l : List Nn) (name : ByteArray) (w : World) (h : NodesAt w a c l) (hns : name.size ≤ maxLen) :
    Calls Try.prog 7 #[.slice a l.length c, .string name] w fun e w' => e = .returned (.bool true) ∧ Below w.heap.size w w' := by
  have CA := hid0 (fun (W : World) (_ : Below w.heap.size w W) => awake17_any W)
  have CB := below_any a c l name w h hns
  have hfew := h.few
  have hsm : ∀ s ∈ l.map Nn.s, s.size ≤ maxLen := fun s hs => by obtain ⟨x, hx, rfl⟩ := List.mem_map.1 hs; exact (h.ok x hx).small
  rcases belowM_cases (dat l) name with ⟨hk, hnil⟩ | ⟨h0, hn, e1⟩
  · rw [hnil] at CB
    generalize (belowM (dat l) name).2 = k at *
    generalize l.length = n at *
    clear h hnil hsm hns hfew
    go_enter Try.func7, Try.ntmps7
    go_wp2_with (first | (go_at_call 12; go_must ((with_reducible refine CB.mono ?_); rintro e w1 ⟨⟨v1, rfl, hS1⟩, hb1⟩; (obtain ⟨ao, co, rfl, hco, hA1⟩ := (hS1.sl (fun s hs => absurd hs (by simp))).out); (have HB := hid0 hb1); clear hS1 hA1 hb1 hco CB)) | (go_at_call 8; go_must ((with_reducible refine (CA.out _ HB.out).mono ?_); rintro e w7 ⟨rfl, hb7⟩; (have HB := hid0 (below_through hb7 HB.out.size HB.out)); clear hb7)) | fail)
    go_ret
    exact ⟨rfl, HB.out⟩
  · rw [e1] at CB
    have HNF := hid0 (fun (i : Nat) (hi : i < (belowG (dat l) (nextAll (dat l)) name).length) => nested_facts h0 hn hi)
    have hAS : ∀ s ∈ belowG (dat l) (nextAll (dat l)) name, s.size ≤ maxLen := fun s hs => hsm s (belowG_names s hs)
    have hBS := hid0 (fun t => show ∀ s ∈ belowG (dat l) (nextAll (dat l)) t, s.size ≤ maxLen from fun s hs => hsm s (belowG_names s hs))
    have hal := belowG_len (dat l) name
    have hbl := hid0 (fun t => belowG_len (dat l) t)
    rw [dat_len] at hal hbl
    have CB2 := hid0 (fun (W : World) (t : ByteArray) (ht : t.size ≤ maxLen) (hW : Below w.heap.size w W) => below_any a c l t W (h.later hW) ht)
    generalize belowG (dat l) (nextAll (dat l)) = BG at *
    generalize belowM (dat l) = BM at *
    generalize hAe : BG name = A at *
    have HAS := hid0 hAS
    obtain ⟨n, hn2⟩ : ∃ n, l.length = n := ⟨_, rfl⟩
    rw [hn2] at CB CB2 hfew hal hbl ⊢
    obtain ⟨m, hm⟩ : ∃ m, A.length = m := ⟨_, rfl⟩
    have HM := hid0 hm
    rw [hm] at hal
    have CP := hid0 (fun (W : World) (ao : Option Addr) (co : Nat) (s : ByteArray) (hO : StrsA W ao A) => lawPlace_any ao co A s W hO (by omega))
    rw [hm] at CP
    clear h h0 hn e1 hsm hAS hns hn2 hm hAe
    go_enter Try.func7, Try.ntmps7
    go_wp2_with (first | (go_at_call 12; go_must ((with_reducible refine CB.mono ?_); rintro e w1 ⟨⟨v1, rfl, hS1⟩, hb1⟩; (obtain ⟨ao, co, rfl, hco, hA1⟩ := (hS1.sl HAS.out).out); (have HA := hid0 hA1); (have HB := hid0 hb1); rw [HM.out]; clear hS1 hA1 hb1 hco CB)) | fail)
    go_loopw [7] (fun iv wr => ∃ i : Nat, i ≤ m ∧ iv = .int .i64 i ∧ Below w1.heap.size w1 wr) (fun iv _ => m - (intOf iv).toNat)
    case atStart => exact ⟨0, Nat.zero_le _, rfl, Below.refl _ _⟩
    case round =>
      obtain ⟨i, hi, rfl, hb⟩ := hrel
      have hbw := below_through hb HB.out.size HB.out
      by_cases hlt : i < m
      · have g0 : (i : Int) < (m : Int) := by omega
        have g1 : i < A.length := by rw [HM.out]; exact hlt
        have HA1 := hid0 (HA.out.later hb)
        obtain ⟨b2, o2, rfl, hc⟩ := HA1.out.out (fun e => by rw [e] at g1; exact absurd g1 (by simp))
        have q0 := hc i g1
        obtain ⟨f1, f2, f3, f4⟩ := HNF.out i g1
        have hts := HAS.out _ (List.getElem_mem g1)
        generalize A[i] = s at q0 f1 f2 f3 f4 hts
        have C2 := CB2.out wr s hts hbw
        rw [f1] at C2
        have hBS1 := hid0 (hBS.out s)
        have hbl1 := hbl.out s
        generalize BG s = B at *
        have CQ := hid0 (fun (W : World) (ab : Option Addr) (cb : Nat) (t : ByteArray) (hO : StrsA W ab B) => lawPlace_any ab cb B t W hO (by omega))
        have p1 : ¬ (atS B s ≥ 0) := fun h => by have := (atS_neg B s).2 f2; omega
        have p2 : ¬ (atS B name ≥ 0) := fun h => by have := (atS_neg B name).2 f3; omega
        have F4 := hid0 f4
        have HBW := hid0 hbw
        obtain ⟨k, hk⟩ : ∃ k, B.length = k := ⟨_, rfl⟩
        have HK := hid0 hk
        rw [hk] at CQ hbl1
        have CQ1 := hid0 (fun W ab cb (hO : StrsA W ab B) => CQ.out W ab cb s hO)
        have CQ2 := hid0 (fun W ab cb (hO : StrsA W ab B) => CQ.out W ab cb name hO)
        generalize atS B s = x1 at p1 CQ1
        generalize atS B name = x2 at p2 CQ2
        clear hc f1 f2 f3 f4 hbw hk CQ
        go_wp2_with (first | (go_at_call 12; go_must ((with_reducible refine C2.mono ?_); rintro e w3 ⟨⟨v3, rfl, hS3⟩, hb3⟩; (obtain ⟨ab, cb, rfl, hcb, hA3⟩ := (hS3.sl hBS1.out).out); (have HB3 := hid0 hA3); (have q1 := cell_later hb3 q0); (have HA3 := hid0 (HA1.out.later hb3)); (have HBW3 := hid0 (below_through hb3 HBW.out.size HBW.out)); (have Hb1 := hid0 (below_through hb3 hb.size hb)); rw [HK.out]; clear hS3 hA3 hb3 hcb C2)) | (go_at_call 18; go_must (first | ((with_reducible refine (CQ1.out _ ab cb HB3.out).mono ?_); rintro e w6 ⟨rfl, hw6⟩; rw [hw6]; clear hw6 CQ1) | ((with_reducible refine (CQ2.out _ ab cb HB3.out).mono ?_); rintro e w6 ⟨rfl, hw6⟩; rw [hw6]; clear hw6 CQ2))) | fail)
        go_loopw [10] (fun jv wr => ∃ j : Nat, j ≤ k ∧ jv = .int .i64 j ∧ wr = w3) (fun jv _ => k - (intOf jv).toNat)
        case atStart => exact ⟨0, Nat.zero_le _, rfl, rfl⟩
        case round =>
          obtain ⟨j, hj, rfl, hw⟩ := hrel
          have hw := hw.symm
          subst hw
          by_cases hlt2 : j < k
          · have g2 : (j : Int) < (k : Int) := by omega
            have g3 : j < B.length := by rw [HK.out]; exact hlt2
            obtain ⟨b4, o4, rfl, hc⟩ := HB3.out.out (fun e => by rw [e] at g3; exact absurd g3 (by simp))
            have q2 := hc j g3
            obtain ⟨x, hx, hxp⟩ := F4.out _ (List.getElem_mem g3)
            generalize B[j] = r at q2 hx
            have C4 := hid0 (fun cc => CP.out w3 (some ⟨b2, o2, none⟩) cc r HA3.out)
            rw [hx] at C4
            have gx : ¬ ((x : Int) < 0) := by omega
            have gy : ¬ ((x : Int) ≥ (i : Int)) := by omega
            clear hc hx hxp
            go_wp2_with (first | (go_at_call 18; go_must ((with_reducible refine (C4.out _).mono ?_); rintro e w6 ⟨rfl, hw6⟩; rw [hw6]; clear hw6)) | fail)
            exact ⟨⟨j + 1, by omega, by go_num, trivial⟩, by simp [intOf]; omega⟩
          · have hie2 : ¬ (j : Int) < (k : Int) := by omega
            go_wp2_with fail
            exact ⟨⟨i + 1, by omega, by go_num, Hb1.out⟩, by simp [intOf]; omega⟩
      · have hie : ¬ (i : Int) < (m : Int) := by omega
        have HBW := hid0 hbw
        go_wp2_with (first | (go_at_call 8; go_must ((with_reducible refine (CA.out _ HBW.out).mono ?_); rintro e w7 ⟨rfl, hb7⟩; (have HB9 := hid0 (below_through hb7 HBW.out.size HBW.out)); clear hb7)) | fail)
        go_ret
        exact ⟨rfl, HB9.out⟩
end Go.Proofs.Ytadlelhdjakmmaa
