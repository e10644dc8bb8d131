/- GraphTells: the law, in whatever memory: the contract of the call. Conditions: the names' cells are known. -/
import Derived.Test.YtadlelhdjakmmaaN19
namespace Go.Proofs.Ytadlelhdjakmmaa
open Go.RowKit

theorem orderM_len (D : List Gn) : (orderM D).1.length ≤ D.length := by
  unfold orderM
  split
  · have := orderG_len (l := D) D.length []
    simpa [nextAll] using this
  · simp
theorem belowM_len (D : List Gn) (name : ByteArray) : (belowM D name).1.length ≤ D.length := by
  have h1 := orderG_len (l := D) D.length []
  have h2 : (belowG D (nextAll D) name).length ≤ (nextAll D).length := List.length_filter_le _ _
  unfold belowM
  split
  · simp
  · split
    · have h3 : (nextAll D).length ≤ D.length := by simpa [nextAll] using h1
      exact Nat.le_trans h2 h3
    · simp
theorem addG_len (name : ByteArray) (out : List ByteArray) (x : Gn) : (addG name out x).length ≤ out.length + 1 := by
  unfold addG
  split
  · have := (lowG_spec x.1 out).1
    unfold insG
    simp only [List.length_append, List.length_take, List.length_cons, List.length_drop]
    omega
  · omega
theorem fold_len (name : ByteArray) : ∀ (l : List Gn) (out : List ByteArray), (l.foldl (addG name) out).length ≤ out.length + l.length
  | [], out => by simp
  | x :: l, out => by
    have h1 := fold_len name l (addG name out x)
    have h2 := addG_len name out x
    rw [List.foldl_cons, List.length_cons]
    omega
theorem aboveG_len (D : List Gn) (name : ByteArray) : (aboveG D name).length ≤ D.length := by
  have := fold_len name D []
  simpa [aboveG] using this
theorem orderM_small {l : List Nn} (h : ∀ x ∈ l, x.s.size ≤ maxLen) : ∀ s ∈ (orderM (dat l)).1, s.size ≤ maxLen := fun s hs => by
  unfold orderM at hs
  split at hs
  · obtain ⟨x, hx, rfl⟩ := List.mem_map.1 (order_names (i := (dat l).length) rfl s hs)
    exact h x hx
  · exact absurd hs (by simp)
theorem belowM_small {l : List Nn} {name : ByteArray} (h : ∀ x ∈ l, x.s.size ≤ maxLen) : ∀ s ∈ (belowM (dat l) name).1, s.size ≤ maxLen := fun s hs => by
  unfold belowM at hs
  split at hs
  · exact absurd hs (by simp)
  · split at hs
    · obtain ⟨x, hx, rfl⟩ := List.mem_map.1 (order_names (i := (dat l).length) rfl s (below_mem.1 hs).1)
      exact h x hx
    · exact absurd hs (by simp)
set_option maxHeartbeats 8000000 in
set_option maxRecDepth 1000000 in
theorem lawGraphTells (a : Option Addr) (c : Nat) (l : List Nn) (name : ByteArray) (w : World) (h : NodesAt w a c l) (hns : name.size ≤ maxLen) (hsl : ∀ x ∈ l, x.rs.length ≤ 1048576) :
    Calls Try.prog 3 #[.slice a l.length c, .string name] w fun e w' => e = .returned (.bool true) ∧ Below w.heap.size w w' := by
  have CA := hid0 (fun (W : World) (_ : Below w.heap.size w W) => awake17_any W)
  have CC := hid0 (fun (W : World) (hW : Below w.heap.size w W) => check_any a c l W (h.later hW))
  have HB := hid0 (Below.refl w.heap.size w)
  have hfew := h.few
  by_cases hl : 100 < l.length
  · rw [check_long (by omega)] at CC
    obtain ⟨n, hn⟩ : ∃ n, l.length = n := ⟨_, rfl⟩
    rw [hn] at CC hfew hl ⊢
    have g0 : ((n : Int) > 100) := by omega
    clear h hn
    go_enter Try.func3, Try.ntmps3
    go_wp2_with (first | (go_at_call 8; go_must ((with_reducible refine (CA.out _ HB.out).mono ?_); rintro e w1 ⟨rfl, hb1⟩; (have HB := hid0 (below_through hb1 HB.out.size HB.out)); clear hb1)) | (go_at_call 9; go_must ((with_reducible refine (CC.out _ HB.out).mono ?_); rintro e w2 ⟨rfl, hb2⟩; (have HB := hid0 (below_through hb2 HB.out.size HB.out)); clear hb2)) | fail)
    go_ret
    exact ⟨rfl, HB.out⟩
  · have hsm : ∀ x ∈ l, x.s.size ≤ maxLen := fun x hx => (h.ok x hx).small
    have CO := hid0 (fun (W : World) (hW : Below w.heap.size w W) => order_any a c l W (h.later hW))
    have CR := hid0 (fun (W : World) (hW : Below w.heap.size w W) => refOrd_any a c l W (h.later hW))
    have CB := hid0 (fun (W : World) (hW : Below w.heap.size w W) => below_any a c l name W (h.later hW) hns)
    have CRB := hid0 (fun (W : World) (hW : Below w.heap.size w W) => refBelow_any a c l name W (h.later hW) hns hsl)
    have CRC := hid0 (fun (W : World) (hW : Below w.heap.size w W) => refCheck_any a c l W (h.later hW))
    have CAB := hid0 (fun (W : World) (hW : Below w.heap.size w W) => above_any a c l name W (h.later hW) (by omega))
    have CRA := hid0 (fun (W : World) (hW : Below w.heap.size w W) => refAbove_any a c l name W (h.later hW))
    have l1 := orderM_len (dat l)
    have l2 := belowM_len (dat l) name
    have l3 := aboveG_len (dat l) name
    have s1 := hid0 (orderM_small hsm)
    have s2 := hid0 (belowM_small (name := name) hsm)
    rw [dat_len] at l1 l2 l3
    obtain ⟨n, hn⟩ : ∃ n, l.length = n := ⟨_, rfl⟩
    rw [hn] at CC CO CR CB CRB CRC CAB CRA hfew hl l1 l2 l3 ⊢
    have g0 : ¬ ((n : Int) > 100) := by omega
    generalize (orderM (dat l)).1 = F1 at *
    generalize (orderM (dat l)).2 = k1 at *
    generalize (belowM (dat l) name).1 = F2 at *
    generalize (belowM (dat l) name).2 = k2 at *
    generalize aboveG (dat l) name = F3 at *
    generalize checkG (dat l) = k3 at *
    have CS1 := hid0 (fun (W : World) (a c b d) (hA : StrsA W a F1) (hB : StrsA W b F1) => lawSame_any a b c d F1 F1 W hA hB (by omega) (by omega))
    have CS2 := hid0 (fun (W : World) (a c b d) (hA : StrsA W a F2) (hB : StrsA W b F2) => lawSame_any a b c d F2 F2 W hA hB (by omega) (by omega))
    have CS3 := hid0 (fun (W : World) (a c b d) (hA : StrsA W a F3) (hB : StrsA W b F3) => lawSame_any a b c d F3 F3 W hA hB (by omega) (by omega))
    rw [decide_eq_true rfl] at CS1 CS2 CS3
    obtain ⟨m1, hm1⟩ : ∃ n, F1.length = n := ⟨_, rfl⟩
    obtain ⟨m2, hm2⟩ : ∃ n, F2.length = n := ⟨_, rfl⟩
    obtain ⟨m3, hm3⟩ : ∃ n, F3.length = n := ⟨_, rfl⟩
    rw [hm1] at CS1
    rw [hm2] at CS2
    rw [hm3] at CS3
    have M1 := hid0 hm1
    have M2 := hid0 hm2
    have M3 := hid0 hm3
    clear h hn hl hsm hns hsl l1 l2 l3 hm1 hm2 hm3
    go_enter Try.func3, Try.ntmps3
    go_wp2_with (first | (go_at_call 10; go_must ((with_reducible refine (CO.out _ HB.out).mono ?_); rintro e w1 ⟨⟨v1, rfl, hS1⟩, hb1⟩; (obtain ⟨a1, c1, rfl, hc1, hA1⟩ := (hS1.sl s1.out).out); (have H1 := hid0 (hA1)); rw [M1.out]; clear hc1 hA1 hS1; (have HB := hid0 (below_through hb1 HB.out.size HB.out)); clear hb1)) | (go_at_call 11; go_must ((with_reducible refine (CR.out _ HB.out).mono ?_); rintro e w2 ⟨⟨v2, rfl, hS2⟩, hb2⟩; (obtain ⟨a2, c2, rfl, hc2, hA2⟩ := (hS2.sl s1.out).out); (have H2 := hid0 (hA2)); rw [M1.out]; clear hc2 hA2 hS2; (have HB := hid0 (below_through hb2 HB.out.size HB.out)); (have H1 := hid0 (H1.out.later hb2)); clear hb2)) | (go_at_call 12; go_must ((with_reducible refine (CB.out _ HB.out).mono ?_); rintro e w3 ⟨⟨v3, rfl, hS3⟩, hb3⟩; (obtain ⟨a3, c3, rfl, hc3, hA3⟩ := (hS3.sl s2.out).out); (have H3 := hid0 (hA3)); rw [M2.out]; clear hc3 hA3 hS3; (have HB := hid0 (below_through hb3 HB.out.size HB.out)); (have H1 := hid0 (H1.out.later hb3)); (have H2 := hid0 (H2.out.later hb3)); clear hb3)) | (go_at_call 13; go_must ((with_reducible refine (CRB.out _ HB.out).mono ?_); rintro e w4 ⟨⟨v4, rfl, hS4⟩, hb4⟩; (obtain ⟨a4, c4, rfl, hc4, hA4⟩ := (hS4.sl s2.out).out); (have H4 := hid0 (hA4)); rw [M2.out]; clear hc4 hA4 hS4; (have HB := hid0 (below_through hb4 HB.out.size HB.out)); (have H1 := hid0 (H1.out.later hb4)); (have H2 := hid0 (H2.out.later hb4)); (have H3 := hid0 (H3.out.later hb4)); clear hb4)) | (go_at_call 8; go_must ((with_reducible refine (CA.out _ HB.out).mono ?_); rintro e w5 ⟨rfl, hb5⟩; (have HB := hid0 (below_through hb5 HB.out.size HB.out)); (have H1 := hid0 (H1.out.later hb5)); (have H2 := hid0 (H2.out.later hb5)); (have H3 := hid0 (H3.out.later hb5)); (have H4 := hid0 (H4.out.later hb5)); clear hb5)) | (go_at_call 9; go_must ((with_reducible refine (CC.out _ HB.out).mono ?_); rintro e w6 ⟨rfl, hb6⟩; (have HB := hid0 (below_through hb6 HB.out.size HB.out)); (have H1 := hid0 (H1.out.later hb6)); (have H2 := hid0 (H2.out.later hb6)); (have H3 := hid0 (H3.out.later hb6)); (have H4 := hid0 (H4.out.later hb6)); clear hb6)) | (go_at_call 14; go_must ((with_reducible refine (CRC.out _ HB.out).mono ?_); rintro e w7 ⟨rfl, hb7⟩; (have HB := hid0 (below_through hb7 HB.out.size HB.out)); (have H1 := hid0 (H1.out.later hb7)); (have H2 := hid0 (H2.out.later hb7)); (have H3 := hid0 (H3.out.later hb7)); (have H4 := hid0 (H4.out.later hb7)); clear hb7)) | (go_at_call 15; go_must (first | ((with_reducible refine (CS1.out _ a1 c1 a2 c2 H1.out H2.out).mono ?_); rintro e w8 ⟨rfl, hb8⟩; (have HB := hid0 (below_through hb8 HB.out.size HB.out)); (have H3 := hid0 (H3.out.later hb8)); (have H4 := hid0 (H4.out.later hb8)); clear hb8 H1 H2) | ((with_reducible refine (CS2.out _ a3 c3 a4 c4 H3.out H4.out).mono ?_); rintro e w9 ⟨rfl, hb9⟩; (have HB := hid0 (below_through hb9 HB.out.size HB.out)); clear hb9 H3 H4) | ((with_reducible refine (CS3.out _ a10 c10 a11 c11 H10.out H11.out).mono ?_); rintro e w12 ⟨rfl, hb12⟩; (have HB := hid0 (below_through hb12 HB.out.size HB.out)); clear hb12))) | (go_at_call 16; go_must ((with_reducible refine (CAB.out _ HB.out).mono ?_); rintro e w10 ⟨⟨v10, rfl, hS10⟩, hb10⟩; (obtain ⟨a10, c10, rfl, hc10, hA10⟩ := hS10.out); (have H10 := hid0 hA10); rw [M3.out]; clear hc10 hA10 hS10; (have HB := hid0 (below_through hb10 HB.out.size HB.out)); clear hb10)) | (go_at_call 17; go_must ((with_reducible refine (CRA.out _ HB.out).mono ?_); rintro e w11 ⟨⟨v11, rfl, hS11⟩, hb11⟩; (obtain ⟨a11, c11, rfl, hc11, hA11⟩ := hS11.out); (have H11 := hid0 hA11); rw [M3.out]; clear hc11 hA11 hS11; (have HB := hid0 (below_through hb11 HB.out.size HB.out)); (have H10 := hid0 (H10.out.later hb11)); clear hb11)) | fail)
    go_ret
    exact ⟨rfl, HB.out⟩
end Go.Proofs.Ytadlelhdjakmmaa
