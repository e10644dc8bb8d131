/- The reference's in, place and free: contracts of the calls. Conditions: the lists' cells are known. -/
import Derived.Test.YtadlelhdjakmmaaN12
namespace Go.Proofs.Ytadlelhdjakmmaa
open Go.RowKit

set_option maxHeartbeats 1000000 in
set_option maxRecDepth 100000 in
theorem refIn_any (a : Option Addr) (c : Nat) (l : List ByteArray) (s : ByteArray) (w : World) (h : StrsA w a l) (hl : l.length ≤ 8796093022208) :
    Calls Try.prog 29 #[.slice a l.length c, .string s] w fun e w' => e = .returned (.bool (decide (s ∈ l))) ∧ w' = w := by
  have A := hid0 h
  obtain ⟨n, hn⟩ : ∃ n, l.length = n := ⟨_, rfl⟩
  have HN := hid0 hn
  obtain ⟨R, hR⟩ : ∃ R, decide (s ∈ l) = R := ⟨_, rfl⟩
  have HS := hid0 (fun (k : Nat) (hk : k < l.length) (e : l[k] = s) => hR.symm.trans (decide_eq_true (by rw [← e]; exact List.getElem_mem hk)))
  have HZ := hid0 (fun (H : ∀ i (hi : i < l.length), l[i] ≠ s) => hR.symm.trans (decide_eq_false fun hm => by obtain ⟨k, hk, e⟩ := List.mem_iff_getElem.1 hm; exact H k hk e))
  rw [hn] at hl ⊢
  rw [hR]
  clear h hn hR
  go_enter Try.func29, Try.ntmps29
  go_wp2
  go_loopw [5] (fun iv wr => ∃ i : Nat, i ≤ n ∧ iv = .int .i64 i ∧ Hid (∀ j (hj : j < l.length), j < i → l[j] ≠ s) ∧ wr = w) (fun iv _ => n - (intOf iv).toNat)
  case atStart => exact ⟨0, Nat.zero_le _, rfl, hid0 (fun j _ h => absurd h (by omega)), rfl⟩
  case round =>
    obtain ⟨i, hi, rfl, hO, rfl⟩ := hrel
    by_cases hlt : i < n
    · have g1 : i < l.length := by rw [HN.out]; exact hlt
      obtain ⟨b, o, rfl, hc⟩ := A.out.out (fun e => by rw [e] at g1; exact absurd g1 (by simp))
      have q0 := hc i g1
      obtain ⟨y, hy⟩ : ∃ y, l[i] = y := ⟨_, rfl⟩
      rw [hy] at q0
      have HY := hid0 hy
      clear hc hy
      by_cases hs : y = s
      · have HE := hid0 hs
        rw [hs] at q0
        clear hs
        go_wp2
        go_ret
        exact ⟨ret_b (HS.out i g1 (HY.out.trans HE.out)), rfl⟩
      · have g2 : (y.toList == s.toList) = false := by rw [eqB]; simpa using hs
        have HE := hid0 hs
        clear hs
        go_wp2
        exact ⟨⟨i + 1, by omega, by go_num, hid0 (fun j hj hji => by
          rcases Nat.lt_or_ge j i with h | h
          · exact hO.out j hj h
          · obtain rfl : j = i := by omega
            rw [HY.out]; exact HE.out), trivial⟩, by simp [intOf]; omega⟩
    · have hie : ¬ (i : Int) < n := by omega
      go_wp2
      go_ret
      exact ⟨ret_b (HZ.out (fun j hj => hO.out j hj (by rw [HN.out] at hj; omega))), rfl⟩
set_option maxHeartbeats 1000000 in
set_option maxRecDepth 100000 in
theorem refPlace_any (a : Option Addr) (c : Nat) (l : List Nn) (s : ByteArray) (w : World) (h : NodesAt w a c l) :
    Calls Try.prog 28 #[.slice a l.length c, .string s] w fun e w' => e = .returned (.int .i64 (atS (l.map Nn.s) s)) ∧ w' = w := by
  have hfew := h.few
  have A := hid0 h
  obtain ⟨n, hn⟩ : ∃ n, l.length = n := ⟨_, rfl⟩
  have HN := hid0 hn
  obtain ⟨R, hR⟩ : ∃ R, atS (l.map Nn.s) s = R := ⟨_, rfl⟩
  have HS := hid0 (fun (k : Nat) (hk : k < l.length) (e : l[k].s = s) (h : ∀ i (hi : i < l.length), i < k → l[i].s ≠ s) => hR.symm.trans (atS_some (by rw [List.length_map]; exact hk) (by rw [List.getElem_map]; exact e) (fun i hi hik => by rw [List.getElem_map]; exact h i (by rwa [List.length_map] at hi) hik)))
  have HZ := hid0 (fun (h : ∀ i (hi : i < l.length), l[i].s ≠ s) => hR.symm.trans (atS_none (fun i hi => by rw [List.getElem_map]; exact h i (by rwa [List.length_map] at hi))))
  rw [hn] at hfew ⊢
  rw [hR]
  clear h hn hR
  go_enter Try.func28, Try.ntmps28
  go_wp2
  go_loopw [5] (fun iv wr => ∃ i : Nat, i ≤ n ∧ iv = .int .i64 i ∧ Hid (∀ j (hj : j < l.length), j < i → l[j].s ≠ s) ∧ wr = w) (fun iv _ => n - (intOf iv).toNat)
  case atStart => exact ⟨0, Nat.zero_le _, rfl, hid0 (fun j _ h => absurd h (by omega)), rfl⟩
  case round =>
    obtain ⟨i, hi, rfl, hO, rfl⟩ := hrel
    by_cases hlt : i < n
    · have g1 : i < l.length := by rw [HN.out]; exact hlt
      obtain ⟨b, o, rfl, _, hR⟩ := A.out.node i g1
      have q0 := rng hR 0 (Nn.cells0 _)
      rw [Nat.add_zero] at q0
      obtain ⟨y, hy⟩ : ∃ y, l[i].s = y := ⟨_, rfl⟩
      rw [hy] at q0
      have HY := hid0 hy
      clear hR hy
      by_cases hs : y = s
      · have HE := hid0 hs
        rw [hs] at q0
        clear hs
        go_wp2
        go_ret
        exact ⟨ret_i (HS.out i g1 (HY.out.trans HE.out) (fun j hj hji => hO.out j hj hji)), rfl⟩
      · have g2 : (y.toList == s.toList) = false := by rw [eqB]; simpa using hs
        have HE := hid0 hs
        clear hs
        go_wp2
        exact ⟨⟨i + 1, by omega, by go_num, hid0 (fun j hj hji => by
          rcases Nat.lt_or_ge j i with h | h
          · exact hO.out j hj h
          · obtain rfl : j = i := by omega
            rw [HY.out]; exact HE.out), trivial⟩, by simp [intOf]; omega⟩
    · have hie : ¬ (i : Int) < n := by omega
      go_wp2
      go_ret
      exact ⟨ret_i (HZ.out (fun j hj => hO.out j hj (by rw [HN.out] at hj; omega))), rfl⟩
set_option maxHeartbeats 1000000 in
set_option maxRecDepth 100000 in
theorem refFree_any (s : ByteArray) (a b : Option Addr) (c d : Nat) (l N : List ByteArray) (w : World) (h : StrsA w a l) (hN : StrsA w b N) (hl : l.length ≤ 8796093022208) (hl2 : N.length ≤ 8796093022208) :
    Calls Try.prog 35 #[.agg #[.string s, .slice a l.length c], .slice b N.length d] w fun e w' => e = .returned (.bool (decide (∀ r ∈ l, r ∈ N))) ∧ Below w.heap.size w w' := by
  obtain ⟨w1, hw1⟩ : ∃ W, w.alloc (.cells #[.string s, .slice a l.length c] 35) = W := ⟨_, rfl⟩
  have hb1 : Below w.heap.size w w1 := by rw [← hw1]; exact (Below.refl _ _).alloc (Nat.le_refl _) _
  obtain ⟨b3, hb3⟩ : ∃ k, w.heap.size = k := ⟨_, rfl⟩
  have v1 : w1.cell? ⟨b3, 1, none⟩ = some (.slice a l.length c) := by rw [← hw1, ← hb3]; exact (two_new _ _ _ _).2
  have A := hid0 (h.later hb1)
  have CC := hid0 (fun s => refIn_any b d N s w1 (hN.later hb1) hl2)
  obtain ⟨n, hn⟩ : ∃ n, l.length = n := ⟨_, rfl⟩
  have HN := hid0 hn
  obtain ⟨R, hR⟩ : ∃ R, decide (∀ r ∈ l, r ∈ N) = R := ⟨_, rfl⟩
  have HF := hid0 (fun (k : Nat) (hk : k < l.length) (e : l[k] ∉ N) => hR.symm.trans (decide_eq_false fun H => e (H _ (List.getElem_mem hk))))
  have HZ := hid0 (fun (H : ∀ k (hk : k < l.length), l[k] ∈ N) => hR.symm.trans (decide_eq_true fun r hr => by obtain ⟨k, hk, rfl⟩ := List.mem_iff_getElem.1 hr; exact H k hk))
  generalize N.length = M at CC hl2 ⊢
  rw [hn] at hl hw1 v1 ⊢
  rw [hR]
  clear h hn hR hN
  go_enter Try.func35, Try.ntmps35
  go_wp2
  go_loopw [5] (fun iv wr => ∃ i : Nat, i ≤ n ∧ iv = .int .i64 i ∧ Hid (∀ j (hj : j < l.length), j < i → l[j] ∈ N) ∧ wr = w1) (fun iv _ => n - (intOf iv).toNat)
  case atStart => exact ⟨0, Nat.zero_le _, rfl, hid0 (fun j _ h => absurd h (by omega)), rfl⟩
  case round =>
    obtain ⟨i, hi, rfl, hO, hw⟩ := hrel
    have hw := hw.symm
    subst hw
    by_cases hlt : i < n
    · have g1 : i < l.length := by rw [HN.out]; exact hlt
      obtain ⟨b1, o1, rfl, hc⟩ := A.out.out (fun e => by rw [e] at g1; exact absurd g1 (by simp))
      have q0 := hc i g1
      have HO' := hid0 (fun (h : l[i] ∈ N) (j : Nat) (hj : j < l.length) (hji : j < i + 1) => show l[j] ∈ N by
        rcases Nat.lt_or_ge j i with h1 | h1
        · exact hO.out j hj h1
        · obtain rfl : j = i := by omega
          exact h)
      have HF1 := hid0 (HF.out i g1)
      generalize l[i] = y at q0 HO' HF1
      have CY := CC.out y
      clear hc hO
      by_cases hs : y ∈ N
      · rw [decide_eq_true hs] at CY
        have HE := hid0 (HO'.out hs)
        clear hs HO'
        go_wp2_with (first | (go_at_call 29; ((with_reducible refine CY.mono ?_); rintro e w5 ⟨rfl, rfl⟩)) | fail)
        exact ⟨⟨i + 1, by omega, by go_num, HE, trivial⟩, by simp [intOf]; omega⟩
      · rw [decide_eq_false hs] at CY
        have HE := hid0 (HF1.out hs)
        clear hs HO'
        go_wp2_with (first | (go_at_call 29; ((with_reducible refine CY.mono ?_); rintro e w5 ⟨rfl, rfl⟩)) | fail)
        go_ret
        exact ⟨ret_b HE.out, hb1⟩
    · have hie : ¬ (i : Int) < n := by omega
      go_wp2
      go_ret
      exact ⟨ret_b (HZ.out (fun j hj => hO.out j hj (by rw [HN.out] at hj; omega))), by first | exact hb1 | (rw [← hb3]; exact hb1)⟩
end Go.Proofs.Ytadlelhdjakmmaa
