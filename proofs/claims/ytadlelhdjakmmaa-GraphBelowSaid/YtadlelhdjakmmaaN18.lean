/- The law's same and place: contracts of the calls. Conditions: the lists' cells are known. -/
import Derived.Test.YtadlelhdjakmmaaN17
namespace Go.Proofs.Ytadlelhdjakmmaa
open Go.RowKit

set_option maxHeartbeats 4000000 in
set_option maxRecDepth 1000000 in
theorem lawSame_any (a b : Option Addr) (c d : Nat) (A B : List ByteArray) (w : World) (hA : StrsA w a A) (hB : StrsA w b B) (hl : A.length ≤ 8796093022208) (hl2 : B.length ≤ 8796093022208) :
    Calls Try.prog 15 #[.slice a A.length c, .slice b B.length d] w fun e w' => e = .returned (.bool (decide (A = B))) ∧ Below w.heap.size w w' := by
  obtain ⟨R, hR⟩ : ∃ R, decide (A = B) = R := ⟨_, rfl⟩
  rw [hR]
  by_cases hne : A.length = B.length
  · have HF := hid0 (fun (k : Nat) (h1 : k < A.length) (h2 : k < B.length) (e : A[k] ≠ B[k]) => hR.symm.trans (decide_eq_false fun h => e (by subst h; rfl)))
    have HZ := hid0 (fun (H : ∀ k (h1 : k < A.length) (h2 : k < B.length), A[k] = B[k]) => hR.symm.trans (decide_eq_true (List.ext_getElem hne (fun k h1 h2 => H k h1 h2))))
    have HA := hid0 hA
    have HB := hid0 hB
    obtain ⟨n, hn⟩ : ∃ n, A.length = n := ⟨_, rfl⟩
    have HN := hid0 hn
    have hn2 : B.length = n := by omega
    have HN2 := hid0 hn2
    rw [hn] at hl ⊢
    rw [hn2]
    have g0 : ¬ ((n : Int) ≠ (n : Int)) := by omega
    clear hA hB hn hn2 hR hne hl2
    go_enter Try.func15, Try.ntmps15
    go_wp2_with fail
    go_loopw [5] (fun iv wr => ∃ i : Nat, i ≤ n ∧ iv = .int .i64 i ∧ Hid (∀ k (h1 : k < A.length) (h2 : k < B.length), k < i → A[k] = B[k]) ∧ Below w.heap.size w wr) (fun iv _ => n - (intOf iv).toNat)
    case atStart => exact ⟨0, Nat.zero_le _, rfl, hid0 (fun k _ _ h => absurd h (by omega)), Below.refl _ _⟩
    case round =>
      obtain ⟨i, hi, rfl, hO, hb⟩ := hrel
      by_cases hlt : i < n
      · have g1 : (i : Int) < (n : Int) := by omega
        have l1 : i < A.length := by rw [HN.out]; exact hlt
        have l2 : i < B.length := by rw [HN2.out]; exact hlt
        obtain ⟨b1, o1, rfl, hc1⟩ := (HA.out.later hb).out (fun e => by rw [e] at l1; exact absurd l1 (by simp))
        obtain ⟨b2, o2, rfl, hc2⟩ := (HB.out.later hb).out (fun e => by rw [e] at l2; exact absurd l2 (by simp))
        have q1 := hc1 i l1
        have q2 := hc2 i l2
        obtain ⟨x, hx⟩ : ∃ x, A[i] = x := ⟨_, rfl⟩
        obtain ⟨y, hy⟩ : ∃ y, B[i] = y := ⟨_, rfl⟩
        rw [hx] at q1
        rw [hy] at q2
        have HX := hid0 hx
        have HY := hid0 hy
        clear hc1 hc2 hx hy
        by_cases hs : x = y
        · have g2 : (x.toList == y.toList) = true := by rw [eqB]; simpa using hs
          have HE := hid0 hs
          clear hs
          go_wp2_with fail
          go_quiet (fail)
          go_wp2_with fail
          exact ⟨⟨i + 1, by omega, by go_num, hid0 (fun k h1 h2 hk => by
            rcases Nat.lt_or_ge k i with h | h
            · exact hO.out k h1 h2 h
            · obtain rfl : k = i := by omega
              rw [HX.out, HY.out]; exact HE.out), drewK hb⟩, by simp [intOf]; omega⟩
        · have g2 : (x.toList == y.toList) = false := by rw [eqB]; simpa using hs
          have HE := hid0 (HF.out i l1 l2 (by rw [HX.out, HY.out]; exact hs))
          clear hs
          go_wp2_with fail
          go_quiet (fail)
          go_wp2_with fail
          go_ret
          exact ⟨ret_b HE.out, drewK hb⟩
      · have hie : ¬ (i : Int) < (n : Int) := by omega
        have HE := hid0 (HZ.out (fun k h1 h2 => hO.out k h1 h2 (by rw [HN.out] at h1; omega)))
        go_wp2_with fail
        go_ret
        exact ⟨ret_b HE.out, hb⟩
  · have HE := hid0 (hR.symm.trans (decide_eq_false (fun h => hne (by rw [h]))))
    have g0 : ((A.length : Int) ≠ (B.length : Int)) := by omega
    clear hA hB hR hne hl hl2
    go_enter Try.func15, Try.ntmps15
    go_wp2_with fail
    go_ret
    exact ⟨ret_b HE.out, Below.refl _ _⟩
set_option maxHeartbeats 1000000 in
set_option maxRecDepth 100000 in
theorem lawPlace_any (a : Option Addr) (c : Nat) (l : List ByteArray) (s : ByteArray) (w : World) (h : StrsA w a l) (hl : l.length ≤ 8796093022208) :
    Calls Try.prog 18 #[.slice a l.length c, .string s] w fun e w' => e = .returned (.int .i64 (atS l s)) ∧ w' = w := by
  have A := hid0 h
  obtain ⟨n, hn⟩ : ∃ n, l.length = n := ⟨_, rfl⟩
  have HN := hid0 hn
  obtain ⟨R, hR⟩ : ∃ R, atS l s = R := ⟨_, rfl⟩
  have HS := hid0 (fun (k : Nat) (hk : k < l.length) (e : l[k] = s) h => hR.symm.trans (atS_some hk e h))
  have HZ := hid0 (fun h => hR.symm.trans (atS_none (l := l) (s := s) h))
  rw [hn] at hl ⊢
  rw [hR]
  clear h hn hR
  go_enter Try.func18, Try.ntmps18
  go_wp2
  go_loopw [5] (fun iv wr => ∃ i : Nat, i ≤ n ∧ iv = .int .i64 i ∧ Hid (∀ j (hj : j < l.length), j < i → l[j] ≠ s) ∧ wr = w) (fun iv _ => n - (intOf iv).toNat)
  case atStart => exact ⟨0, Nat.zero_le _, rfl, hid0 (fun j _ h => absurd h (by omega)), rfl⟩
  case round =>
    obtain ⟨i, hi, rfl, hO, rfl⟩ := hrel
    by_cases hlt : i < n
    · have g1 : i < l.length := by rw [HN.out]; exact hlt
      obtain ⟨b, o, rfl, hc⟩ := A.out.out (fun e => by rw [e] at g1; exact absurd g1 (by simp))
      have q0 := hc i g1
      obtain ⟨y, hy⟩ : ∃ y, l[i] = y := ⟨_, rfl⟩
      rw [hy] at q0
      have HY := hid0 hy
      clear hc hy
      by_cases hs : y = s
      · have HE := hid0 hs
        rw [hs] at q0
        clear hs
        go_wp2
        go_ret
        exact ⟨ret_i (HS.out i g1 (HY.out.trans HE.out) (fun j hj hji => hO.out j hj hji)), rfl⟩
      · have g2 : (y.toList == s.toList) = false := by rw [eqB]; simpa using hs
        have HE := hid0 hs
        clear hs
        go_wp2
        exact ⟨⟨i + 1, by omega, by go_num, hid0 (fun j hj hji => by
          rcases Nat.lt_or_ge j i with h | h
          · exact hO.out j hj h
          · obtain rfl : j = i := by omega
            rw [HY.out]; exact HE.out), trivial⟩, by simp [intOf]; omega⟩
    · have hie : ¬ (i : Int) < n := by omega
      go_wp2
      go_ret
      exact ⟨ret_i (HZ.out (fun j hj => hO.out j hj (by rw [HN.out] at hj; omega))), rfl⟩
end Go.Proofs.Ytadlelhdjakmmaa
