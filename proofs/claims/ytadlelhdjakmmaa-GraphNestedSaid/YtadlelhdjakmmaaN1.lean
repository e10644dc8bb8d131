/- Is a name in a list? slices.Contains and the reference's own: contracts of the calls. Conditions: the list's cells are known. -/
import Derived.Test.YtadlelhdjakmmaaN0
namespace Go.Proofs.Ytadlelhdjakmmaa
open Go.RowKit

/-- The first place of a name, or -1. -/
def atS (l : List ByteArray) (s : ByteArray) : Int := match l.findIdx? (fun x => decide (x = s)) with
  | some i => i
  | none => -1
theorem atS_none {l : List ByteArray} {s : ByteArray} (h : ∀ i (hi : i < l.length), l[i] ≠ s) : atS l s = -1 := by
  unfold atS
  rw [List.findIdx?_eq_none_iff.2 (fun x hx => by
    obtain ⟨i, hi, rfl⟩ := List.mem_iff_getElem.1 hx
    simpa using h i hi)]
theorem atS_some {l : List ByteArray} {s : ByteArray} {k : Nat} (hk : k < l.length) (e : l[k] = s) (h : ∀ i (hi : i < l.length), i < k → l[i] ≠ s) : atS l s = k := by
  unfold atS
  have : l.findIdx? (fun x => decide (x = s)) = some k := by
    rw [List.findIdx?_eq_some_iff_getElem]
    exact ⟨hk, by simpa using e, fun j hj => by simpa using h j (by omega) hj⟩
  rw [this]
theorem atS_neg (l : List ByteArray) (s : ByteArray) : atS l s < 0 ↔ s ∉ l := by
  by_cases hm : s ∈ l
  · obtain ⟨k, hk, e, hf⟩ : ∃ k, ∃ hk : k < l.length, l[k] = s ∧ ∀ i (hi : i < l.length), i < k → l[i] ≠ s := by
      cases hf : l.findIdx? (fun x => decide (x = s)) with
      | none =>
        have := List.findIdx?_eq_none_iff.1 hf s hm
        simp at this
      | some k =>
        obtain ⟨hk, e, h⟩ := List.findIdx?_eq_some_iff_getElem.1 hf
        exact ⟨k, hk, by simpa using e, fun i hi hlt => by simpa using h i hlt⟩
    rw [atS_some hk e hf]
    exact ⟨fun h => absurd h (by omega), fun h => absurd hm h⟩
  · rw [atS_none (l := l) (s := s) (fun i hi e => hm (by rw [← e]; exact List.getElem_mem hi))]
    simp [hm]
theorem atS_at {l : List ByteArray} {s : ByteArray} (h : s ∈ l) : ∃ k, ∃ hk : k < l.length, l[k] = s ∧ atS l s = k := by
  cases hf : l.findIdx? (fun x => decide (x = s)) with
  | none =>
    have := List.findIdx?_eq_none_iff.1 hf s h
    simp at this
  | some k =>
    obtain ⟨hk, e, _⟩ := List.findIdx?_eq_some_iff_getElem.1 hf
    exact ⟨k, hk, by simpa using e, by unfold atS; rw [hf]⟩
set_option maxHeartbeats 1000000 in
set_option maxRecDepth 100000 in
theorem indexS_any (a : Option Addr) (c : Nat) (l : List ByteArray) (s : ByteArray) (w : World) (h : StrsA w a l) (hl : l.length ≤ 8796093022208) :
    Calls Try.prog 36 #[.slice a l.length c, .string s] w fun e w' => e = .returned (.int .i64 (atS l s)) ∧ w' = w := by
  have A := hid0 h
  obtain ⟨n, hn⟩ : ∃ n, l.length = n := ⟨_, rfl⟩
  have HN := hid0 hn
  obtain ⟨R, hR⟩ : ∃ R, atS l s = R := ⟨_, rfl⟩
  have HS := hid0 (fun (k : Nat) (hk : k < l.length) (e : l[k] = s) h => hR.symm.trans (atS_some hk e h))
  have HZ := hid0 (fun h => hR.symm.trans (atS_none (l := l) (s := s) h))
  rw [hn] at hl ⊢
  rw [hR]
  clear h hn hR
  go_enter Try.func36, Try.ntmps36
  go_wp2
  go_loopw [8] (fun iv wr => ∃ i : Nat, i ≤ n ∧ iv = .int .i64 i ∧ Hid (∀ j (hj : j < l.length), j < i → l[j] ≠ s) ∧ wr = w) (fun iv _ => n - (intOf iv).toNat)
  case atStart => exact ⟨0, Nat.zero_le _, rfl, hid0 (fun j _ h => absurd h (by omega)), rfl⟩
  case round =>
    obtain ⟨i, hi, rfl, hO, rfl⟩ := hrel
    by_cases hlt : i < n
    · have g1 : i < l.length := by rw [HN.out]; exact hlt
      obtain ⟨b, o, rfl, hc⟩ := A.out.out (fun e => by rw [e] at g1; exact absurd g1 (by simp))
      have q0 := hc i g1
      obtain ⟨y, hy⟩ : ∃ y, l[i] = y := ⟨_, rfl⟩
      rw [hy] at q0
      have HY := hid0 hy
      clear hc hy
      by_cases hs : s = y
      · have HE := hid0 hs
        rw [← hs] at q0
        clear hs
        go_wp2
        go_ret
        exact ⟨congrArg (fun k => Ending.returned (.int .i64 k)) (HS.out i g1 (HY.out.trans HE.out.symm) (fun j hj hji => hO.out j hj hji)).symm, rfl⟩
      · have g2 : (s.toList == y.toList) = false := by rw [eqB]; simpa using hs
        have HE := hid0 hs
        clear hs
        go_wp2
        exact ⟨⟨i + 1, by omega, by go_num, hid0 (fun j hj hji => by
          rcases Nat.lt_or_ge j i with h | h
          · exact hO.out j hj h
          · obtain rfl : j = i := by omega
            rw [HY.out]; exact fun e => HE.out e.symm), trivial⟩, by simp [intOf]; omega⟩
    · have hie : ¬ (i : Int) < n := by omega
      go_wp2
      go_ret
      exact ⟨congrArg (fun k => Ending.returned (.int .i64 k)) (HZ.out (fun j hj => hO.out j hj (by rw [HN.out] at hj; omega))).symm, rfl⟩
set_option maxHeartbeats 1000000 in
set_option maxRecDepth 100000 in
theorem containsS_any (a : Option Addr) (c : Nat) (l : List ByteArray) (s : ByteArray) (w : World) (h : StrsA w a l) (hl : l.length ≤ 8796093022208) :
    Calls Try.prog 24 #[.slice a l.length c, .string s] w fun e w' => e = .returned (.bool (decide (s ∈ l))) ∧ w' = w := by
  have C := indexS_any a c l s w h hl
  have HR : decide (atS l s ≥ 0) = decide (s ∈ l) := by
    rw [decide_eq_decide]
    have := atS_neg l s
    by_cases hm : s ∈ l
    · simp only [hm, not_true, iff_false, Int.not_lt, iff_true] at this ⊢; exact this
    · simp only [hm, not_false_iff, iff_true, iff_false] at this ⊢; omega
  rw [← HR]
  generalize atS l s = R at C
  clear HR
  go_enter Try.func24, Try.ntmps24
  go_wp2_with (first | (go_at_call 36; ((with_reducible refine C.mono ?_); rintro e w1 ⟨rfl, rfl⟩)) | fail)
  go_ret
  exact ⟨rfl, rfl⟩
end Go.Proofs.Ytadlelhdjakmmaa
