/- Several of my texts laid together, each as it was: T28. Conditions: each names its own. -/
import Derived.Test.YtadidikegfiedaaF1
/- TraceLow: the law's call, in whatever memory: it is true. Conditions: the list's cells are known. -/
namespace Go.Proofs.Ytadidikegfiedaa
open Go.RowKit

set_option maxHeartbeats 1000000 in
theorem trLowM_any (a : Option Addr) (c : Nat) (l : List Int) (now : Int) (w : World) (h : IntsAt w a l) (hl : l.length ≤ 9223372036854775807) :
    Calls Try.prog 19 #[.slice a l.length c, .int .i64 now] w fun e w' => e = .returned (.int .i64 (lowI l now)) ∧ Below w.heap.size w w' := by
  have A := hid0 h
  clear h
  go_enter Try.func19, Try.ntmps19
  go_wp2
  go_loopw [5, 11] (fun nv iv wr => ∃ i : Nat, i ≤ l.length ∧ nv = .int .i64 (lowI (l.take i) now) ∧ iv = .int .i64 i ∧ Below w.heap.size w wr) (fun _ iv _ => l.length - (intOf iv).toNat)
  case atStart => exact ⟨0, Nat.zero_le _, rfl, rfl, Below.refl _ _⟩
  case round =>
    obtain ⟨i, hi, rfl, rfl, hB⟩ := hrel
    by_cases hlt : i < l.length
    · obtain ⟨b1, o1, rfl, hc1⟩ := (A.out.later hB) (by intro e; rw [e] at hlt; exact absurd hlt (by simp))
      have q0 := hc1 i hlt
      have HS := hid0 (show lowI (l.take (i + 1)) now = if l[i] < lowI (l.take i) now then l[i] else lowI (l.take i) now by rw [List.take_succ_eq_append_getElem hlt, lowI_snoc])
      clear hc1
      generalize l[i] = x at q0 HS
      generalize lowI (l.take i) now = m at HS ⊢
      go_wp2_with fail
      exact ⟨⟨i + 1, by omega, by rw [HS.out, Int.min_def]; congr 1; split <;> split <;> omega, by go_num, hB⟩, by simp [intOf]; omega⟩
    · have hie : ¬ (i : Int) < l.length := by omega
      have e : l.take i = l := List.take_of_length_le (by omega)
      rw [e]
      go_wp2
      go_ret
      exact ⟨rfl, hB⟩
set_option maxHeartbeats 1000000 in
theorem refLowM_any (a : Option Addr) (c : Nat) (l : List Int) (now : Int) (w : World) (h : IntsAt w a l) (hl : l.length ≤ 9223372036854775807) :
    Calls Try.prog 20 #[.slice a l.length c, .int .i64 now] w fun e w' => e = .returned (.int .i64 (lowI l now)) ∧ Below w.heap.size w w' := by
  have A := hid0 h
  clear h
  go_enter Try.func20, Try.ntmps20
  go_wp2
  go_loopw [1, 5] (fun nv iv wr => ∃ i : Nat, i ≤ l.length ∧ nv = .int .i64 (lowI (l.take i) now) ∧ iv = .int .i64 i ∧ Below w.heap.size w wr) (fun _ iv _ => l.length - (intOf iv).toNat)
  case atStart => exact ⟨0, Nat.zero_le _, rfl, rfl, Below.refl _ _⟩
  case round =>
    obtain ⟨i, hi, rfl, rfl, hB⟩ := hrel
    by_cases hlt : i < l.length
    rotate_left
    · have hie : ¬ (i : Int) < l.length := by omega
      have e : l.take i = l := List.take_of_length_le (by omega)
      rw [e]
      go_wp2
      go_ret
      exact ⟨rfl, hB⟩
    · obtain ⟨b1, o1, rfl, hc1⟩ := (A.out.later hB) (by intro e; rw [e] at hlt; exact absurd hlt (by simp))
      have q0 := hc1 i hlt
      have HS := hid0 (show lowI (l.take (i + 1)) now = if l[i] < lowI (l.take i) now then l[i] else lowI (l.take i) now by rw [List.take_succ_eq_append_getElem hlt, lowI_snoc])
      clear hc1
      generalize l[i] = x at q0 HS
      generalize lowI (l.take i) now = m at HS ⊢
      by_cases hx : x < m
      · have HS2 := hid0 (HS.out.trans (if_pos hx))
        clear HS
        go_wp2
        exact ⟨⟨i + 1, by omega, by rw [HS2.out], by go_num, hB⟩, by simp [intOf]; omega⟩
      · have HS2 := hid0 (HS.out.trans (if_neg hx))
        clear HS
        go_wp2
        exact ⟨⟨i + 1, by omega, by rw [HS2.out], by go_num, hB⟩, by simp [intOf]; omega⟩
set_option maxHeartbeats 4000000 in
theorem lawTraceLow (a : Option Addr) (c : Nat) (l : List Int) (now : Int) (w : World) (h : IntsAt w a l) (hl : l.length ≤ 9223372036854775807) :
    Calls Try.prog 4 #[.slice a l.length c, .int .i64 now] w fun e w' => e = .returned (.bool true) ∧ Below w.heap.size w w' := by
  have CA := hid0 (awake16_any w)
  have C1 := hid0 (fun W (hW : Below w.heap.size w W) => trLowM_any a c l now W (h.later hW) hl)
  have C2 := hid0 (fun W (hW : Below w.heap.size w W) => refLowM_any a c l now W (h.later hW) hl)
  generalize lowI l now = R at C1 C2
  obtain ⟨n, hn⟩ : ∃ n, l.length = n := ⟨_, rfl⟩
  rw [hn] at C1 C2 ⊢
  clear h hn hl
  go_enter Try.func4, Try.ntmps4
  go_wp2_with fail
  refine Calls.mono CA.out ?_
  rintro e w1 ⟨rfl, B1⟩
  go_wp2_with fail
  refine Calls.mono (C1.out _ B1) ?_
  rintro e w2 ⟨rfl, hb2⟩
  have B2 := below_through hb2 B1.size B1
  go_wp2_with fail
  refine Calls.mono (C2.out _ B2) ?_
  rintro e w3 ⟨rfl, hb3⟩
  have B3 := below_through hb3 B2.size B2
  clear hb2 hb3 B1 B2
  go_wp2_with fail
  go_ret
  exact ⟨rfl, B3⟩
end Go.Proofs.Ytadidikegfiedaa
