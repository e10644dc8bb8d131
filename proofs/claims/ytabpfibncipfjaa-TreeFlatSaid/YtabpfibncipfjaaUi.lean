/- TreeFlat: no key stands deeper than it must. Conditions: the steps' cells are known. -/
import Derived.Test.YtabpfibncipfjaaUg
import Derived.Test.YtabpfibncipfjaaUh
import Derived.Lib.MinMax
namespace Go.Proofs.Ytabpfibncipfjaa
open Go.RowKit

theorem bothDepth_any {w0 w : World} {tb ub o : Nat} {L : List (Key × Int)} (h : Both w0 w tb ub o L) (hl : L.length ≤ 400) : ∃ n : Nat, n ≤ 8 ∧ (n = 0 ∨ (o / 2 + 1) ^ n ≤ L.length) ∧ Calls Try.prog 16 #[.pointer (some ⟨tb, 0, none⟩)] w fun e w' => e = .returned (.int .i64 ((n : Int) + 1)) ∧ w = w' := by
  obtain ⟨vk, vv, hT, hR⟩ := h.out
  obtain ⟨n, t, hw, hf, hc⟩ := depthI_any _ tb o L w hT
  have h8 : n ≤ 8 := root_few hT.lo hw (by rw [hf]; exact hl)
  refine ⟨n, h8, ?_, hc (by omega)⟩
  have := root_low (by have := hT.lo; omega) hw
  rwa [hf] at this
set_option maxRecDepth 100000 in
set_option maxHeartbeats 4000000 in
theorem lawTreeFlat (o : Int) (a : Option Addr) (c : Nat) (ops : List OpR) (w : World) (hops : OpsAt7 w a ops) :
    Calls Try.prog 5 #[.int .i64 o, .slice a ops.length c] w fun e w' => e = .returned (.bool true) ∧ Below w.heap.size w w' := by
  have hlen := hops.len
  by_cases ho : o < 3 ∨ 64 < o
  · have CG := grown_no o a ops.length c w (by unfold maxLen; omega) ho
    clear hops
    go_enter Try.func5, Try.ntmps5
    go_wp2_with fail
    refine CG.mono ?_
    rintro e w' ⟨rfl, rfl⟩
    go_wp2_with (first
      | (go_at_call 10; refine (awakeT_any _).mono ?_; rintro e w2 ⟨rfl, hb⟩)
      | fail)
    go_ret
    exact ⟨rfl, hb⟩
  · obtain ⟨m, rfl⟩ : ∃ m : Nat, o = m := ⟨o.toNat, by omega⟩
    have CG := grown_yes m a c ops w (by omega) (by omega) hops
    have hm3 : 3 ≤ m := by omega
    have hm64 : m ≤ 64 := by omega
    clear hops
    obtain ⟨L, hL⟩ : ∃ L, playA (·.n) (ops.take 400) = L := ⟨_, rfl⟩
    rw [hL] at CG
    clear hL ho
    go_enter Try.func5, Try.ntmps5
    go_wp2_with fail
    refine CG.mono ?_
    rintro e w1 ⟨tb, ub, rfl, hB, hl⟩
    obtain ⟨n, hn8, hpow, CD⟩ := bothDepth_any hB hl
    have HP := hid0 hpow
    have HB := hid0 hB
    clear CG hpow hB
    go_wp2_with fail
    go_loopw [8, 9] (fun lv iv wr => ∃ i p : Nat, i ≤ n ∧ iv = .int .i64 ((i : Int) + 1) ∧ lv = .int .i64 (p : Int) ∧ Hid (p = (m / 2 + 1) ^ i) ∧ w1 = wr) (fun _ iv _ => 30 - (intOf iv).toNat)
    case atStart => exact ⟨0, 1, Nat.zero_le _, rfl, rfl, hid0 rfl, rfl⟩
    case round =>
      obtain ⟨i, p, hi, rfl, rfl, hp, rfl⟩ := hrel
      by_cases hlt : i < n
      · have hii : (i : Int) + 1 < (n : Int) + 1 := by omega
        have h20 : (i : Int) + 1 < 20 := by omega
        have hle : p * (m / 2 + 1) ≤ 400 := by
          have e : p * (m / 2 + 1) = (m / 2 + 1) ^ (i + 1) := by rw [hp.out, Nat.pow_succ]
          have h1 : (m / 2 + 1) ^ (i + 1) ≤ (m / 2 + 1) ^ n := Nat.pow_le_pow_right (by omega) (by omega)
          rcases HP.out with h | h
          · omega
          · omega
        have HE := hid0 (show p * (m / 2 + 1) = (m / 2 + 1) ^ (i + 1) by rw [hp.out, Nat.pow_succ])
        have hq : (p : Int) * ((m : Int) / 2 + 1) = ((p * (m / 2 + 1) : Nat) : Int) := by simp
        obtain ⟨p', hp'⟩ : ∃ p', p * (m / 2 + 1) = p' := ⟨_, rfl⟩
        rw [hp'] at hq HE hle
        have hwr : IntKind.i64.wrap ((p : Int) * ((m : Int) / 2 + 1)) = (p' : Int) := by rw [hq]; exact IntWalk.i64_in _ (by omega)
        clear hq hle hp'
        go_wp2_with (first
          | (go_at_call 16; refine CD.mono ?_; rintro e w' ⟨rfl, rfl⟩)
          | fail)
        exact ⟨⟨i + 1, p', by omega, by go_num, rfl, HE, trivial⟩, by simp [intOf]; omega⟩
      · obtain rfl : i = n := by omega
        have hii : ¬ (i : Int) + 1 < (i : Int) + 1 := by omega
        have hmax : (p : Int) ≤ max 1 (L.length : Int) := by
          rcases HP.out with h | h
          · have : p = 1 := by rw [hp.out, h]; rfl
            omega
          · rw [← hp.out] at h; omega
        have CL := fun W (h : Both w W tb ub m L) => bothLen_any h
        have CD2 := fun W (h : Both w W tb ub m L) => bothDepth_any h hl
        have HC := hid0 (And.intro CL CD2)
        clear CL CD2
        go_wp2_with (first
          | (go_at_call 16; first | (refine CD3.mono ?_; rintro e w' ⟨rfl, rfl⟩) | (refine CD.mono ?_; rintro e w' ⟨rfl, rfl⟩))
          | (go_at_call 17; refine (HC.out.1 _ HB2.out).mono ?_; rintro e w' ⟨rfl, rfl⟩)
          | (go_at_call 10; refine (awakeT_any _).mono ?_; rintro e w2 ⟨rfl, hb⟩; have HB2 := hid0 (HB.out.later hb); obtain ⟨n2, h28, -, CD3⟩ := HC.out.2 _ HB2.out; have hg1 : (1 : Int) ≤ (n2 : Int) + 1 := (by omega); have hg2 : (n2 : Int) + 1 < 20 := (by omega))
          | fail)
        all_goals
          go_ret
          exact ⟨rfl, HB2.out.keep⟩
end Go.Proofs.Ytabpfibncipfjaa
