/- Several of my texts laid together, each as it was: Ug. Conditions: each names its own. -/
import Derived.Test.YtneebnankghhgabUf
import Derived.Deep.RegionWith
/- The law's own: a tree behind steps (400 at most), and the document's: a contract of the call. Conditions: the steps' cells are known; an order that may be, or none. -/
namespace Go.Proofs.Ytneebnankghhgab
open Go.RowKit

theorem ov_int (g : Option Int) : ∃ z, ovI g = .int .i64 z := by cases g <;> exact ⟨_, rfl⟩
theorem grown_no (o : Int) (a : Option Addr) (n c : Nat) (w : World) (hn : n ≤ maxLen) (h : o < 3 ∨ 64 < o) :
    Calls Try.prog 4 #[.int .i64 o, .slice a n c] w fun e w' => e = .returned (.tuple #[.pointer none, .pointer none, .bool true]) ∧ w = w' := by
  unfold maxLen at hn
  go_enter Try.func4, Try.ntmps4
  go_wp2_with fail
  refine (newI_no o w h).mono ?_
  rintro e w1 ⟨rfl, rfl⟩
  go_wp2_with fail
  refine (refNew_no o w h).mono ?_
  rintro e w2 ⟨rfl, rfl⟩
  go_wp2_with fail
  go_loopw [11] (fun iv wr => iv = .int .i64 0 ∧ w = wr) (fun _ _ => 0)
  case atStart => exact ⟨rfl, rfl⟩
  case round =>
    obtain ⟨rfl, rfl⟩ := hrel
    by_cases h0 : 0 < n
    · have h0' : (0 : Int) < (n : Int) := by omega
      go_wp2_with fail
      exact bodyPost_ret (v := .tuple #[.pointer none, .pointer none, .bool true]) (by simp [results, Try.results4, go_sem]) rfl ⟨rfl, rfl⟩
    · have h0' : ¬ (0 : Int) < (n : Int) := by omega
      go_wp2_with fail
      exact bodyPost_ret (v := .tuple #[.pointer none, .pointer none, .bool true]) (by simp [results, Try.results4, go_sem]) rfl ⟨rfl, rfl⟩
set_option maxRecDepth 100000 in
set_option maxHeartbeats 8000000 in
theorem grown_yes (o : Nat) (a : Option Addr) (c : Nat) (ops : List OpR) (w : World) (h3 : 3 ≤ o) (h64 : o ≤ 64) (hops : OpsAt7 w a ops) :
    Calls Try.prog 4 #[.int .i64 (o : Int), .slice a ops.length c] w fun e w' => ∃ tb ub, e = .returned (.tuple #[.pointer (some ⟨tb, 0, none⟩), .pointer (some ⟨ub, 0, none⟩), .bool true]) ∧ Both w w' tb ub o (playA (·.n) (ops.take 400)) ∧ (playA (·.n) (ops.take 400)).length ≤ 400 := by
  have A := hid0 hops
  have hlen := hops.len
  obtain ⟨n, hn⟩ : ∃ n, ops.length = n := ⟨_, rfl⟩
  rw [hn] at hlen ⊢
  have HN := hid0 hn
  clear hops hn
  go_enter Try.func4, Try.ntmps4
  go_wp2_with fail
  refine (newI_yes o w h3 h64).mono ?_
  rintro e w1 ⟨rfl, hT0, hb1, hs1⟩
  go_wp2_with fail
  refine (refNew_yes o w1 h3 h64).mono ?_
  rintro e w2 ⟨rfl, hR0, hb2⟩
  have hB0 : Both w w2 (w.heap.size + 1) w1.heap.size o [] :=
    ⟨⟨_, _, (hT0 (Apart (w.heap.size + 1) w1.heap.size (.slice none 0 0)) ⟨by omega, by omega, by simp [Value.ownBlock]⟩ (fun q => q.1 rfl)).later hb2, hR0⟩, by omega, by omega, hb1.trans (hb2.mono hb1.size)⟩
  have HB0 := hid0 hB0
  obtain ⟨tb, htb⟩ : ∃ tb, w.heap.size + 1 = tb := ⟨_, rfl⟩
  obtain ⟨ub, hub⟩ : ∃ ub, w1.heap.size = ub := ⟨_, rfl⟩
  rw [htb, hub] at HB0
  rw [htb, hub]
  clear hT0 hb1 hs1 hR0 hb2 hB0 htb hub
  go_wp2_with fail
  go_loopw [11] (fun iv wr => ∃ i : Nat, i ≤ n ∧ i ≤ 400 ∧ iv = .int .i64 i ∧ Hid (Both w wr tb ub o (playA (·.n) (ops.take i)) ∧ (playA (·.n) (ops.take i)).length ≤ i)) (fun iv _ => n - (intOf iv).toNat)
  case atStart => exact ⟨0, Nat.zero_le _, Nat.zero_le _, rfl, hid0 ⟨HB0.out, Nat.le_refl _⟩⟩
  case round =>
    obtain ⟨i, hi, hi4, rfl, hR⟩ := hrel
    by_cases hlt : i < n ∧ i < 400
    · obtain ⟨hin, hi400⟩ := hlt
      have hil : i < ops.length := by have := HN.out; omega
      obtain ⟨b, off, rfl, hc⟩ := A.out.cells (by intro e; rw [e] at hil; exact absurd hil (by simp))
      obtain ⟨q0, q1, q2⟩ := hc i hil
      obtain ⟨t, ht⟩ : ∃ t, ops[i] = t := ⟨_, rfl⟩
      rw [ht] at q0 q1 q2
      have hpl := play_next (v := (·.n)) (l := ops) (i := i) (t := t) (by rw [List.getElem?_eq_getElem hil, ht])
      obtain ⟨L, hL⟩ : ∃ L, playA (·.n) (ops.take i) = L := ⟨_, rfl⟩
      rw [hL] at hR hpl
      have hstep := step_len (β := Int) (·.n) t L
      have HPL := hid0 hpl
      have hii : (i : Int) < (n : Int) := by omega
      have hi4' : (i : Int) < 400 := by omega
      have z0 := cell_later hR.out.1.keep q0
      have z1 := cell_later hR.out.1.keep q1
      have z2 := cell_later hR.out.1.keep q2
      clear hc ht hpl hil hL
      obtain ⟨z, hz⟩ := ov_int (getA t.key L)
      obtain ⟨hv, hhv⟩ : ∃ hv, hasO (getA t.key L) = hv := ⟨_, rfl⟩
      have HST := hid0 hstep
      by_cases hk0 : t.k = 0
      · have hsA : stepA (·.n) t L = insA t.key t.n L := by unfold stepA; rw [if_pos hk0]
        have C1 := bothPut_any (hR.out.1.later (Below.drew (Below.refl wr.heap.size wr))) (by have := hR.out.2; omega) t.key t.n
        rw [hz, hhv] at C1
        have C2 := fun W (h : HalfB w W tb ub o (insA t.key t.n L) L) => halfPut_any t.key t.n h (by have := hR.out.2; omega)
        rw [hz, hhv] at C2
        have C3 := fun W (h : Both w W tb ub o (insA t.key t.n L)) => bothLen_any h
        have C4 := fun W (h : Both w W tb ub o (insA t.key t.n L)) => bothLenR_any h
        rw [hsA] at hstep
        have HSL := hid0 hstep
        have HSA := hid0 hsA
        have HRL := hid0 hR.out.2
        have HC := hid0 (And.intro C2 (And.intro C3 C4))
        have hK := hid0 (Below.drew hR.out.1.keep)
        have hS : ∀ W, Below w.heap.size w W → W.cell? ⟨b, off + i * 3 + 1, none⟩ = some (.string (txt t.key)) ∧ W.cell? ⟨b, off + i * 3 + 2, none⟩ = some (.int .i64 t.n) := fun W hb => ⟨cell_later hb q1, cell_later hb q2⟩
        have HS := hid0 hS
        clear hz hhv hsA C2 C3 C4 hstep q1 q2 hS
        go_wp2_with fail
        go_region_held3 (fun w' => w'.cell? ⟨b, off + i * 3 + 1, none⟩ = some (.string (txt t.key)) ∧ w'.cell? ⟨b, off + i * 3 + 2, none⟩ = some (.int .i64 t.n))
          (first | with_reducible assumption | exact HS.out _ hK.out | exact HS.out _ hH3.keep)
          (first
            | (go_at_call 21; refine C1.mono ?_; rintro e w3 ⟨rfl, hH3⟩)
            | fail)
        go_wp2_with fail
        go_region_held3 (fun w' => w'.cell? ⟨b, off + i * 3 + 1, none⟩ = some (.string (txt t.key)) ∧ w'.cell? ⟨b, off + i * 3 + 2, none⟩ = some (.int .i64 t.n))
          (first | with_reducible assumption | exact HS.out _ (Below.drew hH3.keep) | exact HS.out _ hB3.keep)
          (first
            | (go_at_call 22; refine (HC.out.1 _ (hH3.later (Below.drew (Below.refl _ _)))).mono ?_; rintro e w4 ⟨rfl, hB3⟩)
            | fail)
        go_wp2_with (first
          | (go_at_call 26; refine (HC.out.2.1 _ hB3).mono ?_; rintro e w' ⟨rfl, rfl⟩)
          | (go_at_call 27; refine (HC.out.2.2 _ hB3).mono ?_; rintro e w' ⟨rfl, rfl⟩)
          | fail)
        exact ⟨⟨i + 1, by omega, by omega, by go_num, hid0 (by rw [HPL.out, HSA.out]; exact ⟨hB3, by have := HRL.out; have := HSL.out; omega⟩)⟩, by simp [intOf]; omega⟩
      · by_cases hk1 : t.k = 1
        · have hsA : stepA (·.n) t L = delA t.key L := by unfold stepA; rw [if_neg hk0, if_pos hk1]
          have C1 := bothCut_any hR.out.1 (by have := hR.out.2; omega) t.key
          rw [hz, hhv] at C1
          have C2 := fun W (h : HalfB w W tb ub o (delA t.key L) L) => halfCut_any t.key h (by have := hR.out.2; omega)
          rw [hz, hhv] at C2
          have C3 := fun W (h : Both w W tb ub o (delA t.key L)) => bothLen_any h
          have C4 := fun W (h : Both w W tb ub o (delA t.key L)) => bothLenR_any h
          rw [hsA] at hstep
          have HSL := hid0 hstep
          have HSA := hid0 hsA
          have HRL := hid0 hR.out.2
          have HC := hid0 (And.intro C2 (And.intro C3 C4))
          clear hz hhv hsA C2 C3 C4 hstep
          go_wp2_with (first
            | (go_at_call 23; refine C1.mono ?_; rintro e w3 ⟨rfl, hH3⟩; have y1 := cell_later hH3.keep q1)
            | (go_at_call 24; refine (HC.out.1 _ hH3).mono ?_; rintro e w4 ⟨rfl, hB3⟩)
            | (go_at_call 26; refine (HC.out.2.1 _ hB3).mono ?_; rintro e w' ⟨rfl, rfl⟩)
            | (go_at_call 27; refine (HC.out.2.2 _ hB3).mono ?_; rintro e w' ⟨rfl, rfl⟩)
            | fail)
          exact ⟨⟨i + 1, by omega, by omega, by go_num, hid0 (by rw [HPL.out, HSA.out]; exact ⟨hB3, by have := HRL.out; have := HSL.out; omega⟩)⟩, by simp [intOf]; omega⟩
        · have hsA : stepA (·.n) t L = L := by unfold stepA; rw [if_neg hk0, if_neg hk1]
          have C1 := bothGet_any hR.out.1 t.key
          rw [hz, hhv] at C1
          have C2 := fun W (h : Both w W tb ub o L) => bothGetR_any h (by have := hR.out.2; omega) t.key
          rw [hz, hhv] at C2
          have C3 := fun W (h : Both w W tb ub o L) => bothLen_any h
          have C4 := fun W (h : Both w W tb ub o L) => bothLenR_any h
          have HSA := hid0 hsA
          have HRL := hid0 hR.out.2
          have HC := hid0 (And.intro C2 (And.intro C3 C4))
          clear hz hhv hsA C2 C3 C4 hstep
          go_wp2_with (first
            | (go_at_call 13; refine C1.mono ?_; rintro e w3 ⟨rfl, hB3⟩; have y1 := cell_later hB3.keep q1)
            | (go_at_call 25; refine (HC.out.1 _ hB3).mono ?_; rintro e w' ⟨rfl, rfl⟩)
            | (go_at_call 26; refine (HC.out.2.1 _ hB3).mono ?_; rintro e w' ⟨rfl, rfl⟩)
            | (go_at_call 27; refine (HC.out.2.2 _ hB3).mono ?_; rintro e w' ⟨rfl, rfl⟩)
            | fail)
          exact ⟨⟨i + 1, by omega, by omega, by go_num, hid0 (by rw [HPL.out, HSA.out]; exact ⟨hB3, by have := HRL.out; omega⟩)⟩, by simp [intOf]; omega⟩
    · have hfin : ops.take 400 = ops.take i := by
        have := HN.out
        rcases Nat.lt_or_ge i 400 with g | g
        · rw [List.take_of_length_le (by omega), List.take_of_length_le (by omega)]
        · rw [show i = 400 by omega]
      have HF := hid0 (show Both w wr tb ub o (playA (·.n) (ops.take 400)) ∧ (playA (·.n) (ops.take 400)).length ≤ 400 by rw [hfin]; exact ⟨hR.out.1, by have := hR.out.2; omega⟩)
      clear hfin hR
      by_cases hin : i < n
      · have hi4' : ¬ (i : Int) < 400 := by omega
        have hii : (i : Int) < (n : Int) := by omega
        go_wp2_with fail
        exact bodyPost_ret (v := .tuple #[.pointer (some ⟨tb, 0, none⟩), .pointer (some ⟨ub, 0, none⟩), .bool true]) (by simp [results, Try.results4, go_sem]) rfl ⟨tb, ub, rfl, HF.out.1, HF.out.2⟩
      · have hii : ¬ (i : Int) < (n : Int) := by omega
        go_wp2_with fail
        exact bodyPost_ret (v := .tuple #[.pointer (some ⟨tb, 0, none⟩), .pointer (some ⟨ub, 0, none⟩), .bool true]) (by simp [results, Try.results4, go_sem]) rfl ⟨tb, ub, rfl, HF.out.1, HF.out.2⟩
end Go.Proofs.Ytneebnankghhgab
