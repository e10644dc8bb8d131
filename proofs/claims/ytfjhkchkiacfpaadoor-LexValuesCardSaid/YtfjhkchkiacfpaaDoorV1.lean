/- The reference's Digits: a number in decimal digits. Condition: the number lies within 64 bits. -/
import Derived.Test.YtfjhkchkiacfpaaDoorWn
import Derived.Laws.BytesArg
import Derived.Lib.ItoaLen
namespace Go.Proofs.YtfjhkchkiacfpaaDoor
open Go.RowKit

def emptyM (s : Value) : Nat := match s with | .string b => if b.size = 0 then 1 else 0 | _ => 0
theorem emptyM_nil : emptyM (.string ⟨#[]⟩) = 1 := rfl
theorem emptyM_cons (c : UInt8) (l : List UInt8) : emptyM (.string ⟨(c :: l).toArray⟩) = 0 := by
  simp [emptyM, ByteArray.size]

theorem conv1 (x : Int) (w : World) : (convert 45 9 (.slice (some ⟨w.heap.size, 0, none⟩) 1 1)).run Tryd.prog (w.alloc (.cells #[.int .u8 x] 5)) = .ok (.string (strOfNums [x])) (w.alloc (.cells #[.int .u8 x] 5)) :=
  run_convert_bytes_arg (P := Tryd.prog) _ 45 5 Tryd.underlying45 Tryd.underlying5 w.heap.size 0 1 1 [x] rfl (fun i hi => by
    have : i = 0 := by omega
    subst this
    simp) 9 Tryd.underlying9
theorem digit_str (j : Nat) (l : List UInt8) : strOfNums [48 + (j : Int) % 10] ++ ⟨l.toArray⟩ = ⟨(UInt8.ofNat (48 + j % 10) :: l).toArray⟩ := by
  have e : (48 + (j : Int) % 10).toNat = 48 + j % 10 := by omega
  have h : strOfNums [48 + (j : Int) % 10] = ⟨#[UInt8.ofNat (48 + j % 10)]⟩ := by simp [strOfNums, e]
  rw [h]
  apply WideShapes.bytes_inj
  simp

theorem len20 {u j : Nat} {l : List UInt8} (h2 : (u : Int) ≤ 9223372036854775807) (h : l ≠ [] → Lib.decDigits u = preD j ++ l) : l.length ≤ 20 := by
  by_cases e : l = []
  · rw [e]; simp
  · have := congrArg List.length (h e)
    rw [Lib.decDigits_length, List.length_append] at this
    have := Lib.nDigits_le20 u (by omega)
    omega
theorem len20b {u j : Nat} {l : List UInt8} (h2 : (u : Int) ≤ 9223372036854775808) (h : l ≠ [] → Lib.decDigits u = preD j ++ l) : l.length ≤ 20 := by
  by_cases e : l = []
  · rw [e]; simp
  · have := congrArg List.length (h e)
    rw [Lib.decDigits_length, List.length_append] at this
    have := Lib.nDigits_le20 u (by omega)
    omega
theorem ret_str {a b : ByteArray} (h : a = b) : Ending.returned (.string a) = .returned (.string b) := by rw [h]
theorem dec_go {u j : Nat} {l : List UInt8} (h1 : l = [] → j = u) (h2 : l ≠ [] → Lib.decDigits u = preD j ++ l) (hj : j ≠ 0) : Lib.decDigits u = preD (j / 10) ++ (UInt8.ofNat (48 + j % 10) :: l) := by
  by_cases e : l = []
  · subst e
    rw [← h1 rfl, dec_step]
  · rw [h2 e, preD_pos hj, dec_step]
    simp

set_option maxRecDepth 100000 in
set_option maxHeartbeats 1000000 in
theorem digits_pos (u : Nat) (w : World) (h2 : (u : Int) ≤ 9223372036854775807) :
    Calls Tryd.prog 20 #[.int .i64 (u : Int)] w fun e w' => e = .returned (.string ⟨(Lib.decDigits u).toArray⟩) ∧ Below w.heap.size w w' := by
  go_enter Tryd.func20, Tryd.ntmps20
  go_wp2
  go_loopw [3, 4] (fun s i wr => ∃ (j : Nat) (l : List UInt8), j ≤ u ∧ i = .int .i64 j ∧ s = .string ⟨l.toArray⟩ ∧ Below w.heap.size w wr ∧ Hid (l = [] → j = u) ∧ Hid (l ≠ [] → Lib.decDigits u = preD j ++ l))
    (fun s i _ => (intOf i).toNat + emptyM s)
  case atStart => exact ⟨u, [], Nat.le_refl _, rfl, rfl, Below.refl _ _, fun _ => rfl, fun h => absurd rfl h⟩
  case round =>
    obtain ⟨j, l, hj, rfl, rfl, hB, hl1, hl2⟩ := hrel
    have hsz := hB.size
    have hcv := conv1
    have hso := strOfNums_size
    have hlen : l.length ≤ 20 := len20 h2 hl2.out
    have hBn : ∀ o, Below w.heap.size w (wr.alloc o) := fun o => Below.alloc hB hsz o
    have HN := hid0 hBn
    clear hBn
    by_cases hj0 : j = 0
    · subst hj0
      cases l with
      | nil =>
        go_wp2
        exact ⟨⟨0, [48], Nat.zero_le _, rfl, by rfl, HN.out _, hid0 (fun h => absurd h (by simp)), hid0 (fun _ => by rw [← hl1.out rfl]; exact dec_step 0)⟩, by decide⟩
      | cons c l0 =>
        go_wp2
        go_ret
        exact ⟨ret_str (by rw [hl2.out (by simp)]; rfl), hB⟩
    · go_wp2
      refine ⟨⟨j / 10, UInt8.ofNat (48 + j % 10) :: l, by omega, ?_, ?_, HN.out _, hid0 (fun h => absurd h (by simp)), hid0 (fun _ => dec_go hl1.out hl2.out hj0)⟩, ?_⟩
      · go_num
      · rw [digit_str]
      · rw [digit_str, emptyM_cons]
        simp [intOf]
        omega

theorem tmod_neg10 (j : Nat) : (-(j : Int)).tmod 10 = -((j : Int) % 10) := by
  rw [Int.neg_tmod, Int.tmod_eq_emod_of_nonneg (Int.natCast_nonneg _)]
theorem tdiv_neg10 (j : Nat) : (-(j : Int)).tdiv 10 = -((j : Int) / 10) := by
  rw [Int.neg_tdiv, Int.tdiv_eq_ediv_of_nonneg (Int.natCast_nonneg _)]

set_option maxRecDepth 100000 in
set_option maxHeartbeats 1000000 in
theorem digits_neg (u : Nat) (w : World) (h1 : 1 ≤ u) (h2 : (u : Int) ≤ 9223372036854775808) :
    Calls Tryd.prog 20 #[.int .i64 (-(u : Int))] w fun e w' => e = .returned (.string ⟨(45 :: Lib.decDigits u).toArray⟩) ∧ Below w.heap.size w w' := by
  have hneg : -(u : Int) < 0 := by omega
  go_enter Tryd.func20, Tryd.ntmps20
  go_wp2
  go_loopw [3, 4] (fun s i wr => ∃ (j : Nat) (l : List UInt8), j ≤ u ∧ i = .int .i64 (-(j : Int)) ∧ s = .string ⟨l.toArray⟩ ∧ Below w.heap.size w wr ∧ Hid (l = [] → j = u) ∧ Hid (l ≠ [] → Lib.decDigits u = preD j ++ l))
    (fun s i _ => (-(intOf i)).toNat + emptyM s)
  case atStart => exact ⟨u, [], Nat.le_refl _, rfl, rfl, Below.refl _ _, fun _ => rfl, fun h => absurd rfl h⟩
  case round =>
    obtain ⟨j, l, hj, rfl, rfl, hB, hl1, hl2⟩ := hrel
    have hsz := hB.size
    have hcv := conv1
    have hso := strOfNums_size
    have hlen : l.length ≤ 20 := len20b h2 hl2.out
    have hBn : ∀ o, Below w.heap.size w (wr.alloc o) := fun o => Below.alloc hB hsz o
    have HN := hid0 hBn
    clear hBn
    have hm := tmod_neg10 j
    have hq := tdiv_neg10 j
    by_cases hj0 : j = 0
    · subst hj0
      cases l with
      | nil => exact absurd (hl1.out rfl) (by omega)
      | cons c l0 =>
        have hl0 : l0.length ≤ 19 := by simpa using hlen
        clear hlen
        go_wp2
        go_ret
        exact ⟨ret_str (by
          rw [hl2.out (by simp)]
          apply WideShapes.bytes_inj
          simp [preD]), hB⟩
    · have hj1 : (-(j : Int) != 0) = true := by simp; omega
      go_wp2
      · refine ⟨⟨j / 10, UInt8.ofNat (48 + j % 10) :: l, by omega, ?_, ?_, HN.out _, hid0 (fun h => absurd h (by simp)), hid0 (fun _ => dec_go hl1.out hl2.out hj0)⟩, ?_⟩
        · go_num
        · rw [digit_str]
        · rw [digit_str, emptyM_cons]
          simp [intOf]
          omega
      · have e0 : (j : Int) % 10 = 0 := by omega
        have e1 : j % 10 = 0 := by omega
        have e2 : strOfNums [48 + -((j : Int) % 10)] = strOfNums [48 + (j : Int) % 10] := by rw [e0]; rfl
        refine ⟨⟨j / 10, UInt8.ofNat (48 + j % 10) :: l, by omega, ?_, ?_, HN.out _, hid0 (fun h => absurd h (by simp)), hid0 (fun _ => dec_go hl1.out hl2.out hj0)⟩, ?_⟩
        · go_num
        · rw [e2, digit_str]
        · rw [e2, digit_str, emptyM_cons]
          simp [intOf]
          omega
end Go.Proofs.YtfjhkchkiacfpaaDoor
