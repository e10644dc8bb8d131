/- The project's lexer, one byte and a name: contracts of the calls, in whatever memory. Conditions: each names its own. -/
import Derived.Test.YtfjhkchkiacfpaaDoorNa
import Derived.Test.YtfjhkchkiacfpaaDoorRf
import Derived.WalkKit
import Derived.Handy
namespace Go.Proofs.YtfjhkchkiacfpaaDoor
open Go.RowKit

theorem isL_iff (c : UInt8) : isL c = true ↔ c.toNat = 95 ∨ (97 ≤ c.toNat ∧ c.toNat ≤ 122) := by simp [isL]
theorem isD_iff (c : UInt8) : isD c = true ↔ 48 ≤ c.toNat ∧ c.toNat ≤ 57 := by simp [isD]

theorem lxLetter_any (c : UInt8) (w : World) :
    Calls Tryd.prog 21 #[.int .u8 c.toNat] w fun e w' => e = .returned (.bool (isL c)) ∧ w = w' := by
  have h255 := c.toNat_lt
  go_enter Tryd.func21, Tryd.ntmps21
  go_wp2
  all_goals
    go_ret
    refine ⟨ret_bool ?_, rfl⟩
    rw [Bool.eq_iff_iff, isL_iff]
    simp_all
  all_goals omega
theorem lxDigit_any (c : UInt8) (w : World) :
    Calls Tryd.prog 22 #[.int .u8 c.toNat] w fun e w' => e = .returned (.bool (isD c)) ∧ w = w' := by
  have h255 := c.toNat_lt
  go_enter Tryd.func22, Tryd.ntmps22
  go_wp2
  all_goals
    go_ret
    refine ⟨ret_bool ?_, rfl⟩
    rw [Bool.eq_iff_iff, isD_iff]
    simp_all
  all_goals omega
theorem goes_at {l : List UInt8} {k : Nat} (h : k < l.length) : goesOn l k = (isL l[k] || (decide (0 < k) && isD l[k])) := by
  unfold goesOn
  rw [List.getElem?_eq_getElem h]
theorem goes_no {l : List UInt8} {k : Nat} (h : l.length ≤ k) : goesOn l k = false := by
  unfold goesOn
  rw [List.getElem?_eq_none h]
theorem goes_more {l : List UInt8} {k : Nat} (h : ∀ j, j < k → goesOn l j = true) (hk : goesOn l k = true) : ∀ j, j < k + 1 → goesOn l j = true := fun j hj => by
  rcases Nat.lt_or_ge j k with g | g
  · exact h j g
  · obtain rfl : j = k := by omega
    exact hk
theorem u8_back (c : UInt8) : IntKind.u8.wrap (c.toNat : Int) = (c.toNat : Int) := by
  have := c.toNat_lt
  exact IntWalk.u8_in _ ⟨by omega, by omega⟩

set_option maxHeartbeats 1000000 in
theorem lxNameSize_any (l : List UInt8) (w : World) (hl : l.length ≤ maxLen) :
    Calls Tryd.prog 16 #[.string (txt l)] w fun e w' => e = .returned (.int .i64 (nmS l : Nat)) ∧ w = w' := by
  unfold maxLen at hl
  have hsz : (txt l).size = l.length := txt_size l
  go_enter Tryd.func16, Tryd.ntmps16
  go_wp2
  go_loopw [3] (fun i wr => ∃ k : Nat, k ≤ l.length ∧ i = .int .i64 k ∧ wr = w ∧ Hid (∀ j, j < k → goesOn l j = true)) (fun i _ => l.length - (intOf i).toNat)
  case atStart => exact ⟨0, Nat.zero_le _, rfl, rfl, hid0 (fun j h => absurd h (by omega))⟩
  case round =>
    obtain ⟨k, hk, rfl, rfl, hR⟩ := hrel
    by_cases hlt : k < l.length
    · have hk2 : k < (txt l).size := by omega
      have e : (txt l)[k]'hk2 = l[k] := txt_get l k hk2 hlt
      have hg : goesOn l k = (isL l[k] || (decide (0 < k) && isD l[k])) := goes_at hlt
      obtain ⟨c, hc⟩ : ∃ c, l[k] = c := ⟨_, rfl⟩
      rw [hc] at e hg
      have CL := fun W => lxLetter_any c W
      have CD := fun W => lxDigit_any c W
      have HG := hid0 hg
      clear hg hc
      have hki : (k : Int) < (l.length : Int) := by omega
      go_wp2_with (first
        | (go_at_call 21; refine (CL _).mono ?_; rintro e w' ⟨rfl, rfl⟩)
        | (go_at_call 22; refine (CD _).mono ?_; rintro e w' ⟨rfl, rfl⟩)
        | fail)
      all_goals first
        | (exact ⟨⟨k + 1, by omega, by go_num, trivial, hid0 (goes_more hR.out (HG.out.trans (by first | (simp [*]; done) | (simp [*]; omega))))⟩, by simp [intOf]; omega⟩)
        | (go_ret; exact ⟨ret_i64 (by rw [nmS_is hR.out (HG.out.trans (by first | (simp [*]; done) | (simp [*]; omega)))]), rfl⟩)
    · go_wp2
      go_ret
      exact ⟨ret_i64 (by rw [nmS_is hR.out (goes_no (by omega))]), rfl⟩

structure Zcell (w : World) (B : Nat) : Prop where
  cell : w.cell? ⟨B, 0, none⟩ = some (.int .i64 0)
def wdV (x : Wd) : Value := .agg #[.int .i64 (x.k : Nat), .string (txt x.s), .int .u64 (x.n : Nat), .int .i64 (x.p : Nat)]

set_option maxHeartbeats 1000000 in
theorem lxName_any (l : List UInt8) (w : World) (hl : l.length ≤ maxLen) :
    Calls Tryd.prog 24 #[.string (txt l)] w fun e w' => e = .returned (.tuple #[wdV ⟨1, l.take (nmS l), 0, 0⟩, .int .i64 (nmS l : Nat)]) ∧ Below w.heap.size w w' := by
  have CN := fun W => lxNameSize_any l W hl
  unfold maxLen at hl
  have hsz : (txt l).size = l.length := txt_size l
  have hle := nmS_le l
  obtain ⟨n, hn⟩ : ∃ n, nmS l = n := ⟨_, rfl⟩
  rw [hn] at CN hle ⊢
  have hcut : ∀ W : World, (Instr.slice 9 (.string (txt l)) none (some (.int .i64 (n : Int))) none).run Tryd.prog W = .ok (.string (txt (l.take n))) W := fun W => by
    rw [run_slice_string_h W 9 (txt l) Tryd.underlying9 .i64 (n : Int) (by omega) (by rw [txt_size]; omega), txt_cut]
    simp
  go_enter Tryd.func24, Tryd.ntmps24
  go_wp2_with (first | (go_at_call 16; refine (CN _).mono ?_; rintro e w' ⟨rfl, rfl⟩) | fail)
  refine bodyPost_ret (v := .tuple #[wdV ⟨1, l.take n, 0, 0⟩, .int .i64 (n : Int)]) (by simp [results, Tryd.results24, go_sem, wdV]) rfl ⟨rfl, by go_grown⟩
end Go.Proofs.YtfjhkchkiacfpaaDoor
