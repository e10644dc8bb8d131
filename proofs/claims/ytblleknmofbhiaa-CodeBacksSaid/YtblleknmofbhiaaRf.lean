/- The reference of layer 3: whether all of a row's values may be; numbers in eight bytes: contracts of the calls, in whatever memory. Conditions: a row's cells are known (what came in reads so). -/
import Derived.Test.YtblleknmofbhiaaLa
import Derived.Test.YtblleknmofbhiaaMc
import Derived.Deep.RegionHeld3
import Derived.Laws.IdiomStrings
import Derived.Laws.Strings2
namespace Go.Proofs.Ytblleknmofbhiaa
open Go.RowKit

/-! ### A text cut -/
theorem cut_at (l : List UInt8) (i j : Int) (W : World) (h0 : 0 ≤ i) (h1 : i ≤ j) (h2 : j ≤ l.length) :
    (Instr.slice 9 (.string (txt l)) (some (.int .i64 i)) (some (.int .i64 j)) none).run Try.prog W = .ok (.string (txt ((l.drop i.toNat).take (j.toNat - i.toNat)))) W := by
  rw [run_slice_string W 9 (txt l) .i64 .i64 i j Try.underlying9 h0 h1 (by rw [txt_size]; exact h2), txt_cut]
theorem cut_from (l : List UInt8) (i : Int) (W : World) (h0 : 0 ≤ i) (h1 : i ≤ l.length) :
    (Instr.slice 9 (.string (txt l)) (some (.int .i64 i)) none none).run Try.prog W = .ok (.string (txt (l.drop i.toNat))) W := by
  rw [run_slice_string_l W 9 (txt l) Try.underlying9 .i64 i h0 (by rw [txt_size]; exact h1), txt_cut, txt_size, List.take_of_length_le (by rw [List.length_drop]; omega)]

theorem bad_here {l : List Val} {k : Nat} (h : k < l.length) (hb : chk l[k].k l[k].n l[k].s ≠ 0) : firstBad (l.drop k) = chk l[k].k l[k].n l[k].s := by
  rw [List.drop_eq_getElem_cons h, firstBad, if_neg hb]
theorem bad_next {l : List Val} {k : Nat} (h : k < l.length) (hb : chk l[k].k l[k].n l[k].s = 0) : firstBad (l.drop k) = firstBad (l.drop (k + 1)) := by
  rw [List.drop_eq_getElem_cons h, firstBad, if_pos hb]

set_option maxHeartbeats 1000000 in
theorem refRight_any (a : Option Addr) (c : Nat) (l : List Val) (w : World) (h1 : RowAt w a l) (hi : ∀ v ∈ l, inI v) :
    Calls Try.prog 22 #[.slice a l.length c] w fun e w' => e = .returned (.int .i64 (rightV l)) ∧ Below w.heap.size w w' := by
  have R1 := hid0 h1
  have I1 := hid0 hi
  clear h1 hi
  go_enter Try.func22, Try.ntmps22
  go_wp2
  · go_ret
    exact ⟨ret_i64 (by unfold rightV; rw [if_pos (by omega)]), Below.refl _ _⟩
  go_loopw [3] (fun i wr => ∃ k : Nat, k ≤ l.length ∧ i = .int .i64 k ∧ Below w.heap.size w wr ∧ Hid (rightV l = firstBad (l.drop k))) (fun i _ => l.length - (intOf i).toNat)
  case atStart => exact ⟨0, Nat.zero_le _, rfl, Below.refl _ _, hid0 (by unfold rightV; rw [if_neg (by omega)]; rfl)⟩
  case round =>
    obtain ⟨k, hk, rfl, hB, hR⟩ := hrel
    have hsz := hB.size
    by_cases hlt : k < l.length
    · obtain ⟨b1, o1, rfl, hc1⟩ := (R1.out.later hB) (by intro e; rw [e] at hlt; exact absurd hlt (by simp))
      obtain ⟨p0, p1, p2⟩ := hc1 k hlt
      have hss := (I1.out l[k] (List.getElem_mem hlt)).2.2
      clear hc1
      go_wp2_with (go_at_call 37; refine (refCheck_any _ _ _ _ hss).mono ?_; rintro e wn ⟨rfl, hbn⟩)
      · go_ret
        have hb : (chk l[k].k l[k].n l[k].s != 0) = true := by assumption
        exact ⟨ret_i64 (by rw [show rightV l = _ from hR, bad_here hlt (by simpa using hb)]), below_through hbn hsz hB⟩
      · have hb : (chk l[k].k l[k].n l[k].s != 0) = false := by assumption
        exact ⟨⟨k + 1, by omega, by go_num, below_through hbn hsz hB, hid0 (by rw [show rightV l = _ from hR, bad_next hlt (by simpa using hb)])⟩, by simp [intOf]; omega⟩
    · go_wp2
      go_ret
      exact ⟨ret_i64 (by rw [show rightV l = _ from hR, List.drop_eq_nil_of_le (by omega)]; rfl), hB⟩

theorem wrap_u64 (x : Int) (h1 : 0 ≤ x) (h2 : x < 18446744073709551616) : IntKind.u64.wrap x = x := IntWalk.u64_in x ⟨h1, by omega⟩
theorem dec_next (l : List UInt8) (i : Nat) (h : i < l.length) : decBE (l.take (i + 1)) = 256 * decBE (l.take i) + (l[i]).toNat := by
  rw [List.take_succ_eq_append_getElem h, decBE_snoc]

set_option maxHeartbeats 1000000 in
theorem refFixed_any (l : List UInt8) (w : World) (hl : l.length = 8) :
    Calls Try.prog 32 #[.string (txt l)] w fun e w' => e = .returned (.int .u64 (decBE l : Nat)) ∧ w = w' := by
  go_enter Try.func32, Try.ntmps32
  go_wp2
  go_loopw [3, 4] (fun u i wr => ∃ k : Nat, k ≤ 8 ∧ i = .int .i64 k ∧ u = .int .u64 (decBE (l.take k) : Nat) ∧ wr = w) (fun _ i _ => 8 - (intOf i).toNat)
  case atStart => exact ⟨0, by omega, rfl, rfl, rfl⟩
  case round =>
    obtain ⟨k, hk, rfl, rfl, rfl⟩ := hrel
    by_cases hlt : k < 8
    · have hlt' : k < l.length := by omega
      have hb := (l[k]).toNat_lt
      have hd := decBE_lt (l.take k)
      rw [List.length_take, Nat.min_eq_left (by omega)] at hd
      have hp : 256 ^ k ≤ 256 ^ 7 := Nat.pow_le_pow_right (by omega) (by omega)
      have hd' : decBE (l.take k) < 72057594037927936 := by omega
      clear hd hp
      go_wp2
      have hs : k < (txt l).size := by assumption
      have e := txt_get l k hs hlt'
      have e2 : IntKind.u64.wrap ((txt l)[k].toNat : Int) = (l[k].toNat : Int) := by rw [e]; exact wrap_u64 _ (by omega) (by omega)
      refine ⟨⟨k + 1, by omega, by go_num, congrArg _ ?_, trivial⟩, by simp [intOf]; omega⟩
      rw [e2, wrap_u64 _ (by omega) (by omega), dec_next l k hlt']; omega
    · go_wp2
      go_ret
      exact ⟨by rw [List.take_of_length_le (by omega)]; rfl, rfl⟩
end Go.Proofs.Ytblleknmofbhiaa
