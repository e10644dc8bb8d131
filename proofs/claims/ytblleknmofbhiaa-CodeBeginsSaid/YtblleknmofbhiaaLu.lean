/- The walks of the laws CodeBegins and CodeUnlike: they return true, and below the heap's end memory is as it was. Conditions: the rows' cells are known (what came in reads so). -/
import Derived.Test.YtblleknmofbhiaaLw
namespace Go.Proofs.Ytblleknmofbhiaa
open Go.RowKit

theorem rowhead_at {w : World} {a : Option Addr} {l : List Val} (k : Nat) (h : RowAt w a l) : RowAt w a (l.take k) := fun hne => by
  obtain ⟨b, off, e, hc⟩ := h (fun e => hne (by simp [e]))
  exact ⟨b, off, e, fun i hi => by
    have hi' : i < l.length := by rw [List.length_take] at hi; omega
    rw [List.getElem_take]; exact hc i hi'⟩
theorem rowtail_at {w : World} {a : Option Addr} {l : List Val} (k : Nat) (h : RowAt w a l) : RowAt w (a.map (·.add (k * 3))) (l.drop k) := fun hne => by
  obtain ⟨b, off, rfl, hc⟩ := h (fun e => hne (by simp [e]))
  refine ⟨b, off + k * 3, by simp [WideShapes.add_plain], fun i hi => ?_⟩
  have hi' : k + i < l.length := by rw [List.length_drop] at hi; omega
  have := hc (k + i) hi'
  rw [List.getElem_drop]
  rw [show off + k * 3 + i * 3 = off + (k + i) * 3 by omega]
  exact this
theorem rowtail_here {w : World} {a : Option Addr} {l : List Val} (k : Nat) (h : l.length ≤ k) : RowAt w a (l.drop k) := fun hne => absurd (List.drop_eq_nil_of_le h) hne
theorem rows_head (a : Option Addr) (l : List Val) (c k : Nat) (hk : k ≤ l.length) (hc : l.length ≤ c) :
    ∃ a1 k1, (l.take k).length = k1 ∧ (∀ W : World, (Instr.slice 22 (.slice a l.length c) none (some (.int .i64 k)) none).run Try.prog W = .ok (.slice a1 k1 c) W) ∧ ∀ W, RowAt W a l → RowAt W a1 (l.take k) := by
  refine ⟨a, _, rfl, fun W => ?_, fun W h => rowhead_at k h⟩
  rw [run_slice_h W 22 a l.length c Try.underlying22 .i64 k (by omega) (by omega)]
  rw [List.length_take, Nat.min_eq_left hk]
  simp [go_sem, Result.andThen, sliced]
theorem rows_tail (a : Option Addr) (l : List Val) (c k : Nat) (hk : k ≤ l.length) (hc : l.length ≤ c) :
    ∃ a1 c1 k1, (l.drop k).length = k1 ∧ (∀ W : World, (Instr.slice 22 (.slice a l.length c) (some (.int .i64 k)) none none).run Try.prog W = .ok (.slice a1 k1 c1) W) ∧ ∀ W, RowAt W a l → RowAt W a1 (l.drop k) := by
  refine ⟨if c = k then a else a.map (·.add (k * 3)), c - k, _, rfl, fun W => ?_, fun W h => ?_⟩
  · rw [run_slice_l W 22 a l.length c Try.underlying22 .i64 k (by omega) (by omega)]
    simp [go_sem, Result.andThen, sliced]
  · split
    · exact rowtail_here k (by omega)
    · exact rowtail_at k h
theorem text_head (l : List UInt8) (k : Nat) (W : World) (h : k ≤ l.length) :
    (Instr.slice 9 (.string (txt l)) none (some (.int .i64 k)) none).run Try.prog W = .ok (.string (txt (l.take k))) W := by
  rw [run_slice_string_h W 9 (txt l) Try.underlying9 .i64 k (by omega) (by rw [txt_size]; omega), txt_cut]
  simp

theorem codeRow_part (a : Option Addr) (n c : Nat) (l : List Val) (w : World) (h1 : RowAt w a l) (hn : l.length = n) (m1 : l.length ≤ maxLen) (hi : ∀ v ∈ l, inI v) :
    Calls Try.prog 10 #[.slice a n c] w fun e w' => e = .returned (.tuple #[.string (txt (rowS l)), .int .i64 (rightV l)]) ∧ Below w.heap.size w w' := by subst hn; exact codeRow_any a c l w h1 m1 hi
theorem refRows_part (a1 a2 : Option Addr) (n c1 c2 : Nat) (l1 l2 : List Val) (w : World) (h1 : RowAt w a1 l1) (h2 : RowAt w a2 l2) (hn : l2.length = n) (m1 : l1.length ≤ maxLen) :
    Calls Try.prog 14 #[.slice a1 l1.length c1, .slice a2 n c2] w fun e w' => e = .returned (.int .i64 (rowsV l1 l2)) ∧ Below w.heap.size w w' := by subst hn; exact refRows_any a1 a2 c1 c2 l1 l2 w h1 h2 m1

set_option maxHeartbeats 4000000 in
theorem lawCodeBegins (a1 a2 : Option Addr) (c1 c2 : Nat) (l1 l2 : List Val) (w : World) (h1 : RowAt w a1 l1) (h2 : RowAt w a2 l2) (m1 : l1.length ≤ maxLen) (m2 : l2.length ≤ maxLen) (hc2 : l2.length ≤ c2) (hi1 : ∀ v ∈ l1, inI v) (hi2 : ∀ v ∈ l2, inI v) :
    Calls Try.prog 8 #[.slice a1 l1.length c1, .slice a2 l2.length c2] w fun e w' => e = .returned (.bool true) ∧ Below w.heap.size w w' := by
  have R1 := hid0 h1
  have R2 := hid0 h2
  have M1 := hid0 m1
  have M2 := hid0 m2
  have I1 := hid0 hi1
  have I2 := hid0 hi2
  clear h1 h2 m1 m2 hi1 hi2
  go_enter Try.func8, Try.ntmps8
  go_wp2_with fail
  refine (codeKey_any a1 c1 l1 _ R1.out M1.out I1.out).mono ?_
  rintro e w1 ⟨rfl, hb1⟩
  go_wp2_with fail
  refine (codeKey_any a2 c2 l2 _ (R2.out.later hb1) M2.out I2.out).mono ?_
  rintro e w2 ⟨rfl, hb⟩
  have hb2 := hb1.trans (hb.mono hb1.size)
  clear hb
  by_cases g1 : rightV l1 = 0
  · by_cases g2 : rightV l2 = 0
    · obtain ⟨h8a, ok1⟩ := rightV_ok I1.out g1
      obtain ⟨h8b, ok2⟩ := rightV_ok I2.out g2
      rw [g1, g2]
      have B := begins_iff ok1 ok2
      rw [← keyS_ok g1, ← keyS_ok g2] at B
      have hs1 := txt_size (keyS l1)
      have hs2 := txt_size (keyS l2)
      have hq1 := keyS_len I1.out
      have hq2 := keyS_len I2.out
      have T1 := hid0 (R1.out.later hb2)
      have T2 := hid0 (R2.out.later hb2)
      by_cases hle : l1.length ≤ l2.length
      · obtain ⟨a3, k3, e3, s3, r3⟩ := rows_head a2 l2 c2 l1.length hle hc2
        have E3 := hid0 e3
        have RR := hid0 r3
        clear e3 r3
        rw [Nat.min_eq_left hle] at B
        have hlei : (l1.length : Int) ≤ (l2.length : Int) := by omega
        go_wp2_with fail
        refine (refRows_part _ _ _ _ _ l1 (l2.take l1.length) _ T1.out (RR.out _ T2.out) E3.out M1.out).mono ?_
        rintro e w3 ⟨rfl, hb⟩
        have hb3 := hb2.trans (hb.mono hb2.size)
        clear hb
        by_cases hke : (keyS l1).length ≤ (keyS l2).length
        · have hcut : ∀ W : World, (Instr.slice 9 (.string (txt (keyS l2))) none (some (.int .i64 ((keyS l1).length : Int))) none).run Try.prog W = .ok (.string (txt ((keyS l2).take (keyS l1).length))) W := fun W => text_head _ _ W hke
          have hkei : ((keyS l1).length : Int) ≤ ((keyS l2).length : Int) := by omega
          rw [Nat.min_eq_left hke] at B
          have E : ((txt ((keyS l2).take (keyS l1).length)).toList == (txt (keyS l1)).toList) = (rowsV l1 (l2.take l1.length) == 0) := by
            rw [ByteArray.toList_eq, ByteArray.toList_eq, Bool.eq_iff_iff, beq_iff_eq, beq_iff_eq]
            exact ⟨fun e => (B.2 ⟨hke, e⟩).2, fun e => (B.1 ⟨hle, e⟩).2⟩
          clear B ok1 ok2
          go_wp2_with (go_at_call 13; refine (awake_any _).mono ?_; rintro e w4 ⟨rfl, hb⟩)
          go_ret
          exact ⟨ret_bool (by simp), hb3.trans (hb.mono hb3.size)⟩
        · have E : (rowsV l1 (l2.take l1.length) == 0) = false := by
            rw [beq_eq_false_iff_ne]
            exact fun e => hke (B.1 ⟨hle, e⟩).1
          have hkei : ((keyS l2).length : Int) < ((keyS l1).length : Int) := by omega
          clear B ok1 ok2
          go_wp2_with (go_at_call 13; refine (awake_any _).mono ?_; rintro e w4 ⟨rfl, hb⟩)
          go_ret
          exact ⟨ret_bool (by simp), hb3.trans (hb.mono hb3.size)⟩
      · have hlei : (l2.length : Int) < (l1.length : Int) := by omega
        by_cases hke : (keyS l1).length ≤ (keyS l2).length
        · have hcut : ∀ W : World, (Instr.slice 9 (.string (txt (keyS l2))) none (some (.int .i64 ((keyS l1).length : Int))) none).run Try.prog W = .ok (.string (txt ((keyS l2).take (keyS l1).length))) W := fun W => text_head _ _ W hke
          have hkei : ((keyS l1).length : Int) ≤ ((keyS l2).length : Int) := by omega
          rw [Nat.min_eq_left hke] at B
          have E : ((txt ((keyS l2).take (keyS l1).length)).toList == (txt (keyS l1)).toList) = false := by
            rw [ByteArray.toList_eq, ByteArray.toList_eq, beq_eq_false_iff_ne]
            exact fun e => hle (B.2 ⟨hke, e⟩).1
          clear B ok1 ok2
          go_wp2_with (go_at_call 13; refine (awake_any _).mono ?_; rintro e w4 ⟨rfl, hb⟩)
          go_ret
          exact ⟨ret_bool (by simp), hb2.trans (hb.mono hb2.size)⟩
        · have hkei : ((keyS l2).length : Int) < ((keyS l1).length : Int) := by omega
          clear B ok1 ok2
          go_wp2_with (go_at_call 13; refine (awake_any _).mono ?_; rintro e w4 ⟨rfl, hb⟩)
          go_ret
          exact ⟨ret_bool (by simp), hb2.trans (hb.mono hb2.size)⟩
    · have g2' : (rightV l2 != 0) = true := by simpa using g2
      rw [g1]
      go_wp2_with (go_at_call 13; refine (awake_any _).mono ?_; rintro e w4 ⟨rfl, hb⟩)
      go_ret
      exact ⟨rfl, hb2.trans (hb.mono hb2.size)⟩
  · have g1' : (rightV l1 != 0) = true := by simpa using g1
    go_wp2_with (go_at_call 13; refine (awake_any _).mono ?_; rintro e w4 ⟨rfl, hb⟩)
    go_ret
    exact ⟨rfl, hb2.trans (hb.mono hb2.size)⟩

set_option maxHeartbeats 4000000 in
theorem lawCodeUnlike (a1 a2 : Option Addr) (c1 c2 : Nat) (l1 l2 : List Val) (n : Int) (w : World) (h1 : RowAt w a1 l1) (h2 : RowAt w a2 l2) (m1 : l1.length ≤ maxLen) (m2 : l2.length ≤ maxLen) (hc1 : l1.length ≤ c1) (hr1 : l1.length ≤ 140737488351232) (hi1 : ∀ v ∈ l1, inI v) (hi2 : ∀ v ∈ l2, inI v) (n0 : 0 ≤ n) (n1 : n ≤ 255) :
    Calls Try.prog 9 #[.slice a1 l1.length c1, .slice a2 l2.length c2, .int .u8 n] w fun e w' => e = .returned (.bool true) ∧ Below w.heap.size w w' := by
  have R1 := hid0 h1
  have R2 := hid0 h2
  have M1 := hid0 m1
  have M2 := hid0 m2
  have I1 := hid0 hi1
  have I2 := hid0 hi2
  clear h1 h2 m1 m2 hi1 hi2
  go_enter Try.func9, Try.ntmps9
  go_wp2_with fail
  refine (codeRow_any a1 c1 l1 _ R1.out M1.out I1.out).mono ?_
  rintro e w1 ⟨rfl, hb1⟩
  go_wp2_with fail
  refine (codeRow_any a2 c2 l2 _ (R2.out.later hb1) M2.out I2.out).mono ?_
  rintro e w2 ⟨rfl, hb⟩
  have hb2 := hb1.trans (hb.mono hb1.size)
  clear hb
  obtain ⟨kk, hkk⟩ : ∃ kk : Nat, n % ((l1.length : Int) + 1) = kk := ⟨(n % ((l1.length : Int) + 1)).toNat, by have := Int.emod_nonneg n (show (l1.length : Int) + 1 ≠ 0 by omega); omega⟩
  have hkl : kk ≤ l1.length := by have := Int.emod_lt_of_pos n (show (0 : Int) < l1.length + 1 by omega); omega
  obtain ⟨b1, k1, e1, s1, r1⟩ := rows_head a1 l1 c1 kk hkl hc1
  obtain ⟨b2, d2, k2, e2, s2, r2⟩ := rows_tail a1 l1 c1 kk hkl hc1
  have E1 := hid0 e1
  have E2 := hid0 e2
  have RH := hid0 r1
  have RT := hid0 r2
  clear e1 e2 r1 r2
  go_wp2_with fail
  refine (codeRow_part b1 k1 c1 (l1.take kk) _ (RH.out _ (R1.out.later hb2)) E1.out (by have := M1.out; rw [List.length_take]; omega) (fun v hv => I1.out v (List.mem_of_mem_take hv))).mono ?_
  rintro e w3 ⟨rfl, hb⟩
  have hb3 := hb2.trans (hb.mono hb2.size)
  clear hb
  go_wp2_with fail
  refine (codeRow_part b2 k2 d2 (l1.drop kk) _ (RT.out _ (R1.out.later hb3)) E2.out (by have := M1.out; rw [List.length_drop]; omega) (fun v hv => I1.out v (List.mem_of_mem_drop hv))).mono ?_
  rintro e w4 ⟨rfl, hb⟩
  have hb4 := hb3.trans (hb.mono hb3.size)
  clear hb
  by_cases g1 : rightV l1 = 0
  · by_cases g2 : rightV l2 = 0
    · obtain ⟨h8a, ok1⟩ := rightV_ok I1.out g1
      obtain ⟨h8b, ok2⟩ := rightV_ok I2.out g2
      have g3 := rightV_take kk g1 I1.out
      have g4 := rightV_drop kk g1 I1.out
      have B := rows_same ok1 ok2
      rw [← rowS_ok g1, ← rowS_ok g2] at B
      have E : ((txt (rowS l1)).toList == (txt (rowS l2)).toList) = (rowsV l1 l2 == 0) := by
        rw [ByteArray.toList_eq, ByteArray.toList_eq, Bool.eq_iff_iff, beq_iff_eq, beq_iff_eq]; exact B
      have A : txt (rowS (l1.take kk)) ++ txt (rowS (l1.drop kk)) = txt (rowS l1) := by
        rw [txt_add, rowS_ok g1, rowS_ok g3, rowS_ok g4, ← encL_append, List.take_append_drop]
      have hs1 := txt_size (rowS l1)
      have hq1 := rowS_len I1.out
      have hs3 := txt_size (rowS (l1.take kk))
      have hs4 := txt_size (rowS (l1.drop kk))
      have hq3 := rowS_len (l := l1.take kk) (fun v hv => I1.out v (List.mem_of_mem_take hv))
      have hq4 := rowS_len (l := l1.drop kk) (fun v hv => I1.out v (List.mem_of_mem_drop hv))
      have hqi : ((rowS l1).length : Int) ≤ 600 := by omega
      rw [g1, g2, g3, g4]
      clear B ok1 ok2
      go_wp2_with fail
      refine (awake_any _).mono ?_
      rintro e w5 ⟨rfl, hb⟩
      have hb5 := hb4.trans (hb.mono hb4.size)
      clear hb
      go_wp2_with fail
      refine (refRows_any _ _ _ _ l1 l2 _ (R1.out.later hb5) (R2.out.later hb5) M1.out).mono ?_
      rintro e w6 ⟨rfl, hb⟩
      have hb6 := hb5.trans (hb.mono hb5.size)
      clear hb
      go_wp2
      go_ret
      exact ⟨ret_bool (by simp), hb6⟩
    · have g2' : (rightV l2 != 0) = true := by simpa using g2
      rw [g1]
      go_wp2_with (go_at_call 13; refine (awake_any _).mono ?_; rintro e w4 ⟨rfl, hb⟩)
      go_ret
      exact ⟨rfl, hb4.trans (hb.mono hb4.size)⟩
  · have g1' : (rightV l1 != 0) = true := by simpa using g1
    go_wp2_with (go_at_call 13; refine (awake_any _).mono ?_; rintro e w4 ⟨rfl, hb⟩)
    go_ret
    exact ⟨rfl, hb4.trans (hb.mono hb4.size)⟩
end Go.Proofs.Ytblleknmofbhiaa
