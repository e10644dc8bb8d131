/- What may be a name, the project's answer and the reference's: contracts of the calls, in whatever memory. Conditions: none. -/
import Derived.Test.YtfjhkchkiacfpaaDoorNh
namespace Go.Proofs.YtfjhkchkiacfpaaDoor
open Go.RowKit

theorem refLetter_any (c : UInt8) (w : World) :
    Calls Tryd.prog 17 #[.int .u8 c.toNat] w fun e w' => e = .returned (.bool (isL c)) ∧ w = w' := by
  have h255 := c.toNat_lt
  go_enter Tryd.func17, Tryd.ntmps17
  go_wp2
  all_goals
    go_ret
    refine ⟨ret_bool ?_, rfl⟩
    rw [Bool.eq_iff_iff, isL_iff]
    simp_all
  all_goals omega
theorem refDigit_any (c : UInt8) (w : World) :
    Calls Tryd.prog 23 #[.int .u8 c.toNat] w fun e w' => e = .returned (.bool (isD c)) ∧ w = w' := by
  have h255 := c.toNat_lt
  go_enter Tryd.func23, Tryd.ntmps23
  go_wp2
  all_goals
    go_ret
    refine ⟨ret_bool ?_, rfl⟩
    rw [Bool.eq_iff_iff, isD_iff]
    simp_all
  all_goals omega

theorem ld_more {l : List UInt8} {k : Nat} (h : ∀ j (hj : j < l.length), j < k → isLD l[j] = true) (hk : ∀ h : k < l.length, isLD l[k] = true) : ∀ j (hj : j < l.length), j < k + 1 → isLD l[j] = true := fun j hj h1 => by
  rcases Nat.lt_or_ge j k with g | g
  · exact h j hj g
  · obtain rfl : j = k := by omega
    exact hk hj
theorem isLD_of {c : UInt8} {b : Bool} (h : (isL c || isD c) = b) : isLD c = b := h

set_option maxHeartbeats 1000000 in
theorem refName8_any (l : List UInt8) (w : World) (hl : l.length ≤ maxLen) :
    Calls Tryd.prog 18 #[.string (txt l), .int .i64 0] w fun e w' => e = .returned (.int .i64 (cnt isLD l : Nat)) ∧ w = w' := by
  unfold maxLen at hl
  have hsz : (txt l).size = l.length := txt_size l
  go_enter Tryd.func18, Tryd.ntmps18
  go_wp2
  go_loopw [5] (fun i wr => ∃ k : Nat, k ≤ l.length ∧ i = .int .i64 k ∧ wr = w ∧ Hid (∀ j (hj : j < l.length), j < k → isLD l[j] = true)) (fun i _ => l.length - (intOf i).toNat)
  case atStart => exact ⟨0, Nat.zero_le _, rfl, rfl, hid0 (fun j _ h => absurd h (by omega))⟩
  case round =>
    obtain ⟨k, hk, rfl, rfl, hR⟩ := hrel
    by_cases hlt : k < l.length
    · have hk2 : k < (txt l).size := by omega
      have e : (txt l)[k]'hk2 = l[k] := txt_get l k hk2 hlt
      have HY := hid0 (fun h : isLD l[k] = true => ld_more hR.out (fun _ => h))
      have HN := hid0 (fun h : isLD l[k] = false => cnt_is hR.out hk (fun _ => h))
      obtain ⟨c, hc⟩ : ∃ c, l[k] = c := ⟨_, rfl⟩
      rw [hc] at e HY HN
      have CL := fun W => refLetter_any c W
      have CD := fun W => refDigit_any c W
      clear hc
      have hki : (k : Int) < (l.length : Int) := by omega
      go_wp2_with (first
        | (go_at_call 17; refine (CL _).mono ?_; rintro e w' ⟨rfl, rfl⟩)
        | (go_at_call 23; refine (CD _).mono ?_; rintro e w' ⟨rfl, rfl⟩)
        | fail)
      all_goals first
        | (exact ⟨⟨k + 1, by omega, by go_num, trivial, hid0 (HY.out (isLD_of (by simp [*]; done)))⟩, by simp [intOf]; omega⟩)
        | (go_ret; exact ⟨ret_i64 (by rw [HN.out (isLD_of (by simp [*]; done))]), rfl⟩)
        | trace_state
    · go_wp2
      go_ret
      exact ⟨ret_i64 (by rw [cnt_is hR.out hk (fun h => absurd h hlt)]), rfl⟩

/-- May it be a name? -/
def nameB (l : List UInt8) : Bool := decide (l ≠ []) && decide (l.length ≤ 16) && decide (nmS l = l.length) && !takenB l
theorem nmS_ld {c : UInt8} {r : List UInt8} (h : isL c = true) : nmS (c :: r) = cnt isLD (c :: r) := by
  have h1 : isLD c = true := by unfold isLD; rw [h]; rfl
  show (if isL c then cnt isLD r + 1 else 0) = (if isLD c then cnt isLD r + 1 else 0)
  rw [if_pos h, if_pos h1]
theorem nameB_nil : nameB [] = false := rfl
theorem nameB_long {l : List UInt8} (h : 16 < l.length) : nameB l = false := by
  have : decide (l.length ≤ 16) = false := by simpa using h
  unfold nameB
  rw [this]; simp
theorem nameB_size {l : List UInt8} (h : nmS l ≠ l.length) : nameB l = false := by
  unfold nameB
  rw [decide_eq_false h]; simp
theorem nameB_is {l : List UInt8} (h0 : l ≠ []) (h1 : l.length ≤ 16) (h : nmS l = l.length) : nameB l = !takenB l := by
  unfold nameB
  rw [decide_eq_true h0, decide_eq_true h1, decide_eq_true h]; simp

set_option maxHeartbeats 1000000 in
theorem lxIsName_any (l : List UInt8) (w : World) (hl : l.length ≤ maxLen) :
    Calls Tryd.prog 11 #[.string (txt l)] w fun e w' => e = .returned (.bool (nameB l)) ∧ w = w' := by
  have CN := fun W => lxNameSize_any l W hl
  have CT := fun W => lxTaken_any l W
  unfold maxLen at hl
  have hsz : (txt l).size = l.length := txt_size l
  have tl := txt_toList l
  by_cases h0 : l = []
  · subst h0
    go_enter Tryd.func11, Tryd.ntmps11
    go_wp2
    go_ret
    exact ⟨rfl, rfl⟩
  · have H0 := hid0 h0
    have hE : l.isEmpty = false := by simpa using h0
    rcases Nat.lt_or_ge 16 l.length with h1 | h1
    · have hi : (16 : Int) < (l.length : Int) := by omega
      have HN := hid0 (nameB_long h1)
      go_enter Tryd.func11, Tryd.ntmps11
      go_wp2
      go_ret
      exact ⟨ret_bool HN.out.symm, rfl⟩
    · have hi : ¬ (16 : Int) < (l.length : Int) := by omega
      by_cases h2 : nmS l = l.length
      · have HN := hid0 (nameB_is h0 h1 h2)
        have hb2 : ((nmS l : Int) == (l.length : Int)) = true := by rw [beq_iff_eq, h2]
        clear h0 h2
        go_enter Tryd.func11, Tryd.ntmps11
        go_wp2_with (first
          | (go_at_call 16; refine (CN _).mono ?_; rintro e w' ⟨rfl, rfl⟩)
          | (go_at_call 9; refine (CT _).mono ?_; rintro e w' ⟨rfl, rfl⟩)
          | fail)
        all_goals
          go_ret
          exact ⟨ret_bool HN.out.symm, rfl⟩
      · have HN := hid0 (nameB_size h2)
        have hb2 : ((nmS l : Int) == (l.length : Int)) = false := by rw [beq_eq_false_iff_ne]; omega
        clear h0 h2
        go_enter Tryd.func11, Tryd.ntmps11
        go_wp2_with (first
          | (go_at_call 16; refine (CN _).mono ?_; rintro e w' ⟨rfl, rfl⟩)
          | (go_at_call 9; refine (CT _).mono ?_; rintro e w' ⟨rfl, rfl⟩)
          | fail)
        all_goals
          go_ret
          exact ⟨ret_bool HN.out.symm, rfl⟩

set_option maxHeartbeats 1000000 in
theorem refIsName_any (l : List UInt8) (w : World) (hl : l.length ≤ maxLen) :
    Calls Tryd.prog 12 #[.string (txt l)] w fun e w' => e = .returned (.bool (nameB l)) ∧ w = w' := by
  have CN := fun W => refName8_any l W hl
  have CT := fun W => refTaken_any l W
  unfold maxLen at hl
  have hsz : (txt l).size = l.length := txt_size l
  have tl := txt_toList l
  match l with
  | [] =>
    go_enter Tryd.func12, Tryd.ntmps12
    go_wp2
    go_ret
    exact ⟨rfl, rfl⟩
  | c :: r =>
    have CL := fun W => refLetter_any c W
    have g0 : ∀ h, (txt (c :: r))[0]'h = c := fun h => rfl
    have hl0 : (0 : Int) < ((c :: r).length : Int) := Int.natCast_pos.2 (Nat.succ_pos _)
    have hc0 : (c :: r).length = r.length + 1 := rfl
    obtain ⟨n, hn⟩ : ∃ n, (c :: r).length = n := ⟨_, rfl⟩
    have HC := hid0 hn
    rcases Nat.lt_or_ge 16 (c :: r).length with h1 | h1
    · have HN := hid0 (nameB_long h1)
      rw [hn] at hsz hl0 h1
      have hi : (16 : Int) < (n : Int) := by omega
      clear hn hc0
      go_enter Tryd.func12, Tryd.ntmps12
      go_wp2
      go_ret
      exact ⟨ret_bool HN.out.symm, rfl⟩
    · by_cases hL : isL c = true
      · have hld := nmS_ld (r := r) hL
        by_cases h2 : nmS (c :: r) = (c :: r).length
        · have HN := hid0 (nameB_is (by simp) h1 h2)
          rw [← hld, h2] at CN
          rw [hL] at CL
          rw [hn] at CN hsz hl0 h1
          have hi : ¬ (16 : Int) < (n : Int) := by omega
          clear hn hc0 h2 hld
          go_enter Tryd.func12, Tryd.ntmps12
          go_wp2_with (first
            | (go_at_call 17; refine (CL _).mono ?_; rintro e w' ⟨rfl, rfl⟩)
            | (go_at_call 18; refine (CN _).mono ?_; rintro e w' ⟨rfl, rfl⟩)
            | (go_at_call 10; refine (CT _).mono ?_; rintro e w' ⟨rfl, rfl⟩)
            | fail)
          all_goals
            go_ret
            exact ⟨ret_bool HN.out.symm, rfl⟩
        · have HN := hid0 (nameB_size h2)
          rw [← hld] at CN
          rw [hL] at CL
          rw [hn] at hsz hl0 h1 h2
          obtain ⟨m, hm⟩ : ∃ m, nmS (c :: r) = m := ⟨_, rfl⟩
          rw [hm] at CN h2
          have hi : ¬ (16 : Int) < (n : Int) := by omega
          have hb2 : ((m : Int) == (n : Int)) = false := by rw [beq_eq_false_iff_ne]; omega
          clear hn hc0 h2 hld hm
          go_enter Tryd.func12, Tryd.ntmps12
          go_wp2_with (first
            | (go_at_call 17; refine (CL _).mono ?_; rintro e w' ⟨rfl, rfl⟩)
            | (go_at_call 18; refine (CN _).mono ?_; rintro e w' ⟨rfl, rfl⟩)
            | (go_at_call 10; refine (CT _).mono ?_; rintro e w' ⟨rfl, rfl⟩)
            | fail)
          all_goals
            go_ret
            exact ⟨ret_bool HN.out.symm, rfl⟩
      · have hL' : isL c = false := by simpa using hL
        have HN := hid0 (nameB_size (l := c :: r) (by show (if isL c then cnt isLD r + 1 else 0) ≠ _; rw [if_neg hL]; simp))
        rw [hL'] at CL
        rw [hn] at hsz hl0 h1
        have hi : ¬ (16 : Int) < (n : Int) := by omega
        clear hn hc0
        go_enter Tryd.func12, Tryd.ntmps12
        go_wp2_with (first
          | (go_at_call 17; refine (CL _).mono ?_; rintro e w' ⟨rfl, rfl⟩)
          | fail)
        all_goals
          go_ret
          exact ⟨ret_bool HN.out.symm, rfl⟩
end Go.Proofs.YtfjhkchkiacfpaaDoor
