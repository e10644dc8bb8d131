/- The reference of layer 3: a row's key: a contract of the call, in whatever memory. Conditions: the row's cells are known (what came in reads so). -/
import Derived.Test.YtblleknmofbhiaaRj
namespace Go.Proofs.Ytblleknmofbhiaa
open Go.RowKit

/-- A row's key, none where it may not be. -/
def keyS (l : List Val) : List UInt8 := if rightV l = 0 then encL keyB l else []
theorem key_step {l : List Val} {k : Nat} (h : k < l.length) (x : List UInt8) (e : keyB l[k] = x) : encL keyB (l.take (k + 1)) = encL keyB (l.take k) ++ x := by
  rw [List.take_succ_eq_append_getElem h, encL_append, encL_cons, encL_nil, List.append_nil, e]
theorem keys_len {l : List Val} (h : ∀ v ∈ l, okV v) : (encL keyB l).length ≤ 131 * l.length := by
  induction l with
  | nil => simp [encL]
  | cons x l ih =>
    have h1 := key_len (h x (by simp))
    have h2 := ih (fun v hv => h v (by simp [hv]))
    rw [encL_cons, List.length_append, List.length_cons]; omega
theorem flip63 (u : Nat) (h : u < 18446744073709551616) : u ^^^ 9223372036854775808 = if u < 9223372036854775808 then u + 9223372036854775808 else u - 9223372036854775808 := by
  have h1 : (u ^^^ 2 ^ 63) % 2 ^ 63 = (u % 2 ^ 63) ^^^ (2 ^ 63 % 2 ^ 63) := Nat.xor_mod_two_pow
  have h2 : (u ^^^ 2 ^ 63) / 2 ^ 63 = (u / 2 ^ 63) ^^^ (2 ^ 63 / 2 ^ 63) := Nat.xor_div_two_pow
  rw [show (2 : Nat) ^ 63 = 9223372036854775808 from rfl] at h1 h2
  rw [show (9223372036854775808 : Nat) % 9223372036854775808 = 0 from rfl, Nat.xor_zero] at h1
  rw [show (9223372036854775808 : Nat) / 9223372036854775808 = 1 from rfl] at h2
  by_cases hu : u < 9223372036854775808
  · rw [if_pos hu]
    rw [show u / 9223372036854775808 = 0 by omega, show (0 : Nat) ^^^ 1 = 1 from rfl] at h2
    omega
  · rw [if_neg hu]
    rw [show u / 9223372036854775808 = 1 by omega, show (1 : Nat) ^^^ 1 = 0 from rfl] at h2
    omega
theorem bits_flip (u : Nat) (h : u < 18446744073709551616) : bits BinOp.xor IntKind.u64 (u : Int) 9223372036854775808 = ((if u < 9223372036854775808 then u + 9223372036854775808 else u - 9223372036854775808 : Nat) : Int) := by
  have e : (BitVec.ofInt 64 (u : Int) ^^^ BitVec.ofInt 64 9223372036854775808).toNat = u ^^^ 9223372036854775808 := by
    rw [BitVec.toNat_xor, BitVec.toNat_ofInt, BitVec.toNat_ofInt]
    rw [show ((u : Int) % ((2 ^ 64 : Nat) : Int)).toNat = u by omega]
    rfl
  have e2 : bits BinOp.xor IntKind.u64 (u : Int) 9223372036854775808 = IntKind.u64.wrap ((BitVec.ofInt 64 (u : Int) ^^^ BitVec.ofInt 64 9223372036854775808).toNat : Int) := rfl
  rw [e2, e, flip63 u h, IntKind.wrap_u64]
  split <;> omega
theorem bits_high (n : Int) (h1 : -9223372036854775808 ≤ n) (h2 : n ≤ 9223372036854775807) : bits BinOp.xor IntKind.u64 (IntKind.u64.wrap n) 9223372036854775808 = ((high n : Nat) : Int) := by
  rw [un64_wrap, bits_flip _ (by have := un64_lt n; rwa [pow8] at this)]
  congr 1
  unfold un64 high
  split <;> omega
theorem bits_low (u : Nat) (h : u < 18446744073709551616) : wrap64 (bits BinOp.xor IntKind.u64 (u : Int) 9223372036854775808) = low u := by
  rw [bits_flip u h]
  unfold wrap64 low
  split <;> omega
theorem refWord_high (n : Int) (h1 : -9223372036854775808 ≤ n) (h2 : n ≤ 9223372036854775807) (w : World) :
    Calls Try.prog 23 #[.int .u64 (bits BinOp.xor IntKind.u64 (IntKind.u64.wrap n) 9223372036854775808)] w fun e w' => e = .returned (.string (txt (encBE 8 (high n)))) ∧ Below w.heap.size w w' := by
  rw [bits_high n h1 h2]
  exact refWord_any (high n) w (by have := high_lt h2; rwa [pow8] at this)
theorem esc_append : ∀ a b : List UInt8, esc (a ++ b) = esc a ++ esc b
  | [], b => rfl
  | x :: a, b => by
    by_cases h : x = 0
    · subst h; rw [List.cons_append, esc_zero, esc_zero, esc_append a b]; rfl
    · rw [List.cons_append, esc_more _ h, esc_more _ h, esc_append a b]; rfl
theorem esc_step_zero {t : List UInt8} {j : Nat} (h : j < t.length) (e : t[j] = 0) : esc (t.take (j + 1)) = esc (t.take j) ++ [0, 255] := by
  rw [List.take_succ_eq_append_getElem h, esc_append, e]; rfl
theorem esc_step_more {t : List UInt8} {j : Nat} (h : j < t.length) (e : t[j] ≠ 0) : esc (t.take (j + 1)) = esc (t.take j) ++ [t[j]] := by
  rw [List.take_succ_eq_append_getElem h, esc_append, esc_more _ e]; rfl

set_option maxHeartbeats 4000000 in
set_option maxRecDepth 1000000 in
theorem refKey_any (a : Option Addr) (c : Nat) (l : List Val) (w : World) (h1 : RowAt w a l) (m1 : l.length ≤ maxLen) (hi : ∀ v ∈ l, inI v) :
    Calls Try.prog 17 #[.slice a l.length c] w fun e w' => e = .returned (.tuple #[.string (txt (keyS l)), .int .i64 (rightV l)]) ∧ Below w.heap.size w w' := by
  have R1 := hid0 h1
  have I1 := hid0 hi
  have M1 := hid0 m1
  clear h1 hi m1
  by_cases hr : rightV l = 0
  · obtain ⟨h8, hok⟩ := rightV_ok I1.out hr
    have hs : keyS l = encL keyB l := by unfold keyS; rw [if_pos hr]
    have OK := hid0 hok
    have C1 : ∀ W, RowAt W a l → Calls Try.prog 22 #[.slice a l.length c] W fun e w' => e = .returned (.int .i64 0) ∧ Below W.heap.size W w' := fun W h => by
      have h := refRight_any a c l W h I1.out
      rw [hr] at h
      exact h
    rw [hs, hr]
    clear hok
    have HS := hid0 hs
    have HR := hid0 hr
    clear hs hr
    go_enter Try.func17, Try.ntmps17
    go_wp2_with (go_at_call 22; refine (C1 _ R1.out).mono ?_; rintro e w1 ⟨rfl, hb1⟩)
    clear C1
    go_loopw [5, 6] (fun sv i wr => ∃ k : Nat, k ≤ l.length ∧ i = .int .i64 k ∧ sv = .string (txt (encL keyB (l.take k))) ∧ Below w.heap.size w wr) (fun _ i _ => l.length - (intOf i).toNat)
    case atStart => exact ⟨0, Nat.zero_le _, rfl, rfl, hb1⟩
    case round =>
      obtain ⟨k, hk, rfl, rfl, hB⟩ := hrel
      have hsz := hB.size
      by_cases hlt : k < l.length
      · obtain ⟨b1, o1, rfl, hc1⟩ := (R1.out.later hB) (by intro e; rw [e] at hlt; exact absurd hlt (by simp))
        obtain ⟨p0, p1, p2⟩ := hc1 k hlt
        clear hc1
        have hlen : (encL keyB (l.take k)).length ≤ 131 * k := by
          have h := keys_len (l := l.take k) (fun v hv => OK.out v (List.mem_of_mem_take hv))
          rwa [List.length_take, Nat.min_eq_left hk] at h
        have hsize := size_txt
        have hadd := txt_add
        have hkb : (b1 : Nat) < wr.heap.size := World.block_lt_of_cell? _ _ p0
        rcases okV_cases (OK.out l[k] (List.getElem_mem hlt)) with e | ⟨n, e, h1, h2⟩ | ⟨n, e, hn⟩ | ⟨t, e, ht⟩
        · rw [e] at p0 p1 p2
          have st := hid0 (key_step hlt [1] (by rw [e]; rfl))
          have q0 : wr.cell? ⟨b1, o1 + k * 3, none⟩ = some (.int .i64 0) := p0
          clear p0 p1 p2 e
          have cv : ∀ (W : World) (B : Nat), W.cell? ⟨B, 0, none⟩ = some (.int .u8 1) → (convert 39 9 (.slice (some ⟨B, 0, none⟩) 1 1)).run Try.prog W = .ok (.string (txt [1])) W := conv_nat 1 (by omega)
          go_wp2
          exact ⟨⟨k + 1, by omega, by go_num, by rw [st.out], Below.alloc hB hsz _⟩, by simp [intOf]; omega⟩
        · rw [e] at p0 p1 p2
          have st := hid0 (key_step hlt (2 :: encBE 8 (high n)) (by rw [e]; rfl))
          have hbe := encBE_len 8 (high n)
          have q0 : wr.cell? ⟨b1, o1 + k * 3, none⟩ = some (.int .i64 1) := p0
          have q1 : wr.cell? ⟨b1, o1 + k * 3 + 1, none⟩ = some (.int .i64 n) := p1
          clear p0 p1 p2 e
          have cv : ∀ (W : World) (B : Nat), W.cell? ⟨B, 0, none⟩ = some (.int .u8 2) → (convert 39 9 (.slice (some ⟨B, 0, none⟩) 1 1)).run Try.prog W = .ok (.string (txt [2])) W := conv_nat 2 (by omega)
          go_wp2_with (go_at_call 23; refine (refWord_high n h1 h2 _).mono ?_; rintro e w' ⟨rfl, hbn⟩)
          exact ⟨⟨k + 1, by omega, by go_num, by rw [st.out], below_through hbn (by simp; omega) (Below.alloc hB hsz _)⟩, by simp [intOf]; omega⟩
        · rw [e] at p0 p1 p2
          have st := hid0 (key_step hlt [3, UInt8.ofNat n.toNat] (by rw [e]; rfl))
          have q0 : wr.cell? ⟨b1, o1 + k * 3, none⟩ = some (.int .i64 2) := p0
          have q1 : wr.cell? ⟨b1, o1 + k * 3 + 1, none⟩ = some (.int .i64 n) := p1
          clear p0 p1 p2 e
          have cv0 : ∀ (W : World) (B : Nat), W.cell? ⟨B, 0, none⟩ = some (.int .u8 0) → (convert 39 9 (.slice (some ⟨B, 0, none⟩) 1 1)).run Try.prog W = .ok (.string (txt [0])) W := conv_nat 0 (by omega)
          have cv1 : ∀ (W : World) (B : Nat), W.cell? ⟨B, 0, none⟩ = some (.int .u8 1) → (convert 39 9 (.slice (some ⟨B, 0, none⟩) 1 1)).run Try.prog W = .ok (.string (txt [1])) W := conv_nat 1 (by omega)
          have cv3 : ∀ (W : World) (B : Nat), W.cell? ⟨B, 0, none⟩ = some (.int .u8 3) → (convert 39 9 (.slice (some ⟨B, 0, none⟩) 1 1)).run Try.prog W = .ok (.string (txt [3])) W := conv_nat 3 (by omega)
          rcases hn with rfl | rfl
          all_goals
            go_wp2
            exact ⟨⟨k + 1, by omega, by go_num, by rw [st.out]; rfl, Below.alloc (Below.alloc hB hsz _) (by simp; omega) _⟩, by simp [intOf]; omega⟩
        · rw [e] at p0 p1 p2
          have st := hid0 (key_step hlt (4 :: (esc t ++ [0, 0])) (by rw [e]; exact keyB_text t))
          have q0 : wr.cell? ⟨b1, o1 + k * 3, none⟩ = some (.int .i64 3) := p0
          have q2 : wr.cell? ⟨b1, o1 + k * 3 + 2, none⟩ = some (.string (txt t)) := p2
          clear p0 p1 p2 e
          have cv4 : ∀ (W : World) (B : Nat), W.cell? ⟨B, 0, none⟩ = some (.int .u8 4) → (convert 39 9 (.slice (some ⟨B, 0, none⟩) 1 1)).run Try.prog W = .ok (.string (txt [4])) W := conv_nat 4 (by omega)
          have ha2 : ∀ x : List UInt8, txt x ++ ⟨#[0, 0]⟩ = txt (x ++ [0, 0]) := fun x => txt_add x [0, 0]
          have ha1 : ∀ x : List UInt8, txt x ++ ⟨#[255]⟩ = txt (x ++ [255]) := fun x => txt_add x [255]
          go_wp2_with fail
          have hB0 : Below w.heap.size w (wr.alloc (Obj.cells #[.int .u8 4] 5)) := Below.alloc hB hsz _
          have q2' : (wr.alloc (Obj.cells #[.int .u8 4] 5)).cell? ⟨b1, o1 + k * 3 + 2, none⟩ = some (.string (txt t)) := cell_later ((Below.refl _ _).alloc (Nat.le_refl _) _) q2
          generalize (wr.alloc (Obj.cells #[.int .u8 4] 5)) = W0 at hB0 q2' ⊢
          clear q0 q2 hB
          go_loopw [5, 7] (fun sv i w2 => ∃ j : Nat, j ≤ t.length ∧ i = .int .i64 j ∧ sv = .string (txt (encL keyB (l.take k) ++ (4 :: esc (t.take j)))) ∧ w2 = W0) (fun _ i _ => t.length - (intOf i).toNat)
          case atStart => exact ⟨0, Nat.zero_le _, rfl, rfl, rfl⟩
          case round =>
            obtain ⟨j, hj, rfl, rfl, rfl⟩ := hrel
            have hel : (esc (t.take j)).length ≤ 2 * j := by
              have h := esc_len (t.take j)
              rwa [List.length_take, Nat.min_eq_left hj] at h
            by_cases hjt : j < t.length
            · have hcut : ∀ W : World, (Instr.slice 9 (.string (txt t)) (some (.int .i64 (j : Int))) (some (.int .i64 ((j : Int) + 1))) none).run Try.prog W = .ok (.string (txt [t[j]])) W := fun W => by
                rw [cut_at t _ _ W (by omega) (by omega) (by omega), Int.toNat_natCast, show ((j : Int) + 1).toNat - j = 1 by omega, List.drop_eq_getElem_cons hjt]; rfl
              by_cases hz : t[j] = 0
              · have st2 := hid0 (esc_step_zero hjt hz)
                rw [hz] at hcut
                have hget : ∀ h, (txt t)[j]'h = 0 := fun h => hz
                go_wp2
                exact ⟨⟨j + 1, by omega, by go_num, by rw [st2.out], trivial⟩, by simp [intOf]; omega⟩
              · have st2 := hid0 (esc_step_more hjt hz)
                have hget : ∀ h, (txt t)[j]'h = t[j] := fun h => rfl
                have hz' : ¬ (t[j]).toNat = 0 := fun e => hz (UInt8.toNat_inj.1 e)
                go_wp2
                exact ⟨⟨j + 1, by omega, by go_num, by rw [st2.out], trivial⟩, by simp [intOf]; omega⟩
            · obtain rfl : j = t.length := by omega
              rw [List.take_of_length_le (Nat.le_refl _)]
              rw [List.take_of_length_le (Nat.le_refl _)] at hel
              go_wp2
              exact ⟨⟨k + 1, by omega, by go_num, by rw [st.out], hB0⟩, by simp [intOf]; omega⟩
      · go_wp2
        go_returns
        exact ⟨by rw [List.take_of_length_le (by omega)]; rfl, hB⟩
  · have hs : keyS l = [] := by unfold keyS; rw [if_neg hr]
    rw [hs]
    go_enter Try.func17, Try.ntmps17
    go_wp2_with (go_at_call 22; refine (refRight_any _ _ _ _ R1.out I1.out).mono ?_; rintro e w1 ⟨rfl, hb1⟩)
    go_returns
    exact ⟨rfl, hb1⟩
end Go.Proofs.Ytblleknmofbhiaa
