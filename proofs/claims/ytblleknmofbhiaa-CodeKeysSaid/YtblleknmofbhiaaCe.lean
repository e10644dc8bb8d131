/- The project's layer 3: whether all of a row's values may be, and a row's bytes by whatever function puts a value's: contracts of the calls, in whatever memory. Conditions: a row's cells are known (what came in reads so); what the function puts. -/
import Derived.Test.YtblleknmofbhiaaCd
import Derived.Shelf.Abstract
namespace Go.Proofs.Ytblleknmofbhiaa
open Go.RowKit

set_option maxHeartbeats 1000000 in
theorem rowCheck_any (a : Option Addr) (c : Nat) (l : List Val) (w : World) (h1 : RowAt w a l) (hi : ∀ v ∈ l, inI v) :
    Calls Try.prog 35 #[.slice a l.length c] w fun e w' => e = .returned (.int .i64 (rightV l)) ∧ Below w.heap.size w w' := by
  have R1 := hid0 h1
  have I1 := hid0 hi
  clear h1 hi
  go_enter Try.func35, Try.ntmps35
  go_wp2
  · go_ret
    exact ⟨ret_i64 (by unfold rightV; rw [if_pos (by omega)]), Below.refl _ _⟩
  go_loopw [11] (fun i wr => ∃ k : Nat, k ≤ l.length ∧ i = .int .i64 k ∧ Below w.heap.size w wr ∧ Hid (rightV l = firstBad (l.drop k))) (fun i _ => l.length - (intOf i).toNat)
  case atStart => exact ⟨0, Nat.zero_le _, rfl, Below.refl _ _, hid0 (by unfold rightV; rw [if_neg (by omega)]; rfl)⟩
  case round =>
    obtain ⟨k, hk, rfl, hB, hR⟩ := hrel
    have hsz := hB.size
    by_cases hlt : k < l.length
    · obtain ⟨b1, o1, rfl, hc1⟩ := (R1.out.later hB) (by intro e; rw [e] at hlt; exact absurd hlt (by simp))
      obtain ⟨p0, p1, p2⟩ := hc1 k hlt
      have hss := (I1.out l[k] (List.getElem_mem hlt)).2.2
      clear hc1
      go_wp2_with (go_at_call 38; refine (check_any _ _ _ _ hss).mono ?_; rintro e wn ⟨rfl, hbn⟩)
      · go_ret
        have hb : (chk l[k].k l[k].n l[k].s != 0) = true := by assumption
        exact ⟨ret_i64 (by rw [show rightV l = _ from hR, bad_here hlt (by simpa using hb)]), below_through hbn (by simp; omega) (Below.alloc hB hsz _)⟩
      · have hb : (chk l[k].k l[k].n l[k].s != 0) = false := by assumption
        exact ⟨⟨k + 1, by omega, by go_num, below_through hbn (by simp; omega) (Below.alloc hB hsz _), hid0 (by rw [show rightV l = _ from hR, bad_next hlt (by simpa using hb)])⟩, by simp [intOf]; omega⟩
    · go_wp2
      go_ret
      exact ⟨ret_i64 (by rw [show rightV l = _ from hR, List.drop_eq_nil_of_le (by omega)]; rfl), hB⟩

/-- What a function that puts a value's bytes must do. -/
def Puts (f : Nat) (enc : Val → List UInt8) : Prop :=
  ∀ (base : Nat) (v : Value) (l : List UInt8) (x : Val) (w : World), okV x → Buf w base v l → base ≤ w.heap.size → l.length ≤ 140737488351000 →
    Calls Try.prog f #[v, vA x] w fun e w' => ∃ v', e = .returned v' ∧ Buf w' base v' (l ++ enc x) ∧ Kept base w w'
theorem enters_plain : Enters Try.prog 21 := enters_of Try.func21 (by kernel_rfl) rfl
theorem enters_sorted : Enters Try.prog 29 := enters_of Try.func29 (by kernel_rfl) rfl
theorem puts_plain : Puts 21 rowB := putPlain_any
theorem puts_sorted : Puts 29 keyB := putSorted_any

theorem enc_step {enc : Val → List UInt8} {l : List Val} {k : Nat} (h : k < l.length) : encL enc (l.take (k + 1)) = encL enc (l.take k) ++ enc l[k] := by
  rw [List.take_succ_eq_append_getElem h, encL_append, encL_cons, encL_nil, List.append_nil]
theorem enc_len {enc : Val → List UInt8} {l : List Val} (h : ∀ v ∈ l, (enc v).length ≤ 131) : (encL enc l).length ≤ 131 * l.length := by
  induction l with
  | nil => simp [encL]
  | cons x l ih =>
    have h1 := h x (by simp)
    have h2 := ih (fun v hv => h v (by simp [hv]))
    rw [encL_cons, List.length_append, List.length_cons]; omega

set_option maxHeartbeats 2000000 in
theorem write_any (f : Nat) (enc : Val → List UInt8) (he : Enters Try.prog f) (hf : Puts f enc) (hlen : ∀ v, okV v → (enc v).length ≤ 131) (a : Option Addr) (c : Nat) (l : List Val) (w : World) (h1 : RowAt w a l) (hi : ∀ v ∈ l, inI v) :
    Calls Try.prog 20 #[.slice a l.length c, .func (.func f) #[] #[]] w fun e w' => e = .returned (.tuple #[.string (txt (if rightV l = 0 then encL enc l else [])), .int .i64 (rightV l)]) ∧ Below w.heap.size w w' := by
  have R1 := hid0 h1
  have I1 := hid0 hi
  have HF := hid0 hf
  have HL := hid0 hlen
  clear h1 hi hf hlen
  by_cases hr : rightV l = 0
  · obtain ⟨h8, hok⟩ := rightV_ok I1.out hr
    have OK := hid0 hok
    have C1 : ∀ W, RowAt W a l → Calls Try.prog 35 #[.slice a l.length c] W fun e w' => e = .returned (.int .i64 0) ∧ Below W.heap.size W w' := fun W h => by
      have h := rowCheck_any a c l W h I1.out
      rw [hr] at h
      exact h
    rw [if_pos hr, hr]
    have HR := hid0 hr
    clear hok hr
    go_enter Try.func20, Try.ntmps20
    go_wp2_with (go_at_call 35; refine (C1 _ R1.out).mono ?_; rintro e w1 ⟨rfl, hb1⟩)
    clear C1
    go_loopw [7, 17] (fun bv i wr => ∃ k : Nat, k ≤ l.length ∧ i = .int .i64 k ∧ Buf wr w.heap.size bv (encL enc (l.take k)) ∧ Below w.heap.size w wr) (fun _ i _ => l.length - (intOf i).toNat)
    case atStart => exact ⟨0, Nat.zero_le _, rfl, Buf.nil _ _, hb1⟩
    case round =>
      obtain ⟨k, hk, rfl, hB, hW⟩ := hrel
      have hsz := hW.size
      by_cases hlt : k < l.length
      · obtain ⟨b1, o1, rfl, hc1⟩ := (R1.out.later hW) (by intro e; rw [e] at hlt; exact absurd hlt (by simp))
        obtain ⟨p0, p1, p2⟩ := hc1 k hlt
        clear hc1
        have hel : (encL enc (l.take k)).length ≤ 131 * k := by
          have h := enc_len (enc := enc) (l := l.take k) (fun v hv => HL.out v (OK.out v (List.mem_of_mem_take hv)))
          rwa [List.length_take, Nat.min_eq_left hk] at h
        have C2 := fun W hB hs => HF.out w.heap.size u7 (encL enc (l.take k)) l[k] W (OK.out l[k] (List.getElem_mem hlt)) hB hs (by omega)
        have hen : ∀ args w, Sem.run Try.prog (callFunc f args) w = .ok (.enter f args) w := he
        go_wp2_with (go_at_fn f; refine (C2 _ (hB.alloc _) (by simp; omega)).mono ?_; rintro e w2 ⟨v2, rfl, hB2, hK2⟩)
        refine ⟨⟨k + 1, by omega, by go_num, by rw [enc_step hlt]; exact hB2, (Below.alloc hW hsz _).trans hK2.below⟩, by simp [intOf]; omega⟩
      · have hcv := hB.conv
        go_wp2
        go_returns
        rw [List.take_of_length_le (by omega)]
        exact ⟨rfl, hW⟩
  · rw [if_neg hr]
    go_enter Try.func20, Try.ntmps20
    go_wp2_with (go_at_call 35; refine (rowCheck_any _ _ _ _ R1.out I1.out).mono ?_; rintro e w1 ⟨rfl, hb1⟩)
    go_returns
    exact ⟨rfl, hb1⟩
end Go.Proofs.Ytblleknmofbhiaa
