/- The reference of layer 3: a row's bytes: a contract of the call, in whatever memory. Conditions: the row's cells are known (what came in reads so). -/
import Derived.Test.YtblleknmofbhiaaRg
namespace Go.Proofs.Ytblleknmofbhiaa
open Go.RowKit

/-- A row's bytes, none where it may not be. -/
def rowS (l : List Val) : List UInt8 := if rightV l = 0 then encL rowB l else []

theorem conv_nat (c : Nat) (h : c < 256) (W : World) (B : Nat) (hc : W.cell? ⟨B, 0, none⟩ = some (.int .u8 (c : Int))) :
    (convert 39 9 (.slice (some ⟨B, 0, none⟩) 1 1)).run Try.prog W = .ok (.string (txt [UInt8.ofNat c])) W :=
  run_convert_bytes_back (P := Try.prog) _ 39 9 5 ⟨B, 0, none⟩ 1 [UInt8.ofNat c] Try.underlying39 Try.underlying5 Try.underlying9 (fun j hj => by
    obtain rfl : j = 0 := by simp at hj; omega
    have e : c % 256 = c := by omega
    simp [WideShapes.add_plain, e, hc])
theorem un64_wrap (n : Int) : IntKind.u64.wrap n = ((un64 n : Nat) : Int) := by rw [IntKind.wrap_u64]; unfold un64; omega
theorem refWord_wrap (n : Int) (w : World) :
    Calls Try.prog 23 #[.int .u64 (IntKind.u64.wrap n)] w fun e w' => e = .returned (.string (txt (encBE 8 (un64 n)))) ∧ Below w.heap.size w w' := by
  rw [un64_wrap]
  exact refWord_any (un64 n) w (by have := un64_lt n; rwa [pow8] at this)
theorem size_txt (l : List UInt8) : (txt l).size = l.length := txt_size l
theorem row_step {l : List Val} {k : Nat} (h : k < l.length) (x : List UInt8) (e : rowB l[k] = x) : encL rowB (l.take (k + 1)) = encL rowB (l.take k) ++ x := by
  rw [List.take_succ_eq_append_getElem h, encL_append, encL_cons, encL_nil, List.append_nil, e]

set_option maxHeartbeats 4000000 in
theorem refRow_any (a : Option Addr) (c : Nat) (l : List Val) (w : World) (h1 : RowAt w a l) (m1 : l.length ≤ maxLen) (hi : ∀ v ∈ l, inI v) :
    Calls Try.prog 11 #[.slice a l.length c] w fun e w' => e = .returned (.tuple #[.string (txt (rowS l)), .int .i64 (rightV l)]) ∧ Below w.heap.size w w' := by
  have R1 := hid0 h1
  have I1 := hid0 hi
  have M1 := hid0 m1
  clear h1 hi m1
  by_cases hr : rightV l = 0
  · obtain ⟨h8, hok⟩ := rightV_ok I1.out hr
    have hs : rowS l = encL rowB l := by unfold rowS; rw [if_pos hr]
    have OK := hid0 hok
    have C1 : ∀ W, RowAt W a l → Calls Try.prog 22 #[.slice a l.length c] W fun e w' => e = .returned (.int .i64 0) ∧ Below W.heap.size W w' := fun W h => by
      have h := refRight_any a c l W h I1.out
      rw [hr] at h
      exact h
    rw [hs, hr]
    clear hok
    have HS := hid0 hs
    have HR := hid0 hr
    clear hs hr
    go_enter Try.func11, Try.ntmps11
    go_wp2_with (go_at_call 22; refine (C1 _ R1.out).mono ?_; rintro e w1 ⟨rfl, hb1⟩)
    clear C1
    go_loopw [5, 6] (fun sv i wr => ∃ k : Nat, k ≤ l.length ∧ i = .int .i64 k ∧ sv = .string (txt (encL rowB (l.take k))) ∧ Below w.heap.size w wr) (fun _ i _ => l.length - (intOf i).toNat)
    case atStart => exact ⟨0, Nat.zero_le _, rfl, rfl, hb1⟩
    case round =>
      obtain ⟨k, hk, rfl, rfl, hB⟩ := hrel
      have hsz := hB.size
      by_cases hlt : k < l.length
      · obtain ⟨b1, o1, rfl, hc1⟩ := (R1.out.later hB) (by intro e; rw [e] at hlt; exact absurd hlt (by simp))
        obtain ⟨p0, p1, p2⟩ := hc1 k hlt
        clear hc1
        have hlen : (encL rowB (l.take k)).length ≤ 66 * k := by
          have h := rows_len (l := l.take k) (fun v hv => OK.out v (List.mem_of_mem_take hv))
          rwa [List.length_take, Nat.min_eq_left hk] at h
        have st := fun x e => row_step hlt x e
        have hsize := size_txt
        have hadd := txt_add
        have hkb : (b1 : Nat) < wr.heap.size := World.block_lt_of_cell? _ _ p0
        rcases okV_cases (OK.out l[k] (List.getElem_mem hlt)) with e | ⟨n, e, h1, h2⟩ | ⟨n, e, hn⟩ | ⟨t, e, ht⟩
        · rw [e] at p0 p1 p2
          have st := st [0] (by rw [e]; rfl)
          have q0 : wr.cell? ⟨b1, o1 + k * 3, none⟩ = some (.int .i64 0) := p0
          clear p0 p1 p2
          have cv : ∀ (W : World) (B : Nat), W.cell? ⟨B, 0, none⟩ = some (.int .u8 0) → (convert 39 9 (.slice (some ⟨B, 0, none⟩) 1 1)).run Try.prog W = .ok (.string (txt [0])) W := conv_nat 0 (by omega)
          go_wp2
          exact ⟨⟨k + 1, by omega, by go_num, by rw [st], Below.alloc hB hsz _⟩, by simp [intOf]; omega⟩
        · rw [e] at p0 p1 p2
          have st := st (1 :: encBE 8 (un64 n)) (by rw [e]; rfl)
          have hbe := encBE_len 8 (un64 n)
          have q0 : wr.cell? ⟨b1, o1 + k * 3, none⟩ = some (.int .i64 1) := p0
          have q1 : wr.cell? ⟨b1, o1 + k * 3 + 1, none⟩ = some (.int .i64 n) := p1
          clear p0 p1 p2
          have cv : ∀ (W : World) (B : Nat), W.cell? ⟨B, 0, none⟩ = some (.int .u8 1) → (convert 39 9 (.slice (some ⟨B, 0, none⟩) 1 1)).run Try.prog W = .ok (.string (txt [1])) W := conv_nat 1 (by omega)
          go_wp2_with (go_at_call 23; refine (refWord_wrap n _).mono ?_; rintro e w' ⟨rfl, hbn⟩)
          exact ⟨⟨k + 1, by omega, by go_num, by rw [st], below_through hbn (by simp; omega) (Below.alloc hB hsz _)⟩, by simp [intOf]; omega⟩
        · rw [e] at p0 p1 p2
          have st := st [2, UInt8.ofNat n.toNat] (by rw [e]; rfl)
          have q0 : wr.cell? ⟨b1, o1 + k * 3, none⟩ = some (.int .i64 2) := p0
          have q1 : wr.cell? ⟨b1, o1 + k * 3 + 1, none⟩ = some (.int .i64 n) := p1
          clear p0 p1 p2
          have cv0 : ∀ (W : World) (B : Nat), W.cell? ⟨B, 0, none⟩ = some (.int .u8 0) → (convert 39 9 (.slice (some ⟨B, 0, none⟩) 1 1)).run Try.prog W = .ok (.string (txt [0])) W := conv_nat 0 (by omega)
          have cv1 : ∀ (W : World) (B : Nat), W.cell? ⟨B, 0, none⟩ = some (.int .u8 1) → (convert 39 9 (.slice (some ⟨B, 0, none⟩) 1 1)).run Try.prog W = .ok (.string (txt [1])) W := conv_nat 1 (by omega)
          have cv2 : ∀ (W : World) (B : Nat), W.cell? ⟨B, 0, none⟩ = some (.int .u8 2) → (convert 39 9 (.slice (some ⟨B, 0, none⟩) 1 1)).run Try.prog W = .ok (.string (txt [2])) W := conv_nat 2 (by omega)
          rcases hn with rfl | rfl
          all_goals
            go_wp2
            exact ⟨⟨k + 1, by omega, by go_num, by rw [st]; rfl, Below.alloc (Below.alloc hB hsz _) (by simp; omega) _⟩, by simp [intOf]; omega⟩
        · rw [e] at p0 p1 p2
          have st := st (3 :: UInt8.ofNat t.length :: t) (by rw [e]; exact rowB_text t)
          have q0 : wr.cell? ⟨b1, o1 + k * 3, none⟩ = some (.int .i64 3) := p0
          have q2 : wr.cell? ⟨b1, o1 + k * 3 + 2, none⟩ = some (.string (txt t)) := p2
          clear p0 p1 p2
          have cv3 : ∀ (W : World) (B : Nat), W.cell? ⟨B, 0, none⟩ = some (.int .u8 3) → (convert 39 9 (.slice (some ⟨B, 0, none⟩) 1 1)).run Try.prog W = .ok (.string (txt [3])) W := conv_nat 3 (by omega)
          have hw : IntKind.u8.wrap (t.length : Int) = (t.length : Int) := IntWalk.u8_in _ (by omega)
          have cvt : ∀ (W : World) (B : Nat), W.cell? ⟨B, 0, none⟩ = some (.int .u8 (t.length : Int)) → (convert 39 9 (.slice (some ⟨B, 0, none⟩) 1 1)).run Try.prog W = .ok (.string (txt [UInt8.ofNat t.length])) W := conv_nat t.length (by omega)
          go_wp2_with fail
          go_region
          go_wp2
          exact ⟨⟨k + 1, by omega, by go_num, by rw [st], Below.drew (Below.alloc (Below.alloc hB hsz _) (by simp; omega) _)⟩, by simp [intOf]; omega⟩
      · go_wp2
        go_returns
        exact ⟨by rw [List.take_of_length_le (by omega)]; rfl, hB⟩
  · have hs : rowS l = [] := by unfold rowS; rw [if_neg hr]
    rw [hs]
    go_enter Try.func11, Try.ntmps11
    go_wp2_with (go_at_call 22; refine (refRight_any _ _ _ _ R1.out I1.out).mono ?_; rintro e w1 ⟨rfl, hb1⟩)
    go_returns
    exact ⟨rfl, hb1⟩
end Go.Proofs.Ytblleknmofbhiaa
