/- The project's layer 3: a text's bytes behind what is there, as a key has them, and a value's: contracts of the calls, in whatever memory. Conditions: the slice is nil or the caller's own; the value may be. -/
import Derived.Test.YtblleknmofbhiaaCb
namespace Go.Proofs.Ytblleknmofbhiaa
open Go.RowKit

theorem putWord_high (base : Nat) (v : Value) (l : List UInt8) (n : Int) (h1 : -9223372036854775808 ≤ n) (h2 : n ≤ 9223372036854775807) (w : World) (hbuf : Buf w base v l) (hb : base ≤ w.heap.size) (hl : l.length ≤ 140737488351232) :
    Calls Try.prog 36 #[v, .int .u64 (IntKind.u64.wrap (IntKind.u64.wrap n + 9223372036854775808))] w fun e w' => ∃ v', e = .returned v' ∧ Buf w' base v' (l ++ encBE 8 (high n)) ∧ Kept base w w' := by
  have e : IntKind.u64.wrap (IntKind.u64.wrap n + 9223372036854775808) = ((high n : Nat) : Int) := by
    rw [IntKind.wrap_u64, IntKind.wrap_u64]; unfold high; omega
  rw [e]
  exact putWord_any base v l (high n) w hbuf hb (by have := high_lt h2; rwa [pow8] at this) hl

theorem cells_two (w : World) (a b : Value) (t : TypeId) : (w.alloc (Obj.cells #[a, b] t)).cell? ⟨w.heap.size, 0, none⟩ = some a ∧ (w.alloc (Obj.cells #[a, b] t)).cell? ⟨w.heap.size, 1, none⟩ = some b := ⟨by go_cell, by go_cell⟩

set_option maxHeartbeats 2000000 in
theorem putStopped_any (base : Nat) (v : Value) (l : List UInt8) (t : List UInt8) (w : World) (hbuf : Buf w base v l) (hb : base ≤ w.heap.size) (hl : l.length ≤ 140737488351232) (ht : t.length ≤ 64) :
    Calls Try.prog 43 #[v, .string (txt t)] w fun e w' => ∃ v', e = .returned v' ∧ Buf w' base v' (l ++ (esc t ++ [0, 0])) ∧ Kept base w w' := by
  have hsize := txt_size t
  go_enter Try.func43, Try.ntmps43
  go_wp2
  go_loopw [0, 8] (fun bv i wr => ∃ k : Nat, k ≤ t.length ∧ i = .int .i64 k ∧ Buf wr base bv (l ++ esc (t.take k)) ∧ Kept base w wr) (fun _ i _ => t.length - (intOf i).toNat)
  case atStart => exact ⟨0, by omega, rfl, by simpa [esc] using hbuf, Kept.refl _ _⟩
  case round =>
    obtain ⟨k, hk, rfl, hB, hK⟩ := hrel
    have hsz : base ≤ wr.heap.size := Nat.le_trans hb hK.below.size
    have hel : (esc (t.take k)).length ≤ 2 * k := by
      have h := esc_len (t.take k)
      rwa [List.length_take, Nat.min_eq_left hk] at h
    have hlen : (l ++ esc (t.take k)).length ≤ l.length + 2 * k := by rw [List.length_append]; omega
    have hB1 := fun o => hB.alloc o
    by_cases hlt : k < t.length
    · by_cases hz : t[k] = 0
      · have st2 := hid0 (esc_step_zero hlt hz)
        have hget : ∀ h, (txt t)[k]'h = 0 := fun h => hz
        go_wp2_with (at_builtin; refine wp_put1 rfl _ _ rfl rfl (hB1 _) wr.heap.size rfl 0 (cell_new _ _ _) ?hn ?hl ?hb ?_)
        case hn => rfl
        case hl => omega
        case hb => simp; omega
        intro v1 w1 hB2 hK1
        have hk1 := hK.trans ((Kept.alloc hsz _).trans hK1)
        clear hK1
        have hz1 := hk1.below.size
        have hB3 := fun o => hB2.alloc o
        go_wp2_with (at_builtin; refine wp_put1 rfl _ _ rfl rfl (hB3 _) w1.heap.size rfl 255 (cell_new _ _ _) ?hn2 ?hl2 ?hb2 ?_)
        case hn2 => rfl
        case hl2 => first | omega | (simp; omega)
        case hb2 => first | omega | (simp; omega)
        intro v2 w2 hB4 hK2
        have hk2 := hk1.trans ((Kept.alloc (by omega) _).trans hK2)
        clear hK2
        go_wp2
        refine ⟨⟨k + 1, by omega, by go_num, ?_, hk2⟩, by simp [intOf]; omega⟩
        rw [st2.out]
        simpa using hB4
      · have st2 := hid0 (esc_step_more hlt hz)
        have hget : ∀ h, (txt t)[k]'h = t[k] := fun h => rfl
        have hz' : ¬ (t[k]).toNat = 0 := fun e => hz (UInt8.toNat_inj.1 e)
        go_wp2_with (at_builtin; refine wp_put1 rfl _ _ rfl rfl (hB1 _) wr.heap.size rfl t[k] (cell_new _ _ _) ?hn ?hl ?hb ?_)
        case hn => first | rfl | simp
        case hl => omega
        case hb => simp; omega
        intro v1 w1 hB2 hK1
        have hk1 := hK.trans ((Kept.alloc hsz _).trans hK1)
        clear hK1
        go_wp2
        refine ⟨⟨k + 1, by omega, by go_num, ?_, hk1⟩, by simp [intOf]; omega⟩
        rw [st2.out]
        simpa using hB2
    · obtain rfl : k = t.length := by omega
      rw [List.take_of_length_le (Nat.le_refl _)] at hB hB1 hlen
      go_wp2_with (at_builtin; refine wp_put rfl _ _ rfl rfl (hB1 _) ⟨wr.heap.size, 0, none⟩ 2 2 rfl [0, 0] rfl ?hn ?hl ?hb ?_)
      case hn =>
        intro j u hj
        match j, hj with
        | 0, hj => obtain rfl := Option.some.inj hj; exact (cells_two _ _ _ _).1
        | 1, hj => obtain rfl := Option.some.inj hj; exact (cells_two _ _ _ _).2
        | j + 2, hj => simp [bytesV] at hj
      case hl => simp at hlen ⊢; omega
      case hb => simp; omega
      intro v1 w1 hB2 hK1
      have hk1 := hK.trans ((Kept.alloc hsz _).trans hK1)
      go_wp2
      go_ret
      exact ⟨_, rfl, by simpa using hB2, hk1⟩

set_option maxHeartbeats 2000000 in
theorem putSorted_any (base : Nat) (v : Value) (l : List UInt8) (x : Val) (w : World) (hx : okV x) (hbuf : Buf w base v l) (hb : base ≤ w.heap.size) (hl : l.length ≤ 140737488351000) :
    Calls Try.prog 29 #[v, vA x] w fun e w' => ∃ v', e = .returned v' ∧ Buf w' base v' (l ++ keyB x) ∧ Kept base w w' := by
  rcases okV_cases hx with rfl | ⟨n, rfl, h1, h2⟩ | ⟨n, rfl, hn⟩ | ⟨t, rfl, ht⟩
  · show Calls Try.prog 29 #[v, .agg #[.int .i64 0, .int .i64 0, .string ⟨#[]⟩]] w _
    have hB0 := fun o o' => (hbuf.alloc o).alloc o'
    have hK0 := fun o o' => (Kept.alloc hb o).trans (Kept.alloc (base := base) (w := w.alloc o) (by simp; omega) o')
    go_enter Try.func29, Try.ntmps29
    go_wp2_with (at_builtin; refine wp_put1 rfl _ _ rfl rfl (hB0 _ _) (w.heap.size + 1) rfl 1 (cell_new2 _ _ _ _) ?hn ?hl ?hb ?_)
    case hn => rfl
    case hl => omega
    case hb => simp; omega
    intro v1 w1 hB1 hK1
    have c0 := (((BoxAt.new w 0 0 ⟨#[]⟩).alloc _).kept hK1).c0
    have hk := (hK0 _ _).trans hK1
    clear hK1 hK0 hB0
    go_wp2
    go_ret
    exact ⟨_, rfl, hB1, hk⟩
  · show Calls Try.prog 29 #[v, .agg #[.int .i64 1, .int .i64 n, .string ⟨#[]⟩]] w _
    have hB0 := fun o o' => (hbuf.alloc o).alloc o'
    have hK0 := fun o o' => (Kept.alloc hb o).trans (Kept.alloc (base := base) (w := w.alloc o) (by simp; omega) o')
    rw [keyB_int]
    go_enter Try.func29, Try.ntmps29
    go_wp2_with (at_builtin; refine wp_put1 rfl _ _ rfl rfl (hB0 _ _) (w.heap.size + 1) rfl 2 (cell_new2 _ _ _ _) ?hn ?hl ?hb ?_)
    case hn => rfl
    case hl => omega
    case hb => simp; omega
    intro v1 w1 hB1 hK1
    have X := ((BoxAt.new w 1 n ⟨#[]⟩).alloc _).kept hK1
    have c0 := X.c0
    have c1 := X.c1
    have hk := (hK0 _ _).trans hK1
    clear hK1 hK0 hB0 X
    have hz := hk.below.size
    go_wp2_with (go_at_call 36; go_must (refine (putWord_high base v1 (l ++ [2]) n h1 h2 w1 hB1 (by omega) (by simp; omega)).mono ?_; rintro e w2 ⟨v2, rfl, hB2, hk2⟩))
    go_ret
    exact ⟨_, rfl, by simpa using hB2, hk.trans hk2⟩
  · show Calls Try.prog 29 #[v, .agg #[.int .i64 2, .int .i64 n, .string ⟨#[]⟩]] w _
    have hB0 := fun o o' => (hbuf.alloc o).alloc o'
    have hK0 := fun o o' => (Kept.alloc hb o).trans (Kept.alloc (base := base) (w := w.alloc o) (by simp; omega) o')
    rw [keyB_bool]
    have hw : IntKind.u8.wrap n = n := IntWalk.u8_in _ (by omega)
    go_enter Try.func29, Try.ntmps29
    go_wp2_with (at_builtin; refine wp_put1 rfl _ _ rfl rfl (hB0 _ _) (w.heap.size + 1) rfl 3 (cell_new2 _ _ _ _) ?hn ?hl ?hb ?_)
    case hn => rfl
    case hl => omega
    case hb => simp; omega
    intro v1 w1 hB1 hK1
    have X := ((BoxAt.new w 2 n ⟨#[]⟩).alloc _).kept hK1
    have c0 := X.c0
    have c1 := X.c1
    have hk := (hK0 _ _).trans hK1
    clear hK1 hK0 hB0 X
    have hz := hk.below.size
    have hB1' := fun o => hB1.alloc o
    go_wp2_with (at_builtin; refine wp_put1 rfl _ _ rfl rfl (hB1' _) w1.heap.size rfl (UInt8.ofNat n.toNat) (cell_new _ _ _) ?hn2 ?hl2 ?hb2 ?_)
    case hn2 => rcases hn with rfl | rfl <;> rfl
    case hl2 => first | omega | (simp; omega)
    case hb2 => first | omega | (simp; omega)
    intro v2 w2 hB2 hK2
    have hk2 := hk.trans ((Kept.alloc (by omega) _).trans hK2)
    go_wp2
    go_ret
    exact ⟨_, rfl, by simpa using hB2, hk2⟩
  · show Calls Try.prog 29 #[v, .agg #[.int .i64 3, .int .i64 0, .string (txt t)]] w _
    have hB0 := fun o o' => (hbuf.alloc o).alloc o'
    have hK0 := fun o o' => (Kept.alloc hb o).trans (Kept.alloc (base := base) (w := w.alloc o) (by simp; omega) o')
    rw [keyB_text]
    have hsz : (txt t).size = t.length := txt_size t
    go_enter Try.func29, Try.ntmps29
    go_wp2_with (at_builtin; refine wp_put1 rfl _ _ rfl rfl (hB0 _ _) (w.heap.size + 1) rfl 4 (cell_new2 _ _ _ _) ?hn ?hl ?hb ?_)
    case hn => rfl
    case hl => omega
    case hb => simp; omega
    intro v1 w1 hB1 hK1
    have X := ((BoxAt.new w 3 0 (txt t)).alloc _).kept hK1
    have c0 := X.c0
    have c2 := X.c2
    have hk := (hK0 _ _).trans hK1
    clear hK1 hK0 hB0
    have hz := hk.below.size
    go_wp2_with (go_at_call 43; go_must (refine (putStopped_any base v1 (l ++ [4]) t w1 hB1 (by omega) (by simp; omega) ht).mono ?_; rintro e w2 ⟨v2, rfl, hB2, hk2⟩))
    go_ret
    exact ⟨_, rfl, by simpa using hB2, hk.trans hk2⟩
end Go.Proofs.Ytblleknmofbhiaa
