/- The project's layer 3: a number in eight bytes behind what is there, and a value's bytes behind what is there: contracts of the calls, in whatever memory. Conditions: the slice is nil or the caller's own; the value may be. -/
import Derived.Test.YtblleknmofbhiaaCa
import Derived.Test.YtblleknmofbhiaaRk
import Derived.Test.YtblleknmofbhiaaRh
namespace Go.Proofs.Ytblleknmofbhiaa
open Go.RowKit

theorem cell_new (w : World) (v : Value) (t : TypeId) : (w.alloc (Obj.cells #[v] t)).cell? ⟨w.heap.size, 0, none⟩ = some v := by go_cell
theorem cell_new2 (w : World) (o : Obj) (v : Value) (t : TypeId) : ((w.alloc o).alloc (Obj.cells #[v] t)).cell? ⟨w.heap.size + 1, 0, none⟩ = some v := by go_cell
theorem shr_byte (u m : Nat) : (u : Int) / 2 ^ (8 * m) % 256 = ((UInt8.ofNat (u / 256 ^ m)).toNat : Int) := by
  rw [u8_ofNat, Nat.pow_mul 2 8 m |> fun h => (by exact_mod_cast h : (2 : Int) ^ (8 * m) = ((256 ^ m : Nat) : Int))]
  omega
theorem encBE_at (u k : Nat) (h : k < 8) : (encBE 8 u)[k]'(by rw [encBE_len]; exact h) = UInt8.ofNat (u / 256 ^ (7 - k)) := by
  have e : encBE 8 u = [UInt8.ofNat (u / 256 ^ 7), UInt8.ofNat (u / 256 ^ 6), UInt8.ofNat (u / 256 ^ 5), UInt8.ofNat (u / 256 ^ 4), UInt8.ofNat (u / 256 ^ 3), UInt8.ofNat (u / 256 ^ 2), UInt8.ofNat (u / 256), UInt8.ofNat u] := by
    simp [encBE, Nat.div_div_eq_div_mul]
  rcases (by omega : k = 0 ∨ k = 1 ∨ k = 2 ∨ k = 3 ∨ k = 4 ∨ k = 5 ∨ k = 6 ∨ k = 7) with rfl | rfl | rfl | rfl | rfl | rfl | rfl | rfl
  all_goals simp [e]
theorem encBE_next (u k : Nat) (h : k < 8) : (encBE 8 u).take (k + 1) = (encBE 8 u).take k ++ [UInt8.ofNat (u / 256 ^ (7 - k))] := by
  rw [List.take_succ_eq_append_getElem (by rw [encBE_len]; exact h), encBE_at u k h]

set_option maxHeartbeats 2000000 in
theorem putWord_any (base : Nat) (v : Value) (l : List UInt8) (u : Nat) (w : World) (hbuf : Buf w base v l) (hb : base ≤ w.heap.size) (hu : u < 18446744073709551616) (hl : l.length ≤ 140737488351232) :
    Calls Try.prog 36 #[v, .int .u64 (u : Int)] w fun e w' => ∃ v', e = .returned v' ∧ Buf w' base v' (l ++ encBE 8 u) ∧ Kept base w w' := by
  have HU := hid0 hu
  clear hu
  go_enter Try.func36, Try.ntmps36
  go_wp2
  go_loopw [0, 6] (fun bv i wr => ∃ k : Nat, k ≤ 8 ∧ i = .int .i64 k ∧ Buf wr base bv (l ++ (encBE 8 u).take k) ∧ Kept base w wr) (fun _ i _ => 8 - (intOf i).toNat)
  case atStart => exact ⟨0, by omega, rfl, by simpa using hbuf, Kept.refl _ _⟩
  case round =>
    obtain ⟨k, hk, rfl, hB, hK⟩ := hrel
    by_cases hlt : k < 8
    · have hsz : base ≤ wr.heap.size := Nat.le_trans hb hK.below.size
      have hlen : (l ++ (encBE 8 u).take k).length ≤ l.length + 8 := by rw [List.length_append, List.length_take, encBE_len]; omega
      have hB1 := fun o => hB.alloc o
      go_wp2_with (at_builtin; refine wp_put1 rfl _ _ rfl rfl (hB1 _) wr.heap.size rfl (UInt8.ofNat (u / 256 ^ (7 - k))) (cell_new _ _ _) ?hn ?hl ?hb ?_)
      case hn => exact shr_byte u _
      case hl => omega
      case hb => simp; omega
      intro v' w' hB' hK'
      go_wp2
      refine ⟨⟨k + 1, by omega, by go_num, ?_, hK.trans ((Kept.alloc hsz _).trans hK')⟩, by simp [intOf]; omega⟩
      rw [encBE_next u k hlt]
      simpa using hB'
    · go_wp2
      go_ret
      refine ⟨_, rfl, ?_, hK⟩
      rwa [List.take_of_length_le (by rw [encBE_len]; omega)] at hB

theorem putWord_wrap (base : Nat) (v : Value) (l : List UInt8) (n : Int) (w : World) (hbuf : Buf w base v l) (hb : base ≤ w.heap.size) (hl : l.length ≤ 140737488351232) :
    Calls Try.prog 36 #[v, .int .u64 (IntKind.u64.wrap n)] w fun e w' => ∃ v', e = .returned v' ∧ Buf w' base v' (l ++ encBE 8 (un64 n)) ∧ Kept base w w' := by
  rw [un64_wrap]
  exact putWord_any base v l (un64 n) w hbuf hb (by have := un64_lt n; rwa [pow8] at this) hl
/-- A value that lies in a block of its own. -/
def BoxAt (w : World) (B : Nat) (x : Val) : Prop := w.heap[B]? = some (Obj.cells #[.int .i64 x.k, .int .i64 x.n, .string x.s] 38 (0, 0))
theorem BoxAt.new (w : World) (k n : Int) (s : ByteArray) : BoxAt (w.alloc (Obj.cells #[.int .i64 k, .int .i64 n, .string s] 38)) w.heap.size ⟨k, n, s⟩ := heap_alloc_new w _
theorem BoxAt.lt {w : World} {B : Nat} {x : Val} (h : BoxAt w B x) : B < w.heap.size := (Array.getElem?_eq_some_iff.1 h).1
theorem BoxAt.alloc {w : World} {B : Nat} {x : Val} (h : BoxAt w B x) (o : Obj) : BoxAt (w.alloc o) B x := (Below.heap_alloc w o B h.lt).trans h
theorem BoxAt.kept {w w' : World} {base B : Nat} {x : Val} (h : BoxAt w B x) (hK : Kept base w w') : BoxAt w' B x := hK.other B _ _ 38 (by decide) h
theorem BoxAt.c0 {w : World} {B : Nat} {x : Val} (h : BoxAt w B x) : w.cell? ⟨B, 0, none⟩ = some (.int .i64 x.k) := by
  unfold BoxAt at h; simp [World.cell?, h]
theorem BoxAt.c1 {w : World} {B : Nat} {x : Val} (h : BoxAt w B x) : w.cell? ⟨B, 1, none⟩ = some (.int .i64 x.n) := by
  unfold BoxAt at h; simp [World.cell?, h]
theorem BoxAt.c2 {w : World} {B : Nat} {x : Val} (h : BoxAt w B x) : w.cell? ⟨B, 2, none⟩ = some (.string x.s) := by
  unfold BoxAt at h; simp [World.cell?, h]

set_option maxHeartbeats 2000000 in
theorem putPlain_any (base : Nat) (v : Value) (l : List UInt8) (x : Val) (w : World) (hx : okV x) (hbuf : Buf w base v l) (hb : base ≤ w.heap.size) (hl : l.length ≤ 140737488351000) :
    Calls Try.prog 21 #[v, vA x] w fun e w' => ∃ v', e = .returned v' ∧ Buf w' base v' (l ++ rowB x) ∧ Kept base w w' := by
  rcases okV_cases hx with rfl | ⟨n, rfl, h1, h2⟩ | ⟨n, rfl, hn⟩ | ⟨t, rfl, ht⟩
  · show Calls Try.prog 21 #[v, .agg #[.int .i64 0, .int .i64 0, .string ⟨#[]⟩]] w _
    have hB0 := fun o o' => (hbuf.alloc o).alloc o'
    have hK0 := fun o o' => (Kept.alloc hb o).trans (Kept.alloc (base := base) (w := w.alloc o) (by simp; omega) o')
    go_enter Try.func21, Try.ntmps21
    go_wp2_with (at_builtin; refine wp_put1 rfl _ _ rfl rfl (hB0 _ _) (w.heap.size + 1) rfl 0 (cell_new2 _ _ _ _) ?hn ?hl ?hb ?_)
    case hn => rfl
    case hl => omega
    case hb => simp; omega
    intro v1 w1 hB1 hK1
    have c0 := (((BoxAt.new w 0 0 ⟨#[]⟩).alloc _).kept hK1).c0
    have hk := (hK0 _ _).trans hK1
    clear hK1 hK0 hB0
    go_wp2
    go_ret
    exact ⟨_, rfl, hB1, hk⟩
  · show Calls Try.prog 21 #[v, .agg #[.int .i64 1, .int .i64 n, .string ⟨#[]⟩]] w _
    have hB0 := fun o o' => (hbuf.alloc o).alloc o'
    have hK0 := fun o o' => (Kept.alloc hb o).trans (Kept.alloc (base := base) (w := w.alloc o) (by simp; omega) o')
    rw [rowB_int]
    go_enter Try.func21, Try.ntmps21
    go_wp2_with (at_builtin; refine wp_put1 rfl _ _ rfl rfl (hB0 _ _) (w.heap.size + 1) rfl 1 (cell_new2 _ _ _ _) ?hn ?hl ?hb ?_)
    case hn => rfl
    case hl => omega
    case hb => simp; omega
    intro v1 w1 hB1 hK1
    have X := ((BoxAt.new w 1 n ⟨#[]⟩).alloc _).kept hK1
    have c0 := X.c0
    have c1 := X.c1
    have hk := (hK0 _ _).trans hK1
    clear hK1 hK0 hB0 X
    have hz := hk.below.size
    go_wp2_with (go_at_call 36; go_must (refine (putWord_wrap base v1 (l ++ [1]) n w1 hB1 (by omega) (by simp; omega)).mono ?_; rintro e w2 ⟨v2, rfl, hB2, hk2⟩))
    go_ret
    exact ⟨_, rfl, by simpa using hB2, hk.trans hk2⟩
  · show Calls Try.prog 21 #[v, .agg #[.int .i64 2, .int .i64 n, .string ⟨#[]⟩]] w _
    have hB0 := fun o o' => (hbuf.alloc o).alloc o'
    have hK0 := fun o o' => (Kept.alloc hb o).trans (Kept.alloc (base := base) (w := w.alloc o) (by simp; omega) o')
    rw [rowB_bool]
    have hw : IntKind.u8.wrap n = n := IntWalk.u8_in _ (by omega)
    go_enter Try.func21, Try.ntmps21
    go_wp2_with (at_builtin; refine wp_put1 rfl _ _ rfl rfl (hB0 _ _) (w.heap.size + 1) rfl 2 (cell_new2 _ _ _ _) ?hn ?hl ?hb ?_)
    case hn => rfl
    case hl => omega
    case hb => simp; omega
    intro v1 w1 hB1 hK1
    have X := ((BoxAt.new w 2 n ⟨#[]⟩).alloc _).kept hK1
    have c0 := X.c0
    have c1 := X.c1
    have hk := (hK0 _ _).trans hK1
    clear hK1 hK0 hB0 X
    have hz := hk.below.size
    have hB1' := fun o => hB1.alloc o
    go_wp2_with (at_builtin; refine wp_put1 rfl _ _ rfl rfl (hB1' _) w1.heap.size rfl (UInt8.ofNat n.toNat) (cell_new _ _ _) ?hn2 ?hl2 ?hb2 ?_)
    case hn2 => rcases hn with rfl | rfl <;> rfl
    case hl2 => first | omega | (simp; omega)
    case hb2 => first | omega | (simp; omega)
    intro v2 w2 hB2 hK2
    have hk2 := hk.trans ((Kept.alloc (by omega) _).trans hK2)
    go_wp2
    go_ret
    exact ⟨_, rfl, by simpa using hB2, hk2⟩
  · show Calls Try.prog 21 #[v, .agg #[.int .i64 3, .int .i64 0, .string (txt t)]] w _
    have hB0 := fun o o' => (hbuf.alloc o).alloc o'
    have hK0 := fun o o' => (Kept.alloc hb o).trans (Kept.alloc (base := base) (w := w.alloc o) (by simp; omega) o')
    rw [rowB_text]
    have hsz : (txt t).size = t.length := txt_size t
    go_enter Try.func21, Try.ntmps21
    go_wp2_with (at_builtin; refine wp_put1 rfl _ _ rfl rfl (hB0 _ _) (w.heap.size + 1) rfl 3 (cell_new2 _ _ _ _) ?hn ?hl ?hb ?_)
    case hn => rfl
    case hl => omega
    case hb => simp; omega
    intro v1 w1 hB1 hK1
    have X := ((BoxAt.new w 3 0 (txt t)).alloc _).kept hK1
    have c0 := X.c0
    have c2 := X.c2
    have hk := (hK0 _ _).trans hK1
    clear hK1 hK0 hB0
    have hz := hk.below.size
    have hB1' := fun o => hB1.alloc o
    go_wp2_with (at_builtin; refine wp_put1 rfl _ _ rfl rfl (hB1' _) w1.heap.size rfl (UInt8.ofNat t.length) (cell_new _ _ _) ?hn2 ?hl2 ?hb2 ?_)
    case hn2 => first | omega | (rw [u8_ofNat]; omega)
    case hl2 => first | omega | (simp; omega)
    case hb2 => first | omega | (simp; omega)
    intro v2 w2 hB2 hK2
    have hk2 := hk.trans ((Kept.alloc (by omega) _).trans hK2)
    have d2 := ((X.alloc _).kept hK2).c2
    clear hK2 X
    have hz2 := hk2.below.size
    go_wp2_with (at_builtin; refine wp_puts rfl _ _ rfl rfl hB2 t rfl ?hl3 ?hb3 ?_)
    case hl3 => first | omega | (simp; omega)
    case hb3 => omega
    intro v3 w3 hB3 hK3
    have hk3 := hk2.trans hK3
    go_wp2
    go_ret
    exact ⟨_, rfl, by simpa using hB3, hk3⟩
end Go.Proofs.Ytblleknmofbhiaa
