/- What Print and the reference's Print answer, in whatever memory. Conditions: internal/bytealg.MaxLen holds some integer; strconv's table of powers is laid; the number lies within 64 bits; the text has at most 1048576 bytes. -/
import Derived.Test.YtfjhkchkiacfpaaDoorV1
import Derived.Lib.AppendIntMem
namespace Go.Proofs.YtfjhkchkiacfpaaDoor
open Go.RowKit

theorem digits_any (n : Int) (w : World) (h1 : -9223372036854775808 ≤ n) (h2 : n ≤ 9223372036854775807) :
    Calls Tryd.prog 20 #[.int .i64 n] w fun e w' => e = .returned (.string ⟨(Lib.itoa n).toArray⟩) ∧ Below w.heap.size w w' := by
  by_cases hn : n < 0
  · obtain ⟨u, rfl⟩ : ∃ u : Nat, n = -(u : Int) := ⟨n.natAbs, by omega⟩
    rw [Lib.itoa_neg u (by omega)]
    exact digits_neg u w (by omega) (by omega)
  · obtain ⟨u, rfl⟩ : ∃ u : Nat, n = (u : Int) := ⟨n.toNat, by omega⟩
    rw [Lib.itoa_nonneg]
    exact digits_pos u w h2

theorem countB_small (s : ByteArray) (h : s.size ≤ 1048576) : s.size + Lib.countB s ⟨#[39]⟩ * (ByteArray.mk #[39, 39]).size ≤ 140737488355328 := by
  have := Lib.countB_le ⟨#[39]⟩ (by decide) s.size s (Nat.le_refl _)
  have e : (ByteArray.mk #[39, 39]).size = 2 := rfl
  rw [e]; omega

def quoted (s : ByteArray) : ByteArray := ⟨(dup s.data.toList).toArray⟩
theorem quoted_size (s : ByteArray) (h : s.size ≤ 1048576) : (quoted s).size ≤ 2097152 := by
  have := dup_length s.data.toList
  have e : (quoted s).size = (dup s.data.toList).length := by simp only [quoted, ByteArray.size, List.size_toArray]
  have e2 : s.data.toList.length = s.size := by simp only [ByteArray.size, Array.length_toList]
  omega
theorem print_text (s : ByteArray) : (⟨#[39]⟩ : ByteArray) ++ quoted s ++ ⟨#[39]⟩ = ⟨(39 :: (dup s.data.toList ++ [39])).toArray⟩ := by
  apply WideShapes.bytes_inj
  simp [quoted]

theorem printL_other {k n : Int} {s : ByteArray} (h1 : ¬k = 1) (h2 : ¬k = 2) (h3 : ¬k = 3) : printL k n s = nullB := by rw [printL, if_neg h1, if_neg h2, if_neg h3]

theorem take_snoc (l : List UInt8) (k : Nat) (h : k < l.length) : l.take (k + 1) = l.take k ++ [l[k]] := List.take_succ_eq_append_getElem h

theorem len_data (s : ByteArray) : s.data.toList.length = s.size := by simp only [ByteArray.size, Array.length_toList]
theorem extract_byte (s : ByteArray) (k : Nat) (h : k < s.size) : s.extract k (k + 1) = ⟨[s[k]].toArray⟩ := by
  have h' : k < s.data.toList.length := by rw [len_data]; exact h
  rw [Lib.extract_eq, List.drop_eq_getElem_cons h', show k + 1 - k = 1 from by omega]
  rfl
theorem text_go (s : ByteArray) (k : Nat) (h : k < s.size) (r : List UInt8) (hr : r = 39 :: dup (s.data.toList.take k)) : r ++ dup [s[k]] = 39 :: dup (s.data.toList.take (k + 1)) := by
  have h' : k < s.data.toList.length := by rw [len_data]; exact h
  rw [take_snoc _ _ h', dup_append, hr]
  rfl
theorem text_quote (s : ByteArray) (k : Nat) (h : k < s.size) (r : List UInt8) (hq : (((s[k]).toNat : Int) == 39) = true) : (⟨r.toArray⟩ : ByteArray) ++ ⟨#[39]⟩ ++ s.extract k (k + 1) = ⟨(r ++ dup [s[k]]).toArray⟩ := by
  have e : s[k] = 39 := UInt8.toNat_inj.1 (by simp at hq; simpa using (by omega : (s[k]).toNat = 39))
  rw [extract_byte s k h, e]
  apply WideShapes.bytes_inj
  simp [dup]
theorem text_plain (s : ByteArray) (k : Nat) (h : k < s.size) (r : List UInt8) (hq : (((s[k]).toNat : Int) == 39) = false) : (⟨r.toArray⟩ : ByteArray) ++ s.extract k (k + 1) = ⟨(r ++ dup [s[k]]).toArray⟩ := by
  have e : ¬s[k] = 39 := by intro e; rw [e] at hq; exact absurd hq (by decide)
  rw [extract_byte s k h]
  apply WideShapes.bytes_inj
  simp [dup, e]
theorem val_str {a b : ByteArray} (h : a = b) : Value.string a = .string b := by rw [h]

set_option maxRecDepth 100000 in
set_option maxHeartbeats 1000000 in
theorem refPrint_text (n : Int) (s : ByteArray) (w : World) (hs : s.size ≤ 1048576) :
    Calls Tryd.prog 15 #[.agg #[.int .i64 3, .int .i64 n, .string s]] w fun e w' => e = .returned (.string ⟨(printL 3 n s).toArray⟩) ∧ Below w.heap.size w w' := by
  go_enter Tryd.func15, Tryd.ntmps15
  go_wp2
  go_loop [3, 4] (fun t i => ∃ (k : Nat) (r : List UInt8), k ≤ s.size ∧ i = .int .i64 k ∧ t = .string ⟨r.toArray⟩ ∧ Hid (r = 39 :: dup (s.data.toList.take k))) (fun _ i => s.size - (intOf i).toNat)
  case atStart => exact ⟨0, [39], Nat.zero_le _, rfl, rfl, rfl⟩
  case round =>
    obtain ⟨k, r, hk, rfl, rfl, hr⟩ := hrel
    have hlr : r.length ≤ 2097154 := by
      have := dup_length (s.data.toList.take k)
      have e := List.length_take_le k s.data.toList
      rw [show r = 39 :: dup (s.data.toList.take k) from hr, List.length_cons]
      omega
    by_cases hlt : k < s.size
    · go_wp2
      · exact ⟨⟨k + 1, r ++ dup [s[k]], by omega, by go_num, val_str (text_quote s k hlt r ‹_›), text_go s k hlt r hr⟩, by simp [intOf]; omega⟩
      · exact ⟨⟨k + 1, r ++ dup [s[k]], by omega, by go_num, val_str (text_plain s k hlt r ‹_›), text_go s k hlt r hr⟩, by simp [intOf]; omega⟩
    · go_wp2
      go_ret
      refine ⟨ret_str ?_, by go_grown⟩
      rw [show r = 39 :: dup (s.data.toList.take k) from hr, List.take_of_length_le (by rw [len_data]; omega), print3]
      apply WideShapes.bytes_inj
      simp

set_option maxHeartbeats 1000000 in
theorem refPrint_any (k n : Int) (s : ByteArray) (w : World) (h1 : -9223372036854775808 ≤ n) (h2 : n ≤ 9223372036854775807) (hs : s.size ≤ 1048576) :
    Calls Tryd.prog 15 #[.agg #[.int .i64 k, .int .i64 n, .string s]] w fun e w' => e = .returned (.string ⟨(printL k n s).toArray⟩) ∧ Below w.heap.size w w' := by
  by_cases k1 : k = 1
  · subst k1
    go_enter Tryd.func15, Tryd.ntmps15
    go_wp2_with (go_at_call 20; refine (digits_any _ _ h1 h2).mono ?_; rintro e w' ⟨rfl, hb⟩)
    go_ret
    exact ⟨rfl, below_through hb (by simp) ((Below.refl _ _).alloc (Nat.le_refl _) _)⟩
  by_cases k2 : k = 2
  · subst k2
    go_enter Tryd.func15, Tryd.ntmps15
    go_wp2
    · go_ret
      exact ⟨ret_str (by rw [print2, show (n == 1) = true by first | assumption | (simp; assumption)]; rfl), by go_grown⟩
    · go_ret
      exact ⟨ret_str (by rw [print2, show (n == 1) = false by first | assumption | (simp; assumption)]; rfl), by go_grown⟩
  by_cases k3 : k = 3
  · subst k3
    exact refPrint_text n s w hs
  · have k1' : (k == 1) = false := by simpa using k1
    have k2' : (k == 2) = false := by simpa using k2
    have k3' : (k == 3) = false := by simpa using k3
    go_enter Tryd.func15, Tryd.ntmps15
    go_wp2
    go_ret
    exact ⟨ret_str (by rw [printL_other k1 k2 k3]; rfl), by go_grown⟩
end Go.Proofs.YtfjhkchkiacfpaaDoor
