/- slices.Min of names, and the project's ready: contracts of the calls. Conditions: the lists' cells are known. -/
import Derived.Test.YtadlelhdjakmmaaN5
namespace Go.Proofs.Ytadlelhdjakmmaa
open Go.RowKit

theorem less_ltN : ∀ (x y : List UInt8), Op.bytesLess x y = decide (x < y)
  | [], [] => by simp [Op.bytesLess]
  | _ :: _, [] => by simp [Op.bytesLess]
  | [], _ :: _ => by simp [Op.bytesLess]
  | a :: x, b :: y => by
    rw [Op.bytesLess, less_ltN x y]
    simp only [List.cons_lt_cons_iff]
    by_cases h1 : a < b <;> by_cases h2 : a = b <;> by_cases h3 : x < y <;> simp [h1, h2, h3]
theorem less_gb (x y : ByteArray) : Op.bytesLess x.toList y.toList = decide (gb x < gb y) := by
  rw [less_ltN, ByteArray.toList_eq, ByteArray.toList_eq]
  rfl
def minS (x y : ByteArray) : ByteArray := if gb y < gb x then y else x
theorem toList_gb {x y : ByteArray} (h : x.toList = y.toList) : x = y := by
  rw [ByteArray.toList_eq, ByteArray.toList_eq] at h
  exact ByteArray.ext (Array.ext' h)
theorem run_minS {P : Program} (w : World) (ts : Array TypeId) (t : TypeId) (x y : ByteArray) : (Builtin.min_ ts t #[.string x, .string y]).run P w = .ok (.string (minS x y)) w := by
  have h := less_gb x y
  unfold minS
  by_cases hc : gb y < gb x
  · rw [if_pos hc]
    simp [Builtin.min_, Builtin.min2, Op.stringOp, asBool]
    rintro (h1 | h1)
    · rw [h1] at h
      exact absurd (List.lt_trans hc (of_decide_eq_true h.symm)) (List.lt_irrefl _)
    · exact toList_gb h1
  · rw [if_neg hc]
    simp [Builtin.min_, Builtin.min2, Op.stringOp, asBool]
    intro h1 h2
    rw [h1] at h
    have h3 := of_decide_eq_false h.symm
    exact absurd (gb_inj (List.le_antisymm (List.not_lt.1 h3) (List.not_lt.1 hc))) (fun e => h2 (by rw [e]))
/-- The least of some names. -/
structure LeastS (l : List ByteArray) (m : ByteArray) : Prop where
  mem : m ∈ l
  least : ∀ y ∈ l, ¬ gb y < gb m
theorem LeastS.one {l : List ByteArray} (h : 0 < l.length) : LeastS (l.take 1) l[0] := by
  match l, h with
  | x :: t, _ => exact ⟨by simp, fun y hy => by simp at hy; rw [hy]; exact List.lt_irrefl _⟩
theorem LeastS.snoc {l : List ByteArray} {m : ByteArray} {i : Nat} (h : LeastS (l.take i) m) (hi : i < l.length) : LeastS (l.take (i + 1)) (minS m l[i]) := by
  rw [List.take_succ_eq_append_getElem hi]
  unfold minS
  split
  · rename_i hlt
    refine ⟨List.mem_append_right _ (List.mem_singleton_self _), fun y hy hc => ?_⟩
    rcases List.mem_append.1 hy with hy | hy
    · exact h.least y hy (List.lt_trans hc hlt)
    · rw [List.mem_singleton.1 hy] at hc
      exact absurd hc (List.lt_irrefl _)
  · rename_i hlt
    refine ⟨List.mem_append_left _ h.mem, fun y hy hc => ?_⟩
    rcases List.mem_append.1 hy with hy | hy
    · exact h.least y hy hc
    · rw [List.mem_singleton.1 hy] at hc
      exact hlt hc
set_option maxHeartbeats 1000000 in
set_option maxRecDepth 100000 in
theorem minS_any (a : Option Addr) (c : Nat) (l : List ByteArray) (w : World) (h : StrsA w a l) (hl : l.length ≤ 100000000) (hp : 0 < l.length) :
    Calls Try.prog 22 #[.slice a l.length c] w fun e w' => (∃ m, e = .returned (.string m) ∧ LeastS l m) ∧ w' = w := by
  obtain ⟨b, o, rfl, hc⟩ := h.out (fun e => by rw [e] at hp; exact absurd hp (by simp))
  have HC := hid0 hc
  have q0 : w.cell? ⟨b, o, none⟩ = some (.string l[0]) := hc 0 hp
  have H1 := hid0 (LeastS.one hp)
  generalize l[0] = x0 at q0 H1
  obtain ⟨n, hn⟩ : ∃ n, l.length = n := ⟨_, rfl⟩
  have HN := hid0 hn
  rw [hn] at hl hp ⊢
  have g0 : ¬ (n : Int) < 1 := by omega
  clear h hn hc
  go_enter Try.func22, Try.ntmps22
  go_wp2
  go_loopw [3, 4] (fun mv iv wr => ∃ (i : Nat) (m : ByteArray), i ≤ n ∧ iv = .int .i64 i ∧ mv = .string m ∧ Hid (LeastS (l.take i) m) ∧ wr = w) (fun _ iv _ => n - (intOf iv).toNat)
  case atStart => exact ⟨1, x0, hp, rfl, rfl, H1, rfl⟩
  case round =>
    clear H1
    obtain ⟨i, m, hi, rfl, rfl, hO, rfl⟩ := hrel
    by_cases hlt : i < n
    · have g1 : i < l.length := by rw [HN.out]; exact hlt
      have q1 := HC.out i g1
      have HE := hid0 (hO.out.snoc g1)
      generalize l[i] = y at q1 HE
      have hmn := run_minS (P := Try.prog) wr #[9, 9] 9 m y
      generalize minS m y = z at HE hmn
      clear hO
      go_wp2
      exact ⟨⟨i + 1, z, by omega, by go_num, rfl, HE, trivial⟩, by simp [intOf]; omega⟩
    · have hie : ¬ (i : Int) < n := by omega
      have HE := hid0 (show LeastS l m by have := hO.out; rwa [List.take_of_length_le (by rw [HN.out]; omega)] at this)
      clear hO
      go_wp2
      go_ret
      exact ⟨⟨_, rfl, HE.out⟩, rfl⟩
end Go.Proofs.Ytadlelhdjakmmaa
