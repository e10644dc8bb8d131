/- How any two rows stand to each other: what Rows and the reference's Rows answer, as one plain function, and that it is one order. Conditions: each row is a slice whose elements' cells are known (what came in reads so). -/
import Derived.Test.YtojlgiipnnnfgaaDoorWo
import Derived.Deep.RegionHeld3
namespace Go.Proofs.YtojlgiipnnnfgaaDoor
open Go.RowKit

structure Val where
  k : Int
  n : Int
  s : ByteArray

def cmpT (a b : Val) : Int := cmpV a.k a.n a.s b.k b.n b.s
def rowsV : List Val → List Val → Int
  | [], [] => 0
  | [], _ :: _ => -1
  | _ :: _, [] => 1
  | a :: xs, b :: ys => if cmpT a b = 0 then rowsV xs ys else cmpT a b

/-- The cells of a row's elements. -/
def RowAt (w : World) (a : Option Addr) (l : List Val) : Prop :=
  l ≠ [] → ∃ b off, a = some ⟨b, off, none⟩ ∧ ∀ i (h : i < l.length), w.cell? ⟨b, off + i * 3, none⟩ = some (.int .i64 (l[i]).k) ∧ w.cell? ⟨b, off + i * 3 + 1, none⟩ = some (.int .i64 (l[i]).n) ∧ w.cell? ⟨b, off + i * 3 + 2, none⟩ = some (.string (l[i]).s)

theorem RowAt.later {w w' : World} {a : Option Addr} {l : List Val} (h : RowAt w a l) (hb : Below w.heap.size w w') : RowAt w' a l := fun hn => by
  obtain ⟨b, off, e, hc⟩ := h hn
  exact ⟨b, off, e, fun i hi => ⟨cell_later hb (hc i hi).1, cell_later hb (hc i hi).2.1, cell_later hb (hc i hi).2.2⟩⟩

theorem rows_here (l1 l2 : List Val) (k : Nat) (h1 : k < l1.length) (h2 : k < l2.length) : rowsV (l1.drop k) (l2.drop k) = if cmpT l1[k] l2[k] = 0 then rowsV (l1.drop (k + 1)) (l2.drop (k + 1)) else cmpT l1[k] l2[k] := by
  rw [List.drop_eq_getElem_cons h1, List.drop_eq_getElem_cons h2, rowsV]
theorem rows_more (l1 l2 : List Val) (k : Nat) (h1 : k < l1.length) (h2 : l2.length ≤ k) : rowsV (l1.drop k) (l2.drop k) = 1 := by
  rw [List.drop_eq_getElem_cons h1, List.drop_eq_nil_of_le h2, rowsV]
theorem rows_less (l1 l2 : List Val) (k : Nat) (h1 : l1.length ≤ k) (h2 : k < l2.length) : rowsV (l1.drop k) (l2.drop k) = -1 := by
  rw [List.drop_eq_nil_of_le h1, List.drop_eq_getElem_cons h2, rowsV]
theorem rows_end (l1 l2 : List Val) (k : Nat) (h1 : l1.length ≤ k) (h2 : l2.length ≤ k) : rowsV (l1.drop k) (l2.drop k) = 0 := by
  rw [List.drop_eq_nil_of_le h1, List.drop_eq_nil_of_le h2, rowsV]
theorem rows_go {l1 l2 : List Val} {k : Nat} (h1 : k < l1.length) (h2 : k < l2.length) (h : (cmpV l1[k].k l1[k].n l1[k].s l2[k].k l2[k].n l2[k].s != 0) = false) (hR : rowsV l1 l2 = rowsV (l1.drop k) (l2.drop k)) : rowsV l1 l2 = rowsV (l1.drop (k + 1)) (l2.drop (k + 1)) := by
  rw [hR, rows_here l1 l2 k h1 h2, if_pos (by simpa [cmpT] using h)]
theorem rows_stop {l1 l2 : List Val} {k : Nat} (h1 : k < l1.length) (h2 : k < l2.length) (h : (cmpV l1[k].k l1[k].n l1[k].s l2[k].k l2[k].n l2[k].s != 0) = true) (hR : rowsV l1 l2 = rowsV (l1.drop k) (l2.drop k)) : cmpV l1[k].k l1[k].n l1[k].s l2[k].k l2[k].n l2[k].s = rowsV l1 l2 := by
  rw [hR, rows_here l1 l2 k h1 h2, if_neg (by simpa [cmpT] using h)]; rfl

set_option maxHeartbeats 1000000 in
theorem compareFunc_any (a1 a2 : Option Addr) (c1 c2 : Nat) (l1 l2 : List Val) (w : World) (h1 : RowAt w a1 l1) (h2 : RowAt w a2 l2) (m1 : l1.length ≤ maxLen) :
    Calls Tryd.prog 27 #[.slice a1 l1.length c1, .slice a2 l2.length c2, .func (.func 13) #[] #[]] w fun e w' => e = .returned (.int .i64 (rowsV l1 l2)) ∧ Below w.heap.size w w' := by
  unfold maxLen at m1
  have R1 := Lib.hid h1
  have R2 := Lib.hid h2
  clear h1 h2
  go_enter Tryd.func27, Tryd.ntmps27
  go_wp2
  go_loopw [13] (fun i wr => ∃ k : Nat, k ≤ l1.length ∧ k ≤ l2.length ∧ i = .int .i64 k ∧ Below w.heap.size w wr ∧ Hid (rowsV l1 l2 = rowsV (l1.drop k) (l2.drop k))) (fun i _ => l1.length - (intOf i).toNat)
  case atStart => exact ⟨0, Nat.zero_le _, Nat.zero_le _, rfl, Below.refl _ _, rfl⟩
  case round =>
    obtain ⟨k, hk1, hk2, rfl, hB, hR⟩ := hrel
    by_cases hlt : k < l1.length
    · by_cases hlt2 : k < l2.length
      · obtain ⟨b1, o1, rfl, hc1⟩ := (R1.out.later hB) (by intro e; rw [e] at hlt; exact absurd hlt (by simp))
        obtain ⟨b2, o2, rfl, hc2⟩ := (R2.out.later hB) (by intro e; rw [e] at hlt2; exact absurd hlt2 (by simp))
        obtain ⟨p0, p1, p2⟩ := hc1 k hlt
        obtain ⟨q0, q1, q2⟩ := hc2 k hlt2
        have q0a := fun o => cell_later ((Below.refl wr.heap.size wr).alloc (Nat.le_refl _) o) q0
        have q1a := fun o => cell_later ((Below.refl wr.heap.size wr).alloc (Nat.le_refl _) o) q1
        have q2a := fun o => cell_later ((Below.refl wr.heap.size wr).alloc (Nat.le_refl _) o) q2
        clear hc1 hc2 q0 q1 q2
        go_wp2_with (go_at_call 13; refine (cmp_any _ _ _ _ _ _ _).mono ?_; rintro e wn ⟨rfl, hbn⟩)
        · go_ret
          exact ⟨ret_i64 (rows_stop hlt hlt2 ‹_› hR), below_through hbn (by have := hB.size; simp; omega) (Below.alloc (Below.alloc hB (by have := hB.size; omega) _) (by have := hB.size; simp; omega) _)⟩
        · exact ⟨⟨k + 1, by omega, by omega, by go_num, below_through hbn (by have := hB.size; simp; omega) (Below.alloc (Below.alloc hB (by have := hB.size; omega) _) (by have := hB.size; simp; omega) _), rows_go hlt hlt2 ‹_› hR⟩, by simp [intOf]; omega⟩
      · obtain ⟨b1, o1, rfl, hc1⟩ := (R1.out.later hB) (by intro e; rw [e] at hlt; exact absurd hlt (by simp))
        obtain ⟨p0, p1, p2⟩ := hc1 k hlt
        clear hc1
        go_wp2
        go_ret
        exact ⟨ret_i64 (by rw [show rowsV l1 l2 = _ from hR, rows_more l1 l2 k hlt (by omega)]), Below.alloc hB (by have := hB.size; omega) _⟩
    · go_wp2
      · go_ret
        exact ⟨ret_i64 (by rw [show rowsV l1 l2 = _ from hR, rows_less l1 l2 k (by omega) (by omega)]), hB⟩
      · go_ret
        exact ⟨ret_i64 (by rw [show rowsV l1 l2 = _ from hR, rows_end l1 l2 k (by omega) (by omega)]), hB⟩

set_option maxHeartbeats 1000000 in
theorem rows_any (a1 a2 : Option Addr) (c1 c2 : Nat) (l1 l2 : List Val) (w : World) (h1 : RowAt w a1 l1) (h2 : RowAt w a2 l2) (m1 : l1.length ≤ maxLen) :
    Calls Tryd.prog 15 #[.slice a1 l1.length c1, .slice a2 l2.length c2] w fun e w' => e = .returned (.int .i64 (rowsV l1 l2)) ∧ Below w.heap.size w w' := by
  have R1 := Lib.hid h1
  have R2 := Lib.hid h2
  clear h1 h2
  go_enter Tryd.func15, Tryd.ntmps15
  go_wp2_with (go_at_call 27; refine (compareFunc_any _ _ _ _ _ _ _ R1.out R2.out m1).mono ?_; rintro e w' ⟨rfl, hb⟩)
  go_ret
  exact ⟨rfl, hb⟩

set_option maxHeartbeats 1000000 in
theorem refRows_any (a1 a2 : Option Addr) (c1 c2 : Nat) (l1 l2 : List Val) (w : World) (h1 : RowAt w a1 l1) (h2 : RowAt w a2 l2) (m1 : l1.length ≤ maxLen) :
    Calls Tryd.prog 16 #[.slice a1 l1.length c1, .slice a2 l2.length c2] w fun e w' => e = .returned (.int .i64 (rowsV l1 l2)) ∧ Below w.heap.size w w' := by
  unfold maxLen at m1
  have R1 := Lib.hid h1
  have R2 := Lib.hid h2
  clear h1 h2
  go_enter Tryd.func16, Tryd.ntmps16
  go_wp2
  go_loopw [5] (fun i wr => ∃ k : Nat, k ≤ l1.length ∧ k ≤ l2.length ∧ i = .int .i64 k ∧ Below w.heap.size w wr ∧ Hid (rowsV l1 l2 = rowsV (l1.drop k) (l2.drop k))) (fun i _ => l1.length - (intOf i).toNat)
  case atStart => exact ⟨0, Nat.zero_le _, Nat.zero_le _, rfl, Below.refl _ _, rfl⟩
  case round =>
    obtain ⟨k, hk1, hk2, rfl, hB, hR⟩ := hrel
    have hsz := hB.size
    by_cases hlt : k < l1.length
    · by_cases hlt2 : k < l2.length
      · obtain ⟨b1, o1, rfl, hc1⟩ := (R1.out.later hB) (by intro e; rw [e] at hlt; exact absurd hlt (by simp))
        obtain ⟨b2, o2, rfl, hc2⟩ := (R2.out.later hB) (by intro e; rw [e] at hlt2; exact absurd hlt2 (by simp))
        obtain ⟨p0, p1, p2⟩ := hc1 k hlt
        obtain ⟨q0, q1, q2⟩ := hc2 k hlt2
        have k0 : (0 : Int) ≤ (k : Int) := Int.natCast_nonneg _
        have k1 : (k : Int) < (l1.length : Int) := by omega
        have k2 : (k : Int) < (l2.length : Int) := by omega
        clear hc1 hc2
        go_wp2_with fail
        go_region_held3 (fun w' => w'.cell? ⟨b1, o1 + k * 3, none⟩ = some (.int .i64 (l1[k]).k) ∧ w'.cell? ⟨b1, o1 + k * 3 + 1, none⟩ = some (.int .i64 (l1[k]).n) ∧ w'.cell? ⟨b1, o1 + k * 3 + 2, none⟩ = some (.string (l1[k]).s) ∧
            w'.cell? ⟨b2, o2 + k * 3, none⟩ = some (.int .i64 (l2[k]).k) ∧ w'.cell? ⟨b2, o2 + k * 3 + 1, none⟩ = some (.int .i64 (l2[k]).n) ∧ w'.cell? ⟨b2, o2 + k * 3 + 2, none⟩ = some (.string (l2[k]).s) ∧ Below w.heap.size w w')
          ((go_split_ands; (try dsimp only); (repeat' apply And.intro); all_goals (first
            | assumption
            | exact cell_later hbn ‹_›
            | exact below_through hbn (Below.size ‹Below w.heap.size w _›) ‹_›
            | exact Below.drew hB
            | go_keep)))
          (first
            | (go_at_call 14; refine (refCmp_any _ _ _ _ _ _ _).mono ?_; rintro e wn ⟨rfl, hbn⟩))
        obtain ⟨_, _, _, _, _, _, hBn⟩ := ‹wn.cell? ⟨b1, o1 + k * 3, none⟩ = some (.int .i64 (l1[k]).k) ∧ _›
        go_wp2
        · go_ret
          exact ⟨ret_i64 (rows_stop hlt hlt2 ‹_› hR), hBn⟩
        · exact ⟨⟨k + 1, by omega, by omega, by go_num, hBn, rows_go hlt hlt2 ‹_› hR⟩, by simp [intOf]; omega⟩
      · go_wp2
        go_ret
        exact ⟨ret_i64 (by rw [show rowsV l1 l2 = _ from hR, rows_more l1 l2 k hlt (by omega)]), hB⟩
    · go_wp2
      · go_ret
        exact ⟨ret_i64 (by rw [show rowsV l1 l2 = _ from hR, rows_less l1 l2 k (by omega) (by omega)]), hB⟩
      · go_ret
        exact ⟨ret_i64 (by rw [show rowsV l1 l2 = _ from hR, rows_end l1 l2 k (by omega) (by omega)]), hB⟩

theorem cmpT_zero (a b : Val) : cmpT a b = 0 ↔ a = b := by
  obtain ⟨k, n, s⟩ := a
  obtain ⟨k', n', s'⟩ := b
  simp only [cmpT, cmpV_zero, Val.mk.injEq]
theorem cmpT_flip (a b : Val) : cmpT a b = -cmpT b a := cmpV_flip ..
theorem cmpT_trans (a b c : Val) (h1 : cmpT a b ≤ 0) (h2 : cmpT b c ≤ 0) : cmpT a c ≤ 0 := cmpV_trans _ _ _ _ _ _ _ _ _ h1 h2
theorem rowsV_bd : ∀ (l1 l2 : List Val), -1 ≤ rowsV l1 l2 ∧ rowsV l1 l2 ≤ 1
  | [], [] => by simp [rowsV]
  | [], _ :: _ => by simp [rowsV]
  | _ :: _, [] => by simp [rowsV]
  | a :: xs, b :: ys => by
    unfold rowsV
    split
    · exact rowsV_bd xs ys
    · exact cmpV_bd ..
theorem rowsV_flip : ∀ (l1 l2 : List Val), rowsV l1 l2 = -rowsV l2 l1
  | [], [] => by simp [rowsV]
  | [], _ :: _ => by simp [rowsV]
  | _ :: _, [] => by simp [rowsV]
  | a :: xs, b :: ys => by
    unfold rowsV
    have h := cmpT_flip a b
    by_cases h0 : cmpT a b = 0
    · rw [if_pos h0, if_pos (by omega)]
      exact rowsV_flip xs ys
    · rw [if_neg h0, if_neg (by omega)]
      exact h
theorem rowsV_trans : ∀ (l1 l2 l3 : List Val), rowsV l1 l2 ≤ 0 → rowsV l2 l3 ≤ 0 → rowsV l1 l3 ≤ 0
  | [], _, [], _, _ => by simp [rowsV]
  | [], _, _ :: _, _, _ => by simp [rowsV]
  | _ :: _, [], _, h, _ => by simp [rowsV] at h
  | _ :: _, _ :: _, [], _, h => by simp [rowsV] at h
  | a :: xs, b :: ys, c :: zs, h1, h2 => by
    unfold rowsV at h1 h2 ⊢
    by_cases ab : cmpT a b = 0
    · rw [if_pos ab] at h1
      obtain rfl := (cmpT_zero a b).1 ab
      by_cases ac : cmpT a c = 0
      · rw [if_pos ac] at h2 ⊢
        exact rowsV_trans xs ys zs h1 h2
      · rw [if_neg ac] at h2 ⊢
        exact h2
    · rw [if_neg ab] at h1
      by_cases bc : cmpT b c = 0
      · obtain rfl := (cmpT_zero b c).1 bc
        rw [if_neg ab]
        exact h1
      · rw [if_neg bc] at h2
        have ac : cmpT a c ≠ 0 := by
          intro e
          obtain rfl := (cmpT_zero a c).1 e
          have := cmpT_flip a b
          omega
        rw [if_neg ac]
        exact cmpT_trans a b c h1 h2
end Go.Proofs.YtojlgiipnnnfgaaDoor
