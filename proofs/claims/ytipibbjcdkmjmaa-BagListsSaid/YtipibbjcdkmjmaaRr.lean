/- How any two rows stand to each other: what the reference's Rows answers, in whatever memory. Conditions: each row is a slice whose elements' cells are known (what came in reads so). -/
import Derived.Test.YtipibbjcdkmjmaaLa
import Derived.Test.YtipibbjcdkmjmaaRc0
import Derived.Deep.RegionHeld3
namespace Go.Proofs.Ytipibbjcdkmjmaa
open Go.RowKit

theorem rows_here (l1 l2 : List Val) (k : Nat) (h1 : k < l1.length) (h2 : k < l2.length) : rowsV (l1.drop k) (l2.drop k) = if cmpT l1[k] l2[k] = 0 then rowsV (l1.drop (k + 1)) (l2.drop (k + 1)) else cmpT l1[k] l2[k] := by
  rw [List.drop_eq_getElem_cons h1, List.drop_eq_getElem_cons h2, rowsV]
theorem rows_more (l1 l2 : List Val) (k : Nat) (h1 : k < l1.length) (h2 : l2.length ≤ k) : rowsV (l1.drop k) (l2.drop k) = 1 := by
  rw [List.drop_eq_getElem_cons h1, List.drop_eq_nil_of_le h2, rowsV]
theorem rows_less (l1 l2 : List Val) (k : Nat) (h1 : l1.length ≤ k) (h2 : k < l2.length) : rowsV (l1.drop k) (l2.drop k) = -1 := by
  rw [List.drop_eq_nil_of_le h1, List.drop_eq_getElem_cons h2, rowsV]
theorem rows_end (l1 l2 : List Val) (k : Nat) (h1 : l1.length ≤ k) (h2 : l2.length ≤ k) : rowsV (l1.drop k) (l2.drop k) = 0 := by
  rw [List.drop_eq_nil_of_le h1, List.drop_eq_nil_of_le h2, rowsV]
theorem rows_go {l1 l2 : List Val} {k : Nat} (h1 : k < l1.length) (h2 : k < l2.length) (h : (cmpV l1[k].k l1[k].n l1[k].s l2[k].k l2[k].n l2[k].s != 0) = false) (hR : rowsV l1 l2 = rowsV (l1.drop k) (l2.drop k)) : rowsV l1 l2 = rowsV (l1.drop (k + 1)) (l2.drop (k + 1)) := by
  rw [hR, rows_here l1 l2 k h1 h2, if_pos (by simpa [cmpT] using h)]
theorem rows_stop {l1 l2 : List Val} {k : Nat} (h1 : k < l1.length) (h2 : k < l2.length) (h : (cmpV l1[k].k l1[k].n l1[k].s l2[k].k l2[k].n l2[k].s != 0) = true) (hR : rowsV l1 l2 = rowsV (l1.drop k) (l2.drop k)) : cmpV l1[k].k l1[k].n l1[k].s l2[k].k l2[k].n l2[k].s = rowsV l1 l2 := by
  rw [hR, rows_here l1 l2 k h1 h2, if_neg (by simpa [cmpT] using h)]; rfl

set_option maxHeartbeats 1000000 in
theorem refRows_any (a1 a2 : Option Addr) (c1 c2 : Nat) (l1 l2 : List Val) (w : World) (h1 : RowAt w a1 l1) (h2 : RowAt w a2 l2) (m1 : l1.length ≤ maxLen) :
    Calls Try.prog 17 #[.slice a1 l1.length c1, .slice a2 l2.length c2] w fun e w' => e = .returned (.int .i64 (rowsV l1 l2)) ∧ Below w.heap.size w w' := by
  unfold maxLen at m1
  have R1 := hid0 h1
  have R2 := hid0 h2
  clear h1 h2
  go_enter Try.func17, Try.ntmps17
  go_wp2
  go_loopw [5] (fun i wr => ∃ k : Nat, k ≤ l1.length ∧ k ≤ l2.length ∧ i = .int .i64 k ∧ Below w.heap.size w wr ∧ Hid (rowsV l1 l2 = rowsV (l1.drop k) (l2.drop k))) (fun i _ => l1.length - (intOf i).toNat)
  case atStart => exact ⟨0, Nat.zero_le _, Nat.zero_le _, rfl, Below.refl _ _, rfl⟩
  case round =>
    obtain ⟨k, hk1, hk2, rfl, hB, hR⟩ := hrel
    have hsz := hB.size
    by_cases hlt : k < l1.length
    · by_cases hlt2 : k < l2.length
      · obtain ⟨b1, o1, rfl, hc1⟩ := (R1.out.later hB) (by intro e; rw [e] at hlt; exact absurd hlt (by simp))
        obtain ⟨b2, o2, rfl, hc2⟩ := (R2.out.later hB) (by intro e; rw [e] at hlt2; exact absurd hlt2 (by simp))
        obtain ⟨p0, p1, p2⟩ := hc1 k hlt
        obtain ⟨q0, q1, q2⟩ := hc2 k hlt2
        have k0 : (0 : Int) ≤ (k : Int) := Int.natCast_nonneg _
        have k1 : (k : Int) < (l1.length : Int) := by omega
        have k2 : (k : Int) < (l2.length : Int) := by omega
        clear hc1 hc2
        go_wp2_with fail
        go_region_held3 (fun w' => w'.cell? ⟨b1, o1 + k * 3, none⟩ = some (.int .i64 (l1[k]).k) ∧ w'.cell? ⟨b1, o1 + k * 3 + 1, none⟩ = some (.int .i64 (l1[k]).n) ∧ w'.cell? ⟨b1, o1 + k * 3 + 2, none⟩ = some (.string (l1[k]).s) ∧
            w'.cell? ⟨b2, o2 + k * 3, none⟩ = some (.int .i64 (l2[k]).k) ∧ w'.cell? ⟨b2, o2 + k * 3 + 1, none⟩ = some (.int .i64 (l2[k]).n) ∧ w'.cell? ⟨b2, o2 + k * 3 + 2, none⟩ = some (.string (l2[k]).s) ∧ Below w.heap.size w w')
          ((go_split_ands; (try dsimp only); (repeat' apply And.intro); all_goals (first
            | assumption
            | exact cell_later hbn ‹_›
            | exact below_through hbn (Below.size ‹Below w.heap.size w _›) ‹_›
            | exact Below.drew hB
            | go_keep)))
          (first
            | (go_at_call 25; refine (refCmp_any _ _ _ _ _ _ _).mono ?_; rintro e wn ⟨rfl, hbn⟩))
        obtain ⟨_, _, _, _, _, _, hBn⟩ := ‹wn.cell? ⟨b1, o1 + k * 3, none⟩ = some (.int .i64 (l1[k]).k) ∧ _›
        go_wp2
        · go_ret
          exact ⟨ret_i64 (rows_stop hlt hlt2 ‹_› hR), hBn⟩
        · exact ⟨⟨k + 1, by omega, by omega, by go_num, hBn, rows_go hlt hlt2 ‹_› hR⟩, by simp [intOf]; omega⟩
      · go_wp2
        go_ret
        exact ⟨ret_i64 (by rw [show rowsV l1 l2 = _ from hR, rows_more l1 l2 k hlt (by omega)]), hB⟩
    · go_wp2
      · go_ret
        exact ⟨ret_i64 (by rw [show rowsV l1 l2 = _ from hR, rows_less l1 l2 k (by omega) (by omega)]), hB⟩
      · go_ret
        exact ⟨ret_i64 (by rw [show rowsV l1 l2 = _ from hR, rows_end l1 l2 k (by omega) (by omega)]), hB⟩

end Go.Proofs.Ytipibbjcdkmjmaa
