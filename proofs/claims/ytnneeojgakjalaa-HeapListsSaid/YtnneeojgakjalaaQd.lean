/- The reference of layer 5: whether a row of so many bytes fits: a contract of the call, in whatever memory. Conditions: the slots' cells are known. -/
import Derived.Test.YtnneeojgakjalaaQc
import Derived.Deep.RegionHeld3
namespace Go.Proofs.Ytnneeojgakjalaa
open Go.RowKit

def fitsB (p : Pg) (n : Int) : Bool := rightB p && decide (0 ≤ n) && decide (n ≤ 1024) && decide (n + (if placeP p = p.length then 4 else 0) ≤ 1024 - (sizeP p : Int))
theorem fitsB_iff (p : Pg) (n : Int) : fitsB p n = true ↔ fitsP p n := by
  unfold fitsB fitsP
  simp only [Bool.and_eq_true, decide_eq_true_eq, rightB_iff]
  constructor
  · rintro ⟨⟨⟨h1, h2⟩, h3⟩, h4⟩; exact ⟨h1, h2, h3, h4⟩
  · rintro ⟨h1, h2, h3, h4⟩; exact ⟨⟨⟨h1, h2⟩, h3⟩, h4⟩
theorem right_sizeW {p : Pg} (h : rightB p = true) : sizeW p = sizeP p ∧ sizeP p ≤ 1024 ∧ p.length ≤ 256 := by
  have hr := (rightB_iff p).1 h
  refine ⟨?_, hr.size, hr.len⟩
  have := hr.size
  unfold sizeW
  exact IntWalk.i64_in _ (by omega)

set_option maxHeartbeats 2000000 in
theorem refFits_any (a : Option Addr) (c : Nat) (p : Pg) (n : Int) (w : World) (h : SlotsAt w a p) (hl : p.length ≤ maxLen) (hs : slotsIn p) :
    Calls Try.prog 25 #[.agg #[.slice a p.length c], .int .i64 n] w fun e w' => e = .returned (.bool (fitsB p n)) ∧ Below w.heap.size w w' := by
  have A := hid0 h
  have HS := hid0 hs
  have HL := hid0 hl
  clear h hs hl
  have C24 := fun W (hb : Below w.heap.size w W) => refRight_any a c p W (A.out.later hb) HL.out HS.out
  cases hr : rightB p with
  | false =>
    have hf := hid0 (show fitsB p n = false by unfold fitsB; rw [hr]; rfl)
    rw [hr] at C24
    clear hr
    go_enter Try.func25, Try.ntmps25
    go_wp2_with (go_at_call 42; refine (C24 _ (by go_grown)).mono ?_; rintro e w1 ⟨rfl, hb⟩)
    go_ret
    exact ⟨ret_bool hf.out.symm, below_through hb (by simp) (by go_grown)⟩
  | true =>
    obtain ⟨hw, hs1, hs2⟩ := right_sizeW hr
    have C22 := fun W (hb : Below w.heap.size w W) => refSize_any a c p W (A.out.later hb) HL.out HS.out
    have C33 := fun W (hb : Below w.heap.size w W) => refPlace_any a c p W (A.out.later hb) HL.out
    rw [hr] at C24
    rw [hw] at C22
    by_cases hn : 0 ≤ n ∧ n ≤ 1024
    · obtain ⟨hn0, hn1⟩ := hn
      have hf := hid0 (show fitsB p n = decide (n + (if placeP p = p.length then 4 else 0) ≤ 1024 - (sizeP p : Int)) by unfold fitsB; rw [hr]; simp [hn0, hn1])
      have hple := placeP_le p
      obtain ⟨pl, hpl⟩ : ∃ pl, placeP p = pl := ⟨_, rfl⟩
      rw [hpl] at hple C33
      have HPL := hid0 hpl
      have hnn : ¬ n < 0 := by omega
      have hnn2 : ¬ 1024 < n := by omega
      clear hr hw hpl
      have hB0 : Below w.heap.size w (w.alloc (Obj.cells #[.slice a p.length c] 62)) := (Below.refl _ _).alloc (Nat.le_refl _) _
      have q : (w.alloc (Obj.cells #[.slice a p.length c] 62)).cell? ⟨w.heap.size, 0, none⟩ = some (.slice a p.length c) := by go_cell
      go_enter Try.func25, Try.ntmps25
      go_wp2_with (go_at_call 42; go_must (refine (C24 _ hB0).mono ?_; rintro e w1 ⟨rfl, hb⟩; have q1 := cell_later hb q; have hB1 := below_through hb hB0.size hB0; clear hb C24))
      clear q hB0
      by_cases he : pl = p.length
      · have hei : (pl : Int) = p.length := by omega
        go_wp2_with fail
        go_region_held3 (fun w' => w'.cell? ⟨w.heap.size, 0, none⟩ = some (.slice a p.length c) ∧ Below w.heap.size w w')
          ((go_split_ands; (try dsimp only); (repeat' apply And.intro); all_goals (first
            | assumption
            | exact cell_later hbn ‹_›
            | exact below_through hbn (Below.size ‹Below w.heap.size w _›) ‹_›
            | exact Below.drew hB1
            | go_keep)))
          (first
            | (go_at_call 45; (try go_split_ands); refine (C33 _ (by assumption)).mono ?_; rintro e wn ⟨rfl, hbn⟩))
        obtain ⟨q2, hB2⟩ := ‹wn.cell? ⟨w.heap.size, 0, none⟩ = some (.slice a p.length c) ∧ _›
        clear q1 hB1 hbn C33
        have hn4 : IntKind.i64.wrap (n + 4) = n + 4 := IntWalk.i64_in _ (by omega)
        go_wp2_with (go_at_call 46; go_must (refine (C22 _ hB2).mono ?_; rintro e w3 ⟨rfl, hb3⟩))
        go_ret
        exact ⟨ret_bool (by rw [hf.out, HPL.out, if_pos he]), hB2.trans (hb3.mono hB2.size)⟩
      · have hei : ¬ (pl : Int) = p.length := by omega
        go_wp2_with fail
        go_region_held3 (fun w' => w'.cell? ⟨w.heap.size, 0, none⟩ = some (.slice a p.length c) ∧ Below w.heap.size w w')
          ((go_split_ands; (try dsimp only); (repeat' apply And.intro); all_goals (first
            | assumption
            | exact cell_later hbn ‹_›
            | exact below_through hbn (Below.size ‹Below w.heap.size w _›) ‹_›
            | exact Below.drew hB1
            | go_keep)))
          (first
            | (go_at_call 45; (try go_split_ands); refine (C33 _ (by assumption)).mono ?_; rintro e wn ⟨rfl, hbn⟩))
        obtain ⟨q2, hB2⟩ := ‹wn.cell? ⟨w.heap.size, 0, none⟩ = some (.slice a p.length c) ∧ _›
        clear q1 hB1 hbn C33
        go_wp2_with (go_at_call 46; go_must (refine (C22 _ hB2).mono ?_; rintro e w3 ⟨rfl, hb3⟩))
        go_ret
        exact ⟨ret_bool (by rw [hf.out, HPL.out, if_neg he, Int.add_zero]), hB2.trans (hb3.mono hB2.size)⟩
    · have hf := hid0 (show fitsB p n = false by unfold fitsB; simp only [Bool.and_eq_false_iff, decide_eq_false_iff_not]; omega)
      clear hr hw C22 C33
      go_enter Try.func25, Try.ntmps25
      go_wp2_with (go_at_call 42; refine (C24 _ (by go_grown)).mono ?_; rintro e w1 ⟨rfl, hb⟩)
      all_goals
        go_ret
        exact ⟨ret_bool hf.out.symm, below_through hb (by simp) (by go_grown)⟩
end Go.Proofs.Ytnneeojgakjalaa
