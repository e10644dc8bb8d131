/- What the law of layer 4 calls of its own: a row of one number; the document's example, whatever the memory. Conditions: none. -/
import Derived.Test.YtipibbjcdkmjmaaBp
namespace Go.Proofs.Ytipibbjcdkmjmaa
open Go.RowKit

def oneR (n : Int) : List Val := [⟨1, n, ⟨#[]⟩⟩]
set_option maxHeartbeats 400000 in
theorem lawRow_any (n : Int) (w : World) :
    Calls Try.prog 14 #[.int .i64 n] w fun e w' => (∃ a, e = .returned (.slice a 1 1) ∧ RowAt w' a (oneR n)) ∧ Below w.heap.size w w' := by
  go_enter Try.func14, Try.ntmps14
  go_wp2
  go_ret
  refine ⟨⟨some ⟨w.heap.size, 0, none⟩, rfl, fun _ => ⟨w.heap.size, 0, rfl, fun i hi => ?_⟩⟩, by go_grown⟩
  obtain rfl : i = 0 := by simp [oneR] at hi; omega
  simp only [oneR, List.getElem_cons_zero]
  exact ⟨by go_cell, by go_cell, by go_cell⟩
theorem oneR_ok (n : Int) : rowOK (oneR n) := by unfold rowOK oneR; simp
theorem bag_three : ofB [(oneR 2, 1), (oneR 1, 2), (oneR 2, -1)] = [(oneR 1, 2)] := by rfl

set_option maxHeartbeats 2000000 in
theorem awake_any (w : World) : Calls Try.prog 4 #[] w fun e w' => e = .returned (.bool true) ∧ Below w.heap.size w w' := by
  go_enter Try.func4, Try.ntmps4
  go_wp2_with fail
  refine (lawRow_any 2 _).mono ?_
  rintro e w1 ⟨⟨a1, rfl, r1⟩, hb1⟩
  have R1 := hid0 r1
  clear r1
  go_wp2_with fail
  refine (lawRow_any 1 _).mono ?_
  rintro e w2 ⟨⟨a2, rfl, r2⟩, hb2⟩
  have R1' := hid0 (R1.out.later hb2)
  have R2 := hid0 r2
  have hB2 := hb1.trans (hb2.mono hb1.size)
  clear r2 R1 hb1 hb2
  go_wp2_with fail
  refine (lawRow_any 2 _).mono ?_
  rintro e w3 ⟨⟨a3, rfl, r3⟩, hb3⟩
  have R1 := hid0 (R1'.out.later hb3)
  have R2' := hid0 (R2.out.later hb3)
  have R3 := hid0 r3
  have hB3 := hB2.trans (hb3.mono hB2.size)
  clear r3 R1' R2 hb3 hB2
  go_wp2_with fail
  have HR3 : RowsIn (w3.alloc (Obj.cells #[.slice a1 1 1, .int .i64 1, .slice a2 1 1, .int .i64 2, .slice a3 1 1, .int .i64 (-1)] 36)) [⟨a1, 1, oneR 2, 1⟩, ⟨a2, 1, oneR 1, 2⟩, ⟨a3, 1, oneR 2, -1⟩] := by
    intro e he
    have hb : Below w3.heap.size w3 (w3.alloc (Obj.cells #[.slice a1 1 1, .int .i64 1, .slice a2 1 1, .int .i64 2, .slice a3 1 1, .int .i64 (-1)] 36)) := (Below.refl _ _).alloc (Nat.le_refl _) _
    simp only [List.mem_cons, List.not_mem_nil, or_false] at he
    rcases he with rfl | rfl | rfl
    · exact ⟨R1.out.later hb, oneR_ok 2⟩
    · exact ⟨R2'.out.later hb, oneR_ok 1⟩
    · exact ⟨R3.out.later hb, oneR_ok 2⟩
  have k0 : (w3.alloc (Obj.cells #[.slice a1 1 1, .int .i64 1, .slice a2 1 1, .int .i64 2, .slice a3 1 1, .int .i64 (-1)] 36)).cell? ⟨w3.heap.size, 0, none⟩ = some (.slice a1 1 1) := by go_cell
  have k1 : (w3.alloc (Obj.cells #[.slice a1 1 1, .int .i64 1, .slice a2 1 1, .int .i64 2, .slice a3 1 1, .int .i64 (-1)] 36)).cell? ⟨w3.heap.size, 1, none⟩ = some (.int .i64 1) := by go_cell
  have k2 : (w3.alloc (Obj.cells #[.slice a1 1 1, .int .i64 1, .slice a2 1 1, .int .i64 2, .slice a3 1 1, .int .i64 (-1)] 36)).cell? ⟨w3.heap.size, 2, none⟩ = some (.slice a2 1 1) := by go_cell
  have k3 : (w3.alloc (Obj.cells #[.slice a1 1 1, .int .i64 1, .slice a2 1 1, .int .i64 2, .slice a3 1 1, .int .i64 (-1)] 36)).cell? ⟨w3.heap.size, 3, none⟩ = some (.int .i64 2) := by go_cell
  have k4 : (w3.alloc (Obj.cells #[.slice a1 1 1, .int .i64 1, .slice a2 1 1, .int .i64 2, .slice a3 1 1, .int .i64 (-1)] 36)).cell? ⟨w3.heap.size, 4, none⟩ = some (.slice a3 1 1) := by go_cell
  have k5 : (w3.alloc (Obj.cells #[.slice a1 1 1, .int .i64 1, .slice a2 1 1, .int .i64 2, .slice a3 1 1, .int .i64 (-1)] 36)).cell? ⟨w3.heap.size, 5, none⟩ = some (.int .i64 (-1)) := by go_cell
  have HC3 : CellsAt (w3.alloc (Obj.cells #[.slice a1 1 1, .int .i64 1, .slice a2 1 1, .int .i64 2, .slice a3 1 1, .int .i64 (-1)] 36)) (some ⟨w3.heap.size, 0, none⟩) [⟨a1, 1, oneR 2, 1⟩, ⟨a2, 1, oneR 1, 2⟩, ⟨a3, 1, oneR 2, -1⟩] := fun _ =>
    ⟨w3.heap.size, 0, rfl, fun i hi => by
      match i, hi with
      | 0, _ => exact ⟨k0, k1⟩
      | 1, _ => exact ⟨k2, k3⟩
      | 2, _ => exact ⟨k4, k5⟩
      | i + 3, hi => exact absurd hi (by simp)⟩
  have C := bagOf_any (some ⟨w3.heap.size, 0, none⟩) 3 [⟨a1, 1, oneR 2, 1⟩, ⟨a2, 1, oneR 1, 2⟩, ⟨a3, 1, oneR 2, -1⟩] _ ⟨HC3, HR3⟩ (Nat.le_refl _) (by simp) (by simp [absS, pr])
  refine C.mono ?_
  have hB4 : Below w.heap.size w (w3.alloc (Obj.cells #[.slice a1 1 1, .int .i64 1, .slice a2 1 1, .int .i64 2, .slice a3 1 1, .int .i64 (-1)] 36)) := Below.alloc hB3 hB3.size _
  clear C HC3 HR3 R1 R2' R3 k0 k1 k2 k3 k4 k5
  rintro e w4 ⟨⟨a4, c4, E4, rfl, hc4, hE4, hm4⟩, hb4⟩
  have hB5 := below_through hb4 hB4.size hB4
  clear hb4 hB4 hB3
  have hm : E4.map pr = [(oneR 1, 2)] := hm4.trans bag_three
  clear hm4
  match E4, hm, hc4, hE4 with
  | [], hm, _, _ => exact absurd (congrArg List.length hm) (by simp)
  | _ :: _ :: _, hm, _, _ => exact absurd (congrArg List.length hm) (by simp)
  | [e4], hm, hc4, hE4 =>
  have hp : pr e4 = (oneR 1, 2) := by simpa using hm
  have hn : e4.n = 2 := congrArg Prod.snd hp
  obtain ⟨b, off, rfl, hcl⟩ := hE4.1 (by simp)
  have q1 := (hcl 0 (by simp)).2
  simp only [Nat.zero_mul, Nat.add_zero, List.getElem_cons_zero, hn] at q1
  clear hcl
  have HE := hid0 hE4
  have HM := hid0 hm
  have HN := hid0 hn
  clear hE4 hm hp hn
  have hr4 : rowsB ([e4].map pr) = [oneR 1, oneR 1] := by rw [HM.out]; rfl
  have HR := hid0 hr4
  have HP := hid0 (show ∀ e ∈ [e4], e.n = 2 from fun e he => by obtain rfl := List.mem_singleton.1 he; exact HN.out)
  clear hr4
  go_wp2_with fail
  refine (bagRows_any _ _ [e4] _ HE.out hc4 (by simp) (by rw [HR.out]; simp) (fun e he => by rw [HP.out e he]; omega)).mono ?_
  rintro e w5 ⟨⟨a5, c5, L5, rfl, hc5, hL5, hm5⟩, hb5⟩
  have hl5 : L5.length = 2 := by have := congrArg List.length hm5; rw [List.length_map, HR.out] at this; exact this
  rw [hl5]
  have hB6 := hB5.trans (hb5.mono hB5.size)
  have HE5 := hid0 (HE.out.later hb5)
  clear hL5 hm5 hl5 hb5 hB5 HE q1
  go_wp2_with fail
  refine (bagCount_any _ _ [e4] _ HE5.out (by simp) (by rw [HM.out]; decide)).mono ?_
  rintro e w6 ⟨rfl, hb6⟩
  rw [show countB ([e4].map pr) = 2 by rw [HM.out]; rfl]
  have hB7 := hB6.trans (hb6.mono hB6.size)
  have HE6 := hid0 (HE5.out.later hb6)
  clear hb6 hB6 HE5
  go_wp2_with fail
  refine (bagRight_any _ _ [e4] _ HE6.out (by simp) (by rw [HM.out]; exact ⟨by decide, by simp, trivial⟩) (fun e he => by rw [HP.out e he]; omega)).mono ?_
  rintro e w7 ⟨rfl, hb7⟩
  have hB8 := hB7.trans (hb7.mono hB7.size)
  clear hb7 hB7 HE6
  go_wp2
  go_ret
  exact ⟨rfl, hB8⟩
end Go.Proofs.Ytipibbjcdkmjmaa
