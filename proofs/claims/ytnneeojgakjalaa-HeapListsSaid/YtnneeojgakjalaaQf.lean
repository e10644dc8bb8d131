/- The reference of layer 5: a slot's row; two pages that are the same: contracts of the calls, in whatever memory. Conditions: the slots' cells are known. -/
import Derived.Test.YtnneeojgakjalaaQe
namespace Go.Proofs.Ytnneeojgakjalaa
open Go.RowKit

def getD (p : Pg) (i : Int) : List UInt8 := if rightB p then (gotP p i).getD [] else []
def getE (p : Pg) (i : Int) : Int := if rightB p then (if (gotP p i).isSome then 0 else 18) else 1
theorem get_wrong {p : Pg} (i : Int) (h : rightB p = false) : getD p i = [] ∧ getE p i = 1 := by unfold getD getE; rw [h]; exact ⟨rfl, rfl⟩
theorem get_none {p : Pg} {i : Int} (h : rightB p = true) (hg : gotP p i = none) : getD p i = [] ∧ getE p i = 18 := by unfold getD getE; rw [h, hg]; exact ⟨rfl, rfl⟩
theorem get_some {p : Pg} {i : Int} {d : List UInt8} (h : rightB p = true) (hg : gotP p i = some d) : getD p i = d ∧ getE p i = 0 := by unfold getD getE; rw [h, hg]; exact ⟨rfl, rfl⟩

set_option maxHeartbeats 2000000 in
theorem refGet_any (a : Option Addr) (c : Nat) (p : Pg) (i : Int) (w : World) (h : SlotsAt w a p) (hl : p.length ≤ maxLen) (hs : slotsIn p) (hi : i ≤ 9223372036854775807) :
    Calls Try.prog 32 #[.agg #[.slice a p.length c], .int .i64 i] w fun e w' => e = .returned (.tuple #[.string (txt (getD p i)), .int .i64 (getE p i)]) ∧ Below w.heap.size w w' := by
  have A := hid0 h
  have HL := hid0 hl
  have C24 := fun W (hb : Below w.heap.size w W) => refRight_any a c p W (A.out.later hb) hl hs
  have hB0 : Below w.heap.size w (w.alloc (Obj.cells #[.slice a p.length c] 62)) := (Below.refl _ _).alloc (Nat.le_refl _) _
  have q : (w.alloc (Obj.cells #[.slice a p.length c] 62)).cell? ⟨w.heap.size, 0, none⟩ = some (.slice a p.length c) := by go_cell
  clear h hl hs
  cases hr : rightB p with
  | false =>
    obtain ⟨e1, e2⟩ := get_wrong i hr
    rw [e1, e2]
    rw [hr] at C24
    clear hr e1 e2
    go_enter Try.func32, Try.ntmps32
    go_wp2_with (go_at_call 42; go_must (refine (C24 _ hB0).mono ?_; rintro e w1 ⟨rfl, hb⟩))
    go_returns
    exact ⟨rfl, below_through hb hB0.size hB0⟩
  | true =>
    rw [hr] at C24
    by_cases h0 : i < 0
    · obtain ⟨e1, e2⟩ := get_none hr (show gotP p i = none by unfold gotP; rw [if_neg (by omega)])
      rw [e1, e2]
      clear hr e1 e2
      go_enter Try.func32, Try.ntmps32
      go_wp2_with (go_at_call 42; go_must (refine (C24 _ hB0).mono ?_; rintro e w1 ⟨rfl, hb⟩))
      go_returns
      exact ⟨rfl, below_through hb hB0.size hB0⟩
    obtain ⟨k, rfl⟩ : ∃ k : Nat, i = k := ⟨i.toNat, by omega⟩
    by_cases hlt : k < p.length
    · obtain ⟨b, o, rfl, hc⟩ := A.out (by intro e; rw [e] at hlt; exact absurd hlt (by simp))
      obtain ⟨q0, q1⟩ := hc k hlt
      have r0 := cell_later hB0 q0
      have r1 := cell_later hB0 q1
      have hk0 : ¬ (k : Int) < 0 := h0
      have hk1 : ¬ (p.length : Int) ≤ k := by omega
      clear hc q0 q1 h0
      obtain ⟨⟨u, d⟩, hsi⟩ : ∃ s, p[k] = s := ⟨_, rfl⟩
      rw [hsi] at r0 r1
      cases u with
      | false =>
        obtain ⟨e1, e2⟩ := get_none hr (gotP_none (p := p) (i := k) (.inr ⟨d, by rw [List.getElem?_eq_getElem hlt, hsi]⟩))
        rw [e1, e2]
        clear hr e1 e2 hsi
        go_enter Try.func32, Try.ntmps32
        go_wp2_with (go_at_call 42; go_must (refine (C24 _ hB0).mono ?_; rintro e w1 ⟨rfl, hb⟩; have q' := cell_later hb q; have r0' := cell_later hb r0))
        go_returns
        exact ⟨rfl, below_through hb hB0.size hB0⟩
      | true =>
        obtain ⟨e1, e2⟩ := get_some hr (gotP_at (p := p) (i := k) (d := d) (by rw [List.getElem?_eq_getElem hlt, hsi]))
        rw [e1, e2]
        clear hr e1 e2 hsi
        go_enter Try.func32, Try.ntmps32
        go_wp2_with (go_at_call 42; go_must (refine (C24 _ hB0).mono ?_; rintro e w1 ⟨rfl, hb⟩; have q' := cell_later hb q; have r0' := cell_later hb r0; have r1' := cell_later hb r1))
        go_returns
        exact ⟨rfl, below_through hb hB0.size hB0⟩
    · obtain ⟨e1, e2⟩ := get_none hr (gotP_none (p := p) (i := k) (.inl (List.getElem?_eq_none (by omega))))
      rw [e1, e2]
      have hk0 : ¬ (k : Int) < 0 := h0
      have hk1 : (p.length : Int) ≤ k := by omega
      clear hr e1 e2
      go_enter Try.func32, Try.ntmps32
      go_wp2_with (go_at_call 42; go_must (refine (C24 _ hB0).mono ?_; rintro e w1 ⟨rfl, hb⟩; have q' := cell_later hb q))
      go_returns
      exact ⟨rfl, below_through hb hB0.size hB0⟩

set_option maxHeartbeats 2000000 in
theorem refSame_any (a1 a2 : Option Addr) (c1 c2 : Nat) (p : Pg) (w : World) (h1 : SlotsAt w a1 p) (h2 : SlotsAt w a2 p) (hl : p.length ≤ maxLen) :
    Calls Try.prog 33 #[.agg #[.slice a1 p.length c1], .agg #[.slice a2 p.length c2]] w fun e w' => e = .returned (.bool true) ∧ Below w.heap.size w w' := by
  have A1 := hid0 h1
  have A2 := hid0 h2
  unfold maxLen at hl
  clear h1 h2
  go_enter Try.func33, Try.ntmps33
  go_wp2
  have hB0 : Below w.heap.size w ((w.alloc (Obj.cells #[.slice a1 p.length c1] 62)).alloc (Obj.cells #[.slice a2 p.length c2] 62)) := ((Below.refl _ _).alloc (Nat.le_refl _) _).alloc (by simp) _
  have q : ((w.alloc (Obj.cells #[.slice a1 p.length c1] 62)).alloc (Obj.cells #[.slice a2 p.length c2] 62)).cell? ⟨w.heap.size, 0, none⟩ = some (.slice a1 p.length c1) := by go_cell
  have q' : ((w.alloc (Obj.cells #[.slice a1 p.length c1] 62)).alloc (Obj.cells #[.slice a2 p.length c2] 62)).cell? ⟨w.heap.size + 1, 0, none⟩ = some (.slice a2 p.length c2) := by go_cell
  generalize ((w.alloc (Obj.cells #[.slice a1 p.length c1] 62)).alloc (Obj.cells #[.slice a2 p.length c2] 62)) = W0 at hB0 q q' ⊢
  go_loopw [5] (fun iv wr => ∃ i : Nat, i ≤ p.length ∧ iv = .int .i64 i ∧ wr.heap = W0.heap ∧ Below w.heap.size w wr) (fun iv _ => p.length - (intOf iv).toNat)
  case atStart => exact ⟨0, Nat.zero_le _, rfl, rfl, hB0⟩
  case round =>
    obtain ⟨i, hi, rfl, hW, hB⟩ := hrel
    have k : ∀ b o, wr.cell? ⟨b, o, none⟩ = W0.cell? ⟨b, o, none⟩ := fun b o => World.cell?_of_block (a := ⟨b, o, none⟩) (by rw [hW])
    have u0 := (k _ _).trans q
    have u1 := (k _ _).trans q'
    have HW := hid0 hW
    clear k hW
    by_cases hlt : i < p.length
    · obtain ⟨b, o, rfl, hc⟩ := (A1.out.later hB) (by intro e; rw [e] at hlt; exact absurd hlt (by simp))
      obtain ⟨b', o', rfl, hc'⟩ := (A2.out.later hB) (by intro e; rw [e] at hlt; exact absurd hlt (by simp))
      obtain ⟨r0, r1⟩ := hc i hlt
      obtain ⟨s0, s1⟩ := hc' i hlt
      clear hc hc' q q'
      go_wp2_with fail
      go_region
      go_wp2
      exact ⟨⟨i + 1, by omega, by go_num, HW.out, hB.drew⟩, by simp [intOf]; omega⟩
    · have hie : ¬ (i : Int) < p.length := by omega
      go_wp2
      go_ret
      exact ⟨rfl, hB⟩
end Go.Proofs.Ytnneeojgakjalaa
