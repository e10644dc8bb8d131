/- The reference of layer 6: a row of a place; two heaps that are the same: contracts of the calls, in whatever memory. Conditions: the pages' cells are known. -/
import Derived.Test.YtnneeojgakjalaaHc
import Derived.BigQuiet
namespace Go.Proofs.Ytnneeojgakjalaa
open Go.RowKit

set_option maxHeartbeats 2000000 in
set_option maxRecDepth 1000000 in
theorem refHGet_any (a : Option Addr) (c : Nat) (E : List PgE) (x y : Int) (w : World) (h : HpAt w a c E) (hx : x ≤ 9223372036854775807) (hy : y ≤ 9223372036854775807) :
    Calls Try.prog 11 #[.agg #[.slice a E.length c], .agg #[.int .i64 x, .int .i64 y]] w fun e w' => e = .returned (.tuple #[.string (txt (getHD (hp E) x y)), .int .i64 (getHE (hp E) x y)]) ∧ Below w.heap.size w w' := by
  have A := hid0 h
  have hlb : E.length ≤ 5864062014805 := by have := h.len; omega
  have hB0 : Below w.heap.size w ((w.alloc (Obj.cells #[.slice a E.length c] 24)).alloc (Obj.cells #[.int .i64 x, .int .i64 y] 26)) := ((Below.refl _ _).alloc (Nat.le_refl _) _).alloc (by simp) _
  have q0 : ((w.alloc (Obj.cells #[.slice a E.length c] 24)).alloc (Obj.cells #[.int .i64 x, .int .i64 y] 26)).cell? ⟨w.heap.size, 0, none⟩ = some (.slice a E.length c) := by go_cell
  have i0 : ((w.alloc (Obj.cells #[.slice a E.length c] 24)).alloc (Obj.cells #[.int .i64 x, .int .i64 y] 26)).cell? ⟨w.heap.size + 1, 0, none⟩ = some (.int .i64 x) := by go_cell
  have i1 : ((w.alloc (Obj.cells #[.slice a E.length c] 24)).alloc (Obj.cells #[.int .i64 x, .int .i64 y] 26)).cell? ⟨w.heap.size + 1, 1, none⟩ = some (.int .i64 y) := by go_cell
  have C := refHRight_any a c E _ ((h.alloc (Obj.cells #[.slice a E.length c] 24)).alloc (Obj.cells #[.int .i64 x, .int .i64 y] 26))
  clear h
  obtain ⟨gd, hgd⟩ : ∃ g, getHD (hp E) x y = g := ⟨_, rfl⟩
  obtain ⟨ge, hge⟩ : ∃ g, getHE (hp E) x y = g := ⟨_, rfl⟩
  rw [hgd, hge]
  have HGD := hid0 hgd
  have HGE := hid0 hge
  clear hgd hge
  cases hr : rightH (hp E) with
  | false =>
    have e1 : gd = [] := by rw [← HGD.out]; unfold getHD; rw [hr]; rfl
    have e2 : ge = 1 := by rw [← HGE.out]; unfold getHE; rw [hr]; rfl
    subst e1 e2
    rw [hr] at C
    clear hr
    go_enter Try.func11, Try.ntmps11
    go_wp2_with (go_at_call 19; go_must (refine C.mono ?_; rintro e w1 ⟨rfl, hb⟩))
    go_returns
    exact ⟨rfl, below_through hb hB0.size hB0⟩
  | true =>
    rw [hr] at C
    have HR := hid0 hr
    clear hr
    by_cases hxr : 0 ≤ x ∧ x < E.length
    · obtain ⟨k, rfl⟩ : ∃ k : Nat, x = k := ⟨x.toNat, by omega⟩
      have hk : k < E.length := by omega
      have hEne : E ≠ [] := by intro e; rw [e] at hk; exact absurd hk (by simp)
      obtain ⟨b, o, rfl, hc⟩ := A.out.cells hEne
      have p0 := cell_later hB0 (hc k hk)
      clear hc
      have hP := (A.out.pages _ (List.getElem_mem hk))
      have hrp : rightB E[k].p = true := by
        have := ((rightH_iff _).1 HR.out).pages E[k].p (List.mem_map_of_mem (f := PgE.p) (List.getElem_mem hk))
        exact (rightB_iff _).2 this
      have hg : gotH (hp E) (k : Int) y = gotP E[k].p y := by rw [gotH_at (by rw [hp_len]; exact hk), hp_at hk]
      have e1 : getD E[k].p y = gd := by rw [← HGD.out]; unfold getHD getD; rw [HR.out, hrp, hg]
      have e2 : getE E[k].p y = ge := by rw [← HGE.out]; unfold getHE getE; rw [HR.out, hrp, hg]
      have C2 := fun W (hb : Below w.heap.size w W) => refGet_any E[k].a E[k].c E[k].p y W (hP.out.later hb) (by have := hP.len; unfold maxLen; omega) hP.small hy
      rw [e1, e2] at C2
      have hk0 : ¬ (k : Int) < 0 := by omega
      have hk1 : ¬ (E.length : Int) ≤ (k : Int) := by omega
      have hk2 : (k : Int) < (E.length : Int) := by omega
      clear e1 e2 hg hrp hP hxr
      go_enter Try.func11, Try.ntmps11
      go_wp2_with (go_at_call 19; go_must (refine C.mono ?_; rintro e w1 ⟨rfl, hb⟩; have q1 := cell_later hb q0; have i2 := cell_later hb i0; have i3 := cell_later hb i1; have p1 := cell_later hb p0; have hB1 := below_through hb hB0.size hB0; clear C hb))
      go_region_held3 (fun w' => w'.cell? ⟨w.heap.size, 0, none⟩ = some (.slice (some ⟨b, o, none⟩) E.length c) ∧ w'.cell? ⟨w.heap.size + 1, 0, none⟩ = some (.int .i64 (k : Int)) ∧ w'.cell? ⟨w.heap.size + 1, 1, none⟩ = some (.int .i64 y) ∧ w'.cell? ⟨b, o + k, none⟩ = some (.slice E[k].a E[k].p.length E[k].c) ∧ Below w.heap.size w w')
        ((go_split_ands; (try dsimp only); (repeat' apply And.intro); all_goals (first
          | assumption
          | exact cell_later hbn ‹_›
          | exact below_through hbn (Below.size ‹Below w.heap.size w _›) ‹_›
          | exact Below.drew hB1
          | go_keep)))
        (first
          | (go_at_call 32; (try go_split_ands); refine (C2 _ (by assumption)).mono ?_; rintro e wn ⟨rfl, hbn⟩))
      have HH := ‹wn.cell? ⟨w.heap.size, 0, none⟩ = some (.slice (some ⟨b, o, none⟩) E.length c) ∧ _›
      have HBB := HH.2.2.2.2
      clear C2 q1 i2 i3 p1 hB1
      go_wp2
      go_returns
      exact ⟨rfl, HBB⟩
    · have hg : gotH (hp E) x y = none := gotH_out (by rw [hp_len]; omega) y
      have e1 : gd = [] := by rw [← HGD.out]; unfold getHD; rw [HR.out, hg]; rfl
      have e2 : ge = 18 := by rw [← HGE.out]; unfold getHE; rw [HR.out, hg]; rfl
      subst e1 e2
      by_cases hx0 : x < 0
      · clear hg hxr
        go_enter Try.func11, Try.ntmps11
        go_wp2_with (go_at_call 19; go_must (refine C.mono ?_; rintro e w1 ⟨rfl, hb⟩; have i2 := cell_later hb i0))
        go_returns
        exact ⟨rfl, below_through hb hB0.size hB0⟩
      · have hx1 : (E.length : Int) ≤ x := by omega
        clear hg hxr
        go_enter Try.func11, Try.ntmps11
        go_wp2_with (go_at_call 19; go_must (refine C.mono ?_; rintro e w1 ⟨rfl, hb⟩; have i2 := cell_later hb i0; have q1 := cell_later hb q0))
        go_returns
        exact ⟨rfl, below_through hb hB0.size hB0⟩
end Go.Proofs.Ytnneeojgakjalaa
