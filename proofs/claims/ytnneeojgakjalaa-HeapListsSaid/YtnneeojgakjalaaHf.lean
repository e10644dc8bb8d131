/- The reference of layer 6: two heaps that are the same are told to be so: a contract of the call, in whatever memory. Conditions: the pages' cells are known. -/
import Derived.Test.YtnneeojgakjalaaHe
namespace Go.Proofs.Ytnneeojgakjalaa
open Go.RowKit

set_option maxHeartbeats 2000000 in
set_option maxRecDepth 1000000 in
theorem refHSame_any (a1 a2 : Option Addr) (c1 c2 : Nat) (E1 E2 : List PgE) (w : World) (h1 : HpAt w a1 c1 E1) (h2 : HpAt w a2 c2 E2) (he : hp E1 = hp E2) :
    Calls Try.prog 13 #[.agg #[.slice a1 E1.length c1], .agg #[.slice a2 E2.length c2]] w fun e w' => e = .returned (.bool true) ∧ Below w.heap.size w w' := by
  have hlen : E2.length = E1.length := by have := congrArg List.length he; rw [hp_len, hp_len] at this; omega
  have A1 := hid0 h1
  have A2 := hid0 h2
  have HE := hid0 he
  have HLEN := hid0 hlen
  have hlb : E1.length ≤ 5864062014805 := by have := h1.len; omega
  rw [hlen]
  clear h1 h2 he hlen
  have q0 : ((w.alloc (Obj.cells #[.slice a1 E1.length c1] 24)).alloc (Obj.cells #[.slice a2 E1.length c2] 24)).cell? ⟨w.heap.size, 0, none⟩ = some (.slice a1 E1.length c1) := by go_cell
  have q1 : ((w.alloc (Obj.cells #[.slice a1 E1.length c1] 24)).alloc (Obj.cells #[.slice a2 E1.length c2] 24)).cell? ⟨w.heap.size + 1, 0, none⟩ = some (.slice a2 E1.length c2) := by go_cell
  have hB0 : Below w.heap.size w ((w.alloc (Obj.cells #[.slice a1 E1.length c1] 24)).alloc (Obj.cells #[.slice a2 E1.length c2] 24)) := ((Below.refl _ _).alloc (Nat.le_refl _) _).alloc (by simp) _
  go_enter Try.func13, Try.ntmps13
  go_wp2_with fail
  go_loopw [5] (fun iv wr => ∃ i : Nat, i ≤ E1.length ∧ iv = .int .i64 i ∧ wr.cell? ⟨w.heap.size, 0, none⟩ = some (.slice a1 E1.length c1) ∧ wr.cell? ⟨w.heap.size + 1, 0, none⟩ = some (.slice a2 E1.length c2) ∧ Below w.heap.size w wr) (fun iv _ => E1.length - (intOf iv).toNat)
  case atStart => exact ⟨0, Nat.zero_le _, rfl, q0, q1, hB0⟩
  case round =>
    clear q0 q1 hB0
    obtain ⟨i, hi, rfl, q0, q1, hB⟩ := hrel
    have hsz := hB.size
    by_cases hlt : i < E1.length
    · have hlt2 : i < E2.length := by have := HLEN.out; omega
      obtain ⟨b1, o1, rfl, hc1⟩ := (A1.out.later hB).cells (by intro e; rw [e] at hlt; exact absurd hlt (by simp))
      have r0 := hc1 i hlt
      obtain ⟨b2, o2, rfl, hc2⟩ := (A2.out.later hB).cells (by intro e; rw [e] at hlt2; exact absurd hlt2 (by simp))
      have s0 := hc2 i hlt2
      have hP1 := A1.out.pages _ (List.getElem_mem hlt)
      have hP2 := A2.out.pages _ (List.getElem_mem hlt2)
      have ep : E1[i].p = E2[i].p := hp_map_at HE.out hlt hlt2
      obtain ⟨a1', c1', p1, e1⟩ : ∃ a c p, E1[i] = ⟨a, c, p⟩ := ⟨_, _, _, rfl⟩
      obtain ⟨a2', c2', p2, e2⟩ : ∃ a c p, E2[i] = ⟨a, c, p⟩ := ⟨_, _, _, rfl⟩
      rw [e1] at r0 hP1 ep
      rw [e2] at s0 hP2 ep
      dsimp only at r0 s0 hP1 hP2 ep
      obtain rfl := ep
      have C := fun W (hb : Below w.heap.size w W) => refSame_any a1' a2' c1' c2' p1 W (hP1.out.later hb) (hP2.out.later hb) (by have := hP1.len; unfold maxLen; omega)
      clear hc1 hc2 hP1 hP2 e1 e2
      go_wp2_with fail
      go_region_held3 (fun w' => w'.cell? ⟨w.heap.size, 0, none⟩ = some (.slice (some ⟨b1, o1, none⟩) E1.length c1) ∧ w'.cell? ⟨w.heap.size + 1, 0, none⟩ = some (.slice (some ⟨b2, o2, none⟩) E1.length c2) ∧ w'.cell? ⟨b1, o1 + i, none⟩ = some (.slice a1' p1.length c1') ∧ w'.cell? ⟨b2, o2 + i, none⟩ = some (.slice a2' p1.length c2') ∧ Below w.heap.size w w')
        ((go_split_ands; (try dsimp only); (repeat' apply And.intro); all_goals (first
          | assumption
          | exact cell_later hbn ‹_›
          | exact below_through hbn (Below.size ‹Below w.heap.size w _›) ‹_›
          | exact Below.drew hB
          | go_keep)))
        (first
          | (go_at_call 33; (try go_split_ands); refine (C _ (by assumption)).mono ?_; rintro e wn ⟨rfl, hbn⟩))
      have HH := ‹wn.cell? ⟨w.heap.size, 0, none⟩ = some (.slice (some ⟨b1, o1, none⟩) E1.length c1) ∧ _›
      clear C q0 q1 r0 s0 hB
      go_wp2
      exact ⟨⟨i + 1, by omega, by go_num, HH.1, HH.2.1, HH.2.2.2.2⟩, by simp [intOf]; omega⟩
    · have hie : ¬ (i : Int) < E1.length := by omega
      go_wp2
      go_ret
      exact ⟨rfl, hB⟩
end Go.Proofs.Ytnneeojgakjalaa
