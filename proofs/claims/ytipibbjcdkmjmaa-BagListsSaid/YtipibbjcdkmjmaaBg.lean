/- The reference of layers 1 and 4: bags, and lists of rows, that are the same are told to be so: contracts of the calls, in whatever memory. Conditions: the cells are known; they are not too many. -/
import Derived.Test.YtipibbjcdkmjmaaBf
namespace Go.Proofs.Ytipibbjcdkmjmaa
open Go.RowKit

theorem map_at {α β : Type} {f : α → β} {A B : List α} (h : A.map f = B.map f) {i : Nat} (h1 : i < A.length) (h2 : i < B.length) : f A[i] = f B[i] := by
  have e : (A.map f)[i]? = (B.map f)[i]? := by rw [h]
  simpa [h1, h2] using e

set_option maxHeartbeats 2000000 in
theorem refSameLines_any (a1 a2 : Option Addr) (c1 c2 : Nat) (L1 L2 : List Line) (w : World) (h1 : LinesAt w a1 L1) (h2 : LinesAt w a2 L2) (hl : L1.length ≤ 1000000) (he : L1.map (·.r) = L2.map (·.r)) :
    Calls Try.prog 9 #[.slice a1 L1.length c1, .slice a2 L2.length c2] w fun e w' => e = .returned (.bool true) ∧ Below w.heap.size w w' := by
  have hlen : L2.length = L1.length := by have := congrArg List.length he; rw [List.length_map, List.length_map] at this; omega
  rw [hlen]
  have A1 := hid0 h1
  have A2 := hid0 h2
  have HE := hid0 he
  have HLEN := hid0 hlen
  clear h1 h2 he hlen
  go_enter Try.func9, Try.ntmps9
  go_wp2
  go_loopw [5] (fun iv wr => ∃ i : Nat, i ≤ L1.length ∧ iv = .int .i64 i ∧ Below w.heap.size w wr) (fun iv _ => L1.length - (intOf iv).toNat)
  case atStart => exact ⟨0, Nat.zero_le _, rfl, Below.refl _ _⟩
  case round =>
    obtain ⟨i, hi, rfl, hB⟩ := hrel
    have hsz := hB.size
    by_cases hlt : i < L1.length
    · have hlt2 : i < L2.length := by have := HLEN.out; omega
      obtain ⟨b1, o1, rfl, hc1⟩ := (A1.out.1.later hB) (by intro e; rw [e] at hlt; exact absurd hlt (by simp))
      have q0 := hc1 i hlt
      obtain ⟨b2, o2, rfl, hc2⟩ := (A2.out.1.later hB) (by intro e; rw [e] at hlt2; exact absurd hlt2 (by simp))
      have p0 := hc2 i hlt2
      clear hc1 hc2
      have r1 := A1.out.2 _ (List.getElem_mem hlt)
      have r2 := A2.out.2 _ (List.getElem_mem hlt2)
      have er : L1[i].r = L2[i].r := map_at (f := fun x : Line => x.r) HE.out hlt hlt2
      have C17 : ∀ W, Below w.heap.size w W → Calls Try.prog 17 #[.slice L1[i].a L1[i].r.length L1[i].c, .slice L2[i].a L2[i].r.length L2[i].c] W fun e w' => e = .returned (.int .i64 0) ∧ Below W.heap.size W w' := fun W hb => by
        have h := refRows_any L1[i].a L2[i].a L1[i].c L2[i].c L1[i].r L2[i].r W (r1.1.later hb) (r2.1.later hb) (by have := r1.2; unfold rowOK at this; unfold maxLen; omega)
        rwa [(rowsV_is _ _).2 er] at h
      clear r1 r2 er
      go_wp2_with fail
      go_region_held3 (fun w' => w'.cell? ⟨b1, o1 + i, none⟩ = some (.slice L1[i].a L1[i].r.length L1[i].c) ∧ w'.cell? ⟨b2, o2 + i, none⟩ = some (.slice L2[i].a L2[i].r.length L2[i].c) ∧ Below w.heap.size w w')
        ((go_split_ands; (try dsimp only); (repeat' apply And.intro); all_goals (first
          | assumption
          | exact cell_later hbn ‹_›
          | exact below_through hbn (Below.size ‹Below w.heap.size w _›) ‹_›
          | exact Below.drew hB
          | go_keep)))
        (first
          | (go_at_call 17; (try go_split_ands); refine (C17 _ (by assumption)).mono ?_; rintro e wn ⟨rfl, hbn⟩))
      obtain ⟨_, _, hB0⟩ := ‹wn.cell? ⟨b1, o1 + i, none⟩ = some (.slice L1[i].a L1[i].r.length L1[i].c) ∧ _›
      clear q0 p0 C17
      go_wp2
      exact ⟨⟨i + 1, by omega, by go_num, hB0⟩, by simp [intOf]; omega⟩
    · have hie : ¬ (i : Int) < L1.length := by omega
      go_wp2
      go_ret
      exact ⟨rfl, hB⟩

set_option maxHeartbeats 2000000 in
theorem refSame_any (a1 a2 : Option Addr) (c1 c2 : Nat) (E1 E2 : List Elem) (w : World) (h1 : ElemsAt w a1 E1) (h2 : ElemsAt w a2 E2) (hl : E1.length ≤ 1000000) (he : E1.map pr = E2.map pr) :
    Calls Try.prog 7 #[.slice a1 E1.length c1, .slice a2 E2.length c2] w fun e w' => e = .returned (.bool true) ∧ Below w.heap.size w w' := by
  have hlen : E2.length = E1.length := by have := congrArg List.length he; rw [List.length_map, List.length_map] at this; omega
  rw [hlen]
  have A1 := hid0 h1
  have A2 := hid0 h2
  have HE := hid0 he
  have HLEN := hid0 hlen
  clear h1 h2 he hlen
  go_enter Try.func7, Try.ntmps7
  go_wp2
  go_loopw [5] (fun iv wr => ∃ i : Nat, i ≤ E1.length ∧ iv = .int .i64 i ∧ Below w.heap.size w wr) (fun iv _ => E1.length - (intOf iv).toNat)
  case atStart => exact ⟨0, Nat.zero_le _, rfl, Below.refl _ _⟩
  case round =>
    obtain ⟨i, hi, rfl, hB⟩ := hrel
    have hsz := hB.size
    by_cases hlt : i < E1.length
    · have hlt2 : i < E2.length := by have := HLEN.out; omega
      obtain ⟨b1, o1, rfl, hc1⟩ := (A1.out.1.later hB) (by intro e; rw [e] at hlt; exact absurd hlt (by simp))
      obtain ⟨q0, q1⟩ := hc1 i hlt
      obtain ⟨b2, o2, rfl, hc2⟩ := (A2.out.1.later hB) (by intro e; rw [e] at hlt2; exact absurd hlt2 (by simp))
      obtain ⟨p0, p1⟩ := hc2 i hlt2
      clear hc1 hc2
      have r1 := A1.out.2 _ (List.getElem_mem hlt)
      have r2 := A2.out.2 _ (List.getElem_mem hlt2)
      have ep : pr E1[i] = pr E2[i] := map_at HE.out hlt hlt2
      have er : E1[i].r = E2[i].r := congrArg Prod.fst ep
      have en : E2[i].n = E1[i].n := (congrArg Prod.snd ep).symm
      rw [en] at p1
      have C17 : ∀ W, Below w.heap.size w W → Calls Try.prog 17 #[.slice E1[i].a E1[i].r.length E1[i].c, .slice E2[i].a E2[i].r.length E2[i].c] W fun e w' => e = .returned (.int .i64 0) ∧ Below W.heap.size W w' := fun W hb => by
        have h := refRows_any E1[i].a E2[i].a E1[i].c E2[i].c E1[i].r E2[i].r W (r1.1.later hb) (r2.1.later hb) (by have := r1.2; unfold rowOK at this; unfold maxLen; omega)
        rwa [(rowsV_is _ _).2 er] at h
      clear r1 r2 er ep en
      go_wp2_with fail
      go_region_held3 (fun w' => w'.cell? ⟨b1, o1 + i * 2, none⟩ = some (.slice E1[i].a E1[i].r.length E1[i].c) ∧ w'.cell? ⟨b1, o1 + i * 2 + 1, none⟩ = some (.int .i64 E1[i].n) ∧ w'.cell? ⟨b2, o2 + i * 2, none⟩ = some (.slice E2[i].a E2[i].r.length E2[i].c) ∧ w'.cell? ⟨b2, o2 + i * 2 + 1, none⟩ = some (.int .i64 E1[i].n) ∧ Below w.heap.size w w')
        ((go_split_ands; (try dsimp only); (repeat' apply And.intro); all_goals (first
          | assumption
          | exact cell_later hbn ‹_›
          | exact below_through hbn (Below.size ‹Below w.heap.size w _›) ‹_›
          | exact Below.drew hB
          | go_keep)))
        (first
          | (go_at_call 17; (try go_split_ands); refine (C17 _ (by assumption)).mono ?_; rintro e wn ⟨rfl, hbn⟩))
      obtain ⟨_, _, _, _, hB0⟩ := ‹wn.cell? ⟨b1, o1 + i * 2, none⟩ = some (.slice E1[i].a E1[i].r.length E1[i].c) ∧ _›
      clear q0 q1 p0 p1 C17
      go_wp2
      exact ⟨⟨i + 1, by omega, by go_num, hB0⟩, by simp [intOf]; omega⟩
    · have hie : ¬ (i : Int) < E1.length := by omega
      go_wp2
      go_ret
      exact ⟨rfl, hB⟩
end Go.Proofs.Ytipibbjcdkmjmaa
