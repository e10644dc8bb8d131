/- Several of my texts laid together, each as it was: D47. Conditions: each names its own. -/
import Derived.Test.YtadidikegfiedabD1
import Derived.Test.YtadidikegfiedabB2
/- The reference's Of, joined and Add of lists whose numbers may be any: what they answer has rows of theirs, and lies where it must. Contracts of the calls, in whatever memory. Conditions: the rows' cells are known; they are not too many. -/
namespace Go.Proofs.Ytadidikegfiedab
open Go.RowKit

theorem wrap_in64 (x : Int) : in64 (IntKind.i64.wrap x) := by
  rw [IntWalk.i64_left]; unfold in64 wrap64; omega
/-- Rows of a list, with numbers that may be. -/
structure SomeE (L E : List Elem) : Prop where
  few : E.length ≤ L.length
  of : ∀ e ∈ E, (∃ x ∈ L, e.r = x.r) ∧ in64 e.n
theorem SomeE.nil (L : List Elem) : SomeE L [] := ⟨Nat.zero_le _, fun e he => absurd he (by simp)⟩
theorem SomeE.both {A B LA LB E F : List Elem} (hA : SomeE LA A) (hB : SomeE LB B) (h : SomeE (A ++ B) E) (e : F = LA ++ LB) : SomeE F E := by
  subst e
  have h1 := hA.few
  have h2 := hB.few
  have h3 := h.few
  rw [List.length_append] at h3
  refine ⟨by rw [List.length_append]; omega, fun e he => ⟨?_, (h.of e he).2⟩⟩
  obtain ⟨x, hx, e1⟩ := (h.of e he).1
  rcases List.mem_append.1 hx with hx | hx
  · obtain ⟨y, hy, e2⟩ := (hA.of x hx).1
    exact ⟨y, List.mem_append_left _ hy, e1.trans e2⟩
  · obtain ⟨y, hy, e2⟩ := (hB.of x hx).1
    exact ⟨y, List.mem_append_right _ hy, e1.trans e2⟩
def JoinW (E1 E2 Eo : List Elem) (i k : Nat) : Prop := (∀ e ∈ Eo, (∃ x ∈ E1 ++ E2, e.r = x.r) ∧ in64 e.n) ∧ Eo.length ≤ i + k ∧ i ≤ E1.length ∧ k ≤ E2.length
theorem joinW_more {E1 E2 Eo : List Elem} {i k i' k' : Nat} {e : Elem} (h : JoinW E1 E2 Eo i k) (hx : ∃ x ∈ E1 ++ E2, e.r = x.r) (hn : in64 e.n) (h1 : i + k + 1 ≤ i' + k') (h2 : i' ≤ E1.length) (h3 : k' ≤ E2.length) : JoinW E1 E2 (Eo ++ [e]) i' k' := by
  refine ⟨fun y hy => ?_, by have := h.2.1; simp; omega, h2, h3⟩
  rcases List.mem_append.1 hy with hy | hy
  · exact h.1 y hy
  · obtain rfl := List.mem_singleton.1 hy; exact ⟨hx, hn⟩
def OfAnsW (w : World) (L : List Elem) (e : Ending) (w' : World) : Prop :=
  (∃ a c E, e = .returned (.slice a E.length c) ∧ E.length ≤ c ∧ ElemsAt w' a E ∧ SomeE L E ∧ TagL w' a ∧ ∀ e ∈ E, GoodE w' e) ∧ Below w.heap.size w w'
structure HalfW (w : World) (a : Option Addr) (k c : Nat) (L : List Elem) : Prop where
  out : ∀ W, Below w.heap.size w W → Calls Try.prog 18 #[.slice a k c] W (OfAnsW W L)
set_option maxHeartbeats 4000000 in
set_option maxRecDepth 1000000 in
theorem refJoinedW (a1 a2 : Option Addr) (c1 c2 : Nat) (E1 E2 : List Elem) (w : World) (h1 : ElemsAt w a1 E1) (h2 : ElemsAt w a2 E2) (hl : E1.length + E2.length ≤ 1000000)
    (hi1 : ∀ e ∈ E1, in64 e.n) (hi2 : ∀ e ∈ E2, in64 e.n) (hg1 : ∀ e ∈ E1, GoodE w e) (hg2 : ∀ e ∈ E2, GoodE w e) :
    Calls Try.prog 35 #[.slice a1 E1.length c1, .slice a2 E2.length c2] w fun e w' => (∃ a c E, e = .returned (.slice a E.length c) ∧ E.length ≤ c ∧ ElemsAt w' a E ∧ SomeE (E1 ++ E2) E ∧ TagL w' a ∧ ∀ e ∈ E, GoodE w' e) ∧ Below w.heap.size w w' := by
  have A1 := hid0 h1
  have A2 := hid0 h2
  have I1 := hid0 hi1
  have I2 := hid0 hi2
  have G1 := hid0 hg1
  have G2 := hid0 hg2
  clear h1 h2 hi1 hi2 hg1 hg2
  go_enter Try.func35, Try.ntmps35
  go_wp2
  go_loopw [5, 6, 7] (fun ov iv kv wr => ∃ (i k : Nat) (Eo : List Elem), iv = .int .i64 i ∧ kv = .int .i64 k ∧ OwnB wr w.heap.size ov Eo ∧ Hid (RowsG w Eo) ∧ Hid (JoinW E1 E2 Eo i k) ∧ Below w.heap.size w wr)
    (fun _ iv kv _ => (E1.length - (intOf iv).toNat) + (E2.length - (intOf kv).toNat))
  case atStart => exact ⟨0, 0, [], rfl, rfl, OwnB.nil _ _, hid0 ⟨fun e he => absurd he (by simp), fun e he => absurd he (by simp)⟩, hid0 ⟨fun e he => absurd he (by simp), Nat.le_refl _, Nat.zero_le _, Nat.zero_le _⟩, Below.refl _ _⟩
  case round =>
    obtain ⟨i, k, Eo, rfl, rfl, hown, hR, hJ, hB⟩ := hrel
    have hsz := hB.size
    have hil := hJ.out.2.2.1
    have hkl := hJ.out.2.2.2
    have hol := hJ.out.2.1
    by_cases hi : i < E1.length
    · obtain ⟨b1, o1, rfl, hc1⟩ := (A1.out.1.later hB) (by intro e; rw [e] at hi; exact absurd hi (by simp))
      obtain ⟨q0, q1⟩ := hc1 i hi
      clear hc1
      by_cases hk : k < E2.length
      · obtain ⟨b2, o2, rfl, hc2⟩ := (A2.out.1.later hB) (by intro e; rw [e] at hk; exact absurd hk (by simp))
        obtain ⟨p0, p1⟩ := hc2 k hk
        clear hc2
        have hie : ¬ (i : Int) = E1.length := by omega
        have r1 := A1.out.2 _ (List.getElem_mem hi)
        have r2 := A2.out.2 _ (List.getElem_mem hk)
        obtain ⟨cv, hcv⟩ : ∃ cv, rowsV E1[i].r E2[k].r = cv := ⟨_, rfl⟩
        have C17 : ∀ W, Below w.heap.size w W → Calls Try.prog 13 #[.slice E1[i].a E1[i].r.length E1[i].c, .slice E2[k].a E2[k].r.length E2[k].c] W fun e w' => e = .returned (.int .i64 cv) ∧ Below W.heap.size W w' := fun W hb => by
          have h := refRows_any E1[i].a E2[k].a E1[i].c E2[k].c E1[i].r E2[k].r W (r1.1.later hb) (r2.1.later hb) (by have := r1.2; unfold rowOK at this; unfold maxLen; omega)
          rwa [hcv] at h
        have HR := hid0 (And.intro r1 r2)
        have HC := hid0 hcv
        clear r1 r2 hcv
        have hlb1 : b1 < w.heap.size := by
          obtain ⟨b, o, e, hc⟩ := A1.out.1 (by intro e; rw [e] at hi; exact absurd hi (by simp))
          obtain ⟨rfl, rfl⟩ : b1 = b ∧ o1 = o := by simpa using e
          exact World.block_lt_of_cell? _ _ (hc i hi).1
        have hlb2 : b2 < w.heap.size := by
          obtain ⟨b, o, e, hc⟩ := A2.out.1 (by intro e; rw [e] at hk; exact absurd hk (by simp))
          obtain ⟨rfl, rfl⟩ : b2 = b ∧ o2 = o := by simpa using e
          exact World.block_lt_of_cell? _ _ (hc k hk).1
        by_cases hneg : cv < 0
        · go_wp2_with fail
          go_region_held3 (fun w' => w'.cell? ⟨b1, o1 + i * 2, none⟩ = some (.slice E1[i].a E1[i].r.length E1[i].c) ∧ w'.cell? ⟨b1, o1 + i * 2 + 1, none⟩ = some (.int .i64 E1[i].n) ∧ w'.cell? ⟨b2, o2 + k * 2, none⟩ = some (.slice E2[k].a E2[k].r.length E2[k].c) ∧ w'.cell? ⟨b2, o2 + k * 2 + 1, none⟩ = some (.int .i64 E2[k].n) ∧ OwnB w' w.heap.size u5 Eo ∧ Below w.heap.size w w')
            ((go_split_ands; (try dsimp only); (repeat' apply And.intro); all_goals (first
              | assumption
              | exact cell_later hbn ‹_›
              | exact OwnB.kept ‹_› hbn
              | exact below_through hbn (Below.size ‹Below w.heap.size w _›) ‹_›
              | exact Below.drew hB
              | exact hown.drew
              | go_keep)))
            (first
              | (go_at_call 13; (try go_split_ands); refine (C17 _ (by assumption)).mono ?_; rintro e wn ⟨rfl, hbn⟩))
          obtain ⟨f0, f1, g0, g1, hown0, hB0⟩ := ‹wn.cell? ⟨b1, o1 + i * 2, none⟩ = some (.slice E1[i].a E1[i].r.length E1[i].c) ∧ _›
          clear q0 q1 p0 p1 hown hB hbn C17
          have hsz0 := hB0.size
          have ho1 := fun o => hown0.alloc o
          go_wp2_with (at_builtin; go_must (refine wp_bag1 rfl _ _ rfl rfl (ho1 _) E1[i] wn.heap.size rfl (elem_new _ _ _ _).1 (elem_new _ _ _ _).2 ?hl ?hb ?_))
          case hl => omega
          case hb => simp; omega
          intro v1 w1 hown1 hK1
          have hB1 := (Below.alloc hB0 hsz0 _).trans hK1.below
          clear hown0 ho1 hK1 f0 f1 g0 g1
          go_wp2
          exact ⟨⟨i + 1, k, Eo ++ [E1[i]], by go_num, rfl, hown1, hid0 (rowsG_snoc hR.out HR.out.1 (G1.out _ (List.getElem_mem hi))), hid0 (joinW_more hJ.out ⟨_, List.mem_append_left _ (List.getElem_mem hi), rfl⟩ (I1.out _ (List.getElem_mem hi)) (by omega) (by omega) (by omega)), hB1⟩, by simp [intOf]; omega⟩
        by_cases hpos : 0 < cv
        · go_wp2_with fail
          go_region_held3 (fun w' => w'.cell? ⟨b1, o1 + i * 2, none⟩ = some (.slice E1[i].a E1[i].r.length E1[i].c) ∧ w'.cell? ⟨b1, o1 + i * 2 + 1, none⟩ = some (.int .i64 E1[i].n) ∧ w'.cell? ⟨b2, o2 + k * 2, none⟩ = some (.slice E2[k].a E2[k].r.length E2[k].c) ∧ w'.cell? ⟨b2, o2 + k * 2 + 1, none⟩ = some (.int .i64 E2[k].n) ∧ OwnB w' w.heap.size u5 Eo ∧ Below w.heap.size w w')
            ((go_split_ands; (try dsimp only); (repeat' apply And.intro); all_goals (first
              | assumption
              | exact cell_later hbn ‹_›
              | exact OwnB.kept ‹_› hbn
              | exact below_through hbn (Below.size ‹Below w.heap.size w _›) ‹_›
              | exact Below.drew hB
              | exact hown.drew
              | go_keep)))
            (first
              | (go_at_call 13; (try go_split_ands); refine (C17 _ (by assumption)).mono ?_; rintro e wn ⟨rfl, hbn⟩))
          obtain ⟨f0, f1, g0, g1, hown0, hB0⟩ := ‹wn.cell? ⟨b1, o1 + i * 2, none⟩ = some (.slice E1[i].a E1[i].r.length E1[i].c) ∧ _›
          clear q0 q1 p0 p1 hown hB hbn C17
          have hsz0 := hB0.size
          have ho1 := fun o => hown0.alloc o
          go_wp2_with (at_builtin; go_must (refine wp_bag1 rfl _ _ rfl rfl (ho1 _) E2[k] wn.heap.size rfl (elem_new _ _ _ _).1 (elem_new _ _ _ _).2 ?hl ?hb ?_))
          case hl => omega
          case hb => simp; omega
          intro v1 w1 hown1 hK1
          have hB1 := (Below.alloc hB0 hsz0 _).trans hK1.below
          clear hown0 ho1 hK1 f0 f1 g0 g1
          go_wp2
          exact ⟨⟨i, k + 1, Eo ++ [E2[k]], rfl, by go_num, hown1, hid0 (rowsG_snoc hR.out HR.out.2 (G2.out _ (List.getElem_mem hk))), hid0 (joinW_more hJ.out ⟨_, List.mem_append_right _ (List.getElem_mem hk), rfl⟩ (I2.out _ (List.getElem_mem hk)) (by omega) (by omega) (by omega)), hB1⟩, by simp [intOf]; omega⟩
        obtain rfl : cv = 0 := by omega
        clear hneg hpos
        obtain ⟨nv, hw0⟩ : ∃ nv, IntKind.i64.wrap (E1[i].n + E2[k].n) = nv := ⟨_, rfl⟩
        have HNV := hid0 (show in64 nv by rw [← hw0]; exact wrap_in64 _)
        by_cases h0 : nv = 0
        · go_wp2_with fail
          go_region_held3 (fun w' => w'.cell? ⟨b1, o1 + i * 2, none⟩ = some (.slice E1[i].a E1[i].r.length E1[i].c) ∧ w'.cell? ⟨b1, o1 + i * 2 + 1, none⟩ = some (.int .i64 E1[i].n) ∧ w'.cell? ⟨b2, o2 + k * 2, none⟩ = some (.slice E2[k].a E2[k].r.length E2[k].c) ∧ w'.cell? ⟨b2, o2 + k * 2 + 1, none⟩ = some (.int .i64 E2[k].n) ∧ OwnB w' w.heap.size u5 Eo ∧ Below w.heap.size w w')
            ((go_split_ands; (try dsimp only); (repeat' apply And.intro); all_goals (first
              | assumption
              | exact cell_later hbn ‹_›
              | exact OwnB.kept ‹_› hbn
              | exact below_through hbn (Below.size ‹Below w.heap.size w _›) ‹_›
              | exact Below.drew hB
              | exact hown.drew
              | go_keep)))
            (first
              | (go_at_call 13; (try go_split_ands); refine (C17 _ (by assumption)).mono ?_; rintro e wn ⟨rfl, hbn⟩))
          obtain ⟨f0, f1, g0, g1, hown0, hB0⟩ := ‹wn.cell? ⟨b1, o1 + i * 2, none⟩ = some (.slice E1[i].a E1[i].r.length E1[i].c) ∧ _›
          clear q0 q1 p0 p1 hown hB hbn C17
          have hsz0 := hB0.size
          have ho1 := fun o => hown0.alloc o
          go_wp2_with fail
          go_region
          go_wp2
          exact ⟨⟨i + 1, k + 1, Eo, by go_num, by go_num, hown0.drew, hR, hid0 ⟨hJ.out.1, by omega, by omega, by omega⟩, hB0.drew⟩, by simp [intOf]; omega⟩
        · go_wp2_with fail
          go_region_held3 (fun w' => w'.cell? ⟨b1, o1 + i * 2, none⟩ = some (.slice E1[i].a E1[i].r.length E1[i].c) ∧ w'.cell? ⟨b1, o1 + i * 2 + 1, none⟩ = some (.int .i64 E1[i].n) ∧ w'.cell? ⟨b2, o2 + k * 2, none⟩ = some (.slice E2[k].a E2[k].r.length E2[k].c) ∧ w'.cell? ⟨b2, o2 + k * 2 + 1, none⟩ = some (.int .i64 E2[k].n) ∧ OwnB w' w.heap.size u5 Eo ∧ Below w.heap.size w w')
            ((go_split_ands; (try dsimp only); (repeat' apply And.intro); all_goals (first
              | assumption
              | exact cell_later hbn ‹_›
              | exact OwnB.kept ‹_› hbn
              | exact below_through hbn (Below.size ‹Below w.heap.size w _›) ‹_›
              | exact Below.drew hB
              | exact hown.drew
              | go_keep)))
            (first
              | (go_at_call 13; (try go_split_ands); refine (C17 _ (by assumption)).mono ?_; rintro e wn ⟨rfl, hbn⟩))
          obtain ⟨f0, f1, g0, g1, hown0, hB0⟩ := ‹wn.cell? ⟨b1, o1 + i * 2, none⟩ = some (.slice E1[i].a E1[i].r.length E1[i].c) ∧ _›
          clear q0 q1 p0 p1 hown hB hbn C17
          have hsz0 := hB0.size
          have ho1 := fun o => hown0.alloc o
          go_wp2_with fail
          go_region
          go_wp2_with fail
          have hown2 := hown0.drew
          have hB2 := hB0.drew
          have f0' : wn.drew.cell? ⟨b1, o1 + i * 2, none⟩ = some (.slice E1[i].a E1[i].r.length E1[i].c) := f0
          have f1' : wn.drew.cell? ⟨b1, o1 + i * 2 + 1, none⟩ = some (.int .i64 E1[i].n) := f1
          have g1' : wn.drew.cell? ⟨b2, o2 + k * 2 + 1, none⟩ = some (.int .i64 E2[k].n) := g1
          clear hown0 hB0 ho1 f0 f1 g0 g1
          generalize wn.drew = W2 at f0' f1' g1' hown2 hB2 ⊢
          have ho2 := fun o => (hown2.drew).alloc o
          have hz2 := hB2.size
          go_region_held_law (fun w' => w'.cell? ⟨b1, o1 + i * 2, none⟩ = some (.slice E1[i].a E1[i].r.length E1[i].c) ∧ w'.cell? ⟨b1, o1 + i * 2 + 1, none⟩ = some (.int .i64 E1[i].n) ∧ w'.cell? ⟨b2, o2 + k * 2 + 1, none⟩ = some (.int .i64 E2[k].n))
            (first
              | go_keep
              | (go_split_ands; (try dsimp only); (repeat' apply And.intro); all_goals (first
                | assumption
                | exact (hK1.below.cell (p := ⟨b1, _, none⟩) hlb1).trans ‹_›
                | exact (hK1.below.cell (p := ⟨b2, _, none⟩) hlb2).trans ‹_›
                | go_keep)))
            ((refine step_bag1 (by rfl) _ _ (by rfl) (by rfl) (ho2 _) ⟨E1[i].a, E1[i].c, E1[i].r, nv⟩ W2.heap.size (by rfl) (elem_new _ _ _ _).1 (elem_new _ _ _ _).2 (by omega) (by simp; omega) ?_; intro v1 w1 hown1 hK1))
          have hB1 : Below w.heap.size w w1 := (Below.drew (Below.alloc hB2 hz2 _)).trans hK1.below
          clear hown2 hB2 ho2 hK1 f0' f1' g1'
          go_wp2
          exact ⟨⟨i + 1, k + 1, Eo ++ [⟨E1[i].a, E1[i].c, E1[i].r, nv⟩], by go_num, by go_num, hown1, hid0 (rowsG_snoc hR.out HR.out.1 (G1.out E1[i] (List.getElem_mem hi))), hid0 (joinW_more hJ.out ⟨_, List.mem_append_left _ (List.getElem_mem hi), rfl⟩ HNV.out (by omega) (by omega) (by omega)), hB1⟩, by simp [intOf]; omega⟩
      · have hke : (k : Int) = E2.length := by omega
        have hie : ¬ (i : Int) = E1.length := by omega
        have ho1 := fun o => hown.alloc o
        go_wp2_with (at_builtin; go_loud (refine wp_bag1 rfl _ _ rfl rfl (ho1 _) E1[i] wr.heap.size rfl (elem_new _ _ _ _).1 (elem_new _ _ _ _).2 ?hl ?hb ?_))
        case hl => omega
        case hb => simp; omega
        intro v1 w1 hown1 hK1
        have hB1 := (Below.alloc hB hsz _).trans hK1.below
        clear hown ho1 hK1 q0 q1
        go_wp2
        exact ⟨⟨i + 1, k, Eo ++ [E1[i]], by go_num, congrArg _ (by omega), hown1, hid0 (rowsG_snoc hR.out (A1.out.2 _ (List.getElem_mem hi)) (G1.out _ (List.getElem_mem hi))), hid0 (joinW_more hJ.out ⟨_, List.mem_append_left _ (List.getElem_mem hi), rfl⟩ (I1.out _ (List.getElem_mem hi)) (by omega) (by omega) (by omega)), hB1⟩, by simp [intOf]; omega⟩
    · by_cases hk : k < E2.length
      · obtain ⟨b2, o2, rfl, hc2⟩ := (A2.out.1.later hB) (by intro e; rw [e] at hk; exact absurd hk (by simp))
        obtain ⟨p0, p1⟩ := hc2 k hk
        clear hc2
        have hie : (i : Int) = E1.length := by omega
        have ho1 := fun o => hown.alloc o
        go_wp2_with (at_builtin; go_must (refine wp_bag1 rfl _ _ rfl rfl (ho1 _) E2[k] wr.heap.size rfl (elem_new _ _ _ _).1 (elem_new _ _ _ _).2 ?hl ?hb ?_))
        case hl => omega
        case hb => simp; omega
        intro v1 w1 hown1 hK1
        have hB1 := (Below.alloc hB hsz _).trans hK1.below
        clear hown ho1 hK1 p0 p1
        go_wp2
        exact ⟨⟨i, k + 1, Eo ++ [E2[k]], congrArg _ (by omega), by go_num, hown1, hid0 (rowsG_snoc hR.out (A2.out.2 _ (List.getElem_mem hk)) (G2.out _ (List.getElem_mem hk))), hid0 (joinW_more hJ.out ⟨_, List.mem_append_right _ (List.getElem_mem hk), rfl⟩ (I2.out _ (List.getElem_mem hk)) (by omega) (by omega) (by omega)), hB1⟩, by simp [intOf]; omega⟩
      · obtain ⟨a, c, rfl, hcap, _, hcl⟩ := elems_owned hown.out
        have HC := hid0 hcl
        have HF := hid0 (owned_tag hown)
        clear hown hcl
        have hie : ¬ (i : Int) < E1.length := by omega
        have hke : ¬ (k : Int) < E2.length := by omega
        go_wp2
        go_ret
        exact ⟨⟨a, c, Eo, rfl, hcap, ⟨HC.out, hR.out.1.later hB⟩, ⟨by rw [List.length_append]; have := hJ.out.2.1; omega, hJ.out.1⟩, HF.out, fun e he => (hR.out.2 e he).later hB⟩, hB⟩
set_option maxHeartbeats 4000000 in
set_option maxRecDepth 1000000 in
theorem refOfW_all : ∀ (n : Nat) (a : Option Addr) (c : Nat) (E : List Elem) (w : World), E.length ≤ n → ElemsAt w a E → E.length ≤ c → E.length ≤ 1000000 → (∀ e ∈ E, in64 e.n) →
    Calls Try.prog 18 #[.slice a E.length c] w (OfAnsW w E) := by
  intro n
  induction n with
  | zero =>
    intro a c E w hn h hc hl hs
    obtain rfl : E = [] := List.length_eq_zero_iff.1 (by omega)
    go_enter Try.func18, Try.ntmps18
    go_wp2
    go_ret
    exact ⟨⟨none, 0, [], rfl, Nat.le_refl _, ElemsAt.nil _ _, SomeE.nil _, (fun _ h => by cases h), fun e he => absurd he (by simp)⟩, Below.refl _ _⟩
  | succ n ih =>
    intro a c E w hn h hc hl hs
    match E, h, hn, hc, hl, hs with
    | [], h, hn, hc, hl, hs =>
      go_enter Try.func18, Try.ntmps18
      go_wp2
      go_ret
      exact ⟨⟨none, 0, [], rfl, Nat.le_refl _, ElemsAt.nil _ _, SomeE.nil _, (fun _ h => by cases h), fun e he => absurd he (by simp)⟩, Below.refl _ _⟩
    | [e], h, hn, hc, hl, hs =>
      obtain ⟨b, off, rfl, hcl⟩ := h.1 (by simp)
      obtain ⟨q0, q1⟩ := hcl 0 (by simp)
      have hr := hid0 (h.2 e (by simp))
      have HEN := hid0 (hs e (by simp))
      simp only [Nat.zero_mul, Nat.add_zero, List.getElem_cons_zero] at q0 q1
      clear hcl
      by_cases hz : e.n = 0
      · rw [hz] at q1
        go_enter Try.func18, Try.ntmps18
        go_wp2
        go_ret
        exact ⟨⟨none, 0, [], rfl, Nat.le_refl _, ElemsAt.nil _ _, SomeE.nil _, (fun _ h => by cases h), fun e he => absurd he (by simp)⟩, Below.refl _ _⟩
      · go_enter Try.func18, Try.ntmps18
        go_wp2_with fail
        go_region_held3 (fun w' => w'.cell? ⟨b, off, none⟩ = some (.slice e.a e.r.length e.c) ∧ w'.cell? ⟨b, off + 1, none⟩ = some (.int .i64 e.n) ∧ Below w.heap.size w w')
          ((go_split_ands; (try dsimp only); (repeat' apply And.intro); all_goals (first
            | assumption
            | exact cell_later hbn ‹_›
            | exact below_through hbn (Below.size ‹Below w.heap.size w _›) ‹_›
            | exact Below.drew (Below.refl _ _)
            | exact Below.alloc ‹_› (Below.size ‹Below w.heap.size w _›) _
            | go_keep)))
          (first
            | (go_at_call 34; (try go_split_ands); refine (refCopied2 _ _ _ _ (hr.out.1.later ((‹Below w.heap.size w _›))) hr.out.2).mono ?_; rintro e1 wn ⟨⟨a', c', rfl, hrow, hgood⟩, hbn⟩))
        have HH := ‹_ ∧ _ ∧ Below w.heap.size w (World.alloc _ _)›
        go_wp2
        go_ret
        refine ⟨⟨some ⟨wn.heap.size, 0, none⟩, 1, [⟨a', c', e.r, e.n⟩], rfl, Nat.le_refl _, ⟨fun _ => ⟨wn.heap.size, 0, rfl, fun i hi => ?_⟩, fun x hx => ?_⟩, ?_, fun ad h => ?_, fun x hx => ?_⟩, HH.2.2⟩
        · obtain rfl : i = 0 := by simp at hi; omega
          exact elem_new _ _ _ _
        · obtain rfl := List.mem_singleton.1 hx
          exact ⟨hrow.later ((Below.refl _ _).alloc (Nat.le_refl _) _), hr.out.2⟩
        · exact ⟨Nat.le_refl _, fun y hy => by obtain rfl := List.mem_singleton.1 hy; exact ⟨⟨e, by simp, rfl⟩, HEN.out⟩⟩
        · obtain rfl := Option.some.inj h
          exact ⟨_, _, (BlkAt.new wn _ _).out.choose_spec⟩
        · obtain rfl := List.mem_singleton.1 hx
          exact (hgood e.n).later ((Below.refl _ _).alloc (Nat.le_refl _) _)
    | e1 :: e2 :: E, h, hn, hc, hl, hs =>
      have h2 : 2 ≤ (e1 :: e2 :: E).length := by simp
      generalize e1 :: e2 :: E = F at h hn hc hl hs h2 ⊢
      obtain ⟨b, off, rfl, hcl⟩ := h.1 (fun e => by rw [e] at h2; simp at h2)
      clear hcl
      obtain ⟨k, hk⟩ : ∃ k, F.length / 2 = k := ⟨_, rfl⟩
      obtain ⟨m, hm⟩ : ∃ m, F.length - k = m := ⟨_, rfl⟩
      have hl1 : (F.take k).length = k := by rw [List.length_take]; omega
      have hl2 : (F.drop k).length = m := by rw [List.length_drop]; omega
      have HA : HalfW w (some ⟨b, off, none⟩) k c (F.take k) := ⟨fun W hb => by
        have := ih (some ⟨b, off, none⟩) c (F.take k) W (by omega) ((h.later hb).take k) (by omega) (by omega) (fun e he => hs e (List.mem_of_mem_take he))
        rwa [hl1] at this⟩
      have hh1 := elems_head (some ⟨b, off, none⟩) F c k (by omega) hc
      obtain ⟨a1, cm, hcm, hh2, hat⟩ := elems_tail (some ⟨b, off, none⟩) F c k m (by omega) hc hm
      have HD : HalfW w a1 m cm (F.drop k) := ⟨fun W hb => by
        have := ih a1 cm (F.drop k) W (by omega) (hat _ (h.later hb)) (by omega) (by omega) (fun e he => hs e (List.mem_of_mem_drop he))
        rwa [hl2] at this⟩
      have HT : Hid (F = F.take k ++ F.drop k) := hid0 (List.take_append_drop k F).symm
      have HLL := hid0 (show (F.take k).length + (F.drop k).length ≤ 1000000 by omega)
      generalize F.take k = LA at HA HT HLL hl1
      generalize F.drop k = LB at HD HT HLL hl2
      clear hl1 hl2
      have hq : IntKind.i64.wrap ((F.length : Int).tdiv 2) = (k : Int) := by
        rw [show (F.length : Int).tdiv 2 = ((F.length / 2 : Nat) : Int) from rfl, hk]; exact IntWalk.i64_in _ (by omega)
      have hq0 : (F.length : Int).tdiv 2 = (k : Int) := by rw [← hk]; rfl
      have hwk : IntKind.i64.wrap (k : Int) = (k : Int) := IntWalk.i64_in _ (by omega)
      have hwk2 : wrap64 (k : Int) = (k : Int) := by unfold wrap64; omega
      have i0 : ¬ (F.length : Int) = 0 := by omega
      have i1 : ¬ (F.length : Int) = 1 := by omega
      obtain ⟨len, hlen⟩ : ∃ len, F.length = len := ⟨_, rfl⟩
      rw [hlen] at hq hq0 i0 i1 hh1 hh2 ⊢
      have HLEN := hid0 hlen
      clear hlen hn hs h ih hat hk hm hc hl h2
      go_enter Try.func18, Try.ntmps18
      go_wp2_with fail
      go_region_held3 (fun w' => Below w.heap.size w w')
        ((go_split_ands; (try dsimp only); (repeat' apply And.intro); all_goals (first
          | assumption
          | exact below_through hbn (Below.size ‹Below w.heap.size w _›) ‹_›
          | exact Below.drew (Below.refl _ _)
          | go_keep)))
        (first
          | (go_at_call 18; refine ((by exact HA : HalfW w _ _ _ _).out _ (by assumption)).mono ?_; rintro ea wa ⟨⟨aa, ca, EA, rfl, hca, hEA, hmA, hfA, hgA⟩, hbn⟩)
          | (go_at_call 18; refine ((by exact HD : HalfW w _ _ _ _).out _ (by assumption)).mono ?_; rintro ed wd ⟨⟨ad, cd, ED, rfl, hcd, hED, hmD, hfD, hgD⟩, hbn⟩)
          | (go_at_call 35; refine (refJoinedW _ _ _ _ EA ED _ (by exact hEA.later hbn) (by exact hED) (by have := hmA.few; have := hmD.few; have := HLL.out; omega) (by exact fun e he => (hmA.of e he).2) (by exact fun e he => (hmD.of e he).2) (by exact fun e he => (hgA e he).later hbn) (by exact hgD)).mono ?_; rintro ej wj ⟨⟨aj, cj, EJ, rfl, hcj, hEJ, hmJ, hfJ, hgJ⟩, hbn⟩))
      have HH := ‹Below w.heap.size w wj›
      clear HA HD hh1 hh2
      go_wp2
      go_ret
      exact ⟨⟨aj, cj, EJ, rfl, hcj, hEJ, SomeE.both hmA hmD hmJ HT.out, hfJ, hgJ⟩, HH⟩
set_option maxHeartbeats 2000000 in
set_option maxRecDepth 1000000 in
theorem refAddW (a1 a2 : Option Addr) (c1 c2 : Nat) (E1 E2 : List Elem) (w : World) (h1 : ElemsAt w a1 E1) (h2 : ElemsAt w a2 E2) (hl : E1.length + E2.length ≤ 1000000) (hi1 : ∀ e ∈ E1, in64 e.n) (hi2 : ∀ e ∈ E2, in64 e.n) :
    Calls Try.prog 10 #[.slice a1 E1.length c1, .slice a2 E2.length c2] w (OfAnsW w (E1 ++ E2)) := by
  have hown : (w.alloc (Obj.cells #[] 51)).ownsRow w.heap.size 51 2 (.slice (some ⟨w.heap.size, 0, none⟩) 0 0) 0 [] := World.ownsRow_made w #[] 0 (Nat.le_refl _) (by unfold maxLen; omega) rfl
  have hO : OwnB (w.alloc (Obj.cells #[] 51)) w.heap.size (.slice (some ⟨w.heap.size, 0, none⟩) 0 0) [] := ⟨hown⟩
  have hB0 : Below w.heap.size w (w.alloc (Obj.cells #[] 51)) := (Below.refl _ _).alloc (Nat.le_refl _) _
  have H1 := hid0 (h1.later hB0)
  have H1' := hid0 h1
  have H2 := hid0 h2
  have HS := hid0 (show ∀ e ∈ E1 ++ E2, in64 e.n from fun e he => (List.mem_append.1 he).elim (hi1 e) (hi2 e))
  clear h1 h2 hi1 hi2 hown
  go_enter Try.func10, Try.ntmps10
  go_wp2_with (first | (at_builtin; refine wp_appE rfl _ _ rfl rfl rfl hO H1.out (by simp; omega) (by simp) ?_) | fail)
  intro v1 w1 hm1 hg1
  have hB1 : Below w.heap.size w w1 := hB0.grown hg1 (by simp) (fun k hk => (hO.out.lt k hk).1)
  have hO1 : Hid (OwnB w1 w.heap.size v1 E1) := hid0 hm1
  clear hg1 hO hB0 hm1
  go_wp2_with (first | (at_builtin; go_loud (refine wp_appE rfl _ _ rfl rfl rfl hO1.out (H2.out.later hB1) (by (try simp only [List.nil_append]); omega) hB1.size ?_)) | fail)
  intro v2 w2 hm2 hg2
  have hB2 : Below w.heap.size w w2 := hB1.grown hg2 hB1.size (fun k hk => (hO1.out.out.lt k hk).1)
  have hR2 : RowsIn w2 (E1 ++ E2) := fun e he => by
    rcases List.mem_append.1 he with he | he
    · exact (H1'.out.later hB2).2 e he
    · exact (H2.out.later hB2).2 e he
  have hl3 : (E1 ++ E2).length ≤ 1000000 := by rw [List.length_append]; exact hl
  have HS3 := HS.out
  obtain ⟨E3, hE3⟩ : ∃ E3, E1 ++ E2 = E3 := ⟨_, rfl⟩
  rw [hE3] at hm2 hR2 hl3 HS3
  have HE := hid0 hE3
  clear hE3
  obtain ⟨a', c', rfl, hcap, _, hcl⟩ := elems_owned hm2.out
  have CO := hid0 (refOfW_all E3.length a' c' E3 w2 (Nat.le_refl _) ⟨hcl, hR2⟩ hcap hl3 HS3)
  have HB := hid0 hB2
  clear hm2 hg2 hcl hO1 hB1 hB2 hcap hR2 hl3 HS3 HS H1 H1' H2
  go_wp2_with (first | (go_at_call 18; go_must (refine CO.out.mono ?_; rintro e w3 ⟨⟨a5, c5, E5, rfl, hc5, hE5, hm5, hf5, hg5⟩, hb5⟩)) | fail)
  go_ret
  exact ⟨⟨a5, c5, E5, rfl, hc5, hE5, (by rw [HE.out]; exact hm5), hf5, hg5⟩, below_through hb5 HB.out.size HB.out⟩
end Go.Proofs.Ytadidikegfiedab
