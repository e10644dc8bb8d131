/- Several of my texts laid together, each as it was: Bm, Be, Bf, Bg, Bo, Bq, Br. Conditions: each names its own. -/
import Derived.Test.YtfdkajefcplfjaaGreatH4
import Derived.Test.YtfdkajefcplfjaaGreatH3
import Derived.Deep.RegionHeld3
import Derived.BigQuiet
/- The project's merge of two bags (belvedere/bag.merge): a contract of the call, in whatever memory. Conditions: the bags' cells are known; their numbers are so small that no sum passes the ends. -/
namespace Go.Proofs.YtfdkajefcplfjaaGreat
open Go.RowKit

/-- Of the two bags E1, E2 there are F1 and F2 left; Eo is what has been merged. -/
def MergeTo (E1 E2 F1 F2 Eo : List Elem) : Prop :=
  joinB (E1.map pr) (E2.map pr) = Eo.map pr ++ joinB (F1.map pr) (F2.map pr) ∧ Eo.length + F1.length + F2.length ≤ E1.length + E2.length ∧ (∀ x ∈ F1, x ∈ E1) ∧ (∀ x ∈ F2, x ∈ E2)
theorem merge_start (E1 E2 : List Elem) : MergeTo E1 E2 E1 E2 [] := ⟨by simp, by simp, fun _ h => h, fun _ h => h⟩
theorem merge_less {E1 E2 F1 F2 Eo : List Elem} {x y : Elem} (h : MergeTo E1 E2 (x :: F1) (y :: F2) Eo) (hc : rowsV x.r y.r < 0) : MergeTo E1 E2 F1 (y :: F2) (Eo ++ [x]) := by
  refine ⟨?_, by have := h.2.1; simp at this ⊢; omega, fun z hz => h.2.2.1 z (by simp [hz]), h.2.2.2⟩
  rw [h.1]
  show _ ++ joinB (pr x :: F1.map pr) (pr y :: F2.map pr) = _
  rw [joinB_less (x := pr x) (y := pr y) _ _ hc]; simp
theorem merge_more {E1 E2 F1 F2 Eo : List Elem} {x y : Elem} (h : MergeTo E1 E2 (x :: F1) (y :: F2) Eo) (hc : 0 < rowsV x.r y.r) : MergeTo E1 E2 (x :: F1) F2 (Eo ++ [y]) := by
  refine ⟨?_, by have := h.2.1; simp at this ⊢; omega, h.2.2.1, fun z hz => h.2.2.2 z (by simp [hz])⟩
  rw [h.1]
  show _ ++ joinB (pr x :: F1.map pr) (pr y :: F2.map pr) = _
  rw [joinB_more (x := pr x) (y := pr y) _ _ hc]; simp
theorem merge_none {E1 E2 F1 F2 Eo : List Elem} {x y : Elem} (h : MergeTo E1 E2 (x :: F1) (y :: F2) Eo) (hc : rowsV x.r y.r = 0) (h0 : x.n + y.n = 0) : MergeTo E1 E2 F1 F2 Eo := by
  refine ⟨?_, by have := h.2.1; simp at this ⊢; omega, fun z hz => h.2.2.1 z (by simp [hz]), fun z hz => h.2.2.2 z (by simp [hz])⟩
  rw [h.1]
  show _ ++ joinB (pr x :: F1.map pr) (pr y :: F2.map pr) = _
  rw [joinB_none (x := pr x) (y := pr y) _ _ hc h0]
theorem merge_both {E1 E2 F1 F2 Eo : List Elem} {x y : Elem} (h : MergeTo E1 E2 (x :: F1) (y :: F2) Eo) (hc : rowsV x.r y.r = 0) (h0 : x.n + y.n ≠ 0) : MergeTo E1 E2 F1 F2 (Eo ++ [⟨x.a, x.c, x.r, x.n + y.n⟩]) := by
  refine ⟨?_, by have := h.2.1; simp at this ⊢; omega, fun z hz => h.2.2.1 z (by simp [hz]), fun z hz => h.2.2.2 z (by simp [hz])⟩
  rw [h.1]
  show _ ++ joinB (pr x :: F1.map pr) (pr y :: F2.map pr) = _
  rw [joinB_both (x := pr x) (y := pr y) _ _ hc h0]; simp [pr]
theorem merge_end {E1 E2 F1 F2 Eo : List Elem} (h : MergeTo E1 E2 F1 F2 Eo) (he : F1 = [] ∨ F2 = []) : (Eo ++ (F1 ++ F2)).map pr = joinB (E1.map pr) (E2.map pr) := by
  rw [h.1]
  rcases he with rfl | rfl
  · rw [List.map_nil, nil_joinB]; simp
  · rw [List.map_nil, joinB_nil]; simp

/-- The cells of a list of elements, from its first one on. -/
theorem cellsE_of {w : World} {ad : Addr} {F : List Elem} (h : CellsAt w (some ad) F) : ∀ j u, (cellsE F)[j]? = some u → w.cell? (ad.add j) = some u := by
  intro j u hj
  have hlt : j < F.length * 2 := by
    have := (List.getElem?_eq_some_iff.1 hj).1
    rwa [cellsE_len] at this
  have hne : F ≠ [] := fun e => by subst e; simp at hlt
  obtain ⟨b, off, e, hc⟩ := h hne
  obtain rfl : ad = ⟨b, off, none⟩ := by simpa using e
  have hi : j / 2 < F.length := by omega
  obtain ⟨c0, c1⟩ := hc (j / 2) hi
  obtain ⟨r0, r1⟩ := cellsE_at F (j / 2) hi
  rw [WideShapes.add_plain]
  rcases (by omega : j % 2 = 0 ∨ j % 2 = 1) with e | e
  · rw [show j = j / 2 * 2 by omega] at hj ⊢
    rw [r0] at hj; rw [← hj]; simpa using c0
  · rw [show j = j / 2 * 2 + 1 by omega] at hj ⊢
    have hd : (j / 2 * 2 + 1) / 2 = j / 2 := by omega
    rw [r1] at hj; rw [← hj, ← Nat.add_assoc]; exact c1
theorem cellsE_one (F : List Elem) : ∀ u ∈ cellsE F, u.oneCell' = true := by
  intro u hu
  obtain ⟨v, _, hu⟩ := List.mem_flatMap.1 hu
  simp [cellsOne] at hu
  rcases hu with rfl | rfl <;> rfl
theorem cellsE_append (A B : List Elem) : cellsE (A ++ B) = cellsE A ++ cellsE B := by simp [cellsE]

/-- An append of a list of elements. -/
theorem wp_bags {w : World} {ops : Array Oper} {rest : List Oper} {o : Oper} {a : Act} {Q : Exit → Act → World → Prop} (hgd : o.guard = none) (s x : Operand)
    (ho : o.op = .call { callee := .builtin .append, args := #[s, x], argTypes := #[57, 57] })
    {base : Nat} {v : Value} {E : List Elem} (hs : a.eval s = v) (hown : OwnB w base v E)
    (F : List Elem) (m : Nat) (hm : F.length = m) (a2 : Option Addr) (c2 : Nat) (hx : a.eval x = .slice a2 m c2) (hF : CellsAt w a2 F)
    (hlen : (E.length + F.length) * 32 ≤ 140737488355328) (hbase : base ≤ w.heap.size)
    (h : ∀ v' w', OwnB w' base v' (E ++ F) → KeptT 80 base w w' → wpList Tryz.prog ops Q rest (a.put o.dst v') w') : wpList Tryz.prog ops Q (o :: rest) a w := by
  subst hm
  obtain ⟨i0, hi, hz0, hz1, hz2⟩ := info_parts info36
  cases a2 with
  | none =>
    obtain rfl : F = [] := by
      by_cases hn : F = []
      · exact hn
      · obtain ⟨b, off, e, _⟩ := hF hn; simp at e
    refine wpList_plain hgd fun K hK => ?_
    obtain ⟨av, cv, hv, hcv, _, _⟩ := elems_owned hown.out
    have hrun := run_append_none (P := Tryz.prog) w 57 o.type 80 i0 Tryz.underlying57 hi av E.length cv c2 hcv
    subst hv
    unfold Oper.wp
    simp only [List.length_nil] at hx
    simp [execOp, ho, resolve, invoke, builtin, hs, hx, hrun, Result.andThen]
    refine hK _ _ (h _ w (by rw [List.append_nil]; exact hown) ⟨Below.refl _ _, fun _ _ _ _ _ hB => hB⟩)
  | some ad =>
    refine wpList_append_own w hgd s x 57 ho base 80 i0 (.agg #[.slice none 0 0, .int .i64 0]) 2 32 Tryz.underlying57 hi hz0 hz1 hz2 rfl (by decide) v E.length (cellsE E) hs hown.out ad F.length c2 (cellsE F) hx (cellsE_len F) (cellsE_of hF) (cellsE_one F) (by unfold maxLen; omega) hlen hbase ?_
    intro v' w' hown' hgrow _
    refine h v' w' ⟨?_⟩ (keptT_grown hown.out hbase hgrow)
    rw [cellsE_append, List.length_append]
    exact hown'
set_option maxRecDepth 1000000 in
theorem elems_next (a : Option Addr) (x : Elem) (F : List Elem) (c : Nat) (hc : (x :: F).length ≤ c) :
    ∃ a1 c1, F.length ≤ c1 ∧ (∀ W : World, (Instr.slice 57 (.slice a (x :: F).length c) (some (.int .i64 1)) none none).run Tryz.prog W = .ok (.slice a1 F.length c1) W) ∧ ∀ W, ElemsAt W a (x :: F) → ElemsAt W a1 F := by
  refine ⟨if c = 1 then a else a.map (·.add 2), c - 1, by simp at hc; omega, fun W => ?_, fun W h => ?_⟩
  · have h := run_slice_l (P := Tryz.prog) W 57 a (x :: F).length c Tryz.underlying57 .i64 ((1 : Nat) : Int) (by simp) (by simp; omega)
    rw [show ((1 : Nat) : Int) = 1 from rfl] at h
    rw [h]
    simp [go_sem, Result.andThen, sliced]
  · split
    · rename_i h1
      obtain rfl : F = [] := by simp at hc; exact List.length_eq_zero_iff.1 (by omega)
      exact ElemsAt.nil _ _
    · obtain ⟨b, off, rfl, hcl⟩ := h.1 (by simp)
      simp only [Option.map_some, WideShapes.add_plain]
      exact h.drop 1
def lenV : Value → Nat
  | .slice _ n _ => n
  | _ => 0

set_option maxHeartbeats 4000000 in
set_option maxRecDepth 1000000 in
theorem merge_any (a1 a2 : Option Addr) (c1 c2 : Nat) (E1 E2 : List Elem) (w : World) (h1 : ElemsAt w a1 E1) (h2 : ElemsAt w a2 E2) (k1 : E1.length ≤ c1) (k2 : E2.length ≤ c2) (hl : E1.length + E2.length ≤ 1000000)
    (hs : ∀ x ∈ E1, ∀ y ∈ E2, -4611686018427387904 ≤ x.n + y.n ∧ x.n + y.n ≤ 4611686018427387904) :
    Calls Tryz.prog 127 #[.slice a1 E1.length c1, .slice a2 E2.length c2] w fun e w' => (∃ a c E, e = .returned (.slice a E.length c) ∧ E.length ≤ c ∧ ElemsAt w' a E ∧ E.map pr = joinB (E1.map pr) (E2.map pr)) ∧ Below w.heap.size w w' := by
  have A1 := hid0 h1
  have A2 := hid0 h2
  have HS := hid0 hs
  clear h1 h2 hs
  obtain ⟨i0, hi, hz0, hz1, hz2⟩ := info_parts info36
  have hw : IntKind.i64.wrap ((E1.length : Int) + E2.length) = ((E1.length + E2.length : Nat) : Int) := by rw [IntWalk.i64_in _ (by omega)]; omega
  go_enter Tryz.func127, Tryz.ntmps127
  go_wp2_with (at_make; go_must (refine wpList_make_own _ rfl _ _ 57 rfl w.heap.size 80 i0 (.agg #[.slice none 0 0, .int .i64 0]) 2 Tryz.underlying57 hi hz0 hz1 _ _ _ (E1.length + E2.length) rfl rfl ?b1 ?b2 ?b3 (Nat.le_refl _) ?_))
  case b1 => first | rfl | exact hw | omega
  case b2 => rw [hz2]; omega
  case b3 => unfold maxLen; omega
  intro w1 hown1 hg1
  have hB1 : Below w.heap.size w w1 := (Below.refl _ _).grown hg1 (Nat.le_refl _) (fun k hk => by cases hk)
  have hO1 : OwnB w1 w.heap.size (.slice (some ⟨w.heap.size, 0, none⟩) 0 (E1.length + E2.length)) [] := ⟨hown1⟩
  clear hown1 hg1 hw hz0 hz1 hz2 hi
  go_wp2_with fail
  go_loopw [0, 1, 5] (fun av bv ov wr => ∃ (a1 a2 : Option Addr) (c1 c2 : Nat) (F1 F2 Eo : List Elem), av = .slice a1 F1.length c1 ∧ bv = .slice a2 F2.length c2 ∧ F1.length ≤ c1 ∧ F2.length ≤ c2 ∧ Hid (ElemsAt w a1 F1) ∧ Hid (ElemsAt w a2 F2) ∧ OwnB wr w.heap.size ov Eo ∧ Hid (RowsIn w Eo) ∧ Hid (MergeTo E1 E2 F1 F2 Eo) ∧ Below w.heap.size w wr)
    (fun av bv _ _ => lenV av + lenV bv)
  case atStart => exact ⟨a1, a2, c1, c2, E1, E2, [], rfl, rfl, k1, k2, A1, A2, hO1, hid0 (fun e he => absurd he (by simp)), hid0 (merge_start E1 E2), hB1⟩
  case round =>
    obtain ⟨a1', a2', c1', c2', F1, F2, Eo, rfl, rfl, m1, m2, B1, B2, hown, hR, hM, hB⟩ := hrel
    have hsz := hB.size
    clear A1 A2 hO1 hB1
    have hlen := hM.out.2.1
    obtain ⟨n1, hn1⟩ : ∃ n1, F1.length = n1 := ⟨_, rfl⟩
    obtain ⟨n2, hn2⟩ : ∃ n2, F2.length = n2 := ⟨_, rfl⟩
    have HN1 := hid0 hn1
    have HN2 := hid0 hn2
    have hlen0 := hlen
    rw [hn1, hn2] at hlen
    clear hlen0
    by_cases e1 : F1 = []
    · have f1 : ¬ (0 : Int) < (n1 : Int) := by rw [← hn1, e1]; simp
      have HE := hid0 (Or.inl (b := F2 = []) e1)
      rw [hn1, hn2]
      clear e1 hn1 hn2
      go_wp2_with (at_builtin; go_must (refine wp_bags rfl _ _ rfl rfl hown F1 n1 HN1.out a1' c1' rfl (B1.out.1.later hB) (by have := HN1.out; omega) hsz ?_))
      intro v1 w2 hown2 hK2
      have hB2 := hB.trans hK2.below
      have hsz2 := hB2.size
      clear hown hK2
      go_wp2_with (at_builtin; go_must (refine wp_bags rfl _ _ rfl rfl hown2 F2 n2 HN2.out a2' c2' rfl (B2.out.1.later hB2) (by have := HN1.out; have := HN2.out; rw [List.length_append]; omega) hsz2 ?_))
      intro v2 w3 hown3 hK3
      have hB3 := hB2.trans hK3.below
      obtain ⟨a, c, rfl, hcap, _, hcl⟩ := elems_owned hown3.out
      have HC := hid0 hcl
      clear hown2 hK3 hown3 hcl
      go_wp2
      go_ret
      refine ⟨⟨a, c, Eo ++ (F1 ++ F2), rfl, hcap, ⟨HC.out, fun e he => ?_⟩, merge_end hM.out HE.out⟩, hB3⟩
      rcases List.mem_append.1 he with he | he
      · exact (hR.out.later hB3) e he
      · rcases List.mem_append.1 he with he | he
        · exact (B1.out.2.later hB3) e he
        · exact (B2.out.2.later hB3) e he
    by_cases e2 : F2 = []
    · have f1 : (0 : Int) < (n1 : Int) := by
        have : F1.length ≠ 0 := fun h => e1 (List.length_eq_zero_iff.1 h)
        omega
      have f2 : ¬ (0 : Int) < (n2 : Int) := by rw [← hn2, e2]; simp
      have HE := hid0 (Or.inr (a := F1 = []) e2)
      rw [hn1, hn2]
      clear e1 e2 hn1 hn2
      go_wp2_with (at_builtin; go_must (refine wp_bags rfl _ _ rfl rfl hown F1 n1 HN1.out a1' c1' rfl (B1.out.1.later hB) (by have := HN1.out; omega) hsz ?_))
      intro v1 w2 hown2 hK2
      have hB2 := hB.trans hK2.below
      have hsz2 := hB2.size
      clear hown hK2
      go_wp2_with (at_builtin; go_must (refine wp_bags rfl _ _ rfl rfl hown2 F2 n2 HN2.out a2' c2' rfl (B2.out.1.later hB2) (by have := HN1.out; have := HN2.out; rw [List.length_append]; omega) hsz2 ?_))
      intro v2 w3 hown3 hK3
      have hB3 := hB2.trans hK3.below
      obtain ⟨a, c, rfl, hcap, _, hcl⟩ := elems_owned hown3.out
      have HC := hid0 hcl
      clear hown2 hK3 hown3 hcl
      go_wp2
      go_ret
      refine ⟨⟨a, c, Eo ++ (F1 ++ F2), rfl, hcap, ⟨HC.out, fun e he => ?_⟩, merge_end hM.out HE.out⟩, hB3⟩
      rcases List.mem_append.1 he with he | he
      · exact (hR.out.later hB3) e he
      · rcases List.mem_append.1 he with he | he
        · exact (B1.out.2.later hB3) e he
        · exact (B2.out.2.later hB3) e he
    obtain ⟨x, F1, rfl⟩ : ∃ x G, F1 = x :: G := by
      cases F1 with
      | nil => exact absurd rfl e1
      | cons x G => exact ⟨x, G, rfl⟩
    obtain ⟨y, F2, rfl⟩ : ∃ y G, F2 = y :: G := by
      cases F2 with
      | nil => exact absurd rfl e2
      | cons y G => exact ⟨y, G, rfl⟩
    obtain ⟨b1, o1, rfl, hc1⟩ := B1.out.1 (by simp)
    have hlb1 : b1 < w.heap.size := World.block_lt_of_cell? _ _ (hc1 0 (by simp)).1
    have hc1' := (hc1 0 (by simp))
    simp only [Nat.zero_mul, Nat.add_zero, List.getElem_cons_zero] at hc1'
    have q0 := cell_later hB hc1'.1
    have q1 := cell_later hB hc1'.2
    obtain ⟨b2, o2, rfl, hc2⟩ := B2.out.1 (by simp)
    have hlb2 : b2 < w.heap.size := World.block_lt_of_cell? _ _ (hc2 0 (by simp)).1
    have hc2' := (hc2 0 (by simp))
    simp only [Nat.zero_mul, Nat.add_zero, List.getElem_cons_zero] at hc2'
    have p0 := cell_later hB hc2'.1
    have p1 := cell_later hB hc2'.2
    clear hc1 hc2 hc1' hc2' e1 e2
    have r1 := B1.out.2 x (by simp)
    have r2 := B2.out.2 y (by simp)
    obtain ⟨a1n, c1n, l1n, hs1, hat1⟩ := elems_next (some ⟨b1, o1, none⟩) x F1 c1' m1
    obtain ⟨a2n, c2n, l2n, hs2, hat2⟩ := elems_next (some ⟨b2, o2, none⟩) y F2 c2' m2
    have N1 := hid0 (hat1 _ B1.out)
    have N2 := hid0 (hat2 _ B2.out)
    have g1 : n1 = F1.length + 1 := by rw [← hn1]; simp
    have g2 : n2 = F2.length + 1 := by rw [← hn2]; simp
    rw [hn1] at hs1 ⊢
    rw [hn2] at hs2 ⊢
    clear HN1 HN2
    have d1 : (0 : Int) < (n1 : Int) := by omega
    have d2 : (0 : Int) < (n2 : Int) := by omega
    have hx1 : x ∈ E1 := hM.out.2.2.1 x (by simp)
    have hy2 : y ∈ E2 := hM.out.2.2.2 y (by simp)
    obtain ⟨hs3, hs4⟩ := HS.out _ hx1 _ hy2
    have hw0 : IntKind.i64.wrap (x.n + y.n) = x.n + y.n := IntWalk.i64_in _ (by omega)
    have G1 := hid0 g1
    have G2 := hid0 g2
    clear hn1 hn2 hat1 hat2 hx1 hy2
    obtain ⟨cv, hcv⟩ : ∃ cv, rowsV x.r y.r = cv := ⟨_, rfl⟩
    have CR : ∀ W, Below w.heap.size w W → Calls Tryz.prog 128 #[.slice x.a x.r.length x.c, .slice y.a y.r.length y.c] W fun e w' => e = .returned (.int .i64 cv) ∧ Below W.heap.size W w' := fun W hb => by
      have h := rows_any x.a y.a x.c y.c x.r y.r W (r1.1.later hb) (r2.1.later hb) (by have := r1.2; unfold rowOK at this; unfold maxLen; omega)
      rwa [hcv] at h
    have HR := hid0 (And.intro r1 r2)
    have HC := hid0 hcv
    have m1b : F1.length + 1 ≤ c1' := by simpa using m1
    have m2b : F2.length + 1 ≤ c2' := by simpa using m2
    clear r1 r2 hcv m1 m2 g1 g2
    by_cases hneg : cv < 0
    · go_wp2_with fail
      go_region_held3 (fun w' => w'.cell? ⟨b1, o1, none⟩ = some (.slice x.a x.r.length x.c) ∧ w'.cell? ⟨b1, o1 + 1, none⟩ = some (.int .i64 x.n) ∧ w'.cell? ⟨b2, o2, none⟩ = some (.slice y.a y.r.length y.c) ∧ w'.cell? ⟨b2, o2 + 1, none⟩ = some (.int .i64 y.n) ∧ OwnB w' w.heap.size u5 Eo ∧ Below w.heap.size w w')
        ((go_split_ands; (try dsimp only); (repeat' apply And.intro); all_goals (first
          | assumption
          | exact cell_later hbn ‹_›
          | exact OwnB.kept ‹_› hbn
          | exact below_through hbn (Below.size ‹Below w.heap.size w _›) ‹_›
          | exact Below.drew hB
          | exact hown.drew
          | go_keep)))
        (first
          | (go_at_call 128; (try go_split_ands); refine (CR _ (by assumption)).mono ?_; rintro e wn ⟨rfl, hbn⟩))
      obtain ⟨f0, f1, g0, g1, hown0, hB0⟩ := ‹wn.cell? ⟨b1, o1, none⟩ = some (.slice x.a x.r.length x.c) ∧ _›
      clear q0 q1 p0 p1 hown hB hbn CR
      have hsz0 := hB0.size
      go_wp2_with fail
      have ho2 := fun o => (hown0.drew).alloc o
      go_region_held3 (fun w' => w'.cell? ⟨b1, o1, none⟩ = some (.slice x.a x.r.length x.c) ∧ w'.cell? ⟨b1, o1 + 1, none⟩ = some (.int .i64 x.n))
        (first
          | go_keep
          | (go_split_ands; (try dsimp only); (repeat' apply And.intro); all_goals (first
            | assumption
            | exact (hK1.below.cell (p := ⟨b1, _, none⟩) hlb1).trans ‹_›
            | go_keep)))
        ((refine step_bag1 (by rfl) _ _ (by rfl) (by rfl) (ho2 _) x wn.heap.size (by rfl) (elem_new _ _ _ _).1 (elem_new _ _ _ _).2 (by omega) (by simp; omega) ?_; intro v1 w1 hown1 hK1))
      have hB1 : Below w.heap.size w w1 := (Below.drew (Below.alloc hB0 hsz0 _)).trans hK1.below
      clear hown0 hB0 ho2 hK1 f0 f1 g0 g1
      go_wp2
      exact ⟨⟨a1n, some ⟨b2, o2, none⟩, c1n, c2', F1, y :: F2, Eo ++ [x], rfl, by rw [List.length_cons, G2.out], l1n, m2b, N1, B2, hown1, hid0 (rowsIn_snoc hR.out HR.out.1), hid0 (merge_less hM.out (by rw [HC.out]; exact hneg)), hB1⟩, by have := G1.out; have := G2.out; simp [lenV]; omega⟩
    by_cases hpos : 0 < cv
    · go_wp2_with fail
      go_region_held3 (fun w' => w'.cell? ⟨b1, o1, none⟩ = some (.slice x.a x.r.length x.c) ∧ w'.cell? ⟨b1, o1 + 1, none⟩ = some (.int .i64 x.n) ∧ w'.cell? ⟨b2, o2, none⟩ = some (.slice y.a y.r.length y.c) ∧ w'.cell? ⟨b2, o2 + 1, none⟩ = some (.int .i64 y.n) ∧ OwnB w' w.heap.size u5 Eo ∧ Below w.heap.size w w')
        ((go_split_ands; (try dsimp only); (repeat' apply And.intro); all_goals (first
          | assumption
          | exact cell_later hbn ‹_›
          | exact OwnB.kept ‹_› hbn
          | exact below_through hbn (Below.size ‹Below w.heap.size w _›) ‹_›
          | exact Below.drew hB
          | exact hown.drew
          | go_keep)))
        (first
          | (go_at_call 128; (try go_split_ands); refine (CR _ (by assumption)).mono ?_; rintro e wn ⟨rfl, hbn⟩))
      obtain ⟨f0, f1, g0, g1, hown0, hB0⟩ := ‹wn.cell? ⟨b1, o1, none⟩ = some (.slice x.a x.r.length x.c) ∧ _›
      clear q0 q1 p0 p1 hown hB hbn CR
      have hsz0 := hB0.size
      go_wp2_with fail
      have ho2 := fun o => (hown0.drew).alloc o
      go_region_held3 (fun w' => w'.cell? ⟨b2, o2, none⟩ = some (.slice y.a y.r.length y.c) ∧ w'.cell? ⟨b2, o2 + 1, none⟩ = some (.int .i64 y.n))
        (first
          | go_keep
          | (go_split_ands; (try dsimp only); (repeat' apply And.intro); all_goals (first
            | assumption
            | exact (hK1.below.cell (p := ⟨b2, _, none⟩) hlb2).trans ‹_›
            | go_keep)))
        ((refine step_bag1 (by rfl) _ _ (by rfl) (by rfl) (ho2 _) y wn.heap.size (by rfl) (elem_new _ _ _ _).1 (elem_new _ _ _ _).2 (by omega) (by simp; omega) ?_; intro v1 w1 hown1 hK1))
      have hB1 : Below w.heap.size w w1 := (Below.drew (Below.alloc hB0 hsz0 _)).trans hK1.below
      clear hown0 hB0 ho2 hK1 f0 f1 g0 g1
      go_wp2
      exact ⟨⟨some ⟨b1, o1, none⟩, a2n, c1', c2n, x :: F1, F2, Eo ++ [y], by rw [List.length_cons, G1.out], rfl, m1b, l2n, B1, N2, hown1, hid0 (rowsIn_snoc hR.out HR.out.2), hid0 (merge_more hM.out (by rw [HC.out]; exact hpos)), hB1⟩, by have := G1.out; have := G2.out; simp [lenV]; omega⟩
    obtain rfl : cv = 0 := by omega
    clear hneg hpos
    by_cases h0 : x.n + y.n = 0
    · go_wp2_with fail
      go_region_held3 (fun w' => w'.cell? ⟨b1, o1, none⟩ = some (.slice x.a x.r.length x.c) ∧ w'.cell? ⟨b1, o1 + 1, none⟩ = some (.int .i64 x.n) ∧ w'.cell? ⟨b2, o2, none⟩ = some (.slice y.a y.r.length y.c) ∧ w'.cell? ⟨b2, o2 + 1, none⟩ = some (.int .i64 y.n) ∧ OwnB w' w.heap.size u5 Eo ∧ Below w.heap.size w w')
        ((go_split_ands; (try dsimp only); (repeat' apply And.intro); all_goals (first
          | assumption
          | exact cell_later hbn ‹_›
          | exact OwnB.kept ‹_› hbn
          | exact below_through hbn (Below.size ‹Below w.heap.size w _›) ‹_›
          | exact Below.drew hB
          | exact hown.drew
          | go_keep)))
        (first
          | (go_at_call 128; (try go_split_ands); refine (CR _ (by assumption)).mono ?_; rintro e wn ⟨rfl, hbn⟩))
      obtain ⟨f0, f1, g0, g1, hown0, hB0⟩ := ‹wn.cell? ⟨b1, o1, none⟩ = some (.slice x.a x.r.length x.c) ∧ _›
      clear q0 q1 p0 p1 hown hB hbn CR
      have hsz0 := hB0.size
      go_wp2_with fail
      go_region
      go_wp2_with fail
      go_region
      go_wp2
      exact ⟨⟨a1n, a2n, c1n, c2n, F1, F2, Eo, rfl, rfl, l1n, l2n, N1, N2, hown0.drew.drew, hR, hid0 (merge_none hM.out HC.out h0), hB0.drew.drew⟩, by have := G1.out; have := G2.out; simp [lenV]; omega⟩
    · go_wp2_with fail
      go_region_held3 (fun w' => w'.cell? ⟨b1, o1, none⟩ = some (.slice x.a x.r.length x.c) ∧ w'.cell? ⟨b1, o1 + 1, none⟩ = some (.int .i64 x.n) ∧ w'.cell? ⟨b2, o2, none⟩ = some (.slice y.a y.r.length y.c) ∧ w'.cell? ⟨b2, o2 + 1, none⟩ = some (.int .i64 y.n) ∧ OwnB w' w.heap.size u5 Eo ∧ Below w.heap.size w w')
        ((go_split_ands; (try dsimp only); (repeat' apply And.intro); all_goals (first
          | assumption
          | exact cell_later hbn ‹_›
          | exact OwnB.kept ‹_› hbn
          | exact below_through hbn (Below.size ‹Below w.heap.size w _›) ‹_›
          | exact Below.drew hB
          | exact hown.drew
          | go_keep)))
        (first
          | (go_at_call 128; (try go_split_ands); refine (CR _ (by assumption)).mono ?_; rintro e wn ⟨rfl, hbn⟩))
      obtain ⟨f0, f1, g0, g1, hown0, hB0⟩ := ‹wn.cell? ⟨b1, o1, none⟩ = some (.slice x.a x.r.length x.c) ∧ _›
      clear q0 q1 p0 p1 hown hB hbn CR
      have hsz0 := hB0.size
      go_wp2_with fail
      go_region
      have f0' : wn.drew.cell? ⟨b1, o1, none⟩ = some (.slice x.a x.r.length x.c) := f0
      have hown2 := hown0.drew
      have hB2 := hB0.drew
      clear hown0 hB0 f0 f1 g0 g1
      generalize wn.drew = W2 at f0' hown2 hB2 ⊢
      have ho2 := fun o => hown2.alloc o
      have hz2 := hB2.size
      go_wp2_with (at_builtin; go_must (refine wp_bag1 rfl _ _ rfl rfl (ho2 _) ⟨x.a, x.c, x.r, x.n + y.n⟩ W2.heap.size rfl (elem_new _ _ _ _).1 (elem_new _ _ _ _).2 (by omega) (by simp; omega) ?_))
      intro v1 w1 hown1 hK1
      have hB1 : Below w.heap.size w w1 := (Below.alloc hB2 hz2 _).trans hK1.below
      clear hown2 hB2 ho2 hK1 f0'
      go_wp2_with fail
      go_region
      go_wp2
      exact ⟨⟨a1n, a2n, c1n, c2n, F1, F2, Eo ++ [⟨x.a, x.c, x.r, x.n + y.n⟩], rfl, rfl, l1n, l2n, N1, N2, hown1.drew, hid0 (rowsIn_snoc hR.out HR.out.1), hid0 (merge_both hM.out HC.out h0), hB1.drew⟩, by have := G1.out; have := G2.out; simp [lenV]; omega⟩
end Go.Proofs.YtfdkajefcplfjaaGreat

/- The reference of layer 4: the bag of rows, each so often: a contract of the call, in whatever memory. Conditions: the rows' cells are known; the numbers are so small that no sum passes the ends. -/
namespace Go.Proofs.YtfdkajefcplfjaaGreat
open Go.RowKit

/-- What Of must answer. -/
def OfAns (w : World) (L : List Pair) (e : Ending) (w' : World) : Prop :=
  (∃ a c E, e = .returned (.slice a E.length c) ∧ E.length ≤ c ∧ ElemsAt w' a E ∧ E.map pr = ofB L) ∧ Below w.heap.size w w'
/-- What a call of Of answers, whenever it is made behind w. (A structure: a contract at other arguments is refused at once.) -/
structure Half (w : World) (a : Option Addr) (k c : Nat) (L : List Pair) : Prop where
  out : ∀ W, Below w.heap.size w W → Calls Tryz.prog 49 #[.slice a k c] W (OfAns W L)
theorem absS_take (L : List Pair) (k : Nat) : absS (L.take k) + absS (L.drop k) = absS L := by rw [← absS_append, List.take_append_drop]
theorem sum_fits {A B : List Elem} {LA LB : List Pair} (hA : A.map pr = ofB LA) (hB : B.map pr = ofB LB) (h : absS LA + absS LB ≤ 4611686018427387904) : ∀ x ∈ A, ∀ y ∈ B, -4611686018427387904 ≤ x.n + y.n ∧ x.n + y.n ≤ 4611686018427387904 := by
  intro x hx y hy
  have h1 := absS_mem (L := A.map pr) (List.mem_map_of_mem (f := pr) hx)
  have h2 := absS_mem (L := B.map pr) (List.mem_map_of_mem (f := pr) hy)
  have h3 := absS_ofB LA
  have h4 := absS_ofB LB
  rw [hA] at h1
  rw [hB] at h2
  have e1 : (pr x).2 = x.n := rfl
  have e2 : (pr y).2 = y.n := rfl
  rw [e1] at h1
  rw [e2] at h2
  omega
theorem len_of {A : List Elem} {LA : List Pair} (hA : A.map pr = ofB LA) : A.length ≤ LA.length := by
  have h1 := congrArg List.length hA
  rw [List.length_map] at h1
  have := len_ofB LA
  omega

set_option maxRecDepth 1000000 in
theorem elems_head (a : Option Addr) (E : List Elem) (c k : Nat) (hk : k ≤ E.length) (hc : E.length ≤ c) :
    (∀ W : World, (Instr.slice 57 (.slice a E.length c) none (some (.int .i64 k)) none).run Tryz.prog W = .ok (.slice a k c) W) := by
  intro W
  rw [run_slice_h W 57 a E.length c Tryz.underlying57 .i64 k (by omega) (by omega)]
  simp [go_sem, Result.andThen, sliced]
set_option maxRecDepth 1000000 in
theorem elems_tail (a : Option Addr) (E : List Elem) (c k m : Nat) (hk : k ≤ E.length) (hc : E.length ≤ c) (hm : E.length - k = m) :
    ∃ a1 c1, m ≤ c1 ∧ (∀ W : World, (Instr.slice 57 (.slice a E.length c) (some (.int .i64 k)) none none).run Tryz.prog W = .ok (.slice a1 m c1) W) ∧ ∀ W, ElemsAt W a E → ElemsAt W a1 (E.drop k) := by
  refine ⟨if c = k then a else a.map (·.add (k * 2)), c - k, by omega, fun W => ?_, fun W h => ?_⟩
  · rw [run_slice_l W 57 a E.length c Tryz.underlying57 .i64 k (by omega) (by omega)]
    simp [go_sem, Result.andThen, sliced, hm]
  · split
    · rw [List.drop_eq_nil_of_le (by omega)]; exact ElemsAt.nil _ _
    · by_cases hE : E = []
      · subst hE; rw [List.drop_nil]; exact ElemsAt.nil _ _
      · obtain ⟨b, off, rfl, hcl⟩ := h.1 hE
        simp only [Option.map_some, WideShapes.add_plain]
        exact h.drop k

set_option maxHeartbeats 4000000 in
set_option maxRecDepth 1000000 in
theorem refOf_all : ∀ (n : Nat) (a : Option Addr) (c : Nat) (E : List Elem) (w : World), E.length ≤ n → ElemsAt w a E → E.length ≤ c → E.length ≤ 1000000 → absS (E.map pr) ≤ 4611686018427387904 →
    Calls Tryz.prog 49 #[.slice a E.length c] w (OfAns w (E.map pr)) := by
  intro n
  induction n with
  | zero =>
    intro a c E w hn h hc hl hs
    obtain rfl : E = [] := List.length_eq_zero_iff.1 (by omega)
    go_enter Tryz.func49, Tryz.ntmps49
    go_wp2
    go_ret
    exact ⟨⟨none, 0, [], rfl, Nat.le_refl _, ElemsAt.nil _ _, rfl⟩, Below.refl _ _⟩
  | succ n ih =>
    intro a c E w hn h hc hl hs
    match E, h, hn, hc, hl, hs with
    | [], h, hn, hc, hl, hs =>
      go_enter Tryz.func49, Tryz.ntmps49
      go_wp2
      go_ret
      exact ⟨⟨none, 0, [], rfl, Nat.le_refl _, ElemsAt.nil _ _, rfl⟩, Below.refl _ _⟩
    | [e], h, hn, hc, hl, hs =>
      obtain ⟨b, off, rfl, hcl⟩ := h.1 (by simp)
      obtain ⟨q0, q1⟩ := hcl 0 (by simp)
      have hr := hid0 (h.2 e (by simp))
      simp only [Nat.zero_mul, Nat.add_zero, List.getElem_cons_zero] at q0 q1
      clear hcl
      by_cases hz : e.n = 0
      · rw [hz] at q1
        go_enter Tryz.func49, Tryz.ntmps49
        go_wp2
        go_ret
        refine ⟨⟨none, 0, [], rfl, Nat.le_refl _, ElemsAt.nil _ _, ?_⟩, Below.refl _ _⟩
        show [] = if e.n = 0 then [] else [pr e]
        rw [if_pos hz]
      · go_enter Tryz.func49, Tryz.ntmps49
        go_wp2_with fail
        go_region_held3 (fun w' => w'.cell? ⟨b, off, none⟩ = some (.slice e.a e.r.length e.c) ∧ w'.cell? ⟨b, off + 1, none⟩ = some (.int .i64 e.n) ∧ Below w.heap.size w w')
          ((go_split_ands; (try dsimp only); (repeat' apply And.intro); all_goals (first
            | assumption
            | exact cell_later hbn ‹_›
            | exact below_through hbn (Below.size ‹Below w.heap.size w _›) ‹_›
            | exact Below.drew (Below.refl _ _)
            | exact Below.alloc ‹_› (Below.size ‹Below w.heap.size w _›) _
            | go_keep)))
          (first
            | (go_at_call 64; (try go_split_ands); refine (refCopied_any _ _ _ _ (hr.out.1.later ((‹Below w.heap.size w _›))) hr.out.2).mono ?_; rintro e1 wn ⟨⟨a', c', rfl, hrow, hblk⟩, hbn⟩))
        have HH := ‹_ ∧ _ ∧ Below w.heap.size w (World.alloc _ _)›
        go_wp2
        go_ret
        refine ⟨⟨some ⟨wn.heap.size, 0, none⟩, 1, [⟨a', c', e.r, e.n⟩], rfl, Nat.le_refl _, ⟨fun _ => ⟨wn.heap.size, 0, rfl, fun i hi => ?_⟩, fun x hx => ?_⟩, ?_⟩, HH.2.2⟩
        · obtain rfl : i = 0 := by simp at hi; omega
          exact elem_new _ _ _ _
        · obtain rfl := List.mem_singleton.1 hx
          exact ⟨hrow.later ((Below.refl _ _).alloc (Nat.le_refl _) _), hr.out.2⟩
        · show [(e.r, e.n)] = if e.n = 0 then [] else [pr e]
          rw [if_neg hz]; rfl
    | e1 :: e2 :: E, h, hn, hc, hl, hs =>
      have h2 : 2 ≤ (e1 :: e2 :: E).length := by simp
      generalize e1 :: e2 :: E = F at h hn hc hl hs h2 ⊢
      obtain ⟨b, off, rfl, hcl⟩ := h.1 (fun e => by rw [e] at h2; simp at h2)
      clear hcl
      obtain ⟨k, hk⟩ : ∃ k, F.length / 2 = k := ⟨_, rfl⟩
      obtain ⟨m, hm⟩ : ∃ m, F.length - k = m := ⟨_, rfl⟩
      have hl1 : (F.take k).length = k := by rw [List.length_take]; omega
      have hl2 : (F.drop k).length = m := by rw [List.length_drop]; omega
      have hsum := absS_take (F.map pr) k
      rw [← List.map_take, ← List.map_drop] at hsum
      have n1 := absS_nonneg ((F.take k).map pr)
      have n2 := absS_nonneg ((F.drop k).map pr)
      have HA : Half w (some ⟨b, off, none⟩) k c ((F.take k).map pr) := ⟨fun W hb => by
        have := ih (some ⟨b, off, none⟩) c (F.take k) W (by omega) ((h.later hb).take k) (by omega) (by omega) (by omega)
        rwa [hl1] at this⟩
      have hh1 := elems_head (some ⟨b, off, none⟩) F c k (by omega) hc
      obtain ⟨a1, cm, hcm, hh2, hat⟩ := elems_tail (some ⟨b, off, none⟩) F c k m (by omega) hc hm
      have HD : Half w a1 m cm ((F.drop k).map pr) := ⟨fun W hb => by
        have := ih a1 cm (F.drop k) W (by omega) (hat _ (h.later hb)) (by omega) (by omega) (by omega)
        rwa [hl2] at this⟩
      have HJ := hid0 (joinB_ofB ((F.take k).map pr) ((F.drop k).map pr))
      have HT : Hid (F.map pr = (F.take k).map pr ++ (F.drop k).map pr) := by
        show _ = _
        rw [← List.map_append, List.take_append_drop]
      have HL := hid0 (show absS ((F.take k).map pr) + absS ((F.drop k).map pr) ≤ 4611686018427387904 by omega)
      have HLL := hid0 (show ((F.take k).map pr).length + ((F.drop k).map pr).length ≤ 1000000 by rw [List.length_map, List.length_map]; omega)
      generalize (F.take k).map pr = LA at HA HJ HT HL HLL
      generalize (F.drop k).map pr = LB at HD HJ HT HL HLL
      clear hsum n1 n2 hl1 hl2
      have hq : IntKind.i64.wrap ((F.length : Int).tdiv 2) = (k : Int) := by
        rw [show (F.length : Int).tdiv 2 = ((F.length / 2 : Nat) : Int) from rfl, hk]; exact IntWalk.i64_in _ (by omega)
      have hq0 : (F.length : Int).tdiv 2 = (k : Int) := by rw [← hk]; rfl
      have hwk : IntKind.i64.wrap (k : Int) = (k : Int) := IntWalk.i64_in _ (by omega)
      have hwk2 : wrap64 (k : Int) = (k : Int) := by unfold wrap64; omega
      have i0 : ¬ (F.length : Int) = 0 := by omega
      have i1 : ¬ (F.length : Int) = 1 := by omega
      obtain ⟨len, hlen⟩ : ∃ len, F.length = len := ⟨_, rfl⟩
      rw [hlen] at hq hq0 i0 i1 hh1 hh2 ⊢
      have HLEN := hid0 hlen
      clear hlen hn hs h ih hat hk hm hc hl h2
      go_enter Tryz.func49, Tryz.ntmps49
      go_wp2_with fail
      go_region_held3 (fun w' => Below w.heap.size w w')
        ((go_split_ands; (try dsimp only); (repeat' apply And.intro); all_goals (first
          | assumption
          | exact below_through hbn (Below.size ‹Below w.heap.size w _›) ‹_›
          | exact Below.drew (Below.refl _ _)
          | go_keep)))
        (first
          | (go_at_call 49; refine ((by exact HA : Half w _ _ _ _).out _ (by assumption)).mono ?_; rintro ea wa ⟨⟨aa, ca, EA, rfl, hca, hEA, hmA⟩, hbn⟩)
          | (go_at_call 49; refine ((by exact HD : Half w _ _ _ _).out _ (by assumption)).mono ?_; rintro ed wd ⟨⟨ad, cd, ED, rfl, hcd, hED, hmD⟩, hbn⟩)
          | (go_at_call 86; refine (refJoined_any _ _ _ _ EA ED _ (by exact hEA.later hbn) (by exact hED) (by have := len_of hmA; have := len_of hmD; have := HLL.out; omega) (by exact sum_fits hmA hmD HL.out)).mono ?_; rintro ej wj ⟨⟨aj, cj, EJ, rfl, hcj, hEJ, hmJ⟩, hbn⟩))
      have HH := ‹Below w.heap.size w wj›
      clear HA HD hh1 hh2
      go_wp2
      go_ret
      exact ⟨⟨aj, cj, EJ, rfl, hcj, hEJ, by rw [hmJ, hmA, hmD, HJ.out, HT.out]⟩, HH⟩
theorem refOf_any (a : Option Addr) (c : Nat) (E : List Elem) (w : World) (h : ElemsAt w a E) (hc : E.length ≤ c) (hl : E.length ≤ 1000000) (hs : absS (E.map pr) ≤ 4611686018427387904) :
    Calls Tryz.prog 49 #[.slice a E.length c] w (OfAns w (E.map pr)) := refOf_all E.length a c E w (Nat.le_refl _) h hc hl hs
end Go.Proofs.YtfdkajefcplfjaaGreat

/- The reference of layer 4: the bag of rows, each once; the rows of a bag: contracts of the calls, in whatever memory. Conditions: the rows' cells are known; they are not too many. -/
namespace Go.Proofs.YtfdkajefcplfjaaGreat
open Go.RowKit

def onceE (e : Line) : Elem := ⟨e.a, e.c, e.r, 1⟩
theorem once_pr (Ls : List Line) : (Ls.map onceE).map pr = onesB (Ls.map (·.r)) := by simp [onesB, onceE, pr, Function.comp_def]
theorem once_in {w : World} {Ls : List Line} (h : LinesIn w Ls) : RowsIn w (Ls.map onceE) := fun e he => by
  obtain ⟨x, hx, rfl⟩ := List.mem_map.1 he
  exact h x hx

set_option maxHeartbeats 2000000 in
theorem refList_any (a : Option Addr) (c : Nat) (Ls : List Line) (w : World) (h : LinesAt w a Ls) (hl : Ls.length ≤ 1000) :
    Calls Tryz.prog 206 #[.slice a Ls.length c] w (OfAns w (onesB (Ls.map (·.r)))) := by
  have A := hid0 h
  clear h
  go_enter Tryz.func206, Tryz.ntmps206
  go_wp2
  go_loopw [3, 4] (fun ov iv wr => ∃ i : Nat, i ≤ Ls.length ∧ iv = .int .i64 i ∧ OwnB wr w.heap.size ov ((Ls.map onceE).take i) ∧ Below w.heap.size w wr) (fun _ iv _ => Ls.length - (intOf iv).toNat)
  case atStart => exact ⟨0, Nat.zero_le _, rfl, OwnB.nil _ _, Below.refl _ _⟩
  case round =>
    obtain ⟨i, hi, rfl, hown, hB⟩ := hrel
    have hsz := hB.size
    by_cases hlt : i < Ls.length
    · obtain ⟨b1, o1, rfl, hc1⟩ := (A.out.1.later hB) (by intro e; rw [e] at hlt; exact absurd hlt (by simp))
      have q0 := hc1 i hlt
      clear hc1
      have ho1 := fun o => hown.alloc o
      have hlen : ((Ls.map onceE).take i).length = i := by rw [List.length_take, List.length_map]; omega
      go_wp2_with (at_builtin; go_must (refine wp_bag1 rfl _ _ rfl rfl (ho1 _) (onceE Ls[i]) wr.heap.size rfl (elem_new _ _ _ _).1 (elem_new _ _ _ _).2 ?hl ?hb ?_))
      case hl => omega
      case hb => simp; omega
      intro v1 w1 hown1 hK1
      have hB1 := (Below.alloc hB hsz _).trans hK1.below
      have e1 : (Ls.map onceE).take i ++ [onceE Ls[i]] = (Ls.map onceE).take (i + 1) := by rw [List.take_succ_eq_append_getElem (by simpa using hlt)]; simp
      rw [e1] at hown1
      clear hown ho1 hK1 q0 e1
      go_wp2
      exact ⟨⟨i + 1, by omega, by go_num, hown1, hB1⟩, by simp [intOf]; omega⟩
    · rw [List.take_of_length_le (by simp; omega)] at hown
      obtain ⟨a', c', rfl, hcap, _, hcl⟩ := elems_owned hown.out
      have hE : ElemsAt wr a' (Ls.map onceE) := ⟨hcl, once_in (A.out.2.later hB)⟩
      have hlen : (Ls.map onceE).length = Ls.length := List.length_map _
      have hC := refOf_any a' c' (Ls.map onceE) wr hE hcap (by omega) (by rw [once_pr, absS_ones, List.length_map]; omega)
      rw [once_pr, hlen] at hC
      rw [hlen]
      have HC := hid0 hC
      clear hown hcl hE hC hcap hlen
      have hie : ¬ (i : Int) < Ls.length := by omega
      go_wp2_with (go_at_call 49; refine HC.out.mono ?_; rintro e w1 ⟨⟨a2, c2, E2, rfl, h1, h2, h3⟩, hb⟩)
      go_ret
      exact ⟨⟨a2, c2, E2, rfl, h1, h2, h3⟩, below_through hb hsz hB⟩

/-! ### The rows of a bag -/
theorem info33 : (Tryz.prog.info? 35).map (fun i => (i.zero, i.size, i.bytes)) = some (some (.slice none 0 0), 1, 24) := by kernel_rfl
/-- A row in memory of its own. -/
structure Copied (w : World) (a : Option Addr) (r : List Val) : Prop where
  row : RowAt w a r
  blk : r ≠ [] → ∃ b cs fz, a = some ⟨b, 0, none⟩ ∧ w.heap[b]? = some (Obj.cells cs 41 fz)
theorem Copied.later {w w' : World} {a : Option Addr} {r : List Val} (h : Copied w a r) (hb : Below w.heap.size w w') : Copied w' a r :=
  ⟨h.row.later hb, fun hn => by
    obtain ⟨b, cs, fz, e, hh⟩ := h.blk hn
    exact ⟨b, cs, fz, e, (hb.block b (Array.getElem?_eq_some_iff.1 hh).1).trans hh⟩⟩
theorem Copied.keptT {w w' : World} {a : Option Addr} {r : List Val} {base : Nat} (h : Copied w a r) (hK : KeptT 35 base w w') : Copied w' a r := by
  by_cases hn : r = []
  · subst hn; exact ⟨fun h => absurd rfl h, fun h => absurd rfl h⟩
  obtain ⟨b, cs, fz, e, hh⟩ := h.blk hn
  have hh' := hK.other b cs fz 41 (by decide) hh
  refine ⟨fun hn => ?_, fun _ => ⟨b, cs, fz, e, hh'⟩⟩
  obtain ⟨b', off, e', hc⟩ := h.row hn
  rw [e] at e'
  obtain ⟨rfl, rfl⟩ : b = b' ∧ 0 = off := by simpa using e'
  have hcell : ∀ o, w'.cell? ⟨b, o, none⟩ = w.cell? ⟨b, o, none⟩ := fun o => World.cell?_of_block (by rw [hh', hh])
  exact ⟨b, 0, e, fun i hi => by rw [hcell, hcell, hcell]; exact hc i hi⟩
def CopiesIn (w : World) (Ls : List Line) : Prop := ∀ e ∈ Ls, Copied w e.a e.r ∧ rowOK e.r
theorem CopiesIn.later {w w' : World} {Ls : List Line} (h : CopiesIn w Ls) (hb : Below w.heap.size w w') : CopiesIn w' Ls := fun e he => ⟨(h e he).1.later hb, (h e he).2⟩
theorem CopiesIn.keptT {w w' : World} {Ls : List Line} {base : Nat} (h : CopiesIn w Ls) (hK : KeptT 35 base w w') : CopiesIn w' Ls := fun e he => ⟨(h e he).1.keptT hK, (h e he).2⟩
theorem copies_snoc {w : World} {Ls : List Line} {e : Line} (h : CopiesIn w Ls) (he : Copied w e.a e.r ∧ rowOK e.r) : CopiesIn w (Ls ++ [e]) := fun x hx => by
  rcases List.mem_append.1 hx with hx | hx
  · exact h x hx
  · obtain rfl := List.mem_singleton.1 hx; exact he
/-- The rows Ls, in a block of its own from base on, or nil. -/
structure OwnL (w : World) (base : Nat) (v : Value) (Ls : List Line) : Prop where
  out : w.ownsRow base 35 1 v Ls.length (cellsL Ls)
theorem OwnL.nil (w : World) (base : Nat) : OwnL w base (.slice none 0 0) [] := ⟨World.ownsRow_nil _ _ _ _⟩
theorem OwnL.alloc {w : World} {base : Nat} {v : Value} {E : List Line} (h : OwnL w base v E) (o : Obj) : OwnL (w.alloc o) base v E := ⟨World.ownsRow.alloc h.out o⟩
theorem OwnL.drew {w : World} {base : Nat} {v : Value} {E : List Line} (h : OwnL w base v E) : OwnL w.drew base v E := ⟨h.out⟩
theorem OwnL.kept {w w' : World} {base : Nat} {v : Value} {E : List Line} (h : OwnL w base v E) (hb : Below w.heap.size w w') : OwnL w' base v E := ⟨own_below h.out hb⟩
/-- An append of one row, laid in a block of its own first. -/
theorem wp_line1 {w : World} {ops : Array Oper} {rest : List Oper} {o : Oper} {a : Act} {Q : Exit → Act → World → Prop} (hgd : o.guard = none) (s x : Operand)
    (ho : o.op = .call { callee := .builtin .append, args := #[s, x], argTypes := #[26, 26] })
    {base : Nat} {v : Value} {E : List Line} (hs : a.eval s = v) (hown : OwnL w base v E)
    (e : Line) (B : Nat) (hx : a.eval x = .slice (some ⟨B, 0, none⟩) 1 1) (h0 : w.cell? ⟨B, 0, none⟩ = some (.slice e.a e.r.length e.c))
    (hlen : (E.length + 1) * 24 ≤ 140737488355328) (hbase : base ≤ w.heap.size)
    (h : ∀ v' w', OwnL w' base v' (E ++ [e]) → KeptT 35 base w w' → wpList Tryz.prog ops Q rest (a.put o.dst v') w') : wpList Tryz.prog ops Q (o :: rest) a w := by
  obtain ⟨i0, hi, hz0, hz1, hz2⟩ := info_parts info33
  refine wpList_append_own w hgd s x 26 ho base 35 i0 (.slice none 0 0) 1 24 Tryz.underlying26 hi hz0 hz1 hz2 rfl (by decide) v E.length (cellsL E) hs hown.out ⟨B, 0, none⟩ 1 1 [.slice e.a e.r.length e.c] hx rfl ?_ ?_ (by unfold maxLen; omega) hlen hbase ?_
  · intro j u hj
    match j, hj with
    | 0, hj => simp at hj; subst hj; rw [WideShapes.add_plain]; exact h0
    | j + 1, hj => simp at hj
  · intro u hu; simp at hu; subst hu; rfl
  · intro v' w' hown' hgrow _
    refine h v' w' ⟨?_⟩ (keptT_grown hown.out hbase hgrow)
    rw [cellsL_snoc, List.length_append]
    exact hown'
theorem line_new (w : World) (u : Value) (t : TypeId) : (w.alloc (Obj.cells #[u] t)).cell? ⟨w.heap.size, 0, none⟩ = some u := by go_cell
theorem rowsB_append : ∀ A B : List Pair, rowsB (A ++ B) = rowsB A ++ rowsB B
  | [], B => rfl
  | x :: A, B => by rw [List.cons_append, rowsB, rowsB_append A B, rowsB, List.append_assoc]
/-- i of the bag's elements, and k of the next one's rows, have been told. -/
def RowsTo (E : List Elem) (Ls : List Line) (i k : Nat) : Prop := ∃ r, Ls.map (·.r) = rowsB ((E.map pr).take i) ++ List.replicate k r ∧ (0 < k → ∃ h : i < E.length, r = E[i].r)
theorem rowsTo_next {E : List Elem} {Ls : List Line} {i k : Nat} (h : RowsTo E Ls i k) (hi : i < E.length) (a : Option Addr) (c : Nat) : RowsTo E (Ls ++ [⟨a, c, E[i].r⟩]) i (k + 1) := by
  obtain ⟨r, h1, h2⟩ := h
  refine ⟨E[i].r, ?_, fun _ => ⟨hi, rfl⟩⟩
  rw [List.map_append, h1, List.replicate_succ', ← List.append_assoc]
  by_cases hk : 0 < k
  · obtain ⟨_, rfl⟩ := h2 hk; rfl
  · obtain rfl : k = 0 := by omega
    rfl
theorem rowsTo_turn {E : List Elem} {Ls : List Line} {i k : Nat} (h : RowsTo E Ls i k) (hi : i < E.length) (hk : (k : Int) ≤ E[i].n ∨ k = 0) (hk' : ¬ (k : Int) < E[i].n) : RowsTo E Ls (i + 1) 0 := by
  obtain ⟨r, h1, h2⟩ := h
  refine ⟨[], ?_, fun h => absurd h (by omega)⟩
  have e : (E.map pr).take (i + 1) = (E.map pr).take i ++ [pr E[i]] := by rw [List.take_succ_eq_append_getElem (by simpa using hi)]; simp
  rw [h1, e, rowsB_append]
  show _ = (rowsB _ ++ (List.replicate (E[i].n).toNat E[i].r ++ [])) ++ []
  rw [List.append_nil, List.append_nil]
  by_cases hk0 : 0 < k
  · obtain ⟨_, rfl⟩ := h2 hk0
    rw [show k = (E[i].n).toNat by omega]
  · rw [show k = 0 by omega, show (E[i].n).toNat = 0 by omega]; rfl
theorem rowsTo_few {E : List Elem} {Ls : List Line} {i k : Nat} (h : RowsTo E Ls i k) (hi : i < E.length) (hk : (k : Int) < E[i].n) : Ls.length < (rowsB (E.map pr)).length := by
  obtain ⟨r, h1, _⟩ := h
  have e := congrArg List.length h1
  rw [List.length_map, List.length_append, List.length_replicate] at e
  have e2 : rowsB (E.map pr) = rowsB ((E.map pr).take i) ++ rowsB ((E.map pr).drop i) := by rw [← rowsB_append, List.take_append_drop]
  have e3 : (E.map pr).drop i = pr E[i] :: (E.map pr).drop (i + 1) := map_drop_cons hi
  rw [e2, e3, List.length_append]
  show _ < _ + (List.replicate (E[i].n).toNat E[i].r ++ rowsB ((E.map pr).drop (i + 1))).length
  rw [List.length_append, List.length_replicate]
  omega
theorem rowsTo_all {E : List Elem} {Ls : List Line} {i : Nat} (h : RowsTo E Ls i 0) (hi : ¬ i < E.length) : Ls.map (·.r) = rowsB (E.map pr) := by
  obtain ⟨r, h1, _⟩ := h
  rw [h1, List.take_of_length_le (by simp; omega)]; simp

/-- What Rows must answer. -/
def RowsAns (w : World) (R : List (List Val)) (e : Ending) (w' : World) : Prop :=
  (∃ a c Ls, e = .returned (.slice a Ls.length c) ∧ Ls.length ≤ c ∧ LinesAt w' a Ls ∧ Ls.map (·.r) = R) ∧ Below w.heap.size w w'

set_option maxHeartbeats 4000000 in
theorem refBagRows_any (a : Option Addr) (c : Nat) (E : List Elem) (w : World) (h : ElemsAt w a E) (hle : E.length ≤ 1000000) (hl : (rowsB (E.map pr)).length ≤ 1000000) (hn : ∀ e ∈ E, e.n ≤ 1000000) :
    Calls Tryz.prog 35 #[.slice a E.length c] w (RowsAns w (rowsB (E.map pr))) := by
  have A := hid0 h
  have HN := hid0 hn
  clear h hn
  go_enter Tryz.func35, Tryz.ntmps35
  go_wp2
  go_loopw [3, 4] (fun ov iv wr => ∃ (i : Nat) (Ls : List Line), i ≤ E.length ∧ iv = .int .i64 i ∧ OwnL wr w.heap.size ov Ls ∧ Hid (CopiesIn wr Ls) ∧ Hid (RowsTo E Ls i 0) ∧ Below w.heap.size w wr) (fun _ iv _ => E.length - (intOf iv).toNat)
  case atStart => exact ⟨0, [], Nat.zero_le _, rfl, OwnL.nil _ _, hid0 (fun e he => absurd he (by simp)), hid0 ⟨[], by simp [rowsB], fun h => absurd h (by omega)⟩, Below.refl _ _⟩
  case round =>
    obtain ⟨i, Ls, hi, rfl, hown, hR, hT, hB⟩ := hrel
    have hsz := hB.size
    by_cases hlt : i < E.length
    · have hne : E ≠ [] := by intro e; rw [e] at hlt; exact absurd hlt (by simp)
      obtain ⟨b1, o1, rfl, _⟩ := A.out.1 hne
      have hr := hid0 (A.out.2 _ (List.getElem_mem hlt))
      have hnn := HN.out _ (List.getElem_mem hlt)
      go_wp2
      go_loopw [3, 5] (fun ov kv w2 => ∃ (k : Nat) (L2 : List Line), ((k : Int) ≤ E[i].n ∨ k = 0) ∧ kv = .int .i64 k ∧ OwnL w2 w.heap.size ov L2 ∧ Hid (CopiesIn w2 L2) ∧ Hid (RowsTo E L2 i k) ∧ Below w.heap.size w w2) (fun _ kv _ => (E[i].n - intOf kv).toNat)
      case atStart => exact ⟨0, Ls, .inr rfl, rfl, hown, hR, hT, hB⟩
      case round =>
        obtain ⟨k, L2, hk, rfl, hown2, hR2, hT2, hB2⟩ := hrel
        have hz2 := hB2.size
        obtain ⟨b', o', e', hc⟩ := (A.out.1.later hB2) hne
        obtain ⟨rfl, rfl⟩ : b1 = b' ∧ o1 = o' := by simpa using e'
        obtain ⟨q0, q1⟩ := hc i hlt
        clear hc e'
        by_cases hkn : (k : Int) < E[i].n
        · have hfew := rowsTo_few hT2.out hlt hkn
          go_wp2_with (first
            | (go_at_call 64; go_must (refine (refCopied_any _ _ _ _ (hr.out.1.later hB2) hr.out.2).mono ?_; rintro e wn ⟨⟨a', c', rfl, hrow, hblk⟩, hbn⟩; have HCP := hid0 (Copied.mk hrow hblk); have hown3 := hown2.kept hbn; have ho3 := fun o => hown3.alloc o; have hB3 := below_through hbn hz2 hB2; have hz3 := hB3.size; clear hrow hblk))
            | (at_builtin; go_must (refine wp_line1 rfl _ _ rfl rfl (ho3 _) ⟨a', c', E[i].r⟩ wn.heap.size rfl (line_new _ _ _) ?hl ?hb ?_)))
          case hl => omega
          case hb => simp; omega
          intro v1 w1 hown4 hK1
          have hB4 := (Below.alloc hB3 hz3 _).trans hK1.below
          have HR4 := hid0 (copies_snoc (e := ⟨a', c', E[i].r⟩) (((hR2.out.later hbn).later ((Below.refl _ _).alloc (Nat.le_refl _) _)).keptT hK1) ⟨(HCP.out.later ((Below.refl _ _).alloc (Nat.le_refl _) _)).keptT hK1, hr.out.2⟩)
          clear hown2 hown3 ho3 hK1 q0 q1 hbn
          go_wp2
          exact ⟨⟨k + 1, L2 ++ [⟨a', c', E[i].r⟩], .inl (by omega), by go_num, hown4, HR4, hid0 (rowsTo_next hT2.out hlt a' c'), hB4⟩, by simp [intOf]; omega⟩
        · go_wp2
          exact ⟨⟨i + 1, L2, by omega, by go_num, hown2, hR2, hid0 (rowsTo_turn hT2.out hlt hk hkn), hB2⟩, by simp [intOf]; omega⟩
    · obtain ⟨a', c', rfl, hcap, _, hcl⟩ := lines_owned hown.out
      have HC := hid0 hcl
      clear hown hcl
      have hie : ¬ (i : Int) < E.length := by omega
      go_wp2
      go_ret
      exact ⟨⟨a', c', Ls, rfl, hcap, ⟨HC.out, fun e he => ⟨(hR.out e he).1.row, (hR.out e he).2⟩⟩, rowsTo_all hT.out hlt⟩, hB⟩
end Go.Proofs.YtfdkajefcplfjaaGreat

/- The reference of layers 1 and 4: bags, and lists of rows, that are the same are told to be so: contracts of the calls, in whatever memory. Conditions: the cells are known; they are not too many. -/
namespace Go.Proofs.YtfdkajefcplfjaaGreat
open Go.RowKit

theorem map_at {α β : Type} {f : α → β} {A B : List α} (h : A.map f = B.map f) {i : Nat} (h1 : i < A.length) (h2 : i < B.length) : f A[i] = f B[i] := by
  have e : (A.map f)[i]? = (B.map f)[i]? := by rw [h]
  simpa [h1, h2] using e

set_option maxHeartbeats 2000000 in
theorem refSameLines_any (a1 a2 : Option Addr) (c1 c2 : Nat) (L1 L2 : List Line) (w : World) (h1 : LinesAt w a1 L1) (h2 : LinesAt w a2 L2) (hl : L1.length ≤ 1000000) (he : L1.map (·.r) = L2.map (·.r)) :
    Calls Tryz.prog 13 #[.slice a1 L1.length c1, .slice a2 L2.length c2] w fun e w' => e = .returned (.bool true) ∧ Below w.heap.size w w' := by
  have hlen : L2.length = L1.length := by have := congrArg List.length he; rw [List.length_map, List.length_map] at this; omega
  rw [hlen]
  have A1 := hid0 h1
  have A2 := hid0 h2
  have HE := hid0 he
  have HLEN := hid0 hlen
  clear h1 h2 he hlen
  go_enter Tryz.func13, Tryz.ntmps13
  go_wp2
  go_loopw [5] (fun iv wr => ∃ i : Nat, i ≤ L1.length ∧ iv = .int .i64 i ∧ Below w.heap.size w wr) (fun iv _ => L1.length - (intOf iv).toNat)
  case atStart => exact ⟨0, Nat.zero_le _, rfl, Below.refl _ _⟩
  case round =>
    obtain ⟨i, hi, rfl, hB⟩ := hrel
    have hsz := hB.size
    by_cases hlt : i < L1.length
    · have hlt2 : i < L2.length := by have := HLEN.out; omega
      obtain ⟨b1, o1, rfl, hc1⟩ := (A1.out.1.later hB) (by intro e; rw [e] at hlt; exact absurd hlt (by simp))
      have q0 := hc1 i hlt
      obtain ⟨b2, o2, rfl, hc2⟩ := (A2.out.1.later hB) (by intro e; rw [e] at hlt2; exact absurd hlt2 (by simp))
      have p0 := hc2 i hlt2
      clear hc1 hc2
      have r1 := A1.out.2 _ (List.getElem_mem hlt)
      have r2 := A2.out.2 _ (List.getElem_mem hlt2)
      have er : L1[i].r = L2[i].r := map_at (f := fun x : Line => x.r) HE.out hlt hlt2
      have C17 : ∀ W, Below w.heap.size w W → Calls Tryz.prog 15 #[.slice L1[i].a L1[i].r.length L1[i].c, .slice L2[i].a L2[i].r.length L2[i].c] W fun e w' => e = .returned (.int .i64 0) ∧ Below W.heap.size W w' := fun W hb => by
        have h := refRows_any L1[i].a L2[i].a L1[i].c L2[i].c L1[i].r L2[i].r W (r1.1.later hb) (r2.1.later hb) (by have := r1.2; unfold rowOK at this; unfold maxLen; omega)
        rwa [(rowsV_is _ _).2 er] at h
      clear r1 r2 er
      go_wp2_with fail
      go_region_held3 (fun w' => w'.cell? ⟨b1, o1 + i, none⟩ = some (.slice L1[i].a L1[i].r.length L1[i].c) ∧ w'.cell? ⟨b2, o2 + i, none⟩ = some (.slice L2[i].a L2[i].r.length L2[i].c) ∧ Below w.heap.size w w')
        ((go_split_ands; (try dsimp only); (repeat' apply And.intro); all_goals (first
          | assumption
          | exact cell_later hbn ‹_›
          | exact below_through hbn (Below.size ‹Below w.heap.size w _›) ‹_›
          | exact Below.drew hB
          | go_keep)))
        (first
          | (go_at_call 15; (try go_split_ands); refine (C17 _ (by assumption)).mono ?_; rintro e wn ⟨rfl, hbn⟩))
      obtain ⟨_, _, hB0⟩ := ‹wn.cell? ⟨b1, o1 + i, none⟩ = some (.slice L1[i].a L1[i].r.length L1[i].c) ∧ _›
      clear q0 p0 C17
      go_wp2
      exact ⟨⟨i + 1, by omega, by go_num, hB0⟩, by simp [intOf]; omega⟩
    · have hie : ¬ (i : Int) < L1.length := by omega
      go_wp2
      go_ret
      exact ⟨rfl, hB⟩

set_option maxHeartbeats 2000000 in
theorem refSame_any (a1 a2 : Option Addr) (c1 c2 : Nat) (E1 E2 : List Elem) (w : World) (h1 : ElemsAt w a1 E1) (h2 : ElemsAt w a2 E2) (hl : E1.length ≤ 1000000) (he : E1.map pr = E2.map pr) :
    Calls Tryz.prog 22 #[.slice a1 E1.length c1, .slice a2 E2.length c2] w fun e w' => e = .returned (.bool true) ∧ Below w.heap.size w w' := by
  have hlen : E2.length = E1.length := by have := congrArg List.length he; rw [List.length_map, List.length_map] at this; omega
  rw [hlen]
  have A1 := hid0 h1
  have A2 := hid0 h2
  have HE := hid0 he
  have HLEN := hid0 hlen
  clear h1 h2 he hlen
  go_enter Tryz.func22, Tryz.ntmps22
  go_wp2
  go_loopw [5] (fun iv wr => ∃ i : Nat, i ≤ E1.length ∧ iv = .int .i64 i ∧ Below w.heap.size w wr) (fun iv _ => E1.length - (intOf iv).toNat)
  case atStart => exact ⟨0, Nat.zero_le _, rfl, Below.refl _ _⟩
  case round =>
    obtain ⟨i, hi, rfl, hB⟩ := hrel
    have hsz := hB.size
    by_cases hlt : i < E1.length
    · have hlt2 : i < E2.length := by have := HLEN.out; omega
      obtain ⟨b1, o1, rfl, hc1⟩ := (A1.out.1.later hB) (by intro e; rw [e] at hlt; exact absurd hlt (by simp))
      obtain ⟨q0, q1⟩ := hc1 i hlt
      obtain ⟨b2, o2, rfl, hc2⟩ := (A2.out.1.later hB) (by intro e; rw [e] at hlt2; exact absurd hlt2 (by simp))
      obtain ⟨p0, p1⟩ := hc2 i hlt2
      clear hc1 hc2
      have r1 := A1.out.2 _ (List.getElem_mem hlt)
      have r2 := A2.out.2 _ (List.getElem_mem hlt2)
      have ep : pr E1[i] = pr E2[i] := map_at HE.out hlt hlt2
      have er : E1[i].r = E2[i].r := congrArg Prod.fst ep
      have en : E2[i].n = E1[i].n := (congrArg Prod.snd ep).symm
      rw [en] at p1
      have C17 : ∀ W, Below w.heap.size w W → Calls Tryz.prog 15 #[.slice E1[i].a E1[i].r.length E1[i].c, .slice E2[i].a E2[i].r.length E2[i].c] W fun e w' => e = .returned (.int .i64 0) ∧ Below W.heap.size W w' := fun W hb => by
        have h := refRows_any E1[i].a E2[i].a E1[i].c E2[i].c E1[i].r E2[i].r W (r1.1.later hb) (r2.1.later hb) (by have := r1.2; unfold rowOK at this; unfold maxLen; omega)
        rwa [(rowsV_is _ _).2 er] at h
      clear r1 r2 er ep en
      go_wp2_with fail
      go_region_held3 (fun w' => w'.cell? ⟨b1, o1 + i * 2, none⟩ = some (.slice E1[i].a E1[i].r.length E1[i].c) ∧ w'.cell? ⟨b1, o1 + i * 2 + 1, none⟩ = some (.int .i64 E1[i].n) ∧ w'.cell? ⟨b2, o2 + i * 2, none⟩ = some (.slice E2[i].a E2[i].r.length E2[i].c) ∧ w'.cell? ⟨b2, o2 + i * 2 + 1, none⟩ = some (.int .i64 E1[i].n) ∧ Below w.heap.size w w')
        ((go_split_ands; (try dsimp only); (repeat' apply And.intro); all_goals (first
          | assumption
          | exact cell_later hbn ‹_›
          | exact below_through hbn (Below.size ‹Below w.heap.size w _›) ‹_›
          | exact Below.drew hB
          | go_keep)))
        (first
          | (go_at_call 15; (try go_split_ands); refine (C17 _ (by assumption)).mono ?_; rintro e wn ⟨rfl, hbn⟩))
      obtain ⟨_, _, _, _, hB0⟩ := ‹wn.cell? ⟨b1, o1 + i * 2, none⟩ = some (.slice E1[i].a E1[i].r.length E1[i].c) ∧ _›
      clear q0 q1 p0 p1 C17
      go_wp2
      exact ⟨⟨i + 1, by omega, by go_num, hB0⟩, by simp [intOf]; omega⟩
    · have hie : ¬ (i : Int) < E1.length := by omega
      go_wp2
      go_ret
      exact ⟨rfl, hB⟩
end Go.Proofs.YtfdkajefcplfjaaGreat

/- The project's bag.Of: the bag of rows, each so often: merged by halves (sum), and laid in new memory (own): contracts of the calls, in whatever memory. Conditions: the rows' cells are known; the numbers are so small that no sum passes the ends. -/
namespace Go.Proofs.YtfdkajefcplfjaaGreat
open Go.RowKit

structure HalfS (w : World) (a : Option Addr) (k c : Nat) (L : List Pair) : Prop where
  out : ∀ W, Below w.heap.size w W → Calls Tryz.prog 85 #[.slice a k c] W (OfAns W L)
set_option maxHeartbeats 4000000 in
set_option maxRecDepth 1000000 in
theorem sum_all : ∀ (n : Nat) (a : Option Addr) (c : Nat) (E : List Elem) (w : World), E.length ≤ n → ElemsAt w a E → E.length ≤ c → E.length ≤ 1000000 → absS (E.map pr) ≤ 4611686018427387904 →
    Calls Tryz.prog 85 #[.slice a E.length c] w (OfAns w (E.map pr)) := by
  intro n
  induction n with
  | zero =>
    intro a c E w hn h hc hl hs
    obtain rfl : E = [] := List.length_eq_zero_iff.1 (by omega)
    go_enter Tryz.func85, Tryz.ntmps85
    go_wp2
    go_ret
    exact ⟨⟨a, c, [], rfl, Nat.zero_le _, ElemsAt.nil _ _, rfl⟩, Below.refl _ _⟩
  | succ n ih =>
    intro a c E w hn h hc hl hs
    match E, h, hn, hc, hl, hs with
    | [], h, hn, hc, hl, hs =>
      go_enter Tryz.func85, Tryz.ntmps85
      go_wp2
      go_ret
      exact ⟨⟨a, c, [], rfl, Nat.zero_le _, ElemsAt.nil _ _, rfl⟩, Below.refl _ _⟩
    | [e], h, hn, hc, hl, hs =>
      obtain ⟨b, off, rfl, hcl⟩ := h.1 (by simp)
      obtain ⟨q0, q1⟩ := hcl 0 (by simp)
      have hr := hid0 (h.2 e (by simp))
      simp only [Nat.zero_mul, Nat.add_zero, List.getElem_cons_zero] at q0 q1
      clear hcl
      by_cases hz : e.n = 0
      · rw [hz] at q1
        go_enter Tryz.func85, Tryz.ntmps85
        go_wp2
        go_ret
        refine ⟨⟨none, 0, [], rfl, Nat.le_refl _, ElemsAt.nil _ _, ?_⟩, Below.refl _ _⟩
        show [] = if e.n = 0 then [] else [pr e]
        rw [if_pos hz]
      · go_enter Tryz.func85, Tryz.ntmps85
        go_wp2
        go_ret
        refine ⟨⟨some ⟨b, off, none⟩, c, [e], rfl, hc, h, ?_⟩, Below.refl _ _⟩
        show [pr e] = if e.n = 0 then [] else [pr e]
        rw [if_neg hz]
    | e1 :: e2 :: E, h, hn, hc, hl, hs =>
      have h2 : 2 ≤ (e1 :: e2 :: E).length := by simp
      generalize e1 :: e2 :: E = F at h hn hc hl hs h2 ⊢
      obtain ⟨b, off, rfl, hcl⟩ := h.1 (fun e => by rw [e] at h2; simp at h2)
      clear hcl
      obtain ⟨k, hk⟩ : ∃ k, F.length / 2 = k := ⟨_, rfl⟩
      obtain ⟨m, hm⟩ : ∃ m, F.length - k = m := ⟨_, rfl⟩
      have hl1 : (F.take k).length = k := by rw [List.length_take]; omega
      have hl2 : (F.drop k).length = m := by rw [List.length_drop]; omega
      have hsum := absS_take (F.map pr) k
      rw [← List.map_take, ← List.map_drop] at hsum
      have n1 := absS_nonneg ((F.take k).map pr)
      have n2 := absS_nonneg ((F.drop k).map pr)
      have HA : HalfS w (some ⟨b, off, none⟩) k c ((F.take k).map pr) := ⟨fun W hb => by
        have := ih (some ⟨b, off, none⟩) c (F.take k) W (by omega) ((h.later hb).take k) (by omega) (by omega) (by omega)
        rwa [hl1] at this⟩
      have hh1 := elems_head (some ⟨b, off, none⟩) F c k (by omega) hc
      obtain ⟨a1, cm, hcm, hh2, hat⟩ := elems_tail (some ⟨b, off, none⟩) F c k m (by omega) hc hm
      have HD : HalfS w a1 m cm ((F.drop k).map pr) := ⟨fun W hb => by
        have := ih a1 cm (F.drop k) W (by omega) (hat _ (h.later hb)) (by omega) (by omega) (by omega)
        rwa [hl2] at this⟩
      have HJ := hid0 (joinB_ofB ((F.take k).map pr) ((F.drop k).map pr))
      have HT : Hid (F.map pr = (F.take k).map pr ++ (F.drop k).map pr) := by
        show _ = _
        rw [← List.map_append, List.take_append_drop]
      have HL := hid0 (show absS ((F.take k).map pr) + absS ((F.drop k).map pr) ≤ 4611686018427387904 by omega)
      have HLL := hid0 (show ((F.take k).map pr).length + ((F.drop k).map pr).length ≤ 1000000 by rw [List.length_map, List.length_map]; omega)
      generalize (F.take k).map pr = LA at HA HJ HT HL HLL
      generalize (F.drop k).map pr = LB at HD HJ HT HL HLL
      clear hsum n1 n2 hl1 hl2
      have hq : IntKind.i64.wrap ((F.length : Int).tdiv 2) = (k : Int) := by
        rw [show (F.length : Int).tdiv 2 = ((F.length / 2 : Nat) : Int) from rfl, hk]; exact IntWalk.i64_in _ (by omega)
      have hq0 : (F.length : Int).tdiv 2 = (k : Int) := by rw [← hk]; rfl
      have hwk : IntKind.i64.wrap (k : Int) = (k : Int) := IntWalk.i64_in _ (by omega)
      have hwk2 : wrap64 (k : Int) = (k : Int) := by unfold wrap64; omega
      have i0 : ¬ (F.length : Int) = 0 := by omega
      have i1 : ¬ (F.length : Int) = 1 := by omega
      obtain ⟨len, hlen⟩ : ∃ len, F.length = len := ⟨_, rfl⟩
      rw [hlen] at hq hq0 i0 i1 hh1 hh2 ⊢
      have HLEN := hid0 hlen
      clear hlen hn hs h ih hat hk hm hc hl h2
      go_enter Tryz.func85, Tryz.ntmps85
      go_wp2_with fail
      go_region_held3 (fun w' => Below w.heap.size w w')
        ((go_split_ands; (try dsimp only); (repeat' apply And.intro); all_goals (first
          | assumption
          | exact below_through hbn (Below.size ‹Below w.heap.size w _›) ‹_›
          | exact Below.drew (Below.refl _ _)
          | go_keep)))
        (first
          | (go_at_call 85; refine ((by exact HA : HalfS w _ _ _ _).out _ (by assumption)).mono ?_; rintro ea wa ⟨⟨aa, ca, EA, rfl, hca, hEA, hmA⟩, hbn⟩)
          | (go_at_call 85; refine ((by exact HD : HalfS w _ _ _ _).out _ (by assumption)).mono ?_; rintro ed wd ⟨⟨ad, cd, ED, rfl, hcd, hED, hmD⟩, hbn⟩)
          | (go_at_call 127; refine (merge_any _ _ _ _ EA ED _ (by exact hEA.later hbn) (by exact hED) hca hcd (by have := len_of hmA; have := len_of hmD; have := HLL.out; omega) (by exact sum_fits hmA hmD HL.out)).mono ?_; rintro ej wj ⟨⟨aj, cj, EJ, rfl, hcj, hEJ, hmJ⟩, hbn⟩))
      have HH := ‹Below w.heap.size w wj›
      clear HA HD hh1 hh2
      go_wp2
      go_ret
      exact ⟨⟨aj, cj, EJ, rfl, hcj, hEJ, by rw [hmJ, hmA, hmD, HJ.out, HT.out]⟩, HH⟩

/-! ### In new memory -/
/-- As step_bag1, and it tells which block may have turned. -/
theorem step_bag2 {w : World} {ops : Array Oper} {o : Oper} {a : Act} {K : Act → World → Prop} {Q : Exit → Act → World → Prop} {X : Prop} (hgd : o.guard = none) (s x : Operand)
    (ho : o.op = .call { callee := .builtin .append, args := #[s, x], argTypes := #[57, 57] })
    {base : Nat} {v : Value} {E : List Elem} (hs : a.eval s = v) (hown : OwnB w base v E)
    (e : Elem) (B : Nat) (hx : a.eval x = .slice (some ⟨B, 0, none⟩) 1 1) (h0 : w.cell? ⟨B, 0, none⟩ = some (.slice e.a e.r.length e.c)) (h1 : w.cell? ⟨B, 1, none⟩ = some (.int .i64 e.n))
    (hlen : (E.length + 1) * 32 ≤ 140737488355328) (hbase : base ≤ w.heap.size)
    (h : ∀ v' w', OwnB w' base v' (E ++ [e]) → KeptT 80 base w w' → w.grownBy w' v.ownBlock → K (a.put o.dst v') w') :
    if Region.wanted o (yielded ops a.tmps) = true then Oper.wp Tryz.prog o a w K Q else X := by
  have hw : Region.wanted o (yielded ops a.tmps) = true := by simp [Region.wanted, hgd]
  rw [if_pos hw]
  obtain ⟨i0, hi, hz0, hz1, hz2⟩ := info_parts info36
  refine wp_append_own w s x 57 ho base 80 i0 (.agg #[.slice none 0 0, .int .i64 0]) 2 32 Tryz.underlying57 hi hz0 hz1 hz2 rfl (by decide) v E.length (cellsE E) hs hown.out ⟨B, 0, none⟩ 1 1 [.slice e.a e.r.length e.c, .int .i64 e.n] hx rfl ?_ ?_ (by unfold maxLen; omega) hlen hbase ?_
  · intro j u hj
    match j, hj with
    | 0, hj => simp at hj; subst hj; rw [WideShapes.add_plain]; exact h0
    | 1, hj => simp at hj; subst hj; rw [WideShapes.add_plain]; exact h1
    | j + 2, hj => simp at hj
  · intro u hu; simp at hu; rcases hu with rfl | rfl <;> rfl
  · intro v' w' hown' hgrow _
    refine h v' w' ⟨?_⟩ (keptT_grown hown.out hbase hgrow) hgrow
    rw [cellsE_snoc, List.length_append]
    exact hown'
theorem Copied.keptE {w w' : World} {a : Option Addr} {r : List Val} {base : Nat} (h : Copied w a r) (hK : KeptT 80 base w w') : Copied w' a r := by
  by_cases hn : r = []
  · subst hn; exact ⟨fun h => absurd rfl h, fun h => absurd rfl h⟩
  obtain ⟨b, cs, fz, e, hh⟩ := h.blk hn
  have hh' := hK.other b cs fz 41 (by decide) hh
  refine ⟨fun hn => ?_, fun _ => ⟨b, cs, fz, e, hh'⟩⟩
  obtain ⟨b', off, e', hc⟩ := h.row hn
  rw [e] at e'
  obtain ⟨rfl, rfl⟩ : b = b' ∧ 0 = off := by simpa using e'
  have hcell : ∀ o, w'.cell? ⟨b, o, none⟩ = w.cell? ⟨b, o, none⟩ := fun o => World.cell?_of_block (by rw [hh', hh])
  exact ⟨b, 0, e, fun i hi => by rw [hcell, hcell, hcell]; exact hc i hi⟩
structure CopiesE (w : World) (E : List Elem) : Prop where
  out : ∀ e ∈ E, Copied w e.a e.r ∧ rowOK e.r
theorem CopiesE.nil (w : World) : CopiesE w [] := ⟨fun e he => absurd he (by simp)⟩
theorem CopiesE.later {w w' : World} {E : List Elem} (h : CopiesE w E) (hb : Below w.heap.size w w') : CopiesE w' E := ⟨fun e he => ⟨(h.out e he).1.later hb, (h.out e he).2⟩⟩
theorem CopiesE.keptT {w w' : World} {E : List Elem} {base : Nat} (h : CopiesE w E) (hK : KeptT 80 base w w') : CopiesE w' E := ⟨fun e he => ⟨(h.out e he).1.keptE hK, (h.out e he).2⟩⟩
theorem CopiesE.snoc {w : World} {E : List Elem} {e : Elem} (h : CopiesE w E) (he : Copied w e.a e.r ∧ rowOK e.r) : CopiesE w (E ++ [e]) := ⟨fun x hx => by
  rcases List.mem_append.1 hx with hx | hx
  · exact h.out x hx
  · obtain rfl := List.mem_singleton.1 hx; exact he⟩
theorem CopiesE.rows {w : World} {E : List Elem} (h : CopiesE w E) : RowsIn w E := fun e he => ⟨(h.out e he).1.row, (h.out e he).2⟩

set_option maxHeartbeats 4000000 in
set_option maxRecDepth 1000000 in
theorem own_any (a : Option Addr) (c : Nat) (E : List Elem) (w : World) (h : ElemsAt w a E) (hl : E.length ≤ 1000000) :
    Calls Tryz.prog 84 #[.slice a E.length c] w fun e w' => (∃ a' c' E', e = .returned (.slice a' E'.length c') ∧ E'.length ≤ c' ∧ ElemsAt w' a' E' ∧ E'.map pr = E.map pr) ∧ Below w.heap.size w w' := by
  have A := hid0 h
  clear h
  obtain ⟨i0, hi, hz0, hz1, hz2⟩ := info_parts info36
  go_enter Tryz.func84, Tryz.ntmps84
  go_wp2_with (at_make; go_must (refine wpList_make_own _ rfl _ _ 57 rfl w.heap.size 80 i0 (.agg #[.slice none 0 0, .int .i64 0]) 2 Tryz.underlying57 hi hz0 hz1 _ _ _ E.length rfl rfl ?b1 ?b2 ?b3 (Nat.le_refl _) ?_))
  case b1 => rfl
  case b2 => rw [hz2]; omega
  case b3 => unfold maxLen; omega
  intro w1 hown1 hg1
  have hB1 : Below w.heap.size w w1 := (Below.refl _ _).grown hg1 (Nat.le_refl _) (fun k hk => by cases hk)
  have hO1 : OwnB w1 w.heap.size (.slice (some ⟨w.heap.size, 0, none⟩) 0 E.length) [] := ⟨hown1⟩
  clear hown1 hg1 hz0 hz1 hz2 hi
  go_wp2_with fail
  go_loopw [3, 11] (fun ov iv wr => ∃ (i : Nat) (Eo : List Elem), i ≤ E.length ∧ iv = .int .i64 i ∧ OwnB wr w.heap.size ov Eo ∧ CopiesE wr Eo ∧ Hid (Eo.map pr = (E.map pr).take i) ∧ Below w.heap.size w wr) (fun _ iv _ => E.length - (intOf iv).toNat)
  case atStart => exact ⟨0, [], Nat.zero_le _, rfl, hO1, CopiesE.nil _, hid0 (by simp), hB1⟩
  case round =>
    obtain ⟨i, Eo, hi, rfl, hown, hcp, hT, hB⟩ := hrel
    have hsz := hB.size
    clear hO1 hB1
    have heo : Eo.length = i := by
      have := congrArg List.length hT.out
      simp only [List.length_map, List.length_take] at this
      omega
    by_cases hlt : i < E.length
    · obtain ⟨b1, o1, rfl, hc1⟩ := (A.out.1.later hB) (by intro e; rw [e] at hlt; exact absurd hlt (by simp))
      obtain ⟨q0, q1⟩ := hc1 i hlt
      clear hc1
      have r1 := hid0 (A.out.2 _ (List.getElem_mem hlt))
      go_wp2_with fail
      have n0 := elem_new wr (.slice E[i].a E[i].r.length E[i].c) (.int .i64 E[i].n) 80
      have hownA := hown.alloc (Obj.cells #[.slice E[i].a E[i].r.length E[i].c, .int .i64 E[i].n] 80)
      have hcpA := hcp.later ((Below.refl wr.heap.size wr).alloc (Nat.le_refl _) (Obj.cells #[.slice E[i].a E[i].r.length E[i].c, .int .i64 E[i].n] 80))
      have hBA := Below.alloc hB hsz (Obj.cells #[.slice E[i].a E[i].r.length E[i].c, .int .i64 E[i].n] 80)
      obtain ⟨p0, p1⟩ := n0
      have hfar : some wr.heap.size ≠ u3.ownBlock := fun e => by have := (hown.out.lt _ e.symm).2; omega
      have hBw : wr.heap.size < (wr.alloc (Obj.cells #[.slice E[i].a E[i].r.length E[i].c, .int .i64 E[i].n] 80)).heap.size := by simp
      clear hown hcp hB q0 q1
      generalize wr.alloc (Obj.cells #[.slice E[i].a E[i].r.length E[i].c, .int .i64 E[i].n] 80) = W at p0 p1 hownA hcpA hBA hBw ⊢
      generalize wr.heap.size = B at p0 p1 hfar hBw hsz ⊢
      have hzA := hBA.size
      have hownD := hownA.drew
      have hcpD := hcpA.later (Below.drew (Below.refl _ _))
      have hBD := Below.drew hBA
      have hzD := hBD.size
      clear hownA hcpA hBA
      go_region_held3 (fun w' => w'.cell? ⟨B, 0, none⟩ = some (.slice E[i].a E[i].r.length E[i].c) ∧ w'.cell? ⟨B, 1, none⟩ = some (.int .i64 E[i].n))
        (first
          | (exact ⟨p0, p1⟩)
          | (go_split_ands; (try dsimp only); (repeat' apply And.intro); all_goals (first
            | assumption
            | exact cell_later hbn ‹_›
            | exact (hgrow1.cell_far _ (by show B < (World.alloc _ _).heap.size; simp; omega) hfar).trans ‹_›
            | go_keep)))
        (first
          | (go_at_call 39; (try go_split_ands); refine (clone_any _ _ _ _ (r1.out.1.later hBD) r1.out.2).mono ?_; rintro e wn ⟨⟨a', c', rfl, hrow, hblk⟩, hbn⟩; have HCP := hid0 (Copied.mk hrow hblk); have hown3 := fun o => (hownD.kept hbn).alloc o; have hcp3 := hcpD.later hbn; have hB3 := below_through hbn hzD hBD; have hz3 := hB3.size; have hbs : W.heap.size ≤ wn.heap.size := hbn.size)
          | (refine step_bag2 (by rfl) _ _ (by rfl) (by rfl) (hown3 _) ⟨a', c', E[i].r, E[i].n⟩ wn.heap.size (by rfl) (elem_new _ _ _ _).1 (elem_new _ _ _ _).2 (by omega) (by simp; omega) ?_; intro v1 w1 hown1 hK1 hgrow1))
      have hB4 := (Below.alloc hB3 hz3 _).trans hK1.below
      have hcp4 := ((hcp3.later ((Below.refl _ _).alloc (Nat.le_refl _) _)).keptT hK1).snoc (e := ⟨a', c', E[i].r, E[i].n⟩) ⟨(HCP.out.later ((Below.refl _ _).alloc (Nat.le_refl _) _)).keptE hK1, r1.out.2⟩
      clear hownD hcpD hBD hown3 hcp3 hB3 hK1 hgrow1 hbn HCP hfar hBw p0 p1
      go_wp2
      exact ⟨⟨i + 1, Eo ++ [⟨a', c', E[i].r, E[i].n⟩], by omega, by go_num, hown1, hcp4, hid0 (by rw [List.map_append, hT.out, List.take_succ_eq_append_getElem (by simpa using hlt)]; simp [pr]), hB4⟩, by simp [intOf]; omega⟩
    · obtain ⟨a', c', rfl, hcap, _, hcl⟩ := elems_owned hown.out
      have HC := hid0 hcl
      have HEO := hid0 heo
      clear hown hcl heo
      have hie : ¬ (i : Int) < E.length := by omega
      go_wp2
      go_ret
      exact ⟨⟨a', c', Eo, rfl, hcap, ⟨HC.out, hcp.rows⟩, by rw [hT.out, List.take_of_length_le (by simp; omega)]⟩, hB⟩

set_option maxHeartbeats 1000000 in
theorem bagOf_any (a : Option Addr) (c : Nat) (E : List Elem) (w : World) (h : ElemsAt w a E) (hc : E.length ≤ c) (hl : E.length ≤ 1000000) (hs : absS (E.map pr) ≤ 4611686018427387904) :
    Calls Tryz.prog 47 #[.slice a E.length c] w (OfAns w (E.map pr)) := by
  have H1 := hid0 (sum_all E.length a c E w (Nat.le_refl _) h hc hl hs)
  clear h hs
  go_enter Tryz.func47, Tryz.ntmps47
  go_wp2_with (go_at_call 85; refine H1.out.mono ?_; rintro e1 w1 ⟨⟨a1, c1, E1, rfl, hc1, hE1, hm1⟩, hb1⟩)
  have hl1 := len_of hm1
  rw [List.length_map] at hl1
  have HM1 := hid0 hm1
  have HE1 := hid0 hE1
  clear hE1 hm1
  go_wp2_with (go_at_call 84; refine (own_any a1 c1 E1 _ HE1.out (by omega)).mono ?_; rintro e2 w2 ⟨⟨a2, c2, E2, rfl, hc2, hE2, hm2⟩, hb2⟩)
  go_ret
  exact ⟨⟨a2, c2, E2, rfl, hc2, hE2, by rw [hm2, HM1.out]⟩, hb1.trans (hb2.mono hb1.size)⟩
end Go.Proofs.YtfdkajefcplfjaaGreat

/- The project's bag.List and bag.Rows: the bag of rows, each once; the rows of a bag: contracts of the calls, in whatever memory. Conditions: the rows' cells are known; they are not too many. -/
namespace Go.Proofs.YtfdkajefcplfjaaGreat
open Go.RowKit

/-- A block that is known whole. -/
structure BlkAt (w : World) (B : Nat) (cs : Array Value) (t : TypeId) : Prop where
  out : ∃ fz, w.heap[B]? = some (Obj.cells cs t fz)
theorem BlkAt.later {w w' : World} {B : Nat} {cs : Array Value} {t : TypeId} (h : BlkAt w B cs t) (hb : Below w.heap.size w w') : BlkAt w' B cs t := by
  obtain ⟨fz, hh⟩ := h.out
  exact ⟨fz, (hb.block B (Array.getElem?_eq_some_iff.1 hh).1).trans hh⟩
theorem BlkAt.keptT {w w' : World} {B : Nat} {cs : Array Value} {t e : TypeId} {base : Nat} (h : BlkAt w B cs t) (ht : t ≠ e) (hK : KeptT e base w w') : BlkAt w' B cs t := by
  obtain ⟨fz, hh⟩ := h.out
  exact ⟨fz, hK.other B cs fz t ht hh⟩
theorem BlkAt.two {w : World} {B : Nat} {u v : Value} {t : TypeId} (h : BlkAt w B #[u, v] t) : w.cell? ⟨B, 0, none⟩ = some u ∧ w.cell? ⟨B, 1, none⟩ = some v := by
  obtain ⟨fz, hh⟩ := h.out
  constructor <;> simp [World.cell?, hh]
theorem BlkAt.new (w : World) (cs : Array Value) (t : TypeId) : BlkAt (w.alloc (Obj.cells cs t)) w.heap.size cs t := ⟨_, by show (w.heap.push (Obj.cells cs t))[w.heap.size]? = some (Obj.cells cs t); simp⟩

set_option maxHeartbeats 4000000 in
theorem bagRows_any (a : Option Addr) (c : Nat) (E : List Elem) (w : World) (h : ElemsAt w a E) (_ : E.length ≤ c) (hle : E.length ≤ 1000000) (hl : (rowsB (E.map pr)).length ≤ 1000000) (hn : ∀ e ∈ E, e.n ≤ 1000000) :
    Calls Tryz.prog 33 #[.slice a E.length c] w (RowsAns w (rowsB (E.map pr))) := by
  have A := hid0 h
  have HN := hid0 hn
  clear h hn
  go_enter Tryz.func33, Tryz.ntmps33
  go_wp2
  go_loopw [3, 8] (fun ov iv wr => ∃ (i : Nat) (Ls : List Line), i ≤ E.length ∧ iv = .int .i64 i ∧ OwnL wr w.heap.size ov Ls ∧ Hid (CopiesIn wr Ls) ∧ Hid (RowsTo E Ls i 0) ∧ Below w.heap.size w wr) (fun _ iv _ => E.length - (intOf iv).toNat)
  case atStart => exact ⟨0, [], Nat.zero_le _, rfl, OwnL.nil _ _, hid0 (fun e he => absurd he (by simp)), hid0 ⟨[], by simp [rowsB], fun h => absurd h (by omega)⟩, Below.refl _ _⟩
  case round =>
    obtain ⟨i, Ls, hi, rfl, hown, hR, hT, hB⟩ := hrel
    have hsz := hB.size
    by_cases hlt : i < E.length
    · have hne : E ≠ [] := by intro e; rw [e] at hlt; exact absurd hlt (by simp)
      obtain ⟨b1, o1, rfl, hc⟩ := (A.out.1.later hB) hne
      obtain ⟨q0, q1⟩ := hc i hlt
      clear hc
      have hr := hid0 (A.out.2 _ (List.getElem_mem hlt))
      have hnn := HN.out _ (List.getElem_mem hlt)
      go_wp2_with fail
      have hblkA := BlkAt.new wr #[.slice E[i].a E[i].r.length E[i].c, .int .i64 E[i].n] 80
      have hownA := hown.alloc (Obj.cells #[.slice E[i].a E[i].r.length E[i].c, .int .i64 E[i].n] 80)
      have hRA := hid0 (hR.out.later ((Below.refl wr.heap.size wr).alloc (Nat.le_refl _) (Obj.cells #[.slice E[i].a E[i].r.length E[i].c, .int .i64 E[i].n] 80)))
      have hBA := Below.alloc hB hsz (Obj.cells #[.slice E[i].a E[i].r.length E[i].c, .int .i64 E[i].n] 80)
      clear hown hR hB q0 q1
      generalize wr.alloc (Obj.cells #[.slice E[i].a E[i].r.length E[i].c, .int .i64 E[i].n] 80) = W at hblkA hownA hRA hBA ⊢
      generalize wr.heap.size = B at hblkA hsz ⊢
      have hcA := hblkA.two
      obtain ⟨p0, p1⟩ := hcA
      go_wp2_with fail
      go_loopw [3, 14] (fun ov kv w2 => ∃ (k : Nat) (L2 : List Line), ((k : Int) ≤ E[i].n ∨ k = 0) ∧ kv = .int .i64 k ∧ OwnL w2 w.heap.size ov L2 ∧ BlkAt w2 B #[.slice E[i].a E[i].r.length E[i].c, .int .i64 E[i].n] 80 ∧ Hid (CopiesIn w2 L2) ∧ Hid (RowsTo E L2 i k) ∧ Below w.heap.size w w2) (fun _ kv _ => (E[i].n - intOf kv).toNat)
      case atStart => exact ⟨0, Ls, .inr rfl, rfl, hownA, hblkA, hRA, hT, hBA⟩
      case round =>
        obtain ⟨k, L2, hk, rfl, hown2, hblk2, hR2, hT2, hB2⟩ := hrel
        have hz2 := hB2.size
        clear hownA hblkA hRA hBA p0 p1
        obtain ⟨p0, p1⟩ := hblk2.two
        by_cases hkn : (k : Int) < E[i].n
        · have hfew := rowsTo_few hT2.out hlt hkn
          go_wp2_with (first
            | (go_at_call 39; go_must (refine (clone_any _ _ _ _ (hr.out.1.later hB2) hr.out.2).mono ?_; rintro e wn ⟨⟨a', c', rfl, hrow, hblk⟩, hbn⟩; have HCP := hid0 (Copied.mk hrow hblk); have hown3 := hown2.kept hbn; have ho3 := fun o => hown3.alloc o; have hB3 := below_through hbn hz2 hB2; have hz3 := hB3.size; clear hrow hblk))
            | (at_builtin; go_must (refine wp_line1 rfl _ _ rfl rfl (ho3 _) ⟨a', c', E[i].r⟩ wn.heap.size rfl (line_new _ _ _) ?hl ?hb ?_)))
          case hl => omega
          case hb => simp; omega
          intro v1 w1 hown4 hK1
          have hB4 := (Below.alloc hB3 hz3 _).trans hK1.below
          have hblk4 := ((hblk2.later hbn).later ((Below.refl _ _).alloc (Nat.le_refl _) _)).keptT (by decide) hK1
          have HR4 := hid0 (copies_snoc (e := ⟨a', c', E[i].r⟩) (((hR2.out.later hbn).later ((Below.refl _ _).alloc (Nat.le_refl _) _)).keptT hK1) ⟨(HCP.out.later ((Below.refl _ _).alloc (Nat.le_refl _) _)).keptT hK1, hr.out.2⟩)
          clear hown2 hown3 ho3 hK1 hbn hblk2 p0 p1
          go_wp2
          exact ⟨⟨k + 1, L2 ++ [⟨a', c', E[i].r⟩], .inl (by omega), by go_num, hown4, hblk4, HR4, hid0 (rowsTo_next hT2.out hlt a' c'), hB4⟩, by simp [intOf]; omega⟩
        · go_wp2
          exact ⟨⟨i + 1, L2, by omega, by go_num, hown2, hR2, hid0 (rowsTo_turn hT2.out hlt hk hkn), hB2⟩, by simp [intOf]; omega⟩
    · obtain ⟨a', c', rfl, hcap, _, hcl⟩ := lines_owned hown.out
      have HC := hid0 hcl
      clear hown hcl
      have hie : ¬ (i : Int) < E.length := by omega
      go_wp2
      go_ret
      exact ⟨⟨a', c', Ls, rfl, hcap, ⟨HC.out, fun e he => ⟨(hR.out e he).1.row, (hR.out e he).2⟩⟩, rowsTo_all hT.out hlt⟩, hB⟩
end Go.Proofs.YtfdkajefcplfjaaGreat

/- The project's bag.Count, Right and Plain: contracts of the calls, in whatever memory. Conditions: the bag's cells are known; its numbers are so small that no sum passes the ends. -/
namespace Go.Proofs.YtfdkajefcplfjaaGreat
open Go.RowKit

theorem countB_append : ∀ A B : List Pair, countB (A ++ B) = countB A + countB B
  | [], B => by simp [countB]
  | x :: A, B => by rw [List.cons_append, countB, countB_append A B, countB]; omega
theorem countB_pos : ∀ A : List Pair, 0 ≤ countB A
  | [] => Int.le_refl _
  | x :: A => by have := countB_pos A; rw [countB]; split <;> omega
theorem countB_abs : ∀ A : List Pair, countB A ≤ absS A
  | [] => Int.le_refl _
  | x :: A => by have := countB_abs A; rw [countB, absS]; split <;> split <;> omega
theorem countB_step {E : List Elem} {i : Nat} (h : i < E.length) : countB ((E.map pr).take (i + 1)) = countB ((E.map pr).take i) + (if 0 < E[i].n then E[i].n else 0) := by
  rw [List.take_succ_eq_append_getElem (by simpa using h), countB_append]
  simp [countB, pr]
theorem countB_few {E : List Elem} (i : Nat) : countB ((E.map pr).take i) ≤ absS (E.map pr) := by
  have h1 := countB_abs ((E.map pr).take i)
  have h2 := absS_take (E.map pr) i
  have h3 := absS_nonneg ((E.map pr).drop i)
  omega
theorem countB_all {E : List Elem} {i : Nat} (h : ¬ i < E.length) : countB ((E.map pr).take i) = countB (E.map pr) := by rw [List.take_of_length_le (by simp; omega)]

set_option maxHeartbeats 2000000 in
theorem bagCount_any (a : Option Addr) (c : Nat) (E : List Elem) (w : World) (h : ElemsAt w a E) (hle : E.length ≤ 1000000) (hb : absS (E.map pr) ≤ 1000000) :
    Calls Tryz.prog 157 #[.slice a E.length c] w fun e w' => e = .returned (.int .i64 (countB (E.map pr))) ∧ Below w.heap.size w w' := by
  have A := hid0 h
  have HB := hid0 hb
  clear h hb
  go_enter Tryz.func157, Tryz.ntmps157
  go_wp2
  go_loopw [3, 8] (fun nv iv wr => ∃ (i : Nat) (n : Int), i ≤ E.length ∧ iv = .int .i64 i ∧ nv = .int .i64 n ∧ Hid (n = countB ((E.map pr).take i)) ∧ Below w.heap.size w wr) (fun _ iv _ => E.length - (intOf iv).toNat)
  case atStart => exact ⟨0, 0, Nat.zero_le _, rfl, rfl, hid0 (by simp [countB]), Below.refl _ _⟩
  case round =>
    obtain ⟨i, n, hi, rfl, rfl, hn, hB⟩ := hrel
    have hsz := hB.size
    by_cases hlt : i < E.length
    · obtain ⟨b1, o1, rfl, hc1⟩ := (A.out.1.later hB) (by intro e; rw [e] at hlt; exact absurd hlt (by simp))
      obtain ⟨q0, q1⟩ := hc1 i hlt
      clear hc1
      have hst := countB_step hlt
      have hfw := countB_few (E := E) (i + 1)
      have hp0 := countB_pos ((E.map pr).take i)
      rw [← hn.out] at hst hp0
      have hbb := HB.out
      rw [show (if 0 < E[i].n then E[i].n else 0) = max E[i].n 0 by omega] at hst
      have HST := hid0 hst
      rw [hst] at hfw
      clear hst
      have hw0 : IntKind.i64.wrap (n + max E[i].n 0) = n + max E[i].n 0 := IntWalk.i64_in _ (by omega)
      have hBA := Below.alloc hB hsz (Obj.cells #[.slice E[i].a E[i].r.length E[i].c, .int .i64 E[i].n] 80)
      clear hfw hbb
      go_wp2
      exact ⟨⟨i + 1, n + max E[i].n 0, by omega, by go_num, rfl, hid0 HST.out.symm, hBA⟩, by simp [intOf]; omega⟩
    · have hie : ¬ (i : Int) < E.length := by omega
      go_wp2
      go_ret
      exact ⟨ret_i64 (by rw [hn.out, countB_all hlt]), hB⟩

theorem rises_at : ∀ {B : List Pair}, Rises B → ∀ i (h : i + 1 < B.length), rowsV (B[i]).1 (B[i + 1]).1 < 0
  | x :: B, hB, 0, h => hB.2.1 _ (List.getElem_mem _)
  | x :: B, hB, i + 1, h => by
    have := rises_at hB.2.2 i (by simpa using h)
    simpa using this
theorem rises_not0 : ∀ {B : List Pair}, Rises B → ∀ x ∈ B, x.2 ≠ 0
  | y :: B, hB, x, h => by
    rcases List.mem_cons.1 h with rfl | h
    · exact hB.1
    · exact rises_not0 hB.2.2 x h
theorem rises_elems {E : List Elem} (h : Rises (E.map pr)) (i : Nat) (h1 : i + 1 < E.length) : rowsV (E[i]).r (E[i + 1]).r < 0 := by
  have := rises_at h i (by simpa using h1)
  simpa [pr] using this

set_option maxHeartbeats 4000000 in
theorem bagRight_any (a : Option Addr) (c : Nat) (E : List Elem) (w : World) (h : ElemsAt w a E) (hle : E.length ≤ 1000000) (hr : Rises (E.map pr)) (hp : ∀ e ∈ E, -1000000 ≤ e.n ∧ e.n ≤ 1000000) :
    Calls Tryz.prog 88 #[.slice a E.length c] w fun e w' => e = .returned (.bool true) ∧ Below w.heap.size w w' := by
  have A := hid0 h
  have HP := hid0 hp
  have HR := hid0 hr
  clear h hr hp
  go_enter Tryz.func88, Tryz.ntmps88
  go_wp2
  go_loopw [7] (fun iv wr => ∃ i : Nat, i ≤ E.length ∧ iv = .int .i64 i ∧ Below w.heap.size w wr) (fun iv _ => E.length - (intOf iv).toNat)
  case atStart => exact ⟨0, Nat.zero_le _, rfl, Below.refl _ _⟩
  case round =>
    obtain ⟨i, hi, rfl, hB⟩ := hrel
    have hsz := hB.size
    by_cases hlt : i < E.length
    · obtain ⟨b1, o1, rfl, hc1⟩ := (A.out.1.later hB) (by intro e; rw [e] at hlt; exact absurd hlt (by simp))
      have hcc := hc1
      obtain ⟨q0, q1⟩ := hc1 i hlt
      clear hc1
      have hn0 : E[i].n ≠ 0 := rises_not0 HR.out (pr E[i]) (List.mem_map_of_mem (List.getElem_mem hlt))
      obtain ⟨hn1, hn2⟩ := HP.out _ (List.getElem_mem hlt)
      have n1 : ¬ E[i].n < -1099511627776 := by omega
      have n2 : ¬ 1099511627776 < E[i].n := by omega
      have HCC := hid0 hcc
      clear hcc
      go_wp2_with fail
      have hblk := BlkAt.new wr #[.slice E[i].a E[i].r.length E[i].c, .int .i64 E[i].n] 80
      have hBA := Below.alloc hB hsz (Obj.cells #[.slice E[i].a E[i].r.length E[i].c, .int .i64 E[i].n] 80)
      have hzA := hBA.size
      have HBA := hid0 hBA
      have hblt : b1 < wr.heap.size := World.block_lt_of_cell? _ _ q0
      have hlater : ∀ {p : Addr} {v : Value}, wr.cell? p = some v → (wr.alloc (Obj.cells #[.slice E[i].a E[i].r.length E[i].c, .int .i64 E[i].n] 80)).cell? p = some v := fun h => cell_later ((Below.refl _ _).alloc (Nat.le_refl _) _) h
      clear q0 q1 hB
      rcases Nat.eq_zero_or_pos i with h0 | hpos
      · have hg0 : ¬ (0 : Int) < (i : Int) := by omega
        clear hlater
        generalize wr.alloc (Obj.cells #[.slice E[i].a E[i].r.length E[i].c, .int .i64 E[i].n] 80) = W at hblk hBA HBA hzA ⊢
        go_quiet (fail)
        go_wp2
        exact ⟨⟨i + 1, by omega, by go_num, ⟨HBA.out.os, HBA.out.tape, HBA.out.output, HBA.out.size, HBA.out.block⟩⟩, by simp [intOf]; omega⟩
      · obtain ⟨j, hj⟩ : ∃ j, j + 1 = i := ⟨i - 1, by omega⟩
        have hjl : j < E.length := by omega
        obtain ⟨s0, s1⟩ := HCC.out j hjl
        have s0' := hlater s0
        have hg0 : (0 : Int) < (i : Int) := by omega
        have hwj : IntKind.i64.wrap ((i : Int) - 1) = (j : Int) := by rw [IntWalk.i64_in _ (by omega)]; omega
        have hj2 : (j : Int) < (E.length : Int) := by omega
        have hjn : (0 : Int) ≤ (j : Int) := by omega
        have r1 := A.out.2 _ (List.getElem_mem hjl)
        have r2 := A.out.2 _ (List.getElem_mem hlt)
        have hrise : rowsV E[j].r E[i].r < 0 := by
          have := rises_elems HR.out j (by omega)
          simpa only [hj] using this
        obtain ⟨cv, hcv⟩ : ∃ cv, rowsV E[j].r E[i].r = cv := ⟨_, rfl⟩
        have CR : ∀ W, Below w.heap.size w W → Calls Tryz.prog 128 #[.slice E[j].a E[j].r.length E[j].c, .slice E[i].a E[i].r.length E[i].c] W fun e w' => e = .returned (.int .i64 cv) ∧ Below W.heap.size W w' := fun W hb => by
          have h := rows_any E[j].a E[i].a E[j].c E[i].c E[j].r E[i].r W (r1.1.later hb) (r2.1.later hb) (by have := r1.2; unfold rowOK at this; unfold maxLen; omega)
          rwa [hcv] at h
        rw [hcv] at hrise
        have hcn : ¬ (0 : Int) ≤ cv := by omega
        obtain ⟨p0, p1⟩ := hblk.two
        clear r1 r2 hcv s0 s1 hlater HCC hj
        generalize wr.alloc (Obj.cells #[.slice E[i].a E[i].r.length E[i].c, .int .i64 E[i].n] 80) = W at hblk hBA HBA hzA s0' p0 p1 ⊢
        generalize wr.heap.size = B at hblk hsz hblt p0 p1 ⊢
        go_region_held3 (fun w' => w'.cell? ⟨b1, o1 + j * 2, none⟩ = some (.slice E[j].a E[j].r.length E[j].c) ∧ w'.cell? ⟨B, 0, none⟩ = some (.slice E[i].a E[i].r.length E[i].c) ∧ Below w.heap.size w w')
          ((go_split_ands; (try dsimp only); (repeat' apply And.intro); all_goals (first
            | assumption
            | exact cell_later hbn ‹_›
            | exact below_through hbn (Below.size ‹Below w.heap.size w _›) ‹_›
            | exact Below.drew hBA
            | go_keep)))
          (first
            | (go_at_call 128; (try go_split_ands); refine (CR _ (by assumption)).mono ?_; rintro e wn ⟨rfl, hbn⟩))
        have HH := ‹wn.cell? ⟨b1, o1 + j * 2, none⟩ = some (.slice E[j].a E[j].r.length E[j].c) ∧ _›
        have hBn := HH.2.2
        clear CR s0' p0 p1 hblk
        go_wp2
        exact ⟨⟨i + 1, by omega, by go_num, hBn⟩, by simp [intOf]; omega⟩
    · have hie : ¬ (i : Int) < E.length := by omega
      go_wp2
      go_ret
      exact ⟨rfl, hB⟩

/-! ### Plain: none is taken away -/
set_option maxHeartbeats 400000 in
theorem takesAway_any (a : Option Addr) (n c : Nat) (m : Int) (hm : 0 < m) (w : World) :
    Calls Tryz.prog 214 #[.agg #[.slice a n c, .int .i64 m]] w fun e w' => e = .returned (.bool false) ∧ Below w.heap.size w w' := by
  have h : ¬ m < 0 := by omega
  go_enter Tryz.func214, Tryz.ntmps214
  go_wp2
  go_ret
  exact ⟨rfl, by go_grown⟩
set_option maxHeartbeats 2000000 in
theorem indexFunc_none (a : Option Addr) (c : Nat) (E : List Elem) (w : World) (h : ElemsAt w a E) (hle : E.length ≤ 1000000) (hp : ∀ e ∈ E, 0 < e.n) :
    Calls Tryz.prog 215 #[.slice a E.length c, .func (.func 214) #[] #[]] w fun e w' => e = .returned (.int .i64 (-1)) ∧ Below w.heap.size w w' := by
  have A := hid0 h
  have HP := hid0 hp
  clear h hp
  go_enter Tryz.func215, Tryz.ntmps215
  go_wp2
  go_loopw [8] (fun iv wr => ∃ i : Nat, i ≤ E.length ∧ iv = .int .i64 i ∧ Below w.heap.size w wr) (fun iv _ => E.length - (intOf iv).toNat)
  case atStart => exact ⟨0, Nat.zero_le _, rfl, Below.refl _ _⟩
  case round =>
    obtain ⟨i, hi, rfl, hB⟩ := hrel
    have hsz := hB.size
    by_cases hlt : i < E.length
    · obtain ⟨b1, o1, rfl, hc1⟩ := (A.out.1.later hB) (by intro e; rw [e] at hlt; exact absurd hlt (by simp))
      obtain ⟨q0, q1⟩ := hc1 i hlt
      clear hc1
      have hpos := HP.out _ (List.getElem_mem hlt)
      go_wp2_with (go_at_call 214; refine (takesAway_any _ _ _ _ hpos _).mono ?_; rintro e wn ⟨rfl, hbn⟩)
      exact ⟨⟨i + 1, by omega, by go_num, below_through hbn hsz hB⟩, by simp [intOf]; omega⟩
    · have hie : ¬ (i : Int) < E.length := by omega
      go_wp2
      go_ret
      exact ⟨rfl, hB⟩
set_option maxHeartbeats 400000 in
theorem containsFunc_none (a : Option Addr) (c : Nat) (E : List Elem) (w : World) (h : ElemsAt w a E) (hle : E.length ≤ 1000000) (hp : ∀ e ∈ E, 0 < e.n) :
    Calls Tryz.prog 151 #[.slice a E.length c, .func (.func 214) #[] #[]] w fun e w' => e = .returned (.bool false) ∧ Below w.heap.size w w' := by
  have H := hid0 (indexFunc_none a c E w h hle hp)
  clear h hp
  go_enter Tryz.func151, Tryz.ntmps151
  go_wp2_with (go_at_call 215; refine H.out.mono ?_; rintro e w1 ⟨rfl, hb⟩)
  go_ret
  exact ⟨rfl, hb⟩
set_option maxHeartbeats 1000000 in
theorem bagPlain_any (a : Option Addr) (c : Nat) (E : List Elem) (w : World) (h : ElemsAt w a E) (hle : E.length ≤ 1000000) (hr : Rises (E.map pr)) (hp : ∀ e ∈ E, 0 < e.n ∧ e.n ≤ 1000000) :
    Calls Tryz.prog 150 #[.slice a E.length c] w fun e w' => e = .returned (.bool true) ∧ Below w.heap.size w w' := by
  have A := hid0 h
  have H := hid0 (bagRight_any a c E w h hle hr (fun e he => ⟨by have := hp e he; omega, (hp e he).2⟩))
  have HP := hid0 (fun e (he : e ∈ E) => (hp e he).1)
  clear h hr hp
  go_enter Tryz.func150, Tryz.ntmps150
  go_wp2_with (first
    | (go_at_call 88; refine H.out.mono ?_; rintro e w1 ⟨rfl, hb1⟩)
    | (go_at_call 151; refine (containsFunc_none a c E _ (A.out.later hb1) hle HP.out).mono ?_; rintro e w2 ⟨rfl, hb2⟩))
  go_ret
  exact ⟨rfl, hb1.trans (hb2.mono hb1.size)⟩
end Go.Proofs.YtfdkajefcplfjaaGreat
