/- Several of my texts laid together, each as it was: Bg, Bo. Conditions: each names its own. -/
import Derived.Test.YtadidikegfiedaaC1
import Derived.Test.YtadidikegfiedaaC2
import Derived.Deep.RegionHeld3
/- The reference of layers 1 and 4: bags, and lists of rows, that are the same are told to be so: contracts of the calls, in whatever memory. Conditions: the cells are known; they are not too many. -/
namespace Go.Proofs.Ytadidikegfiedaa
open Go.RowKit

theorem map_at {α β : Type} {f : α → β} {A B : List α} (h : A.map f = B.map f) {i : Nat} (h1 : i < A.length) (h2 : i < B.length) : f A[i] = f B[i] := by
  have e : (A.map f)[i]? = (B.map f)[i]? := by rw [h]
  simpa [h1, h2] using e

set_option maxHeartbeats 2000000 in
theorem refSame_any (a1 a2 : Option Addr) (c1 c2 : Nat) (E1 E2 : List Elem) (w : World) (h1 : ElemsAt w a1 E1) (h2 : ElemsAt w a2 E2) (hl : E1.length ≤ 1000000) (he : E1.map pr = E2.map pr) :
    Calls Try.prog 12 #[.slice a1 E1.length c1, .slice a2 E2.length c2] w fun e w' => e = .returned (.bool true) ∧ Below w.heap.size w w' := by
  have hlen : E2.length = E1.length := by have := congrArg List.length he; rw [List.length_map, List.length_map] at this; omega
  rw [hlen]
  have A1 := hid0 h1
  have A2 := hid0 h2
  have HE := hid0 he
  have HLEN := hid0 hlen
  clear h1 h2 he hlen
  go_enter Try.func12, Try.ntmps12
  go_wp2
  go_loopw [5] (fun iv wr => ∃ i : Nat, i ≤ E1.length ∧ iv = .int .i64 i ∧ Below w.heap.size w wr) (fun iv _ => E1.length - (intOf iv).toNat)
  case atStart => exact ⟨0, Nat.zero_le _, rfl, Below.refl _ _⟩
  case round =>
    obtain ⟨i, hi, rfl, hB⟩ := hrel
    have hsz := hB.size
    by_cases hlt : i < E1.length
    · have hlt2 : i < E2.length := by have := HLEN.out; omega
      obtain ⟨b1, o1, rfl, hc1⟩ := (A1.out.1.later hB) (by intro e; rw [e] at hlt; exact absurd hlt (by simp))
      obtain ⟨q0, q1⟩ := hc1 i hlt
      obtain ⟨b2, o2, rfl, hc2⟩ := (A2.out.1.later hB) (by intro e; rw [e] at hlt2; exact absurd hlt2 (by simp))
      obtain ⟨p0, p1⟩ := hc2 i hlt2
      clear hc1 hc2
      have r1 := A1.out.2 _ (List.getElem_mem hlt)
      have r2 := A2.out.2 _ (List.getElem_mem hlt2)
      have ep : pr E1[i] = pr E2[i] := map_at HE.out hlt hlt2
      have er : E1[i].r = E2[i].r := congrArg Prod.fst ep
      have en : E2[i].n = E1[i].n := (congrArg Prod.snd ep).symm
      rw [en] at p1
      have C17 : ∀ W, Below w.heap.size w W → Calls Try.prog 32 #[.slice E1[i].a E1[i].r.length E1[i].c, .slice E2[i].a E2[i].r.length E2[i].c] W fun e w' => e = .returned (.int .i64 0) ∧ Below W.heap.size W w' := fun W hb => by
        have h := refRows_any E1[i].a E2[i].a E1[i].c E2[i].c E1[i].r E2[i].r W (r1.1.later hb) (r2.1.later hb) (by have := r1.2; unfold rowOK at this; unfold maxLen; omega)
        rwa [(rowsV_is _ _).2 er] at h
      clear r1 r2 er ep en
      go_wp2_with fail
      go_region_held3 (fun w' => w'.cell? ⟨b1, o1 + i * 2, none⟩ = some (.slice E1[i].a E1[i].r.length E1[i].c) ∧ w'.cell? ⟨b1, o1 + i * 2 + 1, none⟩ = some (.int .i64 E1[i].n) ∧ w'.cell? ⟨b2, o2 + i * 2, none⟩ = some (.slice E2[i].a E2[i].r.length E2[i].c) ∧ w'.cell? ⟨b2, o2 + i * 2 + 1, none⟩ = some (.int .i64 E1[i].n) ∧ Below w.heap.size w w')
        ((go_split_ands; (try dsimp only); (repeat' apply And.intro); all_goals (first
          | assumption
          | exact cell_later hbn ‹_›
          | exact below_through hbn (Below.size ‹Below w.heap.size w _›) ‹_›
          | exact Below.drew hB
          | go_keep)))
        (first
          | (go_at_call 32; (try go_split_ands); refine (C17 _ (by assumption)).mono ?_; rintro e wn ⟨rfl, hbn⟩))
      obtain ⟨_, _, _, _, hB0⟩ := ‹wn.cell? ⟨b1, o1 + i * 2, none⟩ = some (.slice E1[i].a E1[i].r.length E1[i].c) ∧ _›
      clear q0 q1 p0 p1 C17
      go_wp2
      exact ⟨⟨i + 1, by omega, by go_num, hB0⟩, by simp [intOf]; omega⟩
    · have hie : ¬ (i : Int) < E1.length := by omega
      go_wp2
      go_ret
      exact ⟨rfl, hB⟩
end Go.Proofs.Ytadidikegfiedaa

/- The project's bag.Of: the bag of rows, each so often: merged by halves (sum), and laid in new memory (own): contracts of the calls, in whatever memory. Conditions: the rows' cells are known; the numbers are so small that no sum passes the ends. -/
namespace Go.Proofs.Ytadidikegfiedaa
open Go.RowKit

structure HalfS (w : World) (a : Option Addr) (k c : Nat) (L : List Pair) : Prop where
  out : ∀ W, Below w.heap.size w W → Calls Try.prog 43 #[.slice a k c] W (OfAns W L)
set_option maxHeartbeats 4000000 in
set_option maxRecDepth 1000000 in
theorem sum_all : ∀ (n : Nat) (a : Option Addr) (c : Nat) (E : List Elem) (w : World), E.length ≤ n → ElemsAt w a E → E.length ≤ c → E.length ≤ 1000000 → absS (E.map pr) ≤ 4611686018427387904 →
    Calls Try.prog 43 #[.slice a E.length c] w (OfAns w (E.map pr)) := by
  intro n
  induction n with
  | zero =>
    intro a c E w hn h hc hl hs
    obtain rfl : E = [] := List.length_eq_zero_iff.1 (by omega)
    go_enter Try.func43, Try.ntmps43
    go_wp2
    go_ret
    exact ⟨⟨a, c, [], rfl, Nat.zero_le _, ElemsAt.nil _ _, rfl⟩, Below.refl _ _⟩
  | succ n ih =>
    intro a c E w hn h hc hl hs
    match E, h, hn, hc, hl, hs with
    | [], h, hn, hc, hl, hs =>
      go_enter Try.func43, Try.ntmps43
      go_wp2
      go_ret
      exact ⟨⟨a, c, [], rfl, Nat.zero_le _, ElemsAt.nil _ _, rfl⟩, Below.refl _ _⟩
    | [e], h, hn, hc, hl, hs =>
      obtain ⟨b, off, rfl, hcl⟩ := h.1 (by simp)
      obtain ⟨q0, q1⟩ := hcl 0 (by simp)
      have hr := hid0 (h.2 e (by simp))
      simp only [Nat.zero_mul, Nat.add_zero, List.getElem_cons_zero] at q0 q1
      clear hcl
      by_cases hz : e.n = 0
      · rw [hz] at q1
        go_enter Try.func43, Try.ntmps43
        go_wp2
        go_ret
        refine ⟨⟨none, 0, [], rfl, Nat.le_refl _, ElemsAt.nil _ _, ?_⟩, Below.refl _ _⟩
        show [] = if e.n = 0 then [] else [pr e]
        rw [if_pos hz]
      · go_enter Try.func43, Try.ntmps43
        go_wp2
        go_ret
        refine ⟨⟨some ⟨b, off, none⟩, c, [e], rfl, hc, h, ?_⟩, Below.refl _ _⟩
        show [pr e] = if e.n = 0 then [] else [pr e]
        rw [if_neg hz]
    | e1 :: e2 :: E, h, hn, hc, hl, hs =>
      have h2 : 2 ≤ (e1 :: e2 :: E).length := by simp
      generalize e1 :: e2 :: E = F at h hn hc hl hs h2 ⊢
      obtain ⟨b, off, rfl, hcl⟩ := h.1 (fun e => by rw [e] at h2; simp at h2)
      clear hcl
      obtain ⟨k, hk⟩ : ∃ k, F.length / 2 = k := ⟨_, rfl⟩
      obtain ⟨m, hm⟩ : ∃ m, F.length - k = m := ⟨_, rfl⟩
      have hl1 : (F.take k).length = k := by rw [List.length_take]; omega
      have hl2 : (F.drop k).length = m := by rw [List.length_drop]; omega
      have hsum := absS_take (F.map pr) k
      rw [← List.map_take, ← List.map_drop] at hsum
      have n1 := absS_nonneg ((F.take k).map pr)
      have n2 := absS_nonneg ((F.drop k).map pr)
      have HA : HalfS w (some ⟨b, off, none⟩) k c ((F.take k).map pr) := ⟨fun W hb => by
        have := ih (some ⟨b, off, none⟩) c (F.take k) W (by omega) ((h.later hb).take k) (by omega) (by omega) (by omega)
        rwa [hl1] at this⟩
      have hh1 := elems_head (some ⟨b, off, none⟩) F c k (by omega) hc
      obtain ⟨a1, cm, hcm, hh2, hat⟩ := elems_tail (some ⟨b, off, none⟩) F c k m (by omega) hc hm
      have HD : HalfS w a1 m cm ((F.drop k).map pr) := ⟨fun W hb => by
        have := ih a1 cm (F.drop k) W (by omega) (hat _ (h.later hb)) (by omega) (by omega) (by omega)
        rwa [hl2] at this⟩
      have HJ := hid0 (joinB_ofB ((F.take k).map pr) ((F.drop k).map pr))
      have HT : Hid (F.map pr = (F.take k).map pr ++ (F.drop k).map pr) := by
        show _ = _
        rw [← List.map_append, List.take_append_drop]
      have HL := hid0 (show absS ((F.take k).map pr) + absS ((F.drop k).map pr) ≤ 4611686018427387904 by omega)
      have HLL := hid0 (show ((F.take k).map pr).length + ((F.drop k).map pr).length ≤ 1000000 by rw [List.length_map, List.length_map]; omega)
      generalize (F.take k).map pr = LA at HA HJ HT HL HLL
      generalize (F.drop k).map pr = LB at HD HJ HT HL HLL
      clear hsum n1 n2 hl1 hl2
      have hq : IntKind.i64.wrap ((F.length : Int).tdiv 2) = (k : Int) := by
        rw [show (F.length : Int).tdiv 2 = ((F.length / 2 : Nat) : Int) from rfl, hk]; exact IntWalk.i64_in _ (by omega)
      have hq0 : (F.length : Int).tdiv 2 = (k : Int) := by rw [← hk]; rfl
      have hwk : IntKind.i64.wrap (k : Int) = (k : Int) := IntWalk.i64_in _ (by omega)
      have hwk2 : wrap64 (k : Int) = (k : Int) := by unfold wrap64; omega
      have i0 : ¬ (F.length : Int) = 0 := by omega
      have i1 : ¬ (F.length : Int) = 1 := by omega
      obtain ⟨len, hlen⟩ : ∃ len, F.length = len := ⟨_, rfl⟩
      rw [hlen] at hq hq0 i0 i1 hh1 hh2 ⊢
      have HLEN := hid0 hlen
      clear hlen hn hs h ih hat hk hm hc hl h2
      go_enter Try.func43, Try.ntmps43
      go_wp2_with fail
      go_region_held3 (fun w' => Below w.heap.size w w')
        ((go_split_ands; (try dsimp only); (repeat' apply And.intro); all_goals (first
          | assumption
          | exact below_through hbn (Below.size ‹Below w.heap.size w _›) ‹_›
          | exact Below.drew (Below.refl _ _)
          | go_keep)))
        (first
          | (go_at_call 43; refine ((by exact HA : HalfS w _ _ _ _).out _ (by assumption)).mono ?_; rintro ea wa ⟨⟨aa, ca, EA, rfl, hca, hEA, hmA⟩, hbn⟩)
          | (go_at_call 43; refine ((by exact HD : HalfS w _ _ _ _).out _ (by assumption)).mono ?_; rintro ed wd ⟨⟨ad, cd, ED, rfl, hcd, hED, hmD⟩, hbn⟩)
          | (go_at_call 51; refine (merge_any _ _ _ _ EA ED _ (by exact hEA.later hbn) (by exact hED) hca hcd (by have := len_of hmA; have := len_of hmD; have := HLL.out; omega) (by exact sum_fits hmA hmD HL.out)).mono ?_; rintro ej wj ⟨⟨aj, cj, EJ, rfl, hcj, hEJ, hmJ⟩, hbn⟩))
      have HH := ‹Below w.heap.size w wj›
      clear HA HD hh1 hh2
      go_wp2
      go_ret
      exact ⟨⟨aj, cj, EJ, rfl, hcj, hEJ, by rw [hmJ, hmA, hmD, HJ.out, HT.out]⟩, HH⟩

/-! ### In new memory -/
/-- As step_bag1, and it tells which block may have turned. -/
theorem step_bag2 {w : World} {ops : Array Oper} {o : Oper} {a : Act} {K : Act → World → Prop} {Q : Exit → Act → World → Prop} {X : Prop} (hgd : o.guard = none) (s x : Operand)
    (ho : o.op = .call { callee := .builtin .append, args := #[s, x], argTypes := #[25, 25] })
    {base : Nat} {v : Value} {E : List Elem} (hs : a.eval s = v) (hown : OwnB w base v E)
    (e : Elem) (B : Nat) (hx : a.eval x = .slice (some ⟨B, 0, none⟩) 1 1) (h0 : w.cell? ⟨B, 0, none⟩ = some (.slice e.a e.r.length e.c)) (h1 : w.cell? ⟨B, 1, none⟩ = some (.int .i64 e.n))
    (hlen : (E.length + 1) * 32 ≤ 140737488355328) (hbase : base ≤ w.heap.size)
    (h : ∀ v' w', OwnB w' base v' (E ++ [e]) → KeptT 46 base w w' → w.grownBy w' v.ownBlock → K (a.put o.dst v') w') :
    if Region.wanted o (yielded ops a.tmps) = true then Oper.wp Try.prog o a w K Q else X := by
  have hw : Region.wanted o (yielded ops a.tmps) = true := by simp [Region.wanted, hgd]
  rw [if_pos hw]
  obtain ⟨i0, hi, hz0, hz1, hz2⟩ := info_parts info36
  refine wp_append_own w s x 25 ho base 46 i0 (.agg #[.slice none 0 0, .int .i64 0]) 2 32 Try.underlying25 hi hz0 hz1 hz2 rfl (by decide) v E.length (cellsE E) hs hown.out ⟨B, 0, none⟩ 1 1 [.slice e.a e.r.length e.c, .int .i64 e.n] hx rfl ?_ ?_ (by unfold maxLen; omega) hlen hbase ?_
  · intro j u hj
    match j, hj with
    | 0, hj => simp at hj; subst hj; rw [WideShapes.add_plain]; exact h0
    | 1, hj => simp at hj; subst hj; rw [WideShapes.add_plain]; exact h1
    | j + 2, hj => simp at hj
  · intro u hu; simp at hu; rcases hu with rfl | rfl <;> rfl
  · intro v' w' hown' hgrow _
    refine h v' w' ⟨?_⟩ (keptT_grown hown.out hbase hgrow) hgrow
    rw [cellsE_snoc, List.length_append]
    exact hown'
theorem Copied.keptE {w w' : World} {a : Option Addr} {r : List Val} {base : Nat} (h : Copied w a r) (hK : KeptT 46 base w w') : Copied w' a r := by
  by_cases hn : r = []
  · subst hn; exact ⟨fun h => absurd rfl h, fun h => absurd rfl h⟩
  obtain ⟨b, cs, fz, e, hh⟩ := h.blk hn
  have hh' := hK.other b cs fz 62 (by decide) hh
  refine ⟨fun hn => ?_, fun _ => ⟨b, cs, fz, e, hh'⟩⟩
  obtain ⟨b', off, e', hc⟩ := h.row hn
  rw [e] at e'
  obtain ⟨rfl, rfl⟩ : b = b' ∧ 0 = off := by simpa using e'
  have hcell : ∀ o, w'.cell? ⟨b, o, none⟩ = w.cell? ⟨b, o, none⟩ := fun o => World.cell?_of_block (by rw [hh', hh])
  exact ⟨b, 0, e, fun i hi => by rw [hcell, hcell, hcell]; exact hc i hi⟩
structure CopiesE (w : World) (E : List Elem) : Prop where
  out : ∀ e ∈ E, Copied w e.a e.r ∧ rowOK e.r
theorem CopiesE.nil (w : World) : CopiesE w [] := ⟨fun e he => absurd he (by simp)⟩
theorem CopiesE.later {w w' : World} {E : List Elem} (h : CopiesE w E) (hb : Below w.heap.size w w') : CopiesE w' E := ⟨fun e he => ⟨(h.out e he).1.later hb, (h.out e he).2⟩⟩
theorem CopiesE.keptT {w w' : World} {E : List Elem} {base : Nat} (h : CopiesE w E) (hK : KeptT 46 base w w') : CopiesE w' E := ⟨fun e he => ⟨(h.out e he).1.keptE hK, (h.out e he).2⟩⟩
theorem CopiesE.snoc {w : World} {E : List Elem} {e : Elem} (h : CopiesE w E) (he : Copied w e.a e.r ∧ rowOK e.r) : CopiesE w (E ++ [e]) := ⟨fun x hx => by
  rcases List.mem_append.1 hx with hx | hx
  · exact h.out x hx
  · obtain rfl := List.mem_singleton.1 hx; exact he⟩
theorem CopiesE.rows {w : World} {E : List Elem} (h : CopiesE w E) : RowsIn w E := fun e he => ⟨(h.out e he).1.row, (h.out e he).2⟩

set_option maxHeartbeats 4000000 in
set_option maxRecDepth 1000000 in
theorem own_any (a : Option Addr) (c : Nat) (E : List Elem) (w : World) (h : ElemsAt w a E) (hl : E.length ≤ 1000000) :
    Calls Try.prog 42 #[.slice a E.length c] w fun e w' => (∃ a' c' E', e = .returned (.slice a' E'.length c') ∧ E'.length ≤ c' ∧ ElemsAt w' a' E' ∧ E'.map pr = E.map pr) ∧ Below w.heap.size w w' := by
  have A := hid0 h
  clear h
  obtain ⟨i0, hi, hz0, hz1, hz2⟩ := info_parts info36
  go_enter Try.func42, Try.ntmps42
  go_wp2_with (at_make; go_must (refine wpList_make_own _ rfl _ _ 25 rfl w.heap.size 46 i0 (.agg #[.slice none 0 0, .int .i64 0]) 2 Try.underlying25 hi hz0 hz1 _ _ _ E.length rfl rfl ?b1 ?b2 ?b3 (Nat.le_refl _) ?_))
  case b1 => rfl
  case b2 => rw [hz2]; omega
  case b3 => unfold maxLen; omega
  intro w1 hown1 hg1
  have hB1 : Below w.heap.size w w1 := (Below.refl _ _).grown hg1 (Nat.le_refl _) (fun k hk => by cases hk)
  have hO1 : OwnB w1 w.heap.size (.slice (some ⟨w.heap.size, 0, none⟩) 0 E.length) [] := ⟨hown1⟩
  clear hown1 hg1 hz0 hz1 hz2 hi
  go_wp2_with fail
  go_loopw [3, 11] (fun ov iv wr => ∃ (i : Nat) (Eo : List Elem), i ≤ E.length ∧ iv = .int .i64 i ∧ OwnB wr w.heap.size ov Eo ∧ CopiesE wr Eo ∧ Hid (Eo.map pr = (E.map pr).take i) ∧ Below w.heap.size w wr) (fun _ iv _ => E.length - (intOf iv).toNat)
  case atStart => exact ⟨0, [], Nat.zero_le _, rfl, hO1, CopiesE.nil _, hid0 (by simp), hB1⟩
  case round =>
    obtain ⟨i, Eo, hi, rfl, hown, hcp, hT, hB⟩ := hrel
    have hsz := hB.size
    clear hO1 hB1
    have heo : Eo.length = i := by
      have := congrArg List.length hT.out
      simp only [List.length_map, List.length_take] at this
      omega
    by_cases hlt : i < E.length
    · obtain ⟨b1, o1, rfl, hc1⟩ := (A.out.1.later hB) (by intro e; rw [e] at hlt; exact absurd hlt (by simp))
      obtain ⟨q0, q1⟩ := hc1 i hlt
      clear hc1
      have r1 := hid0 (A.out.2 _ (List.getElem_mem hlt))
      go_wp2_with fail
      have n0 := elem_new wr (.slice E[i].a E[i].r.length E[i].c) (.int .i64 E[i].n) 46
      have hownA := hown.alloc (Obj.cells #[.slice E[i].a E[i].r.length E[i].c, .int .i64 E[i].n] 46)
      have hcpA := hcp.later ((Below.refl wr.heap.size wr).alloc (Nat.le_refl _) (Obj.cells #[.slice E[i].a E[i].r.length E[i].c, .int .i64 E[i].n] 46))
      have hBA := Below.alloc hB hsz (Obj.cells #[.slice E[i].a E[i].r.length E[i].c, .int .i64 E[i].n] 46)
      obtain ⟨p0, p1⟩ := n0
      have hfar : some wr.heap.size ≠ u3.ownBlock := fun e => by have := (hown.out.lt _ e.symm).2; omega
      have hBw : wr.heap.size < (wr.alloc (Obj.cells #[.slice E[i].a E[i].r.length E[i].c, .int .i64 E[i].n] 46)).heap.size := by simp
      clear hown hcp hB q0 q1
      generalize wr.alloc (Obj.cells #[.slice E[i].a E[i].r.length E[i].c, .int .i64 E[i].n] 46) = W at p0 p1 hownA hcpA hBA hBw ⊢
      generalize wr.heap.size = B at p0 p1 hfar hBw hsz ⊢
      have hzA := hBA.size
      have hownD := hownA.drew
      have hcpD := hcpA.later (Below.drew (Below.refl _ _))
      have hBD := Below.drew hBA
      have hzD := hBD.size
      clear hownA hcpA hBA
      go_region_held3 (fun w' => w'.cell? ⟨B, 0, none⟩ = some (.slice E[i].a E[i].r.length E[i].c) ∧ w'.cell? ⟨B, 1, none⟩ = some (.int .i64 E[i].n))
        (first
          | (exact ⟨p0, p1⟩)
          | (go_split_ands; (try dsimp only); (repeat' apply And.intro); all_goals (first
            | assumption
            | exact cell_later hbn ‹_›
            | exact (hgrow1.cell_far _ (by show B < (World.alloc _ _).heap.size; simp; omega) hfar).trans ‹_›
            | go_keep)))
        (first
          | (go_at_call 38; (try go_split_ands); refine (clone_any _ _ _ _ (r1.out.1.later hBD) r1.out.2).mono ?_; rintro e wn ⟨⟨a', c', rfl, hrow, hblk⟩, hbn⟩; have HCP := hid0 (Copied.mk hrow hblk); have hown3 := fun o => (hownD.kept hbn).alloc o; have hcp3 := hcpD.later hbn; have hB3 := below_through hbn hzD hBD; have hz3 := hB3.size; have hbs : W.heap.size ≤ wn.heap.size := hbn.size)
          | (refine step_bag2 (by rfl) _ _ (by rfl) (by rfl) (hown3 _) ⟨a', c', E[i].r, E[i].n⟩ wn.heap.size (by rfl) (elem_new _ _ _ _).1 (elem_new _ _ _ _).2 (by omega) (by simp; omega) ?_; intro v1 w1 hown1 hK1 hgrow1))
      have hB4 := (Below.alloc hB3 hz3 _).trans hK1.below
      have hcp4 := ((hcp3.later ((Below.refl _ _).alloc (Nat.le_refl _) _)).keptT hK1).snoc (e := ⟨a', c', E[i].r, E[i].n⟩) ⟨(HCP.out.later ((Below.refl _ _).alloc (Nat.le_refl _) _)).keptE hK1, r1.out.2⟩
      clear hownD hcpD hBD hown3 hcp3 hB3 hK1 hgrow1 hbn HCP hfar hBw p0 p1
      go_wp2
      exact ⟨⟨i + 1, Eo ++ [⟨a', c', E[i].r, E[i].n⟩], by omega, by go_num, hown1, hcp4, hid0 (by rw [List.map_append, hT.out, List.take_succ_eq_append_getElem (by simpa using hlt)]; simp [pr]), hB4⟩, by simp [intOf]; omega⟩
    · obtain ⟨a', c', rfl, hcap, _, hcl⟩ := elems_owned hown.out
      have HC := hid0 hcl
      have HEO := hid0 heo
      clear hown hcl heo
      have hie : ¬ (i : Int) < E.length := by omega
      go_wp2
      go_ret
      exact ⟨⟨a', c', Eo, rfl, hcap, ⟨HC.out, hcp.rows⟩, by rw [hT.out, List.take_of_length_le (by simp; omega)]⟩, hB⟩

set_option maxHeartbeats 1000000 in
theorem bagOf_any (a : Option Addr) (c : Nat) (E : List Elem) (w : World) (h : ElemsAt w a E) (hc : E.length ≤ c) (hl : E.length ≤ 1000000) (hs : absS (E.map pr) ≤ 4611686018427387904) :
    Calls Try.prog 29 #[.slice a E.length c] w (OfAns w (E.map pr)) := by
  have H1 := hid0 (sum_all E.length a c E w (Nat.le_refl _) h hc hl hs)
  clear h hs
  go_enter Try.func29, Try.ntmps29
  go_wp2_with (go_at_call 43; refine H1.out.mono ?_; rintro e1 w1 ⟨⟨a1, c1, E1, rfl, hc1, hE1, hm1⟩, hb1⟩)
  have hl1 := len_of hm1
  rw [List.length_map] at hl1
  have HM1 := hid0 hm1
  have HE1 := hid0 hE1
  clear hE1 hm1
  go_wp2_with (go_at_call 42; refine (own_any a1 c1 E1 _ HE1.out (by omega)).mono ?_; rintro e2 w2 ⟨⟨a2, c2, E2, rfl, hc2, hE2, hm2⟩, hb2⟩)
  go_ret
  exact ⟨⟨a2, c2, E2, rfl, hc2, hE2, by rw [hm2, HM1.out]⟩, hb1.trans (hb2.mono hb1.size)⟩
end Go.Proofs.Ytadidikegfiedaa
