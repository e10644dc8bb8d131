/- Several of my texts laid together, each as it was: D0, D7, D8, M7. Conditions: each names its own. -/
import Derived.Test.YtfdkajefcplfjaaGreatI8
import Derived.Test.YtfdkajefcplfjaaGreatI3
import Derived.Test.YtfdkajefcplfjaaGreatH5
import Derived.Test.YtfdkajefcplfjaaGreatL2
/- A box of one's own: a field laid anew; a new box's place. Nothing of any program here. Conditions: each lemma names its own. -/
namespace Go.Proofs.YtfdkajefcplfjaaGreat
open Go.RowKit

theorem VarB.setQ {w : World} {B i : Nat} {us : List Value} (h : VarB w B us) (u : Value) (hi : i < us.length) : VarB (w.setCell ⟨B, i, none⟩ u) B (us.set i u) := by
  refine ⟨fun j v hv => ?_, fun j hj => ⟨?_, ?_⟩, by simpa using h.lt⟩
  · rw [List.getElem?_set] at hv
    by_cases e : i = j
    · subst e
      simp [hi] at hv
      subst hv
      rw [Nat.zero_add]
      obtain ⟨u0, hu0⟩ := Option.isSome_iff_exists.1 (h.there i hi).1
      rw [Nat.zero_add] at hu0
      exact World.cell?_setCell_same _ _ _ hu0
    · rw [if_neg e] at hv
      rw [World.cell?_setCell_other _ _ _ _ (by simp)]
      exact h.at_ j v hv
  · exact World.isSome_setCells B [u] i w _ (h.there j (by simpa using hj)).1
  · rw [World.frozen?_setCell]; exact (h.there j (by simpa using hj)).2
theorem VarB.newAt (w : World) (us : List Value) (ty : TypeId) {B : Nat} (hB : B = w.heap.size) : VarB (w.alloc (.cells us.toArray ty)) B us := by subst hB; exact VarB.new w us ty
end Go.Proofs.YtfdkajefcplfjaaGreat

/- The project's bag.Add: the contract of the call, in whatever memory. Conditions: both lists' cells are known, they are not too long, their numbers not too great. -/
namespace Go.Proofs.YtfdkajefcplfjaaGreat
open Go.RowKit

set_option maxHeartbeats 1000000 in
theorem bagAdd_any (a b : Option Addr) (c d : Nat) (A B : List Elem) (w : World) (hA : ElemsAt w a A) (hB : ElemsAt w b B) (hc : A.length ≤ c) (hd : B.length ≤ d) (hl : A.length + B.length ≤ 1000000) (hs : absS (A.map pr) + absS (B.map pr) ≤ 4611686018427387904) :
    Calls Tryz.prog 89 #[.slice a A.length c, .slice b B.length d] w (OfAns w (A.map pr ++ B.map pr)) := by
  have n1 := absS_nonneg (A.map pr)
  have n2 := absS_nonneg (B.map pr)
  have H1 := hid0 (sum_all A.length a c A w (Nat.le_refl _) hA hc (by omega) (by omega))
  have H2 := hid0 (fun (W : World) (hW : Below w.heap.size w W) => sum_all B.length b d B W (Nat.le_refl _) (hB.later hW) hd (by omega) (by omega))
  have habs := hid0 hs
  clear hA hB hs
  go_enter Tryz.func89, Tryz.ntmps89
  go_wp2_with fail
  go_at_call 85
  refine H1.out.mono ?_
  rintro e1 w1 ⟨⟨a1, c1, E1, rfl, hc1, hE1, hm1⟩, hb1⟩
  have hl1 := len_of hm1
  rw [List.length_map] at hl1
  have HM1 := hid0 hm1
  have HE1 := hid0 hE1
  clear hE1 hm1
  go_wp2_with fail
  go_at_call 85
  refine (H2.out _ hb1).mono ?_
  rintro e2 w2 ⟨⟨a2, c2, E2, rfl, hc2, hE2, hm2⟩, hb2⟩
  have hl2 := len_of hm2
  rw [List.length_map] at hl2
  have HM2 := hid0 hm2
  have HE2 := hid0 hE2
  clear hE2 hm2
  go_wp2_with fail
  go_at_call 127
  refine (merge_any a1 a2 c1 c2 E1 E2 _ (HE1.out.later hb2) HE2.out hc1 hc2 (by omega) (fun x hx y hy => ?_)).mono ?_
  · have e1 := absS_mem (List.mem_map.2 ⟨x, hx, rfl⟩ : pr x ∈ E1.map pr)
    have e2 := absS_mem (List.mem_map.2 ⟨y, hy, rfl⟩ : pr y ∈ E2.map pr)
    have k1 := absS_ofB (A.map pr)
    have k2 := absS_ofB (B.map pr)
    have := habs.out
    rw [HM1.out] at e1
    rw [HM2.out] at e2
    show -4611686018427387904 ≤ (pr x).2 + (pr y).2 ∧ (pr x).2 + (pr y).2 ≤ 4611686018427387904
    omega
  rintro e3 w3 ⟨⟨a3, c3, E3, rfl, hc3, hE3, hm3⟩, hb3⟩
  have hm3' : E3.map pr = ofB (A.map pr ++ B.map pr) := by rw [hm3, HM1.out, HM2.out, joinB_ofB]
  have hl3 := len_of hm3'
  rw [List.length_append, List.length_map, List.length_map] at hl3
  have HM3 := hid0 hm3'
  have HE3 := hid0 hE3
  have hb4 : Below w.heap.size w w3 := below_through hb3 (hb1.trans (hb2.mono hb1.size)).size (hb1.trans (hb2.mono hb1.size))
  clear hE3 hm3 hm3' hb3
  go_wp2_with fail
  go_at_call 84
  refine (own_any a3 c3 E3 _ HE3.out (by omega)).mono ?_
  rintro e4 w4 ⟨⟨a4, c4, E4, rfl, hc5, hE4, hm4⟩, hb5⟩
  have HE4 := hid0 hE4
  have HM4 := hid0 hm4
  clear hE4 hm4
  go_wp2_with fail
  go_ret
  exact ⟨⟨a4, c4, E4, rfl, hc5, HE4.out, by rw [HM4.out, HM3.out]⟩, below_through hb5 hb4.size hb4⟩
end Go.Proofs.YtfdkajefcplfjaaGreat

/- The project's bag.Add, with where the answer lies: contracts of the calls, in whatever memory. Conditions: both lists' cells are known, they are not too long, their numbers not too great. -/
namespace Go.Proofs.YtfdkajefcplfjaaGreat
open Go.RowKit

def OfAns3 (w : World) (L : List Pair) (e : Ending) (w' : World) : Prop :=
  (∃ a c E, e = .returned (.slice a E.length c) ∧ E.length ≤ c ∧ ElemsAt w' a E ∧ E.map pr = ofB L ∧ TagL w' a ∧ (∀ e ∈ E, GoodE w' e) ∧ ∀ e ∈ E, e.a = none → e.c = 0) ∧ Below w.heap.size w w'
theorem own_z {w : World} {base n k c : Nat} {t : TypeId} {a : Option Addr} {xs : List Value} (h : w.ownsRow base t k (.slice a n c) n xs) : a = none → c = 0 := fun e => by
  subst e
  rcases h.2 with ⟨e1, _⟩ | ⟨g, cap, cur, e1, _⟩
  · exact (Value.slice.inj e1).2.2
  · exact absurd (Value.slice.inj e1).1 (by simp)
set_option maxHeartbeats 1000000 in
theorem clone2_any (a : Option Addr) (c : Nat) (r : List Val) (w : World) (h : RowAt w a r) (hr : rowOK r) :
    Calls Tryz.prog 39 #[.slice a r.length c] w fun e w' => (∃ a' c', e = .returned (.slice a' r.length c') ∧ r.length ≤ c' ∧ (a' = none → c' = 0) ∧ RowAt w' a' r ∧ (r ≠ [] → ∃ b cs fz, a' = some ⟨b, 0, none⟩ ∧ w'.heap[b]? = some (Obj.cells cs 41 fz))) ∧ Below w.heap.size w w' := by
  obtain ⟨i0, hi, hz0, hz1, hz2⟩ := info_parts info41
  unfold rowOK at hr
  have hown : (w.alloc (Obj.cells #[] 41)).ownsRow w.heap.size 41 3 (.slice (some ⟨w.heap.size, 0, none⟩) 0 0) 0 [] := World.ownsRow_made w #[] 0 (Nat.le_refl _) (by unfold maxLen; omega) rfl
  have hB0 : Below w.heap.size w (w.alloc (Obj.cells #[] 41)) := (Below.refl _ _).alloc (Nat.le_refl _) _
  by_cases hne : r = []
  · subst hne
    have fin : ∀ (w' : World) (a' : Option Addr) (c' : Nat), (a' = none → c' = 0) → Below w.heap.size w w' → (∃ a'' c'', Ending.returned (.slice a' 0 c') = .returned (.slice a'' ([] : List Val).length c'') ∧ ([] : List Val).length ≤ c'' ∧ (a'' = none → c'' = 0) ∧ RowAt w' a'' [] ∧ (([] : List Val) ≠ [] → ∃ b cs fz, a'' = some ⟨b, 0, none⟩ ∧ w'.heap[b]? = some (Obj.cells cs 41 fz))) ∧ Below w.heap.size w w' := fun w' a' c' hz hb => ⟨⟨a', c', rfl, Nat.zero_le _, hz, fun h => absurd rfl h, fun h => absurd rfl h⟩, hb⟩
    cases a with
    | none =>
      have hq : ∀ W : World, (binOp .eql 35 (.slice none 0 c) (.slice none 0 0)).run Tryz.prog W = .ok (.bool true) W := fun W => (Lib.run_eql_slice_nil W _ _ none 0 c 0 0 Tryz.underlying35)
      go_enter Tryz.func39, Tryz.ntmps39
      go_wp2
      go_ret
      exact fin _ _ 0 (fun _ => rfl) (Below.refl _ _)
    | some ad =>
      have hq : ∀ W : World, (binOp .eql 35 (.slice (some ad) 0 c) (.slice none 0 0)).run Tryz.prog W = .ok (.bool false) W := fun W => (Lib.run_eql_slice_nil W _ _ (some ad) 0 c 0 0 Tryz.underlying35)
      go_enter Tryz.func39, Tryz.ntmps39
      go_wp2_with (at_builtin; go_must (refine wpList_append_own _ rfl _ _ 35 rfl w.heap.size 41 i0 (.agg #[.int .i64 0, .int .i64 0, .string ⟨#[]⟩]) 3 32 Tryz.underlying35 hi hz0 hz1 hz2 rfl (by decide) _ _ _ rfl hown ad 0 c [] rfl rfl (fun j u h => by simp at h) (fun u h => by simp at h) ?c3 ?c4 ?c5 ?_))
      case c3 => unfold maxLen; omega
      case c4 => omega
      case c5 => simp
      intro v' w1 hown' hgrow _
      have hB1 : Below w.heap.size w w1 := hB0.grown hgrow (by simp) (fun k hk => (hown.lt k hk).1)
      obtain ⟨a', c', rfl, _, _, _⟩ := row_owned (vs := []) hown'
      have hz9 := hid0 (own_z hown')
      go_wp2
      go_ret
      exact fin _ a' c' hz9.out hB1
  · obtain ⟨b, off, rfl, hc⟩ := h hne
    have h' : RowAt (w.alloc (Obj.cells #[] 41)) (some ⟨b, off, none⟩) r := RowAt.later (fun _ => ⟨b, off, rfl, hc⟩) ((Below.refl _ _).alloc (Nat.le_refl _) _)
    have HN := hid0 (rowCells_of h')
    clear hc h h'
    have hq : ∀ W : World, (binOp .eql 35 (.slice (some ⟨b, off, none⟩) r.length c) (.slice none 0 0)).run Tryz.prog W = .ok (.bool false) W := fun W => (Lib.run_eql_slice_nil W _ _ (some ⟨b, off, none⟩) r.length c 0 0 Tryz.underlying35)
    go_enter Tryz.func39, Tryz.ntmps39
    go_wp2_with (at_builtin; go_loud (refine wpList_append_own _ rfl _ _ 35 rfl w.heap.size 41 i0 (.agg #[.int .i64 0, .int .i64 0, .string ⟨#[]⟩]) 3 32 Tryz.underlying35 hi hz0 hz1 hz2 rfl (by decide) _ _ _ rfl hown ⟨b, off, none⟩ r.length c (rowCells r) rfl (rowCells_len r) HN.out (rowCells_one r) ?c3 ?c4 ?c5 ?_))
    case c3 => unfold maxLen; omega
    case c4 => omega
    case c5 => simp
    intro v' w1 hown' hgrow _
    have hB1 : Below w.heap.size w w1 := hB0.grown hgrow (by simp) (fun k hk => (hown.lt k hk).1)
    obtain ⟨a', c', rfl, hcap, _, hrow⟩ := row_owned hown'
    have hbl : ∃ b cs fz, a' = some ⟨b, 0, none⟩ ∧ w1.heap[b]? = some (Obj.cells cs 41 fz) := by
      rcases hown'.2 with ⟨e, hl⟩ | ⟨g, cap', cur, e, hg, hh, _⟩
      · exact absurd (List.length_eq_zero_iff.1 hl) hne
      · obtain ⟨rfl, -, -⟩ := Value.slice.inj e
        exact ⟨g, cur, (0, 0), rfl, hh⟩
    have hz9 := hid0 (own_z hown')
    clear hown' hgrow hown
    go_wp2
    go_ret
    exact ⟨⟨a', c', rfl, hcap, hz9.out, hrow, fun _ => hbl⟩, hB1⟩
set_option maxHeartbeats 4000000 in
set_option maxRecDepth 1000000 in
theorem own2_any (a : Option Addr) (c : Nat) (E : List Elem) (w : World) (h : ElemsAt w a E) (hl : E.length ≤ 1000000) :
    Calls Tryz.prog 84 #[.slice a E.length c] w fun e w' => (∃ a' c' E', e = .returned (.slice a' E'.length c') ∧ E'.length ≤ c' ∧ ElemsAt w' a' E' ∧ E'.map pr = E.map pr ∧ TagL w' a' ∧ (∀ e ∈ E', GoodE w' e) ∧ ∀ e ∈ E', e.a = none → e.c = 0) ∧ Below w.heap.size w w' := by
  have A := hid0 h
  clear h
  obtain ⟨i0, hi, hz0, hz1, hz2⟩ := info_parts info36
  go_enter Tryz.func84, Tryz.ntmps84
  go_wp2_with (at_make; go_must (refine wpList_make_own _ rfl _ _ 57 rfl w.heap.size 80 i0 (.agg #[.slice none 0 0, .int .i64 0]) 2 Tryz.underlying57 hi hz0 hz1 _ _ _ E.length rfl rfl ?b1 ?b2 ?b3 (Nat.le_refl _) ?_))
  case b1 => rfl
  case b2 => rw [hz2]; omega
  case b3 => unfold maxLen; omega
  intro w1 hown1 hg1
  have hB1 : Below w.heap.size w w1 := (Below.refl _ _).grown hg1 (Nat.le_refl _) (fun k hk => by cases hk)
  have hO1 : OwnB w1 w.heap.size (.slice (some ⟨w.heap.size, 0, none⟩) 0 E.length) [] := ⟨hown1⟩
  clear hown1 hg1 hz0 hz1 hz2 hi
  go_wp2_with fail
  go_loopw [3, 11] (fun ov iv wr => ∃ (i : Nat) (Eo : List Elem), i ≤ E.length ∧ iv = .int .i64 i ∧ OwnB wr w.heap.size ov Eo ∧ CopiesE wr Eo ∧ (∀ e ∈ Eo, e.r.length ≤ e.c ∧ (e.a = none → e.c = 0)) ∧ Hid (Eo.map pr = (E.map pr).take i) ∧ Below w.heap.size w wr) (fun _ iv _ => E.length - (intOf iv).toNat)
  case atStart => exact ⟨0, [], Nat.zero_le _, rfl, hO1, CopiesE.nil _, fun _ h => absurd h (by simp), hid0 (by simp), hB1⟩
  case round =>
    obtain ⟨i, Eo, hi, rfl, hown, hcp, hcaps, hT, hB⟩ := hrel
    have hcaps := hid0 hcaps
    have hsz := hB.size
    clear hO1 hB1
    have heo : Eo.length = i := by
      have := congrArg List.length hT.out
      simp only [List.length_map, List.length_take] at this
      omega
    by_cases hlt : i < E.length
    · obtain ⟨b1, o1, rfl, hc1⟩ := (A.out.1.later hB) (by intro e; rw [e] at hlt; exact absurd hlt (by simp))
      obtain ⟨q0, q1⟩ := hc1 i hlt
      clear hc1
      have r1 := hid0 (A.out.2 _ (List.getElem_mem hlt))
      go_wp2_with fail
      have n0 := elem_new wr (.slice E[i].a E[i].r.length E[i].c) (.int .i64 E[i].n) 80
      have hownA := hown.alloc (Obj.cells #[.slice E[i].a E[i].r.length E[i].c, .int .i64 E[i].n] 80)
      have hcpA := hcp.later ((Below.refl wr.heap.size wr).alloc (Nat.le_refl _) (Obj.cells #[.slice E[i].a E[i].r.length E[i].c, .int .i64 E[i].n] 80))
      have hBA := Below.alloc hB hsz (Obj.cells #[.slice E[i].a E[i].r.length E[i].c, .int .i64 E[i].n] 80)
      obtain ⟨p0, p1⟩ := n0
      have hfar : some wr.heap.size ≠ u3.ownBlock := fun e => by have := (hown.out.lt _ e.symm).2; omega
      have hBw : wr.heap.size < (wr.alloc (Obj.cells #[.slice E[i].a E[i].r.length E[i].c, .int .i64 E[i].n] 80)).heap.size := by simp
      clear hown hcp hB q0 q1
      generalize wr.alloc (Obj.cells #[.slice E[i].a E[i].r.length E[i].c, .int .i64 E[i].n] 80) = W at p0 p1 hownA hcpA hBA hBw ⊢
      generalize wr.heap.size = B at p0 p1 hfar hBw hsz ⊢
      have hzA := hBA.size
      have hownD := hownA.drew
      have hcpD := hcpA.later (Below.drew (Below.refl _ _))
      have hBD := Below.drew hBA
      have hzD := hBD.size
      clear hownA hcpA hBA
      go_region_held3 (fun w' => w'.cell? ⟨B, 0, none⟩ = some (.slice E[i].a E[i].r.length E[i].c) ∧ w'.cell? ⟨B, 1, none⟩ = some (.int .i64 E[i].n))
        (first
          | (exact ⟨p0, p1⟩)
          | (go_split_ands; (try dsimp only); (repeat' apply And.intro); all_goals (first
            | assumption
            | exact cell_later hbn ‹_›
            | exact (hgrow1.cell_far _ (by show B < (World.alloc _ _).heap.size; simp; omega) hfar).trans ‹_›
            | go_keep)))
        (first
          | (go_at_call 39; (try go_split_ands); refine (clone2_any _ _ _ _ (r1.out.1.later hBD) r1.out.2).mono ?_; rintro e wn ⟨⟨a', c', rfl, hcap, hz7, hrow, hblk⟩, hbn⟩; have hcap2 := hid0 (And.intro hcap hz7); clear hcap hz7; have HCP := hid0 (Copied.mk hrow hblk); have hown3 := fun o => (hownD.kept hbn).alloc o; have hcp3 := hcpD.later hbn; have hB3 := below_through hbn hzD hBD; have hz3 := hB3.size; have hbs : W.heap.size ≤ wn.heap.size := hbn.size)
          | (refine step_bag2 (by rfl) _ _ (by rfl) (by rfl) (hown3 _) ⟨a', c', E[i].r, E[i].n⟩ wn.heap.size (by rfl) (elem_new _ _ _ _).1 (elem_new _ _ _ _).2 (by omega) (by simp; omega) ?_; intro v1 w1 hown1 hK1 hgrow1))
      have hB4 := (Below.alloc hB3 hz3 _).trans hK1.below
      have hcp4 := ((hcp3.later ((Below.refl _ _).alloc (Nat.le_refl _) _)).keptT hK1).snoc (e := ⟨a', c', E[i].r, E[i].n⟩) ⟨(HCP.out.later ((Below.refl _ _).alloc (Nat.le_refl _) _)).keptE hK1, r1.out.2⟩
      clear hownD hcpD hBD hown3 hcp3 hB3 hK1 hgrow1 hbn HCP hfar hBw p0 p1
      go_wp2
      exact ⟨⟨i + 1, Eo ++ [⟨a', c', E[i].r, E[i].n⟩], by omega, by go_num, hown1, hcp4, fun x hx => (List.mem_append.1 hx).elim (fun h => hcaps.out x h) (fun h => by obtain rfl := List.mem_singleton.1 h; exact hcap2.out), hid0 (by rw [List.map_append, hT.out, List.take_succ_eq_append_getElem (by simpa using hlt)]; simp [pr]), hB4⟩, by simp [intOf]; omega⟩
    · obtain ⟨a', c', rfl, hcap, _, hcl⟩ := elems_owned hown.out
      have htag := hid0 (owned_tag (c := c') (E := Eo) (by rw [heo]; rw [heo] at hown; exact hown))
      have HC := hid0 hcl
      have HEO := hid0 heo
      clear hown hcl heo
      have hie : ¬ (i : Int) < E.length := by omega
      go_wp2
      go_ret
      exact ⟨⟨a', c', Eo, rfl, hcap, ⟨HC.out, hcp.rows⟩, by rw [hT.out, List.take_of_length_le (by simp; omega)], htag.out, fun e he => ⟨(hcaps.out e he).1, (hcp.out e he).1⟩, fun e he => (hcaps.out e he).2⟩, hB⟩
set_option maxHeartbeats 1000000 in
theorem bagAdd2_any (a b : Option Addr) (c d : Nat) (A B : List Elem) (w : World) (hA : ElemsAt w a A) (hB : ElemsAt w b B) (hc : A.length ≤ c) (hd : B.length ≤ d) (hl : A.length + B.length ≤ 1000000) (hs : absS (A.map pr) + absS (B.map pr) ≤ 4611686018427387904) :
    Calls Tryz.prog 89 #[.slice a A.length c, .slice b B.length d] w (OfAns3 w (A.map pr ++ B.map pr)) := by
  have n1 := absS_nonneg (A.map pr)
  have n2 := absS_nonneg (B.map pr)
  have H1 := hid0 (sum_all A.length a c A w (Nat.le_refl _) hA hc (by omega) (by omega))
  have H2 := hid0 (fun (W : World) (hW : Below w.heap.size w W) => sum_all B.length b d B W (Nat.le_refl _) (hB.later hW) hd (by omega) (by omega))
  have habs := hid0 hs
  clear hA hB hs
  go_enter Tryz.func89, Tryz.ntmps89
  go_wp2_with fail
  go_at_call 85
  refine H1.out.mono ?_
  rintro e1 w1 ⟨⟨a1, c1, E1, rfl, hc1, hE1, hm1⟩, hb1⟩
  have hl1 := len_of hm1
  rw [List.length_map] at hl1
  have HM1 := hid0 hm1
  have HE1 := hid0 hE1
  clear hE1 hm1
  go_wp2_with fail
  go_at_call 85
  refine (H2.out _ hb1).mono ?_
  rintro e2 w2 ⟨⟨a2, c2, E2, rfl, hc2, hE2, hm2⟩, hb2⟩
  have hl2 := len_of hm2
  rw [List.length_map] at hl2
  have HM2 := hid0 hm2
  have HE2 := hid0 hE2
  clear hE2 hm2
  go_wp2_with fail
  go_at_call 127
  refine (merge_any a1 a2 c1 c2 E1 E2 _ (HE1.out.later hb2) HE2.out hc1 hc2 (by omega) (fun x hx y hy => ?_)).mono ?_
  · have e1 := absS_mem (List.mem_map.2 ⟨x, hx, rfl⟩ : pr x ∈ E1.map pr)
    have e2 := absS_mem (List.mem_map.2 ⟨y, hy, rfl⟩ : pr y ∈ E2.map pr)
    have k1 := absS_ofB (A.map pr)
    have k2 := absS_ofB (B.map pr)
    have := habs.out
    rw [HM1.out] at e1
    rw [HM2.out] at e2
    show -4611686018427387904 ≤ (pr x).2 + (pr y).2 ∧ (pr x).2 + (pr y).2 ≤ 4611686018427387904
    omega
  rintro e3 w3 ⟨⟨a3, c3, E3, rfl, hc3, hE3, hm3⟩, hb3⟩
  have hm3' : E3.map pr = ofB (A.map pr ++ B.map pr) := by rw [hm3, HM1.out, HM2.out, joinB_ofB]
  have hl3 := len_of hm3'
  rw [List.length_append, List.length_map, List.length_map] at hl3
  have HM3 := hid0 hm3'
  have HE3 := hid0 hE3
  have hb4 : Below w.heap.size w w3 := below_through hb3 (hb1.trans (hb2.mono hb1.size)).size (hb1.trans (hb2.mono hb1.size))
  clear hE3 hm3 hm3' hb3
  go_wp2_with fail
  go_at_call 84
  refine (own2_any a3 c3 E3 _ HE3.out (by omega)).mono ?_
  rintro e4 w4 ⟨⟨a4, c4, E4, rfl, hc5, hE4, hm4, ht4, hg4, hy4⟩, hb5⟩
  have HE4 := hid0 hE4
  have HM4 := hid0 hm4
  have HT4 := hid0 ht4
  have HG4 := hid0 hg4
  have HY4 := hid0 hy4
  clear hE4 hm4 ht4 hg4 hy4
  go_wp2_with fail
  go_ret
  exact ⟨⟨a4, c4, E4, rfl, hc5, HE4.out, by rw [HM4.out, HM3.out], HT4.out, HG4.out, HY4.out⟩, below_through hb5 hb4.size hb4⟩
end Go.Proofs.YtfdkajefcplfjaaGreat

/- What is there, with rows more: a name's box of its own kind, changed in place. Conditions: each lemma names its own. -/
namespace Go.Proofs.YtfdkajefcplfjaaGreat
open Go.RowKit

theorem VarB.set1 {w : World} {B i : Nat} {us : List Value} (h : VarB w B us) (u : Value) (hi : i < us.length) : VarB (w.setCell ⟨B, i, none⟩ u) B (us.set i u) := by
  refine ⟨fun j v hv => ?_, fun j hj => ⟨?_, ?_⟩, by simpa using h.lt⟩
  · rw [List.getElem?_set] at hv
    by_cases e : i = j
    · subst e
      simp [hi] at hv
      subst hv
      rw [Nat.zero_add]
      obtain ⟨u0, hu0⟩ := Option.isSome_iff_exists.1 (h.there i hi).1
      rw [Nat.zero_add] at hu0
      exact World.cell?_setCell_same _ _ _ hu0
    · rw [if_neg e] at hv
      rw [World.cell?_setCell_other _ _ _ _ (by simp)]
      exact h.at_ j v hv
  · exact World.isSome_setCells B [u] i w _ (h.there j (by simpa using hj)).1
  · rw [World.frozen?_setCell]; exact (h.there j (by simpa using hj)).2
/-- A block of the kind of names. -/
def TagN (w : World) (B : Nat) : Prop := ∃ cs fz, w.heap[B]? = some (Obj.cells cs 65 fz)
theorem TagN.later {w w' : World} {B : Nat} (h : TagN w B) (hb : Below w.heap.size w w') : TagN w' B := by
  obtain ⟨cs, fz, hh⟩ := h
  exact ⟨cs, fz, (hb.block _ (Array.getElem?_eq_some_iff.1 hh).1).trans hh⟩
theorem TagN.new (w : World) (cs : Array Value) : TagN (w.alloc (Obj.cells cs 65)) w.heap.size := ⟨cs, _, (BlkAt.new w cs 65).out.choose_spec⟩
theorem TagN.setCell {w : World} {B i : Nat} (h : TagN w B) (v : Value) : TagN (w.setCell ⟨B, i, none⟩ v) B := by
  obtain ⟨cs, fz, hh⟩ := h
  have hlt := (Array.getElem?_eq_some_iff.1 hh).1
  unfold TagN World.setCell
  simp only [Array.getElem?_modify, hh, if_true, Option.map_some]
  exact ⟨_, _, rfl⟩
theorem TagN.setCells {B : Nat} : ∀ (vs : List Value) (o : Nat) {w : World}, TagN w B → TagN (w.setCells B o vs) B
  | [], _, _, h => h
  | v :: r, o, _, h => TagN.setCells r (o + 1) (h.setCell v)
theorem Apart.setBox {w : World} {x : Nx} {B i : Nat} (h : Apart w x) (hB : TagN w B) (v : Value) : Apart (w.setCell ⟨B, i, none⟩ v) x := by
  refine h.keptN (base := B) ⟨(Below.refl B w).setCell (Nat.le_refl _) v, fun B' cs fz t ht hh => ?_⟩
  obtain ⟨cs', fz', hh'⟩ := hB
  have hne : B' ≠ B := fun e => by
    subst e
    rw [hh'] at hh
    obtain ⟨-, h2, -⟩ := Obj.cells.inj (Option.some.inj hh)
    exact ht h2.symm
  exact (heap_setCells B [v] i w B' hne).trans hh
theorem mem_insB1 {x y : Pair} : ∀ {B : List Pair}, y ∈ insB x B → y.1 = x.1 ∨ ∃ z ∈ B, y.1 = z.1
  | [], h => by
    unfold insB at h
    split at h
    · simp at h
    · simp at h; exact .inl (by rw [h])
  | z :: B, h => by
    unfold insB at h
    split at h
    · split at h
      · exact .inr ⟨y, h, rfl⟩
      · rcases List.mem_cons.1 h with rfl | h
        · exact .inl rfl
        · exact .inr ⟨y, h, rfl⟩
    · split at h
      · split at h
        · exact .inr ⟨y, List.mem_cons_of_mem _ h, rfl⟩
        · rcases List.mem_cons.1 h with rfl | h
          · exact .inr ⟨_, List.mem_cons_self, rfl⟩
          · exact .inr ⟨y, List.mem_cons_of_mem _ h, rfl⟩
      · rcases List.mem_cons.1 h with rfl | h
        · exact .inr ⟨_, List.mem_cons_self, rfl⟩
        · rcases mem_insB1 h with h | ⟨u, hu, e⟩
          · exact .inl h
          · exact .inr ⟨u, List.mem_cons_of_mem _ hu, e⟩
theorem mem_ofB' {y : Pair} : ∀ {L : List Pair}, y ∈ ofB L → ∃ z ∈ L, y.1 = z.1
  | [], h => by simp [ofB] at h
  | x :: L, h => by
    rcases mem_insB1 (show y ∈ insB x (ofB L) from h) with h | ⟨z, hz, e⟩
    · exact ⟨x, List.mem_cons_self, h⟩
    · obtain ⟨u, hu, e2⟩ := mem_ofB' hz
      exact ⟨u, List.mem_cons_of_mem _ hu, e.trans e2⟩
/-- The answer of Add, as rows that came in. -/
theorem apart_of {W : World} {s : ByteArray} {a5 a1 a2 : Option Addr} {c5 c1 c2 : Nat} {E5 E1 E2 : List Elem} {w : World} (h1 : ElemsI w a1 c1 E1) (h2 : ElemsI w a2 c2 E2) (hl : E1.length ≤ 400000) (hl2 : E2.length ≤ 400000) (hE : ElemsAt W a5 E5) (hc : E5.length ≤ c5) (hm : E5.map pr = ofB (E1.map pr ++ E2.map pr)) (ht : TagL W a5) (hg : ∀ e ∈ E5, GoodE W e) (hs : absS (E1.map pr ++ E2.map pr) ≤ 4611686018427387904) : Apart W ⟨s, a5, c5, E5⟩ := by
  have hlen : E5.length ≤ 800000 := by
    have e1 := congrArg List.length hm
    have e2 := len_ofB (E1.map pr ++ E2.map pr)
    rw [List.length_map] at e1
    rw [List.length_append, List.length_map, List.length_map] at e2
    omega
  refine ⟨⟨hE, fun e he => ⟨fun v hv => ?_, ?_, (hg e he).1⟩, by show E5.length ≤ _; omega, hc⟩, ht, hg⟩
  · have hme : pr e ∈ ofB (E1.map pr ++ E2.map pr) := by rw [← hm]; exact List.mem_map_of_mem he
    obtain ⟨z, hz, ez⟩ := mem_ofB' hme
    have ez' : e.r = z.1 := ez
    rw [ez'] at hv
    rcases List.mem_append.1 hz with hz | hz
    · obtain ⟨d, hd, rfl⟩ := List.mem_map.1 hz
      exact (h1.i d hd).1 v hv
    · obtain ⟨d, hd, rfl⟩ := List.mem_map.1 hz
      exact (h2.i d hd).1 v hv
  · have h3 := absS_mem (L := E5.map pr) (List.mem_map_of_mem (f := pr) he)
    rw [hm] at h3
    have h4 := absS_ofB (E1.map pr ++ E2.map pr)
    have e1 : (pr e).2 = e.n := rfl
    rw [e1] at h3
    unfold in64
    omega
theorem plain_small {E : List Elem} (h : plainE E = true) : absS (E.map pr) ≤ 1099511627776 * E.length := by
  have hall : ∀ e ∈ E, e.n ≤ 1099511627776 ∧ 1 ≤ e.n := fun e he => by
    refine ⟨?_, plainE_pos h e he⟩
    unfold plainE at h
    simp only [Bool.and_eq_true] at h
    obtain ⟨i, hi, rfl⟩ := List.getElem_of_mem he
    have h4 := List.all_eq_true.1 h.1 i (List.mem_range.2 hi)
    rw [rightAt_get hi, Bool.and_eq_true] at h4
    have h5 := h4.1
    unfold okR at h5
    simp at h5
    omega
  clear h
  induction E with
  | nil => simp [absS]
  | cons e E ih =>
    have h1 := hall e (by simp)
    have h2 := ih (fun d hd => hall d (by simp [hd]))
    rw [List.map_cons, absS, List.length_cons]
    have e2 : (pr e).2 = e.n := rfl
    rw [e2, if_neg (by omega)]
    omega
end Go.Proofs.YtfdkajefcplfjaaGreat
