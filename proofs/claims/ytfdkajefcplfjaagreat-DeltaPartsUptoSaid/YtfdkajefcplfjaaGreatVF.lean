/- Several of my texts laid together, each as it was: D13, D10, D15, D16, D17. Conditions: each names its own. -/
import Derived.Test.YtfdkajefcplfjaaGreatVB
import Derived.Test.YtfdkajefcplfjaaGreatI3
import Derived.Laws.AppendOwnNone
import Derived.Sort.Grow
import Derived.Test.YtfdkajefcplfjaaGreatShelfF
import Derived.Sort.OwnSorted
import Derived.Test.YtfdkajefcplfjaaGreatI6
import Derived.Shelf.SlSortCmp.NoneTotal
/- slices.Concat of lists of elements: the contract of the call. Conditions: the lists' cells are known, and are not too long. -/
namespace Go.Proofs.YtfdkajefcplfjaaGreat
open Go.RowKit

/-- Lists side by side, as cells. -/
structure CLE where
  a : Option Addr
  c : Nat
  n : Nat
  xs : List Value
structure CLAtE (w : World) (a : Option Addr) (Ls : List CLE) : Prop where
  out : Ls ≠ [] → ∃ b off, a = some ⟨b, off, none⟩ ∧ ∀ i (h : i < Ls.length), w.cell? ⟨b, off + i, none⟩ = some (.slice Ls[i].a Ls[i].n Ls[i].c)
  ok : ∀ e ∈ Ls, (e.xs ≠ [] → ∃ b off, e.a = some ⟨b, off, none⟩ ∧ ∀ j u, e.xs[j]? = some u → w.cell? ⟨b, off + j, none⟩ = some u) ∧ e.xs.length = e.n * 2 ∧ ∀ u ∈ e.xs, u.oneCell' = true
theorem CLAtE.later {w w' : World} {a : Option Addr} {Ls : List CLE} (h : CLAtE w a Ls) (hb : Below w.heap.size w w') : CLAtE w' a Ls := ⟨fun hn => by
  obtain ⟨b, off, e, hc⟩ := h.out hn
  exact ⟨b, off, e, fun i hi => cell_later hb (hc i hi)⟩, fun e he => by
  obtain ⟨h1, h2, h3⟩ := h.ok e he
  exact ⟨fun hn => by
    obtain ⟨b, off, e, hc⟩ := h1 hn
    exact ⟨b, off, e, fun j u hj => cell_later hb (hc j u hj)⟩, h2, h3⟩⟩
def catCE (Ls : List CLE) : List Value := Ls.flatMap (·.xs)
def catNE (Ls : List CLE) : Nat := (Ls.map (·.n)).sum
theorem catCE_take {Ls : List CLE} {i : Nat} (h : i < Ls.length) : catCE (Ls.take (i + 1)) = catCE (Ls.take i) ++ Ls[i].xs := by
  unfold catCE; rw [List.take_succ_eq_append_getElem h, List.flatMap_append]; congr 1; exact List.append_nil _
theorem catNE_take {Ls : List CLE} {i : Nat} (h : i < Ls.length) : catNE (Ls.take (i + 1)) = catNE (Ls.take i) + Ls[i].n := by
  unfold catNE; rw [List.take_succ_eq_append_getElem h, List.map_append, List.sum_append]; simp
theorem catNE_part (Ls : List CLE) (i : Nat) : catNE (Ls.take i) ≤ catNE Ls := by
  unfold catNE
  conv => rhs; rw [← List.take_append_drop i Ls, List.map_append, List.sum_append]
  omega
theorem infoCE : (Tryz.prog.info? 80).map (fun i => (i.zero, i.size, i.bytes)) = some (some (.agg #[.slice none 0 0, .int .i64 0]), 2, 32) := by kernel_rfl
set_option maxHeartbeats 1000000 in
theorem growCE_any (n : Nat) (w : World) (hn : n * 32 ≤ 140737488351232) :
    Calls Tryz.prog 240 #[.slice none 0 0, .int .i64 (n : Int)] w fun e w' => (∃ v, e = .returned v ∧ w'.ownsRow w.heap.size 80 2 v 0 []) ∧ Below w.heap.size w w' := by
  obtain ⟨i0, hi, hz0, hz1, hz2⟩ := info_parts infoCE
  by_cases h0 : n = 0
  · subst h0
    go_enter Tryz.func240, Tryz.ntmps240
    go_wp2
    go_ret
    exact ⟨⟨_, rfl, World.ownsRow_nil _ _ _ _⟩, Below.refl _ _⟩
  · have h1 : ¬ ((n : Int) < 0) := by omega
    have h4 : (0 : Int) < (n : Int) := by omega
    have hrz : ∀ ty, (Builtin.append_ #[57, 3] ty #[.slice none 0 0, .int .i64 (n : Int)]).run Tryz.prog w =
        .ok (.slice (some ⟨w.heap.size, 0, none⟩) n (grownCap w n 0 80)) (w.drew.alloc (.cells ((([] : List Value).toArray ++ Builtin.zeroCells (Value.cells (.agg #[.slice none 0 0, .int .i64 0])) n) ++ Builtin.zeroCells (Value.cells (.agg #[.slice none 0 0, .int .i64 0])) (grownCap w n 0 80 - n)) 80)) := fun ty => by
      have h := Lib.run_append_grow_zeros w 57 3 ty 80 i0 (.agg #[.slice none 0 0, .int .i64 0]) .i64 .i64 Tryz.underlying57 Tryz.underlying3 hi hz0 none 0 0 [] (run_firstCells_none w.drew i0.size 0 0 0) n (by omega) (by rw [hz1]; decide) (by omega) (by omega)
        (by rw [hz2]; omega)
        (by rw [Nat.zero_add]; exact growslice_fits (by omega) (by rw [hz2]; omega))
      rw [Nat.zero_add] at h
      exact h
    have hGn : n ≤ grownCap w n 0 80 := grownCap_ge w _ _ _
    have hGm := grownCap_le_maxLen w n 0 80 (by unfold maxLen; omega)
    obtain ⟨G, hG⟩ : ∃ G, grownCap w n 0 80 = G := ⟨_, rfl⟩
    rw [hG] at hrz hGn hGm
    obtain ⟨cells, hcells⟩ : ∃ cells, (([] : List Value).toArray ++ Builtin.zeroCells (Value.cells (.agg #[.slice none 0 0, .int .i64 0])) n) ++ Builtin.zeroCells (Value.cells (.agg #[.slice none 0 0, .int .i64 0])) (G - n) = cells := ⟨_, rfl⟩
    rw [hcells] at hrz
    have hGM := hid0 hGm
    unfold maxLen at hGm
    have hown := World.ownsRow_made (e := 80) (size := 2) (base := w.heap.size) w cells G (Nat.le_refl _) hGM.out (by rw [← hcells]; simp [Builtin.zeroCells, Value.cells]; try omega)
    have HO := hid0 hown
    clear hG hown hcells hi hz0 hz1 hz2
    go_enter Tryz.func240, Tryz.ntmps240
    go_wp2_with (at_builtin; refine Lib.wpList_append_run _ rfl _ _ _ _ rfl _ _ rfl rfl _ _ (hrz _) ?_)
    all_goals (go_ret; exact ⟨⟨_, rfl, HO.out⟩, Below.drew ((Below.refl _ _).alloc (Nat.le_refl _) _)⟩)
theorem app_noneCE {w : World} {ops : Array Oper} {rest : List Oper} {o : Oper} {a : Act} {Q : Exit → Act → World → Prop} (hgd : o.guard = none) (s x : Operand)
    (ho : o.op = .call { callee := .builtin .append, args := #[s, x], argTypes := #[57, 57] }) {i0 : TypeInfo} (hi : Tryz.prog.info? 80 = some i0)
    {v : Value} (hs : a.eval s = v) {base n : Nat} {xs : List Value} (hown : w.ownsRow base 80 2 v n xs) (c : Nat) (hx : a.eval x = .slice none 0 c)
    (h : wpList Tryz.prog ops Q rest (a.put o.dst v) w) : wpList Tryz.prog ops Q (o :: rest) a w := by
  refine wpList_plain hgd fun K hK => ?_
  obtain ⟨b, c', hv, hc'⟩ := own_shapeD hown
  have hr := append_nilD (P := Tryz.prog) w 57 o.type 80 i0 Tryz.underlying57 hi b n c' c hc'
  rw [← hv] at hr
  unfold Oper.wp execOp
  simp only [ho, resolve, invoke, builtin, Sem.run_bind, Sem.run_pure, Result.andThen_ok, List.map_toArray, List.map_cons, List.map_nil, hs, hx, hr]
  exact hK _ _ h
set_option maxHeartbeats 2000000 in
set_option maxRecDepth 1000000 in
theorem concatCE_any (a : Option Addr) (c : Nat) (Ls : List CLE) (w : World) (h : CLAtE w a Ls) (hl : Ls.length ≤ 1000000) (hs : catNE Ls ≤ 1000000) :
    Calls Tryz.prog 190 #[.slice a Ls.length c] w fun e w' => (∃ v, e = .returned v ∧ w'.ownsRow w.heap.size 80 2 v (catNE Ls) (catCE Ls)) ∧ Below w.heap.size w w' := by
  obtain ⟨i0, hi, hz0, hz1, hz2⟩ := info_parts infoCE
  have A := hid0 h
  clear h
  have hpart := catNE_part Ls
  have HP := hid0 hpart
  clear hpart
  have G := hid0 (fun W => growCE_any (catNE Ls) W (by omega))
  go_enter Tryz.func190, Tryz.ntmps190
  go_wp2
  go_loopw [3, 11] (fun sv iv wr => ∃ i : Nat, i ≤ Ls.length ∧ iv = .int .i64 i ∧ sv = .int .i64 (catNE (Ls.take i) : Int) ∧ w = wr) (fun _ iv _ => Ls.length - (intOf iv).toNat)
  case atStart => exact ⟨0, Nat.zero_le _, rfl, rfl, rfl⟩
  case round =>
    obtain ⟨i, hi', rfl, rfl, rfl⟩ := hrel
    by_cases hlt : i < Ls.length
    · obtain ⟨b1, o1, rfl, hc1⟩ := A.out.out (by intro e; rw [e] at hlt; exact absurd hlt (by simp))
      have q0 := hc1 i hlt
      clear hc1
      have hst := catNE_take hlt
      have hle := HP.out (i + 1)
      generalize catNE (Ls.take (i + 1)) = S1 at hst hle
      have HT := hid0 (catNE_take hlt)
      generalize hS : catNE (Ls.take i) = S at hst
      have HSS := hid0 hS
      clear hS
      have hw : IntKind.i64.wrap ((S : Int) + (Ls[i].n : Int)) = (S1 : Int) := by rw [hst, IntWalk.i64_in _ (by omega)]; omega
      have hneg : ¬ (S1 : Int) < 0 := by omega
      go_wp2
      exact ⟨⟨i + 1, by omega, by go_num, by rw [HT.out, HSS.out]; push_cast; rfl, by first | trivial | rfl⟩, by simp [intOf]; omega⟩
    · have hie : ¬ (i : Int) < Ls.length := by omega
      rw [List.take_of_length_le (by omega)]
      obtain ⟨N, hN⟩ : ∃ N, catNE Ls = N := ⟨_, rfl⟩
      rw [hN] at G hs ⊢
      have HN := hid0 hN
      have HLI := hid0 hs
      clear hN hs
      go_wp2_with (go_at_call 240; refine (G.out _).mono ?_; rintro e w1 ⟨⟨v1, rfl, hown1⟩, hb1⟩)
      have HO := hid0 hown1
      clear hown1
      go_loopw [6, 27] (fun nv jv wr => ∃ j : Nat, j ≤ Ls.length ∧ jv = .int .i64 j ∧ Hid (wr.ownsRow w.heap.size 80 2 nv (catNE (Ls.take j)) (catCE (Ls.take j))) ∧ Below w.heap.size w wr) (fun _ jv _ => Ls.length - (intOf jv).toNat)
      case atStart => exact ⟨0, Nat.zero_le _, rfl, HO, hb1⟩
      case round =>
        obtain ⟨j, hj, rfl, hown, hB⟩ := hrel
        have hsz := hB.size
        clear hb1 HO
        by_cases hlt : j < Ls.length
        · have hA := A.out.later hB
          obtain ⟨b1, o1, rfl, hc1⟩ := hA.out (by intro e; rw [e] at hlt; exact absurd hlt (by simp))
          have q0 := hc1 j hlt
          clear hc1
          obtain ⟨hrow, hxl, hone⟩ := hA.ok _ (List.getElem_mem hlt)
          clear hA
          have hst := catCE_take hlt
          have hsn := catNE_take hlt
          have hle := HP.out (j + 1)
          rw [hsn, HN.out] at hle
          have HST := hid0 hst
          have HSN := hid0 hsn
          have HLE := hid0 hle
          clear hst hsn hle
          generalize catCE (Ls.take j) = C at hown HST
          generalize catNE (Ls.take j) = S at hown HSN HLE
          generalize hx : Ls[j] = x at q0 hrow hxl hone HST HSN HLE
          clear hx
          obtain ⟨xa, xc, xn, xr⟩ := x
          dsimp only at q0 hrow hxl hone HST HSN HLE
          have hle2 : S + xn ≤ 1000000 := Nat.le_trans HLE.out HLI.out
          cases xa with
          | none =>
            obtain rfl : xr = [] := by
              by_cases hn : xr = []
              · exact hn
              · obtain ⟨_, _, e, _⟩ := hrow hn; cases e
            obtain rfl : xn = 0 := by simp at hxl; omega
            rw [List.append_nil] at HST
            rw [Nat.add_zero] at HSN
            go_wp2_with (at_builtin; refine app_noneCE rfl _ _ rfl hi rfl hown.out _ rfl ?_)
            exact ⟨⟨j + 1, by omega, by go_num, by rw [HST.out, HSN.out]; exact hown, hB⟩, by simp [intOf]; omega⟩
          | some ad =>
            have hcell : ∀ k u, xr[k]? = some u → wr.cell? (ad.add k) = some u := by
              by_cases hn : xr = []
              · subst hn; intro k u hk; simp at hk
              · obtain ⟨b, o, e, hc⟩ := hrow hn
                obtain rfl : ad = ⟨b, o, none⟩ := by simpa using e
                intro k u hk
                rw [WideShapes.add_plain]
                exact hc k u hk
            have HC := hid0 hcell
            have HXL := hid0 hxl
            have HONE := hid0 hone
            clear hcell hrow hxl hone
            go_wp2_with (at_builtin; go_must (refine wpList_append_own _ rfl _ _ 57 rfl w.heap.size 80 i0 (.agg #[.slice none 0 0, .int .i64 0]) 2 32 Tryz.underlying57 hi hz0 hz1 hz2 rfl (by decide) _ _ _ rfl hown.out ad xn xc xr rfl HXL.out HC.out HONE.out ?c3 ?c4 ?c5 ?_))
            case c3 => unfold maxLen; omega
            case c4 => omega
            case c5 => exact hsz
            intro v' w2 hown' hgrow _
            have hB2 : Below w.heap.size w w2 := hB.grown hgrow hsz (fun k hk => (hown.out.lt k hk).1)
            have HO' := hid0 hown'
            clear hown' hgrow hown
            go_wp2
            exact ⟨⟨j + 1, by omega, by go_num, hid0 (by rw [HST.out, HSN.out]; exact HO'.out), hB2⟩, by simp [intOf]; omega⟩
        · have hie : ¬ (j : Int) < Ls.length := by omega
          rw [List.take_of_length_le (by omega)] at hown
          go_wp2
          go_ret
          exact ⟨⟨_, rfl, by rw [← HN.out]; exact hown.out⟩, hB⟩
end Go.Proofs.YtfdkajefcplfjaaGreat

/- The project's layer 14 (delta): the order of two rows, in worlds where nothing is drawn back: contracts of the calls. Conditions: the rows' cells are known. -/
namespace Go.Proofs.YtfdkajefcplfjaaGreat
open Go.RowKit

theorem quiet_grow {w w' : World} (h : Below w.heap.size w w') (hd : w.drawn ≤ w'.drawn) : ∃ q os, w' = Go.Sort.grow (w.drewN q) os := by
  refine ⟨w'.drawn - w.drawn, w'.heap.extract w.heap.size w'.heap.size, ?_⟩
  obtain ⟨h1, h2, h3, h4, h5⟩ := h
  obtain ⟨hp, t, d, o, out⟩ := w
  obtain ⟨hp', t', d', o', out'⟩ := w'
  simp only [World.drewN, Go.Sort.grow] at *
  subst h1 h2 h3
  have e : hp' = hp ++ hp'.extract hp.size hp'.size := by
    apply Array.ext_getElem?
    intro i
    by_cases hi : i < hp.size
    · rw [h5 i hi, Array.getElem?_append_left hi]
    · rw [Array.getElem?_append_right (by omega), Array.getElem?_extract]
      by_cases hj : i < hp'.size
      · rw [if_pos (by omega)]; congr 1; omega
      · rw [if_neg (by omega), Array.getElem?_eq_none (by omega)]
  rw [← e, Nat.add_sub_cancel' hd]
set_option maxHeartbeats 400000 in
theorem cmpq_any (k n k' n' : Int) (s s' : ByteArray) (w : World) :
    Calls Tryz.prog 177 #[.agg #[.int .i64 k, .int .i64 n, .string s], .agg #[.int .i64 k', .int .i64 n', .string s']] w
      fun e w' => e = .returned (.int .i64 (cmpV k n s k' n' s')) ∧ Below w.heap.size w w' ∧ w.drawn ≤ w'.drawn := by
  go_enter Tryz.func177, Tryz.ntmps177
  go_wp2_with (first
    | (go_at_call 232; refine (Tryz.cmp_Compare_int _ _ _).mono ?_; rintro e w' ⟨rfl, rfl⟩)
    | (go_at_call 233; refine (Tryz.strings_Compare _ _ _).mono ?_; rintro e w' ⟨rfl, rfl⟩))
  · go_ret
    exact ⟨ret_i64 (cmp_kind ‹_›), by go_grown, by first | exact Nat.le_refl _ | exact Nat.le_succ _⟩
  · go_ret
    exact ⟨ret_i64 (cmp_num ‹_› ‹_›), by go_grown, by first | exact Nat.le_refl _ | exact Nat.le_succ _⟩
  · go_ret
    exact ⟨ret_i64 (cmp_text ‹_› ‹_›), by go_grown, by first | exact Nat.le_refl _ | exact Nat.le_succ _⟩
set_option maxHeartbeats 1000000 in
theorem compareFuncq_any (a1 a2 : Option Addr) (c1 c2 : Nat) (l1 l2 : List Val) (w : World) (h1 : RowAt w a1 l1) (h2 : RowAt w a2 l2) (m1 : l1.length ≤ maxLen) :
    Calls Tryz.prog 176 #[.slice a1 l1.length c1, .slice a2 l2.length c2, .func (.func 177) #[] #[]] w fun e w' => e = .returned (.int .i64 (rowsV l1 l2)) ∧ Below w.heap.size w w' ∧ w.drawn ≤ w'.drawn := by
  unfold maxLen at m1
  have R1 := hid0 h1
  have R2 := hid0 h2
  clear h1 h2
  go_enter Tryz.func176, Tryz.ntmps176
  go_wp2
  go_loopw [13] (fun i wr => ∃ k : Nat, k ≤ l1.length ∧ k ≤ l2.length ∧ i = .int .i64 k ∧ Below w.heap.size w wr ∧ w.drawn ≤ wr.drawn ∧ Hid (rowsV l1 l2 = rowsV (l1.drop k) (l2.drop k))) (fun i _ => l1.length - (intOf i).toNat)
  case atStart => exact ⟨0, Nat.zero_le _, Nat.zero_le _, rfl, Below.refl _ _, Nat.le_refl _, rfl⟩
  case round =>
    obtain ⟨k, hk1, hk2, rfl, hB, hD, hR⟩ := hrel
    by_cases hlt : k < l1.length
    · by_cases hlt2 : k < l2.length
      · obtain ⟨b1, o1, rfl, hc1⟩ := (R1.out.later hB) (by intro e; rw [e] at hlt; exact absurd hlt (by simp))
        obtain ⟨b2, o2, rfl, hc2⟩ := (R2.out.later hB) (by intro e; rw [e] at hlt2; exact absurd hlt2 (by simp))
        obtain ⟨p0, p1, p2⟩ := hc1 k hlt
        obtain ⟨q0, q1, q2⟩ := hc2 k hlt2
        have q0a := fun o => cell_later ((Below.refl wr.heap.size wr).alloc (Nat.le_refl _) o) q0
        have q1a := fun o => cell_later ((Below.refl wr.heap.size wr).alloc (Nat.le_refl _) o) q1
        have q2a := fun o => cell_later ((Below.refl wr.heap.size wr).alloc (Nat.le_refl _) o) q2
        clear hc1 hc2 q0 q1 q2
        go_wp2_with (go_at_call 177; refine (cmpq_any _ _ _ _ _ _ _).mono ?_; rintro e wn ⟨rfl, hbn, hdn⟩)
        · go_ret
          exact ⟨ret_i64 (rows_stop hlt hlt2 ‹_› hR), below_through hbn (by have := hB.size; simp; omega) (Below.alloc (Below.alloc hB (by have := hB.size; omega) _) (by have := hB.size; simp; omega) _), Nat.le_trans hD hdn⟩
        · exact ⟨⟨k + 1, by omega, by omega, by go_num, below_through hbn (by have := hB.size; simp; omega) (Below.alloc (Below.alloc hB (by have := hB.size; omega) _) (by have := hB.size; simp; omega) _), Nat.le_trans hD hdn, rows_go hlt hlt2 ‹_› hR⟩, by simp [intOf]; omega⟩
      · obtain ⟨b1, o1, rfl, hc1⟩ := (R1.out.later hB) (by intro e; rw [e] at hlt; exact absurd hlt (by simp))
        obtain ⟨p0, p1, p2⟩ := hc1 k hlt
        clear hc1
        go_wp2
        go_ret
        exact ⟨ret_i64 (by rw [show rowsV l1 l2 = _ from hR, rows_more l1 l2 k hlt (by omega)]), Below.alloc hB (by have := hB.size; omega) _, hD⟩
    · go_wp2
      · go_ret
        exact ⟨ret_i64 (by rw [show rowsV l1 l2 = _ from hR, rows_less l1 l2 k (by omega) (by omega)]), hB, hD⟩
      · go_ret
        exact ⟨ret_i64 (by rw [show rowsV l1 l2 = _ from hR, rows_end l1 l2 k (by omega) (by omega)]), hB, hD⟩

set_option maxHeartbeats 1000000 in
theorem rowsq_any (a1 a2 : Option Addr) (c1 c2 : Nat) (l1 l2 : List Val) (w : World) (h1 : RowAt w a1 l1) (h2 : RowAt w a2 l2) (m1 : l1.length ≤ maxLen) :
    Calls Tryz.prog 128 #[.slice a1 l1.length c1, .slice a2 l2.length c2] w fun e w' => e = .returned (.int .i64 (rowsV l1 l2)) ∧ Below w.heap.size w w' ∧ w.drawn ≤ w'.drawn := by
  have R1 := hid0 h1
  have R2 := hid0 h2
  clear h1 h2
  go_enter Tryz.func128, Tryz.ntmps128
  go_wp2_with (go_at_call 176; refine (compareFuncq_any _ _ _ _ _ _ _ R1.out R2.out m1).mono ?_; rintro e w' ⟨rfl, hb, hd⟩)
  go_ret
  exact ⟨rfl, hb, hd⟩
theorem dByRowq_any (e1 e2 : Elem) (w : World) (h1 : RowAt w e1.a e1.r) (h2 : RowAt w e2.a e2.r) (m1 : e1.r.length ≤ maxLen) :
    Calls Tryz.prog 192 #[.agg #[.slice e1.a e1.r.length e1.c, .int .i64 e1.n], .agg #[.slice e2.a e2.r.length e2.c, .int .i64 e2.n]] w fun e w' => e = .returned (.int .i64 (rowsV e1.r e2.r)) ∧ Below w.heap.size w w' ∧ w.drawn ≤ w'.drawn := by
  have hb := below_two w (Obj.cells #[.slice e1.a e1.r.length e1.c, .int .i64 e1.n] 80) (Obj.cells #[.slice e2.a e2.r.length e2.c, .int .i64 e2.n] 80)
  have CR := hid0 (rowsq_any e1.a e2.a e1.c e2.c e1.r e2.r _ (h1.later hb) (h2.later hb) m1)
  have HB := hid0 hb
  clear h1 h2 hb
  go_enter Tryz.func192, Tryz.ntmps192
  go_wp2_with (first | (go_at_call 128; go_must (refine CR.out.mono ?_; rintro e w9 ⟨rfl, hb9, hd9⟩)) | fail)
  go_ret
  exact ⟨rfl, below_through hb9 HB.out.size HB.out, hd9⟩
end Go.Proofs.YtfdkajefcplfjaaGreat

/- The project's layer 14 (delta): slices.SortFunc of a list of elements of one's own, by their rows: the contract of the call. Conditions: the rows lie in older memory. -/
namespace Go.Proofs.YtfdkajefcplfjaaGreat
open Go.RowKit

open Go.Sort
theorem holds_of_blockV {w : World} {g : Nat} {cur : Array Value} {e : TypeId} {F : List Value} (hb : w.heap[g]? = some (.cells cur e (0, 0))) (ht : cur.toList.take F.length = F) : Holds id w g 0 F.toArray := by
  intro j hj
  have hj' : j < F.length := by simpa using hj
  refine ⟨?_, by simp [World.frozen?, hb]⟩
  have h1 : (cur.toList.take F.length)[j]? = F[j]? := by rw [ht]
  rw [List.getElem?_take_of_lt hj'] at h1
  simp only [World.cell?, hb, Nat.zero_add]
  simp only [Option.isSome_none, Bool.false_eq_true, if_false]
  rw [← Array.getElem?_toList, h1]
  simp [hj']
theorem heap_sortedV {w : World} {g n : Nat} {os : Array Obj} {cur : Array Value} {e : TypeId} {fr : Nat × Nat} (d : Array Value) (hb : w.heap[g]? = some (.cells cur e fr)) :
    (grow (putRow id (Sort.ahead w n) g 0 d) os).heap[g]? = some (.cells (putCells id 0 d cur) e fr) := by
  have hg : g < w.heap.size := (Array.getElem?_eq_some_iff.1 hb).1
  rw [heap_grow_old _ _ (by simpa using hg)]
  simp [putRow, mapBlock, Sort.ahead, Array.getElem?_modify, hb, onCells]
theorem grownBy_sortedV {w : World} {g n : Nat} {os : Array Obj} (d : Array Value) : w.grownBy (grow (putRow id (Sort.ahead w n) g 0 d) os) (some g) := by
  refine ⟨rfl, rfl, rfl, by simp, fun k hk hne => ?_⟩
  rw [heap_grow_old _ _ (by simpa using hk)]
  have : g ≠ k := fun e => hne (by rw [e])
  simp [putRow, mapBlock, Sort.ahead, Array.getElem?_modify, this]
theorem take_putCellsV (cur : Array Value) (ts : List Value) (h : ts.length ≤ cur.size) : (putCells id 0 ts.toArray cur).toList.take ts.length = ts := by
  apply List.ext_getElem?
  intro j
  by_cases hj : j < ts.length
  · rw [List.getElem?_take_of_lt hj, Array.getElem?_toList]
    simp [putCells, hj, show j < cur.size by omega]
  · rw [List.getElem?_take_eq_none (by omega), List.getElem?_eq_none (by omega)]
theorem ownsRow_sortedV {w : World} {base g cap n m k : Nat} {e : TypeId} {os : Array Obj} {cur : Array Value} {ts : List Value} (hl : ts.length = m * k) (hbase : base ≤ g) (hb : w.heap[g]? = some (.cells cur e (0, 0)))
    (h1 : m ≤ cap) (h2 : cap ≤ maxLen) (h3 : cur.size = cap * k) :
    (grow (putRow id (Sort.ahead w n) g 0 ts.toArray) os).ownsRow base e k (.slice (some ⟨g, 0, none⟩) m cap) m ts :=
  ⟨hl, .inr ⟨g, cap, _, rfl, hbase, heap_sortedV _ hb, h1, h2, by simp [putCells, h3], by rw [← hl]; exact take_putCellsV cur ts (by rw [hl, h3]; exact Nat.mul_le_mul_right _ h1)⟩⟩
theorem flatMap_at {α : Type} {f : α → List Value} {k : Nat} (hk : ∀ x, (f x).length = k) : ∀ (l : List α) (i : Nat) (hi : i < l.length) (j : Nat), j < k → (l.flatMap f)[i * k + j]? = (f l[i])[j]?
  | x :: l, 0, _, j, hj => by
    rw [List.flatMap_cons, Nat.zero_mul, Nat.zero_add, List.getElem?_append_left (by rw [hk]; exact hj)]
    rfl
  | x :: l, i + 1, hi, j, hj => by
    rw [List.flatMap_cons, Nat.succ_mul, List.getElem?_append_right (by rw [hk]; omega), hk, show i * k + k + j - k = i * k + j by omega]
    exact flatMap_at hk l i (by simpa using hi) j hj
theorem flatMap_lenV {α : Type} {f : α → List Value} {k : Nat} (hk : ∀ x, (f x).length = k) : ∀ l : List α, (l.flatMap f).length = l.length * k
  | [] => by simp
  | x :: l => by rw [List.flatMap_cons, List.length_append, hk, flatMap_lenV hk l, List.length_cons, Nat.succ_mul, Nat.add_comm]
theorem flatK_is {α : Type} [Inhabited α] {f : α → List Value} {k : Nat} (hk : ∀ x, (f x).length = k) (h0 : 0 < k) (d : Array α) : flatK f k d = (d.toList.flatMap f).toArray := by
  apply Array.ext
  · rw [size_flatK]
    show _ = (d.toList.flatMap f).length
    rw [flatMap_lenV hk]
    simp
  · intro t h1 h2
    have h1' : t < d.size * k := by simpa using h1
    have hq : t / k < d.size := Nat.div_lt_of_lt_mul (by rw [Nat.mul_comm]; exact h1')
    have hr : t % k < k := Nat.mod_lt _ h0
    have e1 := get_flatK f k d t h1'
    rw [getElem!_pos _ t h1] at e1
    rw [e1]
    have e2 := flatMap_at hk d.toList (t / k) (by simpa using hq) (t % k) hr
    rw [Nat.div_add_mod' t k] at e2
    rw [getElem!_pos d (t / k) hq, getElem!_pos _ _ (by rw [hk]; exact hr)]
    have e3 : (d.toList.flatMap f)[t]? = some ((f d[t / k])[t % k]'(by rw [hk]; exact hr)) := by
      rw [e2, Array.getElem_toList, List.getElem?_eq_getElem (by rw [hk]; exact hr)]
    rw [List.getElem_toArray]
    exact (Option.some.inj ((List.getElem?_eq_getElem (by simpa using h2)).symm.trans e3)).symm
/-- Elements in a list of one's own, whose rows lie in older memory. -/
structure OwnE (w0 w : World) (v : Value) (E : List Elem) : Prop where
  own : w.ownsRow w0.heap.size 80 2 v E.length (cellsE E)
  rows : ∀ e ∈ E, RowAt w0 e.a e.r ∧ rowOK e.r
  b : Below w0.heap.size w0 w
theorem OwnE.elems {w0 w : World} {v : Value} {E : List Elem} (h : OwnE w0 w v E) : ∃ a c, v = .slice a E.length c ∧ E.length ≤ c ∧ ElemsAt w a E := by
  obtain ⟨a', c', hv, hcap, _, hcl⟩ := elems_owned h.own
  exact ⟨a', c', hv, hcap, hcl, fun e he => ⟨(h.rows e he).1.later h.b, (h.rows e he).2⟩⟩
abbrev EX (w0 : World) := { e : Elem // RowAt w0 e.a e.r ∧ rowOK e.r }
instance (w0 : World) : Inhabited (EX w0) := ⟨⟨⟨none, 0, [], 0⟩, fun h => absurd rfl h, Nat.zero_le _⟩⟩
def encX {w0 : World} (x : EX w0) : List Value := cellsOne x.1
theorem exs (w0 : World) : ∀ E : List Elem, (∀ e ∈ E, RowAt w0 e.a e.r ∧ rowOK e.r) → ∃ D : List (EX w0), D.map (·.1) = E
  | [], _ => ⟨[], rfl⟩
  | e :: E, h => by
    obtain ⟨D, hD⟩ := exs w0 E (fun x hx => h x (by simp [hx]))
    exact ⟨⟨e, h e (by simp)⟩ :: D, by simp [hD]⟩
theorem cells_ex {w0 : World} (D : List (EX w0)) : D.flatMap encX = cellsE (D.map (·.1)) := by
  unfold cellsE
  rw [List.flatMap_map]
  rfl
theorem rows_swo (w0 : World) : SWO (ltOf fun x y : EX w0 => rowsV x.1.r y.1.r) where
  irrefl x := by unfold ltOf; simp [rowsV_self]
  trans x y z h1 h2 := by
    unfold ltOf at *
    simp only [decide_eq_true_eq] at *
    exact rowsV_lt_trans h1 h2
  ntrans x y z h1 h2 := by
    unfold ltOf at *
    simp only [decide_eq_false_iff_not, Int.not_lt] at *
    have k1 := rowsV_flip x.1.r y.1.r
    have k2 := rowsV_flip y.1.r z.1.r
    have k3 := rowsV_flip x.1.r z.1.r
    have := rowsV_trans z.1.r y.1.r x.1.r (by omega) (by omega)
    omega
theorem sortMany_any {w0 w : World} {v : Value} {E : List Elem} (h : OwnE w0 w v E) (hl : E.length ≤ 4000000) (hne : E ≠ []) :
    Calls Tryz.prog 191 #[v, .func (.func 192) #[] #[]] w fun e w' => e = .returned (.tuple #[]) ∧ ∃ E', OwnE w0 w' v E' ∧ E'.Perm E ∧ E'.Pairwise (fun x y => rowsV x.r y.r ≤ 0) := by
  rcases h.own.2 with ⟨_, hn⟩ | ⟨g, cap, cur, rfl, hg, hh, hnc, hcm, hsz, htake⟩
  · exact absurd (List.length_eq_zero_iff.1 hn) hne
  · obtain ⟨D, hD⟩ := exs w0 E h.rows
    have hk : ∀ x : EX w0, (encX x).length = 2 := fun _ => rfl
    have hlen : D.length = E.length := by rw [← hD, List.length_map]
    have hcells : D.flatMap encX = cellsE E := by rw [cells_ex, hD]
    have hclen : (cellsE E).length = E.length * 2 := by rw [← hcells, flatMap_lenV hk, hlen]
    have eg : ∀ args w, (callFunc 192 args).run Tryz.prog w = .ok (.enter 192 args) w := enters_of Tryz.func192 (by kernel_rfl) rfl
    have hH : HoldsK encX 2 w g 0 D.toArray := by
      unfold HoldsK
      rw [flatK_is hk (by omega), show D.toArray.toList = D from rfl, hcells]
      exact holds_of_blockV hh (by rw [hclen]; exact htake)
    have hcmp : CmpLays Tryz.prog 192 #[] encX 2 (fun x y : EX w0 => rowsV x.1.r y.1.r) g 0 D.toArray.size w := by
      intro m os dk _ x y
      have hb : Below w0.heap.size w0 (sortWorldK encX 2 w g 0 m dk os) := by
        unfold sortWorldK putRowK
        exact h.b.grown (grownBy_sortedV _) h.b.size (fun k hk => by cases hk; exact hg)
      refine (dByRowq_any x.1 y.1 _ (x.2.1.later hb) (y.2.1.later hb) ?_).mono ?_
      · have := x.2.2; unfold rowOK at this; unfold maxLen; omega
      · rintro e w' ⟨rfl, hb', hd⟩
        exact ⟨rfl, quiet_grow hb' hd⟩
    have hcon := AnyQ.slices_SortFunc Tryz.sortMany 2 Tryz.isAgg80 Tryz.sizeOf80 encX hk (fun x u hu => by
      unfold encX cellsOne at hu
      simp at hu
      rcases hu with rfl | rfl <;> rfl) (fun x y : EX w0 => rowsV x.1.r y.1.r) (rows_swo w0) 192 #[] g 0 cap D.toArray w eg hcmp hH (h.own.lt g rfl).2 (by rw [List.size_toArray, hlen]; omega)
    rw [List.size_toArray, hlen] at hcon
    change Calls Tryz.prog 191 _ _ _ at hcon
    refine hcon.mono ?_
    rintro e w' ⟨rfl, d', n, os, hp, hs, rfl⟩
    have hds : d'.size = E.length := by rw [hp.1, List.size_toArray, hlen]
    have hpm : d'.toList.Perm D := by
      have := hp.2.2
      have e1 : d'.extract 0 E.length = d' := by rw [← hds]; simp
      have e2 : D.toArray.extract 0 E.length = D.toArray := by rw [← hlen]; simp
      rw [e1, e2] at this
      exact this
    refine ⟨rfl, d'.toList.map (·.1), ⟨?_, ?_, ?_⟩, ?_, ?_⟩
    · have hl2 : (d'.toList.flatMap encX).length = E.length * 2 := by rw [flatMap_lenV hk, Array.length_toList, hds]
      have O := ownsRow_sortedV (n := n) (os := os) hl2 hg hh hnc hcm hsz
      unfold sortWorldK putRowK
      have e0 : (d'.toList.map (·.1)).length = E.length := by rw [List.length_map]; exact hds
      rw [flatK_is hk (by omega), e0, ← cells_ex]
      exact O
    · intro e he
      obtain ⟨x, _, rfl⟩ := List.mem_map.1 he
      exact x.2
    · unfold sortWorldK putRowK
      exact h.b.grown (grownBy_sortedV _) h.b.size (fun k hk => by cases hk; exact hg)
    · rw [← hD]
      exact hpm.map _
    · rw [List.pairwise_map, List.pairwise_iff_getElem]
      intro i j hi hj hij
      have := hs i j (Nat.zero_le _) hij (by simpa [hds] using hj)
      rw [getElem!_pos d' j (by simpa using hj), getElem!_pos d' i (by simpa using hi)] at this
      unfold ltOf at this
      simp only [decide_eq_false_iff_not, Int.not_lt] at this
      rw [rowsV_flip]
      simp only [Array.getElem_toList]
      omega
end Go.Proofs.YtfdkajefcplfjaaGreat

/- The project's layer 14 (delta): how many rows are there, counted in a sorted list, plainly. Nothing of any program here. Conditions: none. -/
namespace Go.Proofs.YtfdkajefcplfjaaGreat
open Go.RowKit

/-- The rows that are there, counted. -/
def sizeK (n : Int) (L : List Pair) : Int := L.foldl (fun n x => addMany n (clampM x.2)) n
/-- .. run by run in a sorted list. -/
def cntR (n T : Int) : List Pair → Int
  | [] => n
  | [x] => addMany n (clampM (T + x.2))
  | x :: y :: l => if rowsV x.1 y.1 = 0 then cntR n (T + x.2) (y :: l) else cntR (addMany n (clampM (T + x.2))) 0 (y :: l)
theorem clampM_in (x : Int) : 0 ≤ clampM x ∧ clampM x ≤ maxMany := by unfold clampM maxMany; omega
theorem addMany_zero {n : Int} (hn : 0 ≤ n ∧ n ≤ maxMany) : addMany n (clampM 0) = n := by unfold addMany clampM maxMany at *; omega
theorem addMany_clamp {n : Int} (x : Int) (hn : 0 ≤ n ∧ n ≤ maxMany) : 0 ≤ addMany n (clampM x) ∧ addMany n (clampM x) ≤ maxMany := addMany_in hn (clampM_in x).1
theorem ofB_sums {A B : List Pair} (h : ∀ r, sumOf r A = sumOf r B) : ofB A = ofB B := ofB_is (rises_ofB A) (fun r => by rw [sumOf_ofB, h])
theorem ofB_memD : ∀ {L : List Pair} {z : Pair}, z ∈ ofB L → ∃ y ∈ L, z.1 = y.1
  | [], z, h => by simp [ofB] at h
  | x :: L, z, h => by
    have key : ∀ (B : List Pair) (z : Pair), z ∈ insB x B → z.1 = x.1 ∨ ∃ y ∈ B, z.1 = y.1 := by
      intro B
      induction B with
      | nil => intro z h; unfold insB at h; split at h <;> simp at h; exact .inl (by rw [h])
      | cons y B ih =>
        intro z h
        unfold insB at h
        split at h
        · split at h
          · exact .inr ⟨z, h, rfl⟩
          · rcases List.mem_cons.1 h with h | h
            · exact .inl (by rw [h])
            · exact .inr ⟨z, h, rfl⟩
        · split at h
          · split at h
            · exact .inr ⟨z, List.mem_cons_of_mem _ h, rfl⟩
            · rcases List.mem_cons.1 h with h | h
              · exact .inr ⟨y, by simp, by rw [h]⟩
              · exact .inr ⟨z, List.mem_cons_of_mem _ h, rfl⟩
          · rcases List.mem_cons.1 h with h | h
            · exact .inr ⟨y, by simp, by rw [h]⟩
            · rcases ih z h with h | ⟨w, hw, e⟩
              · exact .inl h
              · exact .inr ⟨w, List.mem_cons_of_mem _ hw, e⟩
    rcases key (ofB L) z h with h | ⟨y, hy, e⟩
    · exact ⟨x, by simp, h⟩
    · obtain ⟨w, hw, e'⟩ := ofB_memD hy
      exact ⟨w, List.mem_cons_of_mem _ hw, e.trans e'⟩
theorem ofB_first {x : Pair} {L : List Pair} (h : ∀ y ∈ L, rowsV x.1 y.1 < 0) : ofB (x :: L) = if x.2 = 0 then ofB L else x :: ofB L := by
  show insB x (ofB L) = _
  cases hB : ofB L with
  | nil => rfl
  | cons y B =>
    obtain ⟨z, hz, e⟩ := ofB_memD (L := L) (z := y) (by rw [hB]; simp)
    have := h z hz
    rw [← e] at this
    unfold insB
    rw [if_pos this]
theorem cntR_is : ∀ (l : List Pair) (x : Pair) (n T : Int), (x :: l).Pairwise (fun a b => rowsV a.1 b.1 ≤ 0) → 0 ≤ n ∧ n ≤ maxMany → cntR n T (x :: l) = sizeK n (ofB ((x.1, T + x.2) :: l))
  | [], x, n, T, _, hn => by
    show addMany n (clampM (T + x.2)) = sizeK n (if (x.1, T + x.2).2 = 0 then [] else [(x.1, T + x.2)])
    by_cases h : T + x.2 = 0
    · rw [if_pos h, h, addMany_zero hn]; rfl
    · rw [if_neg h]; rfl
  | y :: l, x, n, T, hp, hn => by
    have hp' := (List.pairwise_cons.1 hp).2
    have hxy := (List.pairwise_cons.1 hp).1
    unfold cntR
    by_cases h : rowsV x.1 y.1 = 0
    · rw [if_pos h, cntR_is l y n (T + x.2) hp' hn]
      have e : x.1 = y.1 := (rowsV_is _ _).1 h
      congr 1
      refine ofB_sums fun r => ?_
      simp only [sumOf, e]
      by_cases hr : rowsV y.1 r = 0
      · simp only [hr, if_true]; omega
      · simp only [hr, if_false]; omega
    · rw [if_neg h, cntR_is l y _ 0 hp' (addMany_clamp _ hn)]
      have hlt : ∀ z ∈ y :: l, rowsV x.1 z.1 < 0 := fun z hz => by
        have h1 : rowsV x.1 y.1 < 0 := by have := hxy y (by simp); omega
        rcases List.mem_cons.1 hz with rfl | hz
        · exact h1
        · have h2 := (List.pairwise_cons.1 hp').1 z hz
          by_cases h3 : rowsV y.1 z.1 = 0
          · rw [← (rowsV_is _ _).1 h3]; exact h1
          · exact rowsV_lt_trans h1 (by omega)
      have e1 : ((y.1, 0 + y.2) : Pair) = y := by rw [Int.zero_add]
      rw [e1, ofB_first (x := (x.1, T + x.2)) hlt]
      by_cases h0 : T + x.2 = 0
      · rw [if_pos h0, h0, addMany_zero hn]
      · rw [if_neg h0]; rfl
theorem sumOf_perm {A B : List Pair} (h : A.Perm B) (r : List Val) : sumOf r A = sumOf r B := by
  induction h with
  | nil => rfl
  | cons x _ ih => simp only [sumOf, ih]
  | swap x y l => simp only [sumOf]; omega
  | trans _ _ ih1 ih2 => exact ih1.trans ih2
/-- What is there now, counted. -/
def nowC (L : List Pair) : Int := sizeK 0 (ofB L)
theorem sizeK_in : ∀ (L : List Pair) (n : Int), 0 ≤ n ∧ n ≤ maxMany → 0 ≤ sizeK n L ∧ sizeK n L ≤ maxMany
  | [], _, h => h
  | x :: L, _, h => sizeK_in L _ (addMany_clamp x.2 h)
theorem nowC_in (L : List Pair) : 0 ≤ nowC L ∧ nowC L ≤ maxMany := sizeK_in _ 0 (by unfold maxMany; omega)
theorem cntR_now {S L : List Pair} (hS : S.Pairwise (fun a b => rowsV a.1 b.1 ≤ 0)) (hp : S.Perm L) : cntR 0 0 S = nowC L := by
  unfold nowC
  rw [← ofB_sums (fun r => sumOf_perm hp r)]
  cases S with
  | nil => rfl
  | cons x l =>
    rw [cntR_is l x 0 0 hS (by unfold maxMany; omega)]
    have e1 : ((x.1, 0 + x.2) : Pair) = x := by rw [Int.zero_add]
    rw [e1]
end Go.Proofs.YtfdkajefcplfjaaGreat

/- The project's layer 14 (delta): two lists put behind each other and sorted: contracts of the calls. Conditions: the lists' cells are known, they are not too long. -/
namespace Go.Proofs.YtfdkajefcplfjaaGreat
open Go.RowKit

theorem cellsE_oneD (E : List Elem) : ∀ u ∈ cellsE E, u.oneCell' = true := fun u hu => by
  unfold cellsE cellsOne at hu
  obtain ⟨e, _, he⟩ := List.mem_flatMap.1 hu
  simp at he
  rcases he with rfl | rfl <;> rfl
theorem cellsE_lenD (E : List Elem) : (cellsE E).length = E.length * 2 := flatMap_lenV (f := cellsOne) (k := 2) (fun _ => rfl) E
theorem cellsE_atD {w : World} {a : Option Addr} {E : List Elem} (h : ElemsAt w a E) (hne : cellsE E ≠ []) : ∃ b off, a = some ⟨b, off, none⟩ ∧ ∀ j u, (cellsE E)[j]? = some u → w.cell? ⟨b, off + j, none⟩ = some u := by
  obtain ⟨b, off, e, hc⟩ := h.1 (fun e => hne (by rw [e]; rfl))
  refine ⟨b, off, e, fun j u hj => ?_⟩
  have hjl : j < E.length * 2 := by rw [← cellsE_lenD]; exact (List.getElem?_eq_some_iff.1 hj).1
  have hq : j / 2 < E.length := by omega
  obtain ⟨q0, q1⟩ := hc (j / 2) hq
  have e2 := flatMap_at (f := cellsOne) (k := 2) (fun _ => rfl) E (j / 2) hq (j % 2) (by omega)
  rw [Nat.div_add_mod' j 2] at e2
  have hj' : (E.flatMap cellsOne)[j]? = some u := hj
  rw [e2] at hj'
  rcases (show j % 2 = 0 ∨ j % 2 = 1 by omega) with h0 | h0
  · rw [h0] at hj'
    obtain rfl : Value.slice E[j / 2].a E[j / 2].r.length E[j / 2].c = u := by simpa [cellsOne] using hj'
    rw [show off + j = off + j / 2 * 2 by omega]
    exact q0
  · rw [h0] at hj'
    obtain rfl : Value.int .i64 E[j / 2].n = u := by simpa [cellsOne] using hj'
    rw [show off + j = off + j / 2 * 2 + 1 by omega]
    exact q1
theorem concatE2_any (a1 a2 : Option Addr) (c1 c2 : Nat) (A B : List Elem) (w : World) (ty : TypeId) (h1 : ElemsAt w a1 A) (h2 : ElemsAt w a2 B) (hl : A.length + B.length ≤ 1000000) :
    Calls Tryz.prog 190 #[.slice (some ⟨w.heap.size, 0, none⟩) 2 2] (w.alloc (Obj.cells #[.slice a1 A.length c1, .slice a2 B.length c2] ty)) fun e w' => ∃ v, e = .returned v ∧ OwnE w w' v (A ++ B) := by
  have hb : Below w.heap.size w (w.alloc (Obj.cells #[.slice a1 A.length c1, .slice a2 B.length c2] ty)) := (Below.refl _ _).alloc (Nat.le_refl _) _
  have hn := elem_new w (.slice a1 A.length c1) (.slice a2 B.length c2) ty
  have hC : CLAtE (w.alloc (Obj.cells #[.slice a1 A.length c1, .slice a2 B.length c2] ty)) (some ⟨w.heap.size, 0, none⟩) [⟨a1, c1, A.length, cellsE A⟩, ⟨a2, c2, B.length, cellsE B⟩] := by
    refine ⟨fun _ => ⟨w.heap.size, 0, rfl, fun i hi => ?_⟩, fun e he => ?_⟩
    · match i, hi with
      | 0, _ => exact hn.1
      | 1, _ => exact hn.2
    · simp at he
      rcases he with rfl | rfl
      · exact ⟨cellsE_atD (h1.later hb), cellsE_lenD _, cellsE_oneD _⟩
      · exact ⟨cellsE_atD (h2.later hb), cellsE_lenD _, cellsE_oneD _⟩
  have hN : catNE [⟨a1, c1, A.length, cellsE A⟩, ⟨a2, c2, B.length, cellsE B⟩] = A.length + B.length := by simp [catNE]
  have hX : catCE [⟨a1, c1, A.length, cellsE A⟩, ⟨a2, c2, B.length, cellsE B⟩] = cellsE (A ++ B) := by simp [catCE, cellsE]
  have := concatCE_any (some ⟨w.heap.size, 0, none⟩) 2 _ _ hC (by simp) (by rw [hN]; exact hl)
  rw [hN, hX] at this
  refine this.mono ?_
  rintro e w' ⟨⟨v, rfl, hown⟩, hb'⟩
  refine ⟨v, rfl, ⟨?_, fun e he => ?_, below_through hb' hb.size hb⟩⟩
  · rw [List.length_append]
    exact own_lower hown (by simp)
  · rcases List.mem_append.1 he with he | he
    · exact h1.2 e he
    · exact h2.2 e he
theorem sortAll_any {w0 w : World} {v : Value} {E : List Elem} (h : OwnE w0 w v E) (hl : E.length ≤ 4000000) :
    Calls Tryz.prog 191 #[v, .func (.func 192) #[] #[]] w fun e w' => e = .returned (.tuple #[]) ∧ ∃ E', OwnE w0 w' v E' ∧ E'.Perm E ∧ E'.Pairwise (fun x y => rowsV x.r y.r ≤ 0) := by
  by_cases hne : E = []
  · subst hne
    obtain ⟨a, c, rfl, _, _⟩ := h.elems
    have := AnyF.slices_SortFunc_none Tryz.sortMany a c (.func (.func 192) #[] #[]) w
    change Calls Tryz.prog 191 _ _ _ at this
    refine this.mono ?_
    rintro e w' ⟨rfl, rfl⟩
    exact ⟨rfl, [], h, List.Perm.refl _, List.Pairwise.nil⟩
  · exact sortMany_any h hl hne
theorem cntR_last {L : List Pair} {n T : Int} {i : Nat} (h : i + 1 = L.length) : cntR n T (L.drop i) = addMany n (clampM (T + (L[i]'(by omega)).2)) := by
  rw [List.drop_eq_getElem_cons (by omega), List.drop_of_length_le (by omega)]
  rfl
theorem cntR_same {L : List Pair} {n T : Int} {i : Nat} (h : i + 1 < L.length) (hk : rowsV L[i].1 L[i + 1].1 = 0) : cntR n T (L.drop i) = cntR n (T + L[i].2) (L.drop (i + 1)) := by
  rw [List.drop_eq_getElem_cons (by omega), List.drop_eq_getElem_cons h, cntR, if_pos hk]
theorem cntR_next {L : List Pair} {n T : Int} {i : Nat} (h : i + 1 < L.length) (hk : rowsV L[i].1 L[i + 1].1 ≠ 0) : cntR n T (L.drop i) = cntR (addMany n (clampM (T + L[i].2))) 0 (L.drop (i + 1)) := by
  rw [List.drop_eq_getElem_cons (by omega), List.drop_eq_getElem_cons h, cntR, if_neg hk]
end Go.Proofs.YtfdkajefcplfjaaGreat
