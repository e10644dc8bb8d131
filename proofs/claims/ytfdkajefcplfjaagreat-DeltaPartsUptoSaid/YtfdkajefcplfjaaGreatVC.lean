/- Several of my texts laid together, each as it was: D9, D14, D22, D25, D26, D27. Conditions: each names its own. -/
import Derived.Test.YtfdkajefcplfjaaGreatVA
import Derived.Test.YtfdkajefcplfjaaGreatVB
import Derived.Test.YtfdkajefcplfjaaGreatI3
import Derived.Laws.AppendOwnNone
import Derived.Test.YtfdkajefcplfjaaGreatI1
import Derived.Test.YtfdkajefcplfjaaGreatH8
/- The project's layer 14 (delta): added: what there is now, name by name: the contract of the call, in whatever memory. Conditions: what is read is not too much. -/
namespace Go.Proofs.YtfdkajefcplfjaaGreat
open Go.RowKit

/-- The rows of a name, plainly. -/
def bagN (l : List Nx) (s : List UInt8) : List Pair := match findN l s with
  | some x => x.E.map pr
  | none => []
theorem slc_at {w : World} {l : List Nx} (h : ∀ x ∈ l, ElemsI w x.a x.c x.E) (s : List UInt8) : ∃ a c E, slcOf l s = .slice a E.length c ∧ ElemsI w a c E ∧ E.map pr = bagN l s := by
  unfold slcOf bagN
  cases hf : findN l s with
  | some x => exact ⟨x.a, x.c, x.E, rfl, h x (findN_mem hf), rfl⟩
  | none => exact ⟨none, 0, [], rfl, ⟨ElemsAt.nil _ _, fun e he => absurd he (by simp), Nat.zero_le _, Nat.le_refl _⟩, rfl⟩
def nd (x : Nx) : ByteArray × List Pair := (x.s, x.E.map pr)
def nowD (old ch : List Nx) (s : ByteArray) : ByteArray × List Pair := (s, ofB (bagN old s.data.toList ++ bagN ch s.data.toList))
/-- What is read of a name isn't too much. -/
def FewN (old ch : List Nx) (s : ByteArray) : Prop := (bagN old s.data.toList).length ≤ 400000 ∧ (bagN ch s.data.toList).length ≤ 400000 ∧ absS (bagN old s.data.toList) + absS (bagN ch s.data.toList) ≤ 4611686018427387904
set_option maxRecDepth 100000 in
set_option maxHeartbeats 4000000 in
theorem dAdded_any (a : Option Addr) (c : Nat) (L : List ByteArray) (b1 b2 : Nat) (old ch : List Nx) (w : World) (hL : StrsA w a L) (h1 : SrcD w b1 old) (h2 : SrcD w b2 ch) (ho : ∀ x ∈ old, ElemsI w x.a x.c x.E) (hc : ∀ x ∈ ch, ElemsI w x.a x.c x.E) (hN : L.length ≤ 4000000) (hs : ∀ s ∈ L, FewN old ch s) :
    Calls Tryz.prog 53 #[.slice a L.length c, .map (some b1), .map (some b2)] w fun e w' => (∃ a' c' N, e = .returned (.slice a' N.length c') ∧ NsOk w' a' N ∧ N.map nd = L.map (nowD old ch) ∧ ∀ x ∈ N, ∀ e ∈ x.E, e.a = none → e.c = 0) ∧ Below w.heap.size w w' := by
  have HL := hid0 hL
  have HO := hid0 h1
  have HC := hid0 h2
  have HOK := hid0 ho
  have HCK := hid0 hc
  have HFS := hid0 hs
  have hW0 : WideAt w w (.slice none 0 0) [] := WideAt.nil (Below.refl _ _)
  clear hL h1 h2 ho hc hs
  obtain ⟨N, hNN⟩ : ∃ N, L.length = N := ⟨_, rfl⟩
  rw [hNN] at hN ⊢
  have HN := hid0 hNN
  clear hNN
  go_enter Tryz.func53, Tryz.ntmps53
  go_wp2
  go_loopw [7, 12] (fun nv iv wr => ∃ (i : Nat) (M : List Nx), i ≤ N ∧ iv = .int .i64 i ∧ WideAt w wr nv M ∧ Hid (M.map nd = (L.take i).map (nowD old ch)) ∧ Hid (∀ x ∈ M, ∀ e ∈ x.E, e.a = none → e.c = 0)) (fun _ iv _ => N - (intOf iv).toNat)
  case atStart => exact ⟨0, [], Nat.zero_le _, rfl, hW0, hid0 rfl, hid0 (fun x hx => absurd hx (by simp))⟩
  case round =>
    obtain ⟨i, M, hi, rfl, hW, hM, hZ⟩ := hrel
    clear hW0
    have hml : M.length = i := by
      have := congrArg List.length hM.out
      rw [List.length_map, List.length_map, List.length_take, HN.out] at this
      omega
    by_cases hlt : i < N
    · have g1 : i < L.length := by rw [HN.out]; exact hlt
      obtain ⟨b3, o3, rfl, hcl⟩ := (HL.out.later hW.b).out (fun e => by rw [e] at g1; simp at g1)
      have q0 := hcl i g1
      have hss := HL.out.small _ (List.getElem_mem g1)
      have htk : L.take (i + 1) = L.take i ++ [L[i]] := List.take_succ_eq_append_getElem g1
      obtain ⟨k1, k2, k3⟩ := HFS.out _ (List.getElem_mem g1)
      obtain ⟨s, hsx⟩ : ∃ s, L[i] = s := ⟨_, rfl⟩
      rw [hsx] at q0 hss htk k1 k2 k3
      obtain ⟨aA, cA, A, eA, hA, mA⟩ := slc_at HOK.out s.data.toList
      obtain ⟨aB, cB, B, eB, hB, mB⟩ := slc_at HCK.out s.data.toList
      have hk1 := (HO.out.later hW.b).look false hss
      have hk2 := (HC.out.later hW.b).look false hss
      rw [eA] at hk1
      rw [eB] at hk2
      simp only [Bool.false_eq_true, if_false] at hk1 hk2
      have hnow : nowD old ch s = (s, ofB (A.map pr ++ B.map pr)) := by unfold nowD; rw [mA, mB]
      rw [← mA, List.length_map] at k1
      rw [← mB, List.length_map] at k2
      rw [← mA, ← mB] at k3
      have HM2 := hid0 (fun (x : Nx) (hx : nd x = (s, ofB (A.map pr ++ B.map pr))) => show (M ++ [x]).map nd = (L.take (i + 1)).map (nowD old ch) from by
        rw [htk, List.map_append, List.map_append, hM.out, List.map_cons, List.map_cons, List.map_nil, List.map_nil, hx, hnow])
      have CAd := hid0 (fun (W : World) (hW' : Below w.heap.size w W) => bagAdd2_any aA aB cA cB A B W (hA.later hW').at_ (hB.later hW').at_ hA.cap hB.cap (by omega) k3)
      have HAp := hid0 (fun (W : World) (a5 : Option Addr) (c5 : Nat) (E5 : List Elem) (hE : ElemsAt W a5 E5) (hc : E5.length ≤ c5) (hm : E5.map pr = ofB (A.map pr ++ B.map pr)) (ht : TagL W a5) (hg : ∀ e ∈ E5, GoodE W e) => apart_of (s := s) hA hB k1 k2 hE hc hm ht hg (by rw [absS_append]; exact k3))
      have hlen8 : (M.length + 1) * 40 ≤ 140737488355328 := by omega
      have HSS := hid0 hss
      clear htk hcl mA mB hnow k1 k2 k3 hA hB eA eB hsx hM hss g1
      have hlt' : (i : Int) < (N : Int) := by omega
      go_wp2_with (first | (go_at_call 89; go_must (refine (CAd.out _ hW.b).mono ?_; rintro e w7 ⟨⟨a5, c5, E5, rfl, hc5, hE5, hm5, ht5, hg5, hy5⟩, hb7⟩; (have HY5 := hid0 hy5); clear hy5; (have hAp := hid0 (HAp.out _ _ _ _ hE5 hc5 hm5 ht5 hg5)); (have hW8 := fun o => hW.below (hb7.alloc hb7.size o)); (have hAp8 := fun o => hAp.out.later ((Below.refl _ _).alloc (Nat.le_refl _) o)))) | (at_builtin; go_loud (refine wp_nx rfl _ _ rfl rfl (hW8 _) ⟨s, a5, c5, E5⟩ _ rfl (elem_new _ _ _ _).1 (elem_new _ _ _ _).2 ⟨HSS.out, .inr (hAp8 _)⟩ hlen8 ?_)) | fail)
      intro v8 w8 hm8 hK8
      go_wp2
      exact ⟨⟨i + 1, _, by omega, by go_num, hm8, hid0 (HM2.out ⟨s, a5, c5, E5⟩ (by show (s, E5.map pr) = _; rw [hm5])), hid0 (fun x hx => (List.mem_append.1 hx).elim (fun h => hZ.out x h) (fun h => by obtain rfl := List.mem_singleton.1 h; exact HY5.out))⟩, by simp [intOf]; omega⟩
    · have hie : ¬ (i : Int) < (N : Int) := by omega
      obtain ⟨a4, c4, rfl, hN4⟩ := hW.names (by omega)
      have HN4 := hid0 hN4
      have hb := hW.b
      clear hN4 hW
      go_wp2
      go_ret
      exact ⟨⟨a4, c4, M, by rw [hml]; rfl, HN4.out, by rw [hM.out, List.take_of_length_le (by rw [HN.out]; omega)], hZ.out⟩, hb⟩
end Go.Proofs.YtfdkajefcplfjaaGreat

/- slices.Concat of lists of lists: the contract of the call. Conditions: the lists' cells are known, and are not too long. -/
namespace Go.Proofs.YtfdkajefcplfjaaGreat
open Go.RowKit

/-- Lists side by side, as cells. -/
structure CLL where
  a : Option Addr
  c : Nat
  n : Nat
  xs : List Value
structure CLAtL (w : World) (a : Option Addr) (Ls : List CLL) : Prop where
  out : Ls ≠ [] → ∃ b off, a = some ⟨b, off, none⟩ ∧ ∀ i (h : i < Ls.length), w.cell? ⟨b, off + i, none⟩ = some (.slice Ls[i].a Ls[i].n Ls[i].c)
  ok : ∀ e ∈ Ls, (e.xs ≠ [] → ∃ b off, e.a = some ⟨b, off, none⟩ ∧ ∀ j u, e.xs[j]? = some u → w.cell? ⟨b, off + j, none⟩ = some u) ∧ e.xs.length = e.n * 1 ∧ ∀ u ∈ e.xs, u.oneCell' = true
theorem CLAtL.later {w w' : World} {a : Option Addr} {Ls : List CLL} (h : CLAtL w a Ls) (hb : Below w.heap.size w w') : CLAtL w' a Ls := ⟨fun hn => by
  obtain ⟨b, off, e, hc⟩ := h.out hn
  exact ⟨b, off, e, fun i hi => cell_later hb (hc i hi)⟩, fun e he => by
  obtain ⟨h1, h2, h3⟩ := h.ok e he
  exact ⟨fun hn => by
    obtain ⟨b, off, e, hc⟩ := h1 hn
    exact ⟨b, off, e, fun j u hj => cell_later hb (hc j u hj)⟩, h2, h3⟩⟩
def catCL (Ls : List CLL) : List Value := Ls.flatMap (·.xs)
def catNL (Ls : List CLL) : Nat := (Ls.map (·.n)).sum
theorem catCL_take {Ls : List CLL} {i : Nat} (h : i < Ls.length) : catCL (Ls.take (i + 1)) = catCL (Ls.take i) ++ Ls[i].xs := by
  unfold catCL; rw [List.take_succ_eq_append_getElem h, List.flatMap_append]; congr 1; exact List.append_nil _
theorem catNL_take {Ls : List CLL} {i : Nat} (h : i < Ls.length) : catNL (Ls.take (i + 1)) = catNL (Ls.take i) + Ls[i].n := by
  unfold catNL; rw [List.take_succ_eq_append_getElem h, List.map_append, List.sum_append]; simp
theorem catNL_part (Ls : List CLL) (i : Nat) : catNL (Ls.take i) ≤ catNL Ls := by
  unfold catNL
  conv => rhs; rw [← List.take_append_drop i Ls, List.map_append, List.sum_append]
  omega
theorem infoCL : (Tryz.prog.info? 57).map (fun i => (i.zero, i.size, i.bytes)) = some (some (.slice none 0 0), 1, 24) := by kernel_rfl
set_option maxHeartbeats 1000000 in
theorem growCL_any (n : Nat) (w : World) (hn : n * 24 ≤ 140737488351232) :
    Calls Tryz.prog 195 #[.slice none 0 0, .int .i64 (n : Int)] w fun e w' => (∃ v, e = .returned v ∧ w'.ownsRow w.heap.size 57 1 v 0 []) ∧ Below w.heap.size w w' := by
  obtain ⟨i0, hi, hz0, hz1, hz2⟩ := info_parts infoCL
  by_cases h0 : n = 0
  · subst h0
    go_enter Tryz.func195, Tryz.ntmps195
    go_wp2
    go_ret
    exact ⟨⟨_, rfl, World.ownsRow_nil _ _ _ _⟩, Below.refl _ _⟩
  · have h1 : ¬ ((n : Int) < 0) := by omega
    have h4 : (0 : Int) < (n : Int) := by omega
    have hrz : ∀ ty, (Builtin.append_ #[145, 3] ty #[.slice none 0 0, .int .i64 (n : Int)]).run Tryz.prog w =
        .ok (.slice (some ⟨w.heap.size, 0, none⟩) n (grownCap w n 0 57)) (w.drew.alloc (.cells ((([] : List Value).toArray ++ Builtin.zeroCells (Value.cells (.slice none 0 0)) n) ++ Builtin.zeroCells (Value.cells (.slice none 0 0)) (grownCap w n 0 57 - n)) 57)) := fun ty => by
      have h := Lib.run_append_grow_zeros w 145 3 ty 57 i0 (.slice none 0 0) .i64 .i64 Tryz.underlying145 Tryz.underlying3 hi hz0 none 0 0 [] (run_firstCells_none w.drew i0.size 0 0 0) n (by omega) (by rw [hz1]; decide) (by omega) (by omega)
        (by rw [hz2]; omega)
        (by rw [Nat.zero_add]; exact growslice_fits (by omega) (by rw [hz2]; omega))
      rw [Nat.zero_add] at h
      exact h
    have hGn : n ≤ grownCap w n 0 57 := grownCap_ge w _ _ _
    have hGm := grownCap_le_maxLen w n 0 57 (by unfold maxLen; omega)
    obtain ⟨G, hG⟩ : ∃ G, grownCap w n 0 57 = G := ⟨_, rfl⟩
    rw [hG] at hrz hGn hGm
    obtain ⟨cells, hcells⟩ : ∃ cells, (([] : List Value).toArray ++ Builtin.zeroCells (Value.cells (.slice none 0 0)) n) ++ Builtin.zeroCells (Value.cells (.slice none 0 0)) (G - n) = cells := ⟨_, rfl⟩
    rw [hcells] at hrz
    have hGM := hid0 hGm
    unfold maxLen at hGm
    have hown := World.ownsRow_made (e := 57) (size := 1) (base := w.heap.size) w cells G (Nat.le_refl _) hGM.out (by rw [← hcells]; simp [Builtin.zeroCells, Value.cells]; try omega)
    have HO := hid0 hown
    clear hG hown hcells hi hz0 hz1 hz2
    go_enter Tryz.func195, Tryz.ntmps195
    go_wp2_with (at_builtin; refine Lib.wpList_append_run _ rfl _ _ _ _ rfl _ _ rfl rfl _ _ (hrz _) ?_)
    all_goals (go_ret; exact ⟨⟨_, rfl, HO.out⟩, Below.drew ((Below.refl _ _).alloc (Nat.le_refl _) _)⟩)
theorem app_noneCL {w : World} {ops : Array Oper} {rest : List Oper} {o : Oper} {a : Act} {Q : Exit → Act → World → Prop} (hgd : o.guard = none) (s x : Operand)
    (ho : o.op = .call { callee := .builtin .append, args := #[s, x], argTypes := #[145, 145] }) {i0 : TypeInfo} (hi : Tryz.prog.info? 57 = some i0)
    {v : Value} (hs : a.eval s = v) {base n : Nat} {xs : List Value} (hown : w.ownsRow base 57 1 v n xs) (c : Nat) (hx : a.eval x = .slice none 0 c)
    (h : wpList Tryz.prog ops Q rest (a.put o.dst v) w) : wpList Tryz.prog ops Q (o :: rest) a w := by
  refine wpList_plain hgd fun K hK => ?_
  obtain ⟨b, c', hv, hc'⟩ := own_shapeD hown
  have hr := append_nilD (P := Tryz.prog) w 145 o.type 57 i0 Tryz.underlying145 hi b n c' c hc'
  rw [← hv] at hr
  unfold Oper.wp execOp
  simp only [ho, resolve, invoke, builtin, Sem.run_bind, Sem.run_pure, Result.andThen_ok, List.map_toArray, List.map_cons, List.map_nil, hs, hx, hr]
  exact hK _ _ h
set_option maxHeartbeats 2000000 in
set_option maxRecDepth 1000000 in
theorem concatCL_any (a : Option Addr) (c : Nat) (Ls : List CLL) (w : World) (h : CLAtL w a Ls) (hl : Ls.length ≤ 1000000) (hs : catNL Ls ≤ 1000000) :
    Calls Tryz.prog 138 #[.slice a Ls.length c] w fun e w' => (∃ v, e = .returned v ∧ w'.ownsRow w.heap.size 57 1 v (catNL Ls) (catCL Ls)) ∧ Below w.heap.size w w' := by
  obtain ⟨i0, hi, hz0, hz1, hz2⟩ := info_parts infoCL
  have A := hid0 h
  clear h
  have hpart := catNL_part Ls
  have HP := hid0 hpart
  clear hpart
  have G := hid0 (fun W => growCL_any (catNL Ls) W (by omega))
  go_enter Tryz.func138, Tryz.ntmps138
  go_wp2
  go_loopw [3, 11] (fun sv iv wr => ∃ i : Nat, i ≤ Ls.length ∧ iv = .int .i64 i ∧ sv = .int .i64 (catNL (Ls.take i) : Int) ∧ w = wr) (fun _ iv _ => Ls.length - (intOf iv).toNat)
  case atStart => exact ⟨0, Nat.zero_le _, rfl, rfl, rfl⟩
  case round =>
    obtain ⟨i, hi', rfl, rfl, rfl⟩ := hrel
    by_cases hlt : i < Ls.length
    · obtain ⟨b1, o1, rfl, hc1⟩ := A.out.out (by intro e; rw [e] at hlt; exact absurd hlt (by simp))
      have q0 := hc1 i hlt
      clear hc1
      have hst := catNL_take hlt
      have hle := HP.out (i + 1)
      generalize catNL (Ls.take (i + 1)) = S1 at hst hle
      have HT := hid0 (catNL_take hlt)
      generalize hS : catNL (Ls.take i) = S at hst
      have HSS := hid0 hS
      clear hS
      have hw : IntKind.i64.wrap ((S : Int) + (Ls[i].n : Int)) = (S1 : Int) := by rw [hst, IntWalk.i64_in _ (by omega)]; omega
      have hneg : ¬ (S1 : Int) < 0 := by omega
      go_wp2
      exact ⟨⟨i + 1, by omega, by go_num, by rw [HT.out, HSS.out]; push_cast; rfl, by first | trivial | rfl⟩, by simp [intOf]; omega⟩
    · have hie : ¬ (i : Int) < Ls.length := by omega
      rw [List.take_of_length_le (by omega)]
      obtain ⟨N, hN⟩ : ∃ N, catNL Ls = N := ⟨_, rfl⟩
      rw [hN] at G hs ⊢
      have HN := hid0 hN
      have HLI := hid0 hs
      clear hN hs
      go_wp2_with (go_at_call 195; refine (G.out _).mono ?_; rintro e w1 ⟨⟨v1, rfl, hown1⟩, hb1⟩)
      have HO := hid0 hown1
      clear hown1
      go_loopw [6, 27] (fun nv jv wr => ∃ j : Nat, j ≤ Ls.length ∧ jv = .int .i64 j ∧ Hid (wr.ownsRow w.heap.size 57 1 nv (catNL (Ls.take j)) (catCL (Ls.take j))) ∧ Below w.heap.size w wr) (fun _ jv _ => Ls.length - (intOf jv).toNat)
      case atStart => exact ⟨0, Nat.zero_le _, rfl, HO, hb1⟩
      case round =>
        obtain ⟨j, hj, rfl, hown, hB⟩ := hrel
        have hsz := hB.size
        clear hb1 HO
        by_cases hlt : j < Ls.length
        · have hA := A.out.later hB
          obtain ⟨b1, o1, rfl, hc1⟩ := hA.out (by intro e; rw [e] at hlt; exact absurd hlt (by simp))
          have q0 := hc1 j hlt
          clear hc1
          obtain ⟨hrow, hxl, hone⟩ := hA.ok _ (List.getElem_mem hlt)
          clear hA
          have hst := catCL_take hlt
          have hsn := catNL_take hlt
          have hle := HP.out (j + 1)
          rw [hsn, HN.out] at hle
          have HST := hid0 hst
          have HSN := hid0 hsn
          have HLE := hid0 hle
          clear hst hsn hle
          generalize catCL (Ls.take j) = C at hown HST
          generalize catNL (Ls.take j) = S at hown HSN HLE
          generalize hx : Ls[j] = x at q0 hrow hxl hone HST HSN HLE
          clear hx
          obtain ⟨xa, xc, xn, xr⟩ := x
          dsimp only at q0 hrow hxl hone HST HSN HLE
          have hle2 : S + xn ≤ 1000000 := Nat.le_trans HLE.out HLI.out
          cases xa with
          | none =>
            obtain rfl : xr = [] := by
              by_cases hn : xr = []
              · exact hn
              · obtain ⟨_, _, e, _⟩ := hrow hn; cases e
            obtain rfl : xn = 0 := by simp at hxl; omega
            rw [List.append_nil] at HST
            rw [Nat.add_zero] at HSN
            go_wp2_with (at_builtin; refine app_noneCL rfl _ _ rfl hi rfl hown.out _ rfl ?_)
            exact ⟨⟨j + 1, by omega, by go_num, by rw [HST.out, HSN.out]; exact hown, hB⟩, by simp [intOf]; omega⟩
          | some ad =>
            have hcell : ∀ k u, xr[k]? = some u → wr.cell? (ad.add k) = some u := by
              by_cases hn : xr = []
              · subst hn; intro k u hk; simp at hk
              · obtain ⟨b, o, e, hc⟩ := hrow hn
                obtain rfl : ad = ⟨b, o, none⟩ := by simpa using e
                intro k u hk
                rw [WideShapes.add_plain]
                exact hc k u hk
            have HC := hid0 hcell
            have HXL := hid0 hxl
            have HONE := hid0 hone
            clear hcell hrow hxl hone
            go_wp2_with (at_builtin; go_must (refine wpList_append_own _ rfl _ _ 145 rfl w.heap.size 57 i0 (.slice none 0 0) 1 24 Tryz.underlying145 hi hz0 hz1 hz2 rfl (by decide) _ _ _ rfl hown.out ad xn xc xr rfl HXL.out HC.out HONE.out ?c3 ?c4 ?c5 ?_))
            case c3 => unfold maxLen; omega
            case c4 => omega
            case c5 => exact hsz
            intro v' w2 hown' hgrow _
            have hB2 : Below w.heap.size w w2 := hB.grown hgrow hsz (fun k hk => (hown.out.lt k hk).1)
            have HO' := hid0 hown'
            clear hown' hgrow hown
            go_wp2
            exact ⟨⟨j + 1, by omega, by go_num, hid0 (by rw [HST.out, HSN.out]; exact HO'.out), hB2⟩, by simp [intOf]; omega⟩
        · have hie : ¬ (j : Int) < Ls.length := by omega
          rw [List.take_of_length_le (by omega)] at hown
          go_wp2
          go_ret
          exact ⟨⟨_, rfl, by rw [← HN.out]; exact hown.out⟩, hB⟩
end Go.Proofs.YtfdkajefcplfjaaGreat

/- The project's layer 14 (delta): of: the rows of several names: the contract of the call, in whatever memory. Conditions: the names' cells are known. -/
namespace Go.Proofs.YtfdkajefcplfjaaGreat
open Go.RowKit

def ofD (l : List Nx) (fs : List ByteArray) : List Value := fs.map fun s => slcOf l s.data.toList
theorem ofD_take {l : List Nx} {fs : List ByteArray} {i : Nat} (h : i < fs.length) : ofD l (fs.take (i + 1)) = ofD l (fs.take i) ++ [slcOf l fs[i].data.toList] := by
  unfold ofD
  rw [List.take_succ_eq_append_getElem h, List.map_append]
  rfl
set_option maxRecDepth 100000 in
set_option maxHeartbeats 4000000 in
theorem dOf_any (b : Nat) (l : List Nx) (a : Option Addr) (c : Nat) (fs : List ByteArray) (w : World) (hT : SrcD w b l) (hL : StrsA w a fs) (hl : fs.length ≤ 1000000) :
    Calls Tryz.prog 139 #[.map (some b), .slice a fs.length c] w fun e w' => (∃ v, e = .returned v ∧ w'.ownsRow w.heap.size 57 1 v fs.length (ofD l fs)) ∧ Below w.heap.size w w' := by
  obtain ⟨i0, hi, hz0, hz1, hz2⟩ := info_parts infoCL
  have HT := hid0 hT
  have HL := hid0 hL
  clear hT hL
  obtain ⟨N, hN⟩ : ∃ N, fs.length = N := ⟨_, rfl⟩
  rw [hN] at hl ⊢
  have HN := hid0 hN
  clear hN
  go_enter Tryz.func139, Tryz.ntmps139
  go_wp2
  go_loopw [5, 10] (fun lv iv wr => ∃ i : Nat, i ≤ N ∧ iv = .int .i64 i ∧ Hid (wr.ownsRow w.heap.size 57 1 lv i (ofD l (fs.take i))) ∧ Below w.heap.size w wr) (fun _ iv _ => N - (intOf iv).toNat)
  case atStart => exact ⟨0, Nat.zero_le _, rfl, hid0 (World.ownsRow_nil _ _ _ _), Below.refl _ _⟩
  case round =>
    obtain ⟨i, hi', rfl, hown, hB⟩ := hrel
    have hsz := hB.size
    by_cases hlt : i < N
    · have g1 : i < fs.length := by rw [HN.out]; exact hlt
      obtain ⟨b3, o3, rfl, hcl⟩ := (HL.out.later hB).out (fun e => by rw [e] at g1; simp at g1)
      have q0 := hcl i g1
      have hss := HL.out.small _ (List.getElem_mem g1)
      have htk := ofD_take (l := l) g1
      generalize fs[i] = s at q0 hss htk
      have hk1 := (HT.out.later hB).look false hss
      obtain ⟨a2, n2, c2, e2⟩ : ∃ a n c, slcOf l s.data.toList = .slice a n c := by
        unfold slcOf
        cases findN l s.data.toList with
        | some x => exact ⟨x.a, x.E.length, x.c, rfl⟩
        | none => exact ⟨none, 0, 0, rfl⟩
      rw [e2] at hk1 htk
      simp only [Bool.false_eq_true, if_false] at hk1
      have HTK := hid0 htk
      have hlt' : (i : Int) < (N : Int) := by omega
      have hownA := hown.out.alloc (Obj.cells #[.slice a2 n2 c2] 57)
      have hBA := Below.alloc hB hsz (Obj.cells #[.slice a2 n2 c2] 57)
      have hcA : (wr.alloc (Obj.cells #[.slice a2 n2 c2] 57)).cell? ⟨wr.heap.size, 0, none⟩ = some (.slice a2 n2 c2) := by go_cell
      clear hcl hss htk g1 e2
      go_wp2_with (at_builtin; go_must (refine wpList_append_own _ rfl _ _ 145 rfl w.heap.size 57 i0 (.slice none 0 0) 1 24 Tryz.underlying145 hi hz0 hz1 hz2 rfl (by decide) _ _ _ rfl hownA ⟨wr.heap.size, 0, none⟩ 1 1 [.slice a2 n2 c2] rfl rfl ?c1 ?c2 ?c3 ?c4 ?c5 ?_))
      case c1 =>
        intro j u hj
        match j, hj with
        | 0, hj => simp at hj; subst hj; rw [WideShapes.add_plain]; exact hcA
        | j + 1, hj => simp at hj
      case c2 => intro u hu; simp at hu; subst hu; rfl
      case c3 => unfold maxLen; omega
      case c4 => omega
      case c5 => exact hBA.size
      intro v' w2 hown' hgrow _
      have hB2 : Below w.heap.size w w2 := hBA.grown hgrow hBA.size (fun k hk => (hownA.lt k hk).1)
      have HO' := hid0 hown'
      clear hown' hgrow hown hownA
      go_wp2
      exact ⟨⟨i + 1, by omega, by go_num, hid0 (by rw [HTK.out]; exact HO'.out), hB2⟩, by simp [intOf]; omega⟩
    · have hie : ¬ (i : Int) < (N : Int) := by omega
      obtain rfl : i = N := by omega
      rw [List.take_of_length_le (by rw [HN.out]; omega)] at hown
      go_wp2
      go_ret
      exact ⟨⟨_, rfl, hown.out⟩, hB⟩
end Go.Proofs.YtfdkajefcplfjaaGreat

/- The project's layer 14 (delta): whether one of the changes isn't a bag: the contract of the call, in whatever memory. Conditions: the names' cells are known. -/
namespace Go.Proofs.YtfdkajefcplfjaaGreat
open Go.RowKit

set_option maxHeartbeats 1000000 in
theorem indexNx_wrong (a : Option Addr) (c : Nat) (E : List Nx) (q : Nx → Bool) (rb : Bool) (hrb : E.any q = rb) (w : World) (h : NsOk w a E)
    (CP : ∀ e ∈ E, ∀ W, Below w.heap.size w W → Calls Tryz.prog 51 #[.agg #[.string e.s, .slice e.a e.E.length e.c]] W fun e' w' => e' = .returned (.bool (q e)) ∧ Below W.heap.size W w') :
    Calls Tryz.prog 87 #[.slice a E.length c, .func (.func 51) #[] #[]] w fun e w' => (∃ r : Int, e = .returned (.int .i64 r) ∧ IsAt r rb) ∧ Below w.heap.size w w' := by
  have A := hid0 h
  have hfew := h.few
  have HR := hid0 hrb
  have HC := hid0 CP
  clear h hrb CP
  go_enter Tryz.func87, Tryz.ntmps87
  go_wp2
  go_loopw [8] (fun iv wr => ∃ i : Nat, i ≤ E.length ∧ iv = .int .i64 i ∧ Hid ((E.take i).all (fun x => !q x) = true) ∧ Below w.heap.size w wr) (fun iv _ => E.length - (intOf iv).toNat)
  case atStart => exact ⟨0, Nat.zero_le _, rfl, hid0 rfl, Below.refl _ _⟩
  case round =>
    obtain ⟨i, hi, rfl, hO, hB⟩ := hrel
    have hsz := hB.size
    by_cases hlt : i < E.length
    · obtain ⟨b1, o1, rfl, hb1, hR⟩ := (A.out.later hB).name i hlt
      have q0 := rng hR 0 rfl
      have q1 := rng hR 1 rfl
      rw [Nat.add_zero] at q0
      clear hR
      have hmem := List.getElem_mem hlt
      have hnext := hid0 (fun hf => all_take hlt hO.out hf)
      have CX := HC.out _ hmem
      generalize E[i] = x at q0 q1 hmem hnext CX
      have HM := hid0 (fun hx : q x = true => (List.any_eq_true.2 ⟨x, hmem, hx⟩ : E.any q = true))
      have CX := hid0 CX
      have hBZ := hB
      clear hmem
      generalize q x = ra at CX hnext HM
      cases ra with
      | true =>
        go_wp2_with (go_at_call 51; go_must (refine (CX.out _ hBZ).mono ?_; rintro e wn ⟨rfl, hbn⟩))
        go_ret
        exact ⟨⟨i, rfl, by rw [← HR.out, HM.out (by trivial)]; unfold IsAt; simp⟩, below_through hbn hsz hB⟩
      | false =>
        go_wp2_with (go_at_call 51; go_must (refine (CX.out _ hBZ).mono ?_; rintro e wn ⟨rfl, hbn⟩))
        exact ⟨⟨i + 1, by omega, by go_num, hid0 (hnext.out (by trivial)), below_through hbn hsz hB⟩, by simp [intOf]; omega⟩
    · have hie : ¬ (i : Int) < E.length := by omega
      rw [List.take_of_length_le (by omega)] at hO
      go_wp2
      go_ret
      exact ⟨⟨-1, rfl, by
        have := hO.out
        have h2 : E.any q = false := by
          rw [List.any_eq_false]
          intro x hx
          simpa using List.all_eq_true.1 this x hx
        rw [← HR.out, h2]; rfl⟩, hB⟩
theorem containsNx_wrong (a : Option Addr) (c : Nat) (E : List Nx) (q : Nx → Bool) (w : World) (h : NsOk w a E)
    (CP : ∀ e ∈ E, ∀ W, Below w.heap.size w W → Calls Tryz.prog 51 #[.agg #[.string e.s, .slice e.a e.E.length e.c]] W fun e' w' => e' = .returned (.bool (q e)) ∧ Below W.heap.size W w') :
    Calls Tryz.prog 50 #[.slice a E.length c, .func (.func 51) #[] #[]] w fun e w' => e = .returned (.bool (E.any q)) ∧ Below w.heap.size w w' := by
  obtain ⟨rb, hrb⟩ : ∃ rb, E.any q = rb := ⟨_, rfl⟩
  have H := hid0 (indexNx_wrong a c E q rb hrb w h CP)
  rw [hrb]
  clear h CP hrb
  go_enter Tryz.func50, Tryz.ntmps50
  go_wp2_with (go_at_call 87; refine H.out.mono ?_; rintro e w1 ⟨⟨r, rfl, HR⟩, hb⟩)
  go_ret
  exact ⟨ret_bool HR, hb⟩
theorem dWrongs_any (a : Option Addr) (c : Nat) (l : List Nx) (w : World) (h : NsOk w a l) :
    Calls Tryz.prog 50 #[.slice a l.length c, .func (.func 51) #[] #[]] w fun e w' => e = .returned (.bool (l.any fun x => !rightE x.E)) ∧ Below w.heap.size w w' :=
  containsNx_wrong a c l (fun x => !rightE x.E) w h (fun x hx W hW => dWrong_any x W ((h.ok x hx).1.later hW))
end Go.Proofs.YtfdkajefcplfjaaGreat

/- The project's layer 14 (delta): whether one of the parts is grouped or has Distinct: the contract of the call, in whatever memory. Conditions: the parts' cells are known. -/
namespace Go.Proofs.YtfdkajefcplfjaaGreat
open Go.RowKit

set_option maxHeartbeats 1000000 in
theorem indexPx_sum {n : Nat} (a : Option Addr) (c : Nat) (E : List Px) (q : Px → Bool) (rb : Bool) (hrb : E.any q = rb) (w : World) (h : PsOk w n a c E)
    (CP : ∀ e ∈ E, ∀ W, Below w.heap.size w W → Calls Tryz.prog 56 #[.agg e.cells.toArray] W fun e' w' => e' = .returned (.bool (q e)) ∧ Below W.heap.size W w') :
    Calls Tryz.prog 92 #[.slice a E.length c, .func (.func 56) #[] #[]] w fun e w' => (∃ r : Int, e = .returned (.int .i64 r) ∧ IsAt r rb) ∧ Below w.heap.size w w' := by
  have A := hid0 h
  have hfew := h.few
  have HR := hid0 hrb
  have HC := hid0 CP
  clear h hrb CP
  go_enter Tryz.func92, Tryz.ntmps92
  go_wp2
  go_loopw [8] (fun iv wr => ∃ i : Nat, i ≤ E.length ∧ iv = .int .i64 i ∧ Hid ((E.take i).all (fun x => !q x) = true) ∧ Below w.heap.size w wr) (fun iv _ => E.length - (intOf iv).toNat)
  case atStart => exact ⟨0, Nat.zero_le _, rfl, hid0 rfl, Below.refl _ _⟩
  case round =>
    obtain ⟨i, hi, rfl, hO, hB⟩ := hrel
    have hsz := hB.size
    by_cases hlt : i < E.length
    · obtain ⟨b1, o1, rfl, hb1, hR⟩ := (A.out.later hB).part i hlt
      have hmem := List.getElem_mem hlt
      have hnext := hid0 (fun hf => all_take hlt hO.out hf)
      have CX := HC.out _ hmem
      generalize E[i] = x at hR hmem hnext CX
      have HM := hid0 (fun hx : q x = true => (List.any_eq_true.2 ⟨x, hmem, hx⟩ : E.any q = true))
      have hl := x.cells_len
      generalize x.cells = us at hR CX hl
      have CX := hid0 CX
      have hBZ := hB
      clear hmem
      generalize q x = ra at CX hnext HM
      cases ra with
      | true =>
        go_wp2_with (first | ((with_reducible refine wp_getB hR Tryz.underlying50 ?_ ?_ ?_ ?_); (rfl); (rw [hl]; exact sizePx); (rfl); simp only [Act.put]) | (go_at_call 56; go_must (refine (CX.out _ hBZ).mono ?_; rintro e wn ⟨rfl, hbn⟩)) | fail)
        go_ret
        exact ⟨⟨i, rfl, by rw [← HR.out, HM.out (by trivial)]; unfold IsAt; simp⟩, below_through hbn hsz hB⟩
      | false =>
        go_wp2_with (first | ((with_reducible refine wp_getB hR Tryz.underlying50 ?_ ?_ ?_ ?_); (rfl); (rw [hl]; exact sizePx); (rfl); simp only [Act.put]) | (go_at_call 56; go_must (refine (CX.out _ hBZ).mono ?_; rintro e wn ⟨rfl, hbn⟩)) | fail)
        exact ⟨⟨i + 1, by omega, by go_num, hid0 (hnext.out (by trivial)), below_through hbn hsz hB⟩, by simp [intOf]; omega⟩
    · have hie : ¬ (i : Int) < E.length := by omega
      rw [List.take_of_length_le (by omega)] at hO
      go_wp2
      go_ret
      exact ⟨⟨-1, rfl, by
        have := hO.out
        have h2 : E.any q = false := by
          rw [List.any_eq_false]
          intro x hx
          simpa using List.all_eq_true.1 this x hx
        rw [← HR.out, h2]; rfl⟩, hB⟩
theorem containsPx_sum {n : Nat} (a : Option Addr) (c : Nat) (E : List Px) (q : Px → Bool) (w : World) (h : PsOk w n a c E)
    (CP : ∀ e ∈ E, ∀ W, Below w.heap.size w W → Calls Tryz.prog 56 #[.agg e.cells.toArray] W fun e' w' => e' = .returned (.bool (q e)) ∧ Below W.heap.size W w') :
    Calls Tryz.prog 55 #[.slice a E.length c, .func (.func 56) #[] #[]] w fun e w' => e = .returned (.bool (E.any q)) ∧ Below w.heap.size w w' := by
  obtain ⟨rb, hrb⟩ : ∃ rb, E.any q = rb := ⟨_, rfl⟩
  have H := hid0 (indexPx_sum a c E q rb hrb w h CP)
  rw [hrb]
  clear h CP hrb
  go_enter Tryz.func55, Tryz.ntmps55
  go_wp2_with (go_at_call 92; refine H.out.mono ?_; rintro e w1 ⟨⟨r, rfl, HR⟩, hb⟩)
  go_ret
  exact ⟨ret_bool HR, hb⟩
theorem dSummaries_any {n : Nat} (a : Option Addr) (c : Nat) (ps : List Px) (w : World) (h : PsOk w n a c ps) :
    Calls Tryz.prog 55 #[.slice a ps.length c, .func (.func 56) #[] #[]] w fun e w' => e = .returned (.bool (ps.any sumyB)) ∧ Below w.heap.size w w' :=
  containsPx_sum a c ps sumyB w h (fun p hp W hW => dSummary_any p W ((h.ok p hp).later hW))
end Go.Proofs.YtfdkajefcplfjaaGreat

/- The project's layer 14 (delta): lists of lists of elements; whether one of them is empty: the contract of the call, in whatever memory. Conditions: the lists' cells are known. -/
namespace Go.Proofs.YtfdkajefcplfjaaGreat
open Go.RowKit

/-- A list of elements, as its slice tells it. -/
structure BX where
  a : Option Addr
  c : Nat
  E : List Elem
def BX.val (x : BX) : Value := .slice x.a x.E.length x.c
structure BsAt (w : World) (a : Option Addr) (l : List BX) : Prop where
  out : l ≠ [] → ∃ b off, a = some ⟨b, off, none⟩ ∧ ∀ i (h : i < l.length), w.cell? ⟨b, off + i, none⟩ = some (.slice l[i].a l[i].E.length l[i].c)
theorem BsAt.later {w w' : World} {a : Option Addr} {l : List BX} (h : BsAt w a l) (hb : Below w.heap.size w w') : BsAt w' a l := ⟨fun hn => by
  obtain ⟨b, off, e, hc⟩ := h.out hn
  exact ⟨b, off, e, fun i hi => cell_later hb (hc i hi)⟩⟩
set_option maxHeartbeats 1000000 in
theorem indexBx_empty (a : Option Addr) (c : Nat) (E : List BX) (q : BX → Bool) (rb : Bool) (hrb : E.any q = rb) (w : World) (h : BsAt w a E) (hfew : E.length ≤ 1000000)
    (CP : ∀ e ∈ E, ∀ W, Below w.heap.size w W → Calls Tryz.prog 197 #[.slice e.a e.E.length e.c] W fun e' w' => e' = .returned (.bool (q e)) ∧ Below W.heap.size W w') :
    Calls Tryz.prog 243 #[.slice a E.length c, .func (.func 197) #[] #[]] w fun e w' => (∃ r : Int, e = .returned (.int .i64 r) ∧ IsAt r rb) ∧ Below w.heap.size w w' := by
  have A := hid0 h
  have HR := hid0 hrb
  have HC := hid0 CP
  clear h hrb CP
  go_enter Tryz.func243, Tryz.ntmps243
  go_wp2
  go_loopw [8] (fun iv wr => ∃ i : Nat, i ≤ E.length ∧ iv = .int .i64 i ∧ Hid ((E.take i).all (fun x => !q x) = true) ∧ Below w.heap.size w wr) (fun iv _ => E.length - (intOf iv).toNat)
  case atStart => exact ⟨0, Nat.zero_le _, rfl, hid0 rfl, Below.refl _ _⟩
  case round =>
    obtain ⟨i, hi, rfl, hO, hB⟩ := hrel
    have hsz := hB.size
    by_cases hlt : i < E.length
    · obtain ⟨b1, o1, rfl, hc1⟩ := (A.out.later hB).out (by intro e; rw [e] at hlt; exact absurd hlt (by simp))
      have q0 := hc1 i hlt
      clear hc1
      have hmem := List.getElem_mem hlt
      have hnext := hid0 (fun hf => all_take hlt hO.out hf)
      have CX := HC.out _ hmem
      generalize E[i] = x at q0 hmem hnext CX
      have HM := hid0 (fun hx : q x = true => (List.any_eq_true.2 ⟨x, hmem, hx⟩ : E.any q = true))
      have CX := hid0 CX
      have hBZ := hB
      clear hmem
      generalize q x = ra at CX hnext HM
      cases ra with
      | true =>
        go_wp2_with (go_at_call 197; go_must (refine (CX.out _ hBZ).mono ?_; rintro e wn ⟨rfl, hbn⟩))
        go_ret
        exact ⟨⟨i, rfl, by rw [← HR.out, HM.out (by trivial)]; unfold IsAt; simp⟩, below_through hbn hsz hB⟩
      | false =>
        go_wp2_with (go_at_call 197; go_must (refine (CX.out _ hBZ).mono ?_; rintro e wn ⟨rfl, hbn⟩))
        exact ⟨⟨i + 1, by omega, by go_num, hid0 (hnext.out (by trivial)), below_through hbn hsz hB⟩, by simp [intOf]; omega⟩
    · have hie : ¬ (i : Int) < E.length := by omega
      rw [List.take_of_length_le (by omega)] at hO
      go_wp2
      go_ret
      exact ⟨⟨-1, rfl, by
        have := hO.out
        have h2 : E.any q = false := by
          rw [List.any_eq_false]
          intro x hx
          simpa using List.all_eq_true.1 this x hx
        rw [← HR.out, h2]; rfl⟩, hB⟩
theorem containsBx_empty (a : Option Addr) (c : Nat) (E : List BX) (q : BX → Bool) (w : World) (h : BsAt w a E) (hfew : E.length ≤ 1000000)
    (CP : ∀ e ∈ E, ∀ W, Below w.heap.size w W → Calls Tryz.prog 197 #[.slice e.a e.E.length e.c] W fun e' w' => e' = .returned (.bool (q e)) ∧ Below W.heap.size W w') :
    Calls Tryz.prog 196 #[.slice a E.length c, .func (.func 197) #[] #[]] w fun e w' => e = .returned (.bool (E.any q)) ∧ Below w.heap.size w w' := by
  obtain ⟨rb, hrb⟩ : ∃ rb, E.any q = rb := ⟨_, rfl⟩
  have H := hid0 (indexBx_empty a c E q rb hrb w h hfew CP)
  rw [hrb]
  clear h CP hrb
  go_enter Tryz.func196, Tryz.ntmps196
  go_wp2_with (go_at_call 243; refine H.out.mono ?_; rintro e w1 ⟨⟨r, rfl, HR⟩, hb⟩)
  go_ret
  exact ⟨ret_bool HR, hb⟩
theorem dEmpties_any (a : Option Addr) (c : Nat) (l : List BX) (w : World) (h : BsAt w a l) (hfew : l.length ≤ 1000000) :
    Calls Tryz.prog 196 #[.slice a l.length c, .func (.func 197) #[] #[]] w fun e w' => e = .returned (.bool (l.any fun x => (x.E.length : Int) == 0)) ∧ Below w.heap.size w w' :=
  containsBx_empty a c l (fun x => (x.E.length : Int) == 0) w h hfew (fun x _ W _ => (dEmpty_any x.a x.E.length x.c W).mono (by
    rintro e w' ⟨he, rfl⟩
    exact ⟨he, Below.refl _ _⟩))
end Go.Proofs.YtfdkajefcplfjaaGreat
