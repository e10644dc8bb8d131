/- The project's once: the names, each with what it reads once, as a list of one's own: the contract of the call. Conditions: the names' cells are known. -/
import Derived.Test.YtadlelhdjakmmaaN4
namespace Go.Proofs.Ytadlelhdjakmmaa
open Go.RowKit

theorem infoNn : (Try.prog.info? 35).map (fun i => (i.zero, i.size, i.bytes)) = some (some (.agg #[.string ⟨#[]⟩, .slice none 0 0]), 2, 40) := by kernel_rfl
def cellsNn (l : List Nn) : List Value := l.flatMap Nn.cells
theorem cellsNn_snoc (l : List Nn) (x : Nn) : cellsNn (l ++ [x]) = cellsNn l ++ [.string x.s, .slice x.a x.rs.length x.c] := by simp [cellsNn, Nn.cells]
theorem cellsNn_len : ∀ l, (cellsNn l).length = l.length * 2
  | [] => rfl
  | x :: l => by
    have := cellsNn_len l
    unfold cellsNn at *
    simp [Nn.cells] at *
    omega
theorem cellsNn_at : ∀ (l : List Nn) (i : Nat) (h : i < l.length), (cellsNn l)[i * 2]? = some (.string l[i].s) ∧ (cellsNn l)[i * 2 + 1]? = some (.slice l[i].a l[i].rs.length l[i].c)
  | x :: l, 0, _ => ⟨rfl, rfl⟩
  | x :: l, i + 1, h => by
    have := cellsNn_at l i (by simpa using h)
    have e : cellsNn (x :: l) = .string x.s :: .slice x.a x.rs.length x.c :: cellsNn l := rfl
    rw [e, show (i + 1) * 2 = i * 2 + 2 by omega]
    simpa using this
/-- Below base all is as it was, and each block of another type than e. -/
structure KeptT (e : TypeId) (base : Nat) (w w' : World) : Prop where
  below : Below base w w'
  other : ∀ (B : Nat) cs fz (t : TypeId), t ≠ e → w.heap[B]? = some (Obj.cells cs t fz) → w'.heap[B]? = some (Obj.cells cs t fz)
theorem keptT_grown {e : TypeId} {size n : Nat} {xs : List Value} {w w' : World} {base : Nat} {v : Value} (h : w.ownsRow base e size v n xs) (hb : base ≤ w.heap.size) (hg : w.grownBy w' v.ownBlock) : KeptT e base w w' := by
  refine ⟨(Below.refl _ _).grown hg hb (fun k hk => (h.lt k hk).1), fun B cs fz t ht hB => ?_⟩
  rw [hg.block B (Array.getElem?_eq_some_iff.1 hB).1 (fun hB' => ?_)]; exact hB
  rcases h.2 with ⟨rfl, _⟩ | ⟨g, cap, cur, rfl, _, hh, _⟩
  · cases hB'
  · have hB' : B = g := Option.some.inj hB'
    subst hB'
    rw [hh] at hB
    obtain ⟨-, h2, -⟩ := Obj.cells.inj (Option.some.inj hB)
    exact ht h2.symm
/-- A list whose block is of the kind of lists of names. -/
def TagS (w : World) (a : Option Addr) : Prop := ∀ ad, a = some ad → ∃ cs fz, w.heap[ad.block]? = some (Obj.cells cs 9 fz)
theorem TagS.later {w w' : World} {a : Option Addr} (h : TagS w a) (hb : Below w.heap.size w w') : TagS w' a := fun ad e => by
  obtain ⟨cs, fz, hh⟩ := h ad e
  exact ⟨cs, fz, (hb.block ad.block (Array.getElem?_eq_some_iff.1 hh).1).trans hh⟩
theorem NodeOk.keptN {w w' : World} {x : Nn} {base : Nat} (h : NodeOk w x ∧ TagS w x.a) (hK : KeptT 35 base w w') : NodeOk w' x ∧ TagS w' x.a := by
  refine ⟨⟨⟨fun hn => ?_, h.1.rs.small⟩, h.1.cap, h.1.few, h.1.small⟩, fun ad e => ?_⟩
  · obtain ⟨b, off, e, hc⟩ := h.1.rs.out hn
    obtain ⟨cs, fz, hh⟩ := h.2 _ e
    have hh' := hK.other b cs fz 9 (by decide) hh
    exact ⟨b, off, e, fun i hi => (World.cell?_of_block (by rw [hh']; exact hh.symm)).trans (hc i hi)⟩
  · obtain ⟨cs, fz, hh⟩ := h.2 ad e
    exact ⟨cs, fz, hK.other _ cs fz 9 (by decide) hh⟩
/-- A list of names and what they read, of one's own. -/
structure OnceAt (w W : World) (v : Value) (l : List Nn) : Prop where
  own : W.ownsRow w.heap.size 35 2 v l.length (cellsNn l)
  ok : ∀ x ∈ l, NodeOk W x ∧ TagS W x.a
  b : Below w.heap.size w W
theorem OnceAt.nil {w W : World} (hb : Below w.heap.size w W) : OnceAt w W (.slice none 0 0) [] := ⟨World.ownsRow_nil _ _ _ _, fun x hx => absurd hx (by simp), hb⟩
theorem OnceAt.below {w W W' : World} {v : Value} {l : List Nn} (h : OnceAt w W v l) (hb : Below W.heap.size W W') : OnceAt w W' v l := ⟨own_belowY h.own hb, fun x hx => ⟨(h.ok x hx).1.later hb, (h.ok x hx).2.later hb⟩, below_through hb h.b.size h.b⟩
theorem OnceAt.ne {w W : World} {v : Value} {l : List Nn} (h : OnceAt w W v l) : v.ownBlock ≠ some W.heap.size := fun e => absurd (h.own.lt _ e).2 (Nat.lt_irrefl _)
theorem two_new (w : World) (u v : Value) (ty : TypeId) : (w.alloc (.cells #[u, v] ty)).cell? ⟨w.heap.size, 0, none⟩ = some u ∧ (w.alloc (.cells #[u, v] ty)).cell? ⟨w.heap.size, 1, none⟩ = some v :=
  ⟨(VarB.new w [u, v] ty).cell 0 rfl, (VarB.new w [u, v] ty).cell 1 rfl⟩
/-- A name appended, in a region whose order is drawn. -/
theorem step_nn {w0 w : World} {ops : Array Oper} {o : Oper} {a : Act} {K : Act → World → Prop} {Q : Exit → Act → World → Prop} {X : Prop} (hgd : o.guard = none) (s x : Operand)
    (ho : o.op = .call { callee := .builtin .append, args := #[s, x], argTypes := #[22, 22] })
    {v : Value} {l : List Nn} (hs : a.eval s = v) (hm : OnceAt w0 w v l)
    (e : Nn) (B : Nat) (hx : a.eval x = .slice (some ⟨B, 0, none⟩) 1 1) (h0 : w.cell? ⟨B, 0, none⟩ = some (.string e.s)) (h1 : w.cell? ⟨B, 1, none⟩ = some (.slice e.a e.rs.length e.c))
    (he : NodeOk w e ∧ TagS w e.a) (hlen : (l.length + 1) * 40 ≤ 140737488355328)
    (h : ∀ v' w', OnceAt w0 w' v' (l ++ [e]) → w.grownBy w' v.ownBlock → K (a.put o.dst v') w') :
    if Region.wanted o (yielded ops a.tmps) = true then Oper.wp Try.prog o a w K Q else X := by
  rw [if_pos (by simp [Region.wanted, hgd])]
  obtain ⟨i0, hi, hz0, hz1, hz2⟩ := info_parts infoNn
  obtain ⟨v', w', hr, hown', hgrow, _, _⟩ := run_append_own_at (P := Try.prog) w w0.heap.size 22 o.type 35 i0 (.agg #[.string ⟨#[]⟩, .slice none 0 0]) 2 40 Try.underlying22 hi hz0 hz1 hz2 rfl (by decide) v l.length (cellsNn l) hm.own ⟨B, 0, none⟩ 1 1 [.string e.s, .slice e.a e.rs.length e.c] rfl
    (by
      intro j u hj
      match j, hj with
      | 0, hj => simp at hj; subst hj; rw [WideShapes.add_plain]; exact h0
      | 1, hj => simp at hj; subst hj; rw [WideShapes.add_plain]; exact h1
      | j + 2, hj => simp at hj)
    (by intro u hu; simp at hu; rcases hu with rfl | rfl <;> rfl) (by unfold maxLen; omega) hlen hm.b.size
  have hK := keptT_grown hm.own hm.b.size hgrow
  unfold Oper.wp execOp
  simp only [ho, resolve, invoke, builtin, Sem.run_bind, Sem.run_pure, Result.andThen_ok, List.map_toArray, List.map_cons, List.map_nil, hs, hx, hr]
  refine h v' w' ⟨?_, fun y hy => ?_, hm.b.trans hK.below⟩ hgrow
  · rw [cellsNn_snoc, List.length_append]
    exact hown'
  · rcases List.mem_append.1 hy with hy | hy
    · exact NodeOk.keptN (hm.ok y hy) hK
    · obtain rfl := List.mem_singleton.1 hy
      exact NodeOk.keptN he hK
/-- The list, as what came in lies. -/
theorem OnceAt.nodes {w W : World} {v : Value} {l : List Nn} (h : OnceAt w W v l) (hf : l.length ≤ 3518437208883) : ∃ a c, v = .slice a l.length c ∧ NodesAt W a c l := by
  have h0 := h.own
  rcases h.own.2 with ⟨e, hl⟩ | ⟨g, cap, cur, rfl, _, _, hcap, _⟩
  · obtain rfl : l = [] := List.length_eq_zero_iff.1 hl
    exact ⟨none, 0, e, ⟨fun i hi => absurd hi (by simp)⟩, fun x hx => (h.ok x hx).1, hf, Nat.le_refl _⟩
  · have hgs := (h0.lt g rfl).2
    refine ⟨some ⟨g, 0, none⟩, cap, rfl, ⟨fun i hi => ⟨g, 0, rfl, hgs, fun j v hv => ?_⟩⟩, fun x hx => (h.ok x hx).1, hf, hcap⟩
    have hi' : i < l.length := by simpa using hi
    obtain ⟨c0, c1⟩ := cellsNn_at l i hi'
    match j, hv with
    | 0, hv =>
      have hv' : Value.string l[i].s = v := by simpa [Nn.cells] using hv
      rw [← hv', ← c0]
      have := h0.cellAt (i * 2) (by omega)
      simpa using this
    | 1, hv =>
      have hv' : Value.slice l[i].a l[i].rs.length l[i].c = v := by simpa [Nn.cells] using hv
      rw [← hv', ← c1]
      have := h0.cellAt (i * 2 + 1) (by omega)
      simpa using this
    | j + 2, hv => simp [Nn.cells] at hv
theorem tag_own {B n : Nat} {w : World} {a : Option Addr} {m c : Nat} {X : List Value} (h : w.ownsRow B 9 1 (.slice a m c) n X) : TagS w a := fun ad e => by
  subst e
  rcases h.2 with ⟨e, _⟩ | ⟨g, cap, cur, e, _, hh, _⟩
  · cases e
  · obtain rfl : ad = ⟨g, 0, none⟩ := by
      injection e with e1 _ _
      exact Option.some.inj e1
    exact ⟨_, _, hh⟩
/-- What is kept in a region: what was there, and a box of two. -/
structure SO (w : World) (bx : Nat) (u0 u1 : Value) (W : World) : Prop where
  b : Below w.heap.size w W
  lt : bx < W.heap.size
  c0 : W.cell? ⟨bx, 0, none⟩ = some u0
  c1 : W.cell? ⟨bx, 1, none⟩ = some u1
theorem SO.below {w : World} {bx : Nat} {u0 u1 : Value} {W W' : World} (h : SO w bx u0 u1 W) (hb : Below W.heap.size W W') : SO w bx u0 u1 W' := ⟨below_through hb h.b.size h.b, Nat.lt_of_lt_of_le h.lt hb.size, cell_later hb h.c0, cell_later hb h.c1⟩
theorem SO.grown {w : World} {bx : Nat} {u0 u1 : Value} {W W' : World} {g : Option Nat} (h : SO w bx u0 u1 W) (hg : W.grownBy W' g) (hne : g ≠ some bx) (hb : Below w.heap.size w W') : SO w bx u0 u1 W' := by
  have hk := hg.block bx h.lt (fun e => hne (by rw [e]))
  exact ⟨hb, Nat.lt_of_lt_of_le h.lt hg.size, (World.cell?_of_block (a := ⟨bx, 0, none⟩) hk).trans h.c0, (World.cell?_of_block (a := ⟨bx, 1, none⟩) hk).trans h.c1⟩
theorem once_take (l : List Nn) (i : Nat) (h : i < l.length) : onceG (dat (l.take (i + 1))) = onceG (dat (l.take i)) ++ [(l[i].s, joinG [] l[i].rs)] := by
  unfold onceG dat
  rw [List.take_succ_eq_append_getElem h, List.map_append, List.map_append]
  rfl
theorem dat_snoc (l : List Nn) (x : Nn) : dat (l ++ [x]) = dat l ++ [(x.s, x.rs)] := by simp [dat, Nn.dat]
set_option maxHeartbeats 8000000 in
set_option maxRecDepth 1000000 in
theorem once_any (a : Option Addr) (c : Nat) (l : List Nn) (w : World) (h : NodesAt w a c l) (hj : ∀ x ∈ l, ∀ i, (joinG [] (x.rs.take i)).length ≤ 1048576) :
    Calls Try.prog 20 #[.slice a l.length c] w fun e w' => (∃ a' c' L, e = .returned (.slice a' L.length c') ∧ NodesAt w' a' c' L ∧ dat L = onceG (dat l)) ∧ Below w.heap.size w w' := by
  have A := hid0 h
  have HJ0 := hid0 hj
  have hfew := h.few
  have HTK := hid0 (once_take l)
  have HE := hid0 (show onceG (dat (l.take l.length)) = onceG (dat l) by rw [List.take_length])
  have hM0 := hid0 (OnceAt.nil (w := w) (Below.refl _ w))
  obtain ⟨n, hn⟩ : ∃ n, l.length = n := ⟨_, rfl⟩
  have HN := hid0 hn
  rw [hn] at hfew HE ⊢
  clear h hn hj
  go_enter Try.func20, Try.ntmps20
  go_wp2
  go_loopw [3, 8] (fun ov iv wr => ∃ (i : Nat) (M : List Nn), i ≤ n ∧ iv = .int .i64 i ∧ OnceAt w wr ov M ∧ Hid (dat M = onceG (dat (l.take i)))) (fun _ iv _ => n - (intOf iv).toNat)
  case atStart => exact ⟨0, [], Nat.zero_le _, rfl, hM0.out, hid0 rfl⟩
  case round =>
    clear hM0
    obtain ⟨i, M, hi, rfl, hM, hT⟩ := hrel
    have hml : M.length = i := by
      have h1 := congrArg List.length hT.out
      unfold onceG at h1
      rw [List.length_map, dat_len, dat_len, List.length_take, HN.out] at h1
      omega
    by_cases hlt : i < n
    · have g1 : i < l.length := by rw [HN.out]; exact hlt
      obtain ⟨b1, o1, rfl, hb1, hR⟩ := (A.out.later hM.b).node i g1
      have hok := A.out.ok _ (List.getElem_mem g1)
      have hst := HTK.out i g1
      have hjj := HJ0.out _ (List.getElem_mem g1)
      generalize l[i] = p at hR hok hst hjj
      have V0 : VarB (wr.alloc (Obj.cells #[.string ⟨#[]⟩, .slice none 0 0] 35)) wr.heap.size zNn := VarB.new wr zNn 35
      have hl := p.cells_len
      have h1' := p.one
      have hf0 := p.cells0
      have hf1 := p.cells1
      have HSS := hid0 hok.small
      have hrs := hok.rs
      have hrf := hok.few
      have hsz := hM.b.size
      have hSm : ∀ W, Below wr.heap.size wr W → Below w.heap.size w W := fun W hW => below_through hW hsz hM.b
      have HSm := hid0 hSm
      have hlen8 : (M.length + 1) * 40 ≤ 140737488355328 := by omega
      have HML := hid0 hml
      generalize p.cells = us at hR hl h1' hf0 hf1
      generalize p.s = s at hf0 HSS hst
      generalize p.a = pa at hf1 hrs
      generalize p.c = pc at hf1
      generalize p.rs = rs at hf1 hrs hrf hst hjj
      have C5 := hid0 (fun (W : World) (hW : Below w.heap.size w W) => show Calls Try.prog 34 #[.slice none 0 0, .slice pa rs.length pc] W (fun e w' => (∃ a5 c5, e = .returned (.slice a5 (joinG [] rs).length c5) ∧ (joinG [] rs).length ≤ c5 ∧ StrsA w' a5 (joinG [] rs) ∧ TagS w' a5) ∧ Below W.heap.size W w') from
        (join_any (.slice none 0 0) [] pa pc rs W W (SRow.nil (Below.refl _ _)) (fun s hs => absurd hs (by simp)) (hrs.later hW) hrf (fun i => Nat.le_trans (hjj i) (by omega))).mono (by
          rintro e w' ⟨⟨v', rfl, hS⟩, hb⟩
          obtain ⟨a5, c5, rfl, hc5, hA5⟩ := strs_owned hS.own rfl (fun s hs => hrs.small s (by simpa using joinG_mem.1 hs))
          exact ⟨⟨a5, c5, rfl, hc5, hA5, tag_own hS.own⟩, hb⟩))
      have HJF0 : (joinG [] rs).length ≤ 8796093022208 := by
        have h1 := hjj rs.length
        rw [List.take_length] at h1
        omega
      have HNX := hid0 (fun (a5 : Option Addr) (c5 : Nat) => show dat (M ++ [⟨s, a5, c5, joinG [] rs⟩]) = onceG (dat (l.take (i + 1))) by rw [hst, dat_snoc, hT.out])
      generalize joinG [] rs = J at C5 HJF0 HNX
      obtain ⟨n5, hn5⟩ : ∃ n, J.length = n := ⟨_, rfl⟩
      have HJ := hid0 hn5
      rw [hn5] at C5 HJF0
      have HJF := hid0 HJF0
      have HNE := hid0 hM.ne
      have HM0 := hid0 hM
      obtain ⟨rn, hrn⟩ : ∃ n, rs.length = n := ⟨_, rfl⟩
      rw [hrn] at C5 hf1
      clear hst hok hM hrs hrf hSm hml HJF0 hn5 hT hrn hjj
      go_wp2_with (first | ((with_reducible refine wp_getB hR Try.underlying35 ?_ ?_ ?_ ?_); (rfl); (rw [hl]; exact infoNode); (rfl); simp only [Act.put]) | ((with_reducible refine wp_putB V0 h1' ?_ ?_ ?_ ?_ ?_); (exact hl); (exact infoNode); (rfl); (rfl); intro w5 hV5 hw5; (have hb5 : Below wr.heap.size wr w5 := by rw [hw5.out]; exact below_setCells _ 0 ((Below.refl _ _).alloc (Nat.le_refl _) _) (Nat.le_refl _)); (have HB0 := hid0 (show SO w wr.heap.size (.string s) (.slice pa rn pc) w5 from ⟨HSm.out _ hb5, hV5.lt, hV5.cell 0 hf0, hV5.cell 1 hf1⟩)); (have HM := hid0 ((HM0.out.below hb5).below (Below.drew (Below.refl _ _)))); clear hw5 V0 hV5 HM0; simp only [Act.put]) | fail)
      have hB := HB0.out.below (Below.drew (Below.refl _ _))
      clear HB0 hR hl h1' hf0 hf1
      refine wp_region_held_drew (S := (SO w wr.heap.size (.string s) (.slice pa rn pc))) (by kernel_rfl) hB (fun hHeld => ?_)
      generalize w5.drew = W0 at hB HM hHeld ⊢
      refine wpAnyH_take (i := 0) (v := ?_) rfl (by kernel_rfl) (by kernel_rfl) (by kernel_rfl) (fun _ _ _ h => h) (Or.inl ⟨by rfl, ?_⟩) (by assumption) ?_
      rotate_left
      · (intro wx hSw; go_simp; (try with_reducible rfl); (try omega))
      (try simp only [Act.put, List.setIfInBounds_toArray, List.set_cons_zero, List.set_cons_succ, List.getElem_toArray, List.getElem_cons_zero])
      refine wpAnyH_take (i := 1) (v := ?_) rfl (by kernel_rfl) (by kernel_rfl) (by kernel_rfl) (fun _ _ _ h => h) (Or.inl ⟨by rfl, ?_⟩) (by assumption) ?_
      rotate_left
      · (intro wx hSw; go_simp; (try with_reducible rfl); (try omega))
      (try simp only [Act.put, List.setIfInBounds_toArray, List.set_cons_zero, List.set_cons_succ, List.getElem_toArray, List.getElem_cons_zero, List.getElem_cons_succ])
      refine wpAnyH_take (i := 2) (v := ?_) rfl (by kernel_rfl) (by kernel_rfl) (by kernel_rfl) (fun _ _ _ h => h) (Or.inl ⟨by rfl, ?_⟩) (by assumption) ?_
      rotate_left
      · (intro wx hSw; have hk := hSw.c0; go_simp; (try with_reducible rfl); (try omega))
      (try simp only [Act.put, List.setIfInBounds_toArray, List.set_cons_zero, List.set_cons_succ, List.getElem_toArray, List.getElem_cons_zero, List.getElem_cons_succ])
      refine wpAnyH_take (i := 3) (v := ?_) rfl (by kernel_rfl) (by kernel_rfl) (by kernel_rfl) (fun _ _ _ h => h) (Or.inl ⟨by rfl, ?_⟩) (by assumption) ?_
      rotate_left
      · (intro wx hSw; go_simp; (try with_reducible rfl); (try omega))
      (try simp only [Act.put, List.setIfInBounds_toArray, List.set_cons_zero, List.set_cons_succ, List.getElem_toArray, List.getElem_cons_zero, List.getElem_cons_succ])
      refine wpAnyH_take (i := 4) (v := ?_) rfl (by kernel_rfl) (by kernel_rfl) (by kernel_rfl) (fun _ _ _ h => h) (Or.inl ⟨by rfl, ?_⟩) (by assumption) ?_
      rotate_left
      · (intro wx hSw; have hk := hSw.c1; go_simp; (try with_reducible rfl); (try omega))
      (try simp only [Act.put, List.setIfInBounds_toArray, List.set_cons_zero, List.set_cons_succ, List.getElem_toArray, List.getElem_cons_zero, List.getElem_cons_succ])
      refine wpAnyH_ready (rs := [5]) (by kernel_rfl) (by simp) ?_
      refine AllReadyH.cons rfl (fun K hK => ?_) ?_
      · (try simp only [Act.put, List.setIfInBounds_toArray, List.set_cons_zero, List.set_cons_succ, List.getElem_toArray, List.getElem_cons_zero, List.getElem_cons_succ])
        go_simp
        refine (C5.out _ hB.b).mono ?_
        rintro e W1 ⟨⟨a5, c5, rfl, hc5, hA5, ht5⟩, hb5⟩
        have hM5 := hid0 (fun o => (HM.out.below hb5).below ((Below.refl _ _).alloc (Nat.le_refl _) o))
        have hB := hB.below hb5
        have HAP := hid0 (show NodeOk W1 ⟨s, a5, c5, J⟩ ∧ TagS W1 a5 from ⟨⟨hA5, by show J.length ≤ _; rw [HJ.out]; exact hc5, by show J.length ≤ _; rw [HJ.out]; exact HJF.out, HSS.out⟩, ht5⟩)
        clear hA5 ht5 hc5
        refine hK.out _ _ hB (fun hHeld => ?_)
        clear hK K
        (try simp only [Act.put, List.setIfInBounds_toArray, List.set_cons_zero, List.set_cons_succ, List.getElem_toArray, List.getElem_cons_zero, List.getElem_cons_succ])
        refine wpAnyH_take (i := 6) (v := ?_) rfl (by kernel_rfl) (by kernel_rfl) (by kernel_rfl) (fun _ _ _ h => h) (Or.inl ⟨by rfl, ?_⟩) (by assumption) ?_
        rotate_left
        · (intro wx hSw; go_simp; (try with_reducible rfl); (try omega))
        (try simp only [Act.put, List.setIfInBounds_toArray, List.set_cons_zero, List.set_cons_succ, List.getElem_toArray, List.getElem_cons_zero, List.getElem_cons_succ])
        refine wpAnyH_ready (rs := [7]) (by kernel_rfl) (by simp) ?_
        refine AllReadyH.cons rfl (fun K hK => ?_) ?_
        · (try simp only [Act.put, List.setIfInBounds_toArray, List.set_cons_zero, List.set_cons_succ, List.getElem_toArray, List.getElem_cons_zero, List.getElem_cons_succ])
          go_simp
          have hB5 := hB.below ((Below.refl _ _).alloc (Nat.le_refl _) (Obj.cells #[.string s, .slice a5 n5 c5] 35))
          refine hK.out _ _ hB5 (fun hHeld => ?_)
          clear hK K
          (try simp only [Act.put, List.setIfInBounds_toArray, List.set_cons_zero, List.set_cons_succ, List.getElem_toArray, List.getElem_cons_zero, List.getElem_cons_succ])
          refine wpAnyH_ready (rs := [8]) (by kernel_rfl) (by simp) ?_
          refine AllReadyH.cons rfl (fun K hK => ?_) ?_
          · refine step_nn (by rfl) _ _ (by rfl) (by rfl) (hM5.out _) ⟨s, a5, c5, J⟩ W1.heap.size (by rfl) (two_new _ _ _ _).1 (by rw [HJ.out]; exact (two_new _ _ _ _).2) ⟨HAP.out.1.later ((Below.refl _ _).alloc (Nat.le_refl _) _), HAP.out.2.later ((Below.refl _ _).alloc (Nat.le_refl _) _)⟩ hlen8 ?_
            intro v8 w8 hM9 hg8
            have hB9 := hB5.grown hg8 HNE.out hM9.b
            refine hK.out _ _ hB9 (fun hHeld => ?_)
            clear hK K
            (try simp only [Act.put, List.setIfInBounds_toArray, List.set_cons_zero, List.set_cons_succ, List.getElem_toArray, List.getElem_cons_zero, List.getElem_cons_succ])
            refine wpAnyH_take (i := 9) (v := ?_) rfl (by kernel_rfl) (by kernel_rfl) (by kernel_rfl) (fun _ _ _ h => h) (Or.inl ⟨by rfl, ?_⟩) (by assumption) ?_
            rotate_left
            · (intro wx hSw; go_simp; (try with_reducible rfl); (try omega))
            (try simp only [Act.put, List.setIfInBounds_toArray, List.set_cons_zero, List.set_cons_succ, List.getElem_toArray, List.getElem_cons_zero, List.getElem_cons_succ])
            refine wpAnyH_done (by kernel_rfl) ?_ _
            have HM9 := hid0 hM9
            clear hM9 hM5 HM
            go_wp2
            exact ⟨⟨i + 1, M ++ [⟨s, a5, c5, J⟩], by omega, by go_num, HM9.out, hid0 (HNX.out a5 c5)⟩, by simp [intOf]; omega⟩
          exact AllReadyH.nil
        exact AllReadyH.nil
      exact AllReadyH.nil
    · have hie : ¬ (i : Int) < n := by omega
      obtain rfl : i = n := by omega
      obtain ⟨a4, c4, rfl, hN4⟩ := hM.nodes (by omega)
      have HN4 := hid0 hN4
      have HML := hid0 hml
      have hb := hM.b
      clear hN4 hM hml
      go_wp2
      go_ret
      exact ⟨⟨a4, c4, M, rfl, HN4.out, hT.out.trans HE.out⟩, hb⟩
end Go.Proofs.Ytadlelhdjakmmaa
