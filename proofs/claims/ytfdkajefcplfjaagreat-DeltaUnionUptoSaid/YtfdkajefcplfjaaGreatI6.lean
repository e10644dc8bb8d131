/- Several of my texts laid together, each as it was: XS, XT, XH, XU, XV. Conditions: each names its own. -/
import Derived.Test.YtfdkajefcplfjaaGreatI5
import Derived.Test.YtfdkajefcplfjaaGreatI3
import Derived.Test.YtfdkajefcplfjaaGreatH8
import Derived.Test.YtfdkajefcplfjaaGreatI2
import Derived.Test.YtfdkajefcplfjaaGreatI1
import Derived.Test.YtfdkajefcplfjaaGreatI4
/- Groups of rows as they lie; each row a group of its own (plan.alone): contracts of the calls, in whatever memory. Conditions: the rows' cells are known; they are not too many. -/
namespace Go.Proofs.YtfdkajefcplfjaaGreat
open Go.RowKit

theorem elem_newD (w : World) (u v : Value) (t : TypeId) : (w.alloc (Obj.cells #[u, v] t)).drew.cell? ⟨w.heap.size, 0, none⟩ = some u ∧ (w.alloc (Obj.cells #[u, v] t)).drew.cell? ⟨w.heap.size, 1, none⟩ = some v := elem_new w u v t
/-- A group: where its rows lie, how often its row is told. -/
structure Gx where
  a : Option Addr
  c : Nat
  E : List Elem
  t : Int
def Gx.one (g : Gx) : List Value := [.slice g.a g.E.length g.c, .int .i64 g.t]
def cellsG (G : List Gx) : List Value := G.flatMap Gx.one
def Gx.grp (g : Gx) : Grp := (g.E.map pr, g.t)
theorem cellsG_snoc (G : List Gx) (g : Gx) : cellsG (G ++ [g]) = cellsG G ++ [.slice g.a g.E.length g.c, .int .i64 g.t] := by simp [cellsG, Gx.one]
theorem cellsG_len (G : List Gx) : (cellsG G).length = G.length * 2 := by
  induction G with
  | nil => rfl
  | cons g G ih =>
    have e : cellsG (g :: G) = .slice g.a g.E.length g.c :: .int .i64 g.t :: cellsG G := by simp [cellsG, Gx.one]
    rw [e, List.length_cons, List.length_cons, ih, List.length_cons]; omega
theorem cellsG_at : ∀ (G : List Gx) (i : Nat) (h : i < G.length), (cellsG G)[i * 2]? = some (.slice G[i].a G[i].E.length G[i].c) ∧ (cellsG G)[i * 2 + 1]? = some (.int .i64 G[i].t)
  | g :: G, 0, _ => ⟨by simp [cellsG, Gx.one], by simp [cellsG, Gx.one]⟩
  | g :: G, i + 1, h => by
    have ih := cellsG_at G i (by simpa using h)
    have e : cellsG (g :: G) = .slice g.a g.E.length g.c :: .int .i64 g.t :: cellsG G := by simp [cellsG, Gx.one]
    rw [e, show (i + 1) * 2 = i * 2 + 1 + 1 by omega]
    simp only [List.getElem?_cons_succ, List.getElem_cons_succ]
    exact ih
theorem infoG : (Tryz.prog.info? 282).map (fun i => (i.zero, i.size, i.bytes)) = some (some (.agg #[.slice none 0 0, .int .i64 0]), 2, 32) := by kernel_rfl
/-- Groups in a block of their own. -/
structure MkG (w0 w : World) (v : Value) (G : List Gx) : Prop where
  own : w.ownsRow w0.heap.size 282 2 v G.length (cellsG G)
  b : Below w0.heap.size w0 w
theorem MkG.nil (w : World) : MkG w w (.slice none 0 0) [] := ⟨World.ownsRow_nil _ _ _ _, Below.refl _ _⟩
theorem MkG.alloc {w0 w : World} {v : Value} {G : List Gx} (h : MkG w0 w v G) (o : Obj) : MkG w0 (w.alloc o) v G := ⟨h.own.alloc o, h.b.alloc h.b.size o⟩
theorem MkG.drew {w0 w : World} {v : Value} {G : List Gx} (h : MkG w0 w v G) : MkG w0 w.drew v G := ⟨h.own, Below.drew h.b⟩
theorem MkG.below {w0 w w' : World} {v : Value} {G : List Gx} (h : MkG w0 w v G) (hb : Below w.heap.size w w') : MkG w0 w' v G := ⟨own_belowY h.own hb, below_through hb h.b.size h.b⟩
theorem MkG.hi {w0 w : World} {v : Value} {G : List Gx} (h : MkG w0 w v G) : ∀ k, v.ownBlock = some k → k < w.heap.size := fun k hk => (h.own.lt k hk).2
theorem MkG.lo {w0 w : World} {v : Value} {G : List Gx} (h : MkG w0 w v G) : ∀ k, v.ownBlock = some k → w0.heap.size ≤ k := fun k hk => (h.own.lt k hk).1
theorem MkG.box {w0 w : World} {v : Value} {G : List Gx} (h : MkG w0 w v G) : v.ownBlock ≠ some w.heap.size := fun e => by have := h.hi _ e; omega
/-- A group appended, at a step of a region that draws its order. -/
theorem step_g {w0 w : World} {ops : Array Oper} {o : Oper} {a : Act} {K : Act → World → Prop} {Q : Exit → Act → World → Prop} {X : Prop} (hgd : o.guard = none) (s x : Operand)
    (ho : o.op = .call { callee := .builtin .append, args := #[s, x], argTypes := #[279, 279] })
    {v : Value} {G : List Gx} (hs : a.eval s = v) (hm : MkG w0 w v G)
    (g : Gx) (B : Nat) (hx : a.eval x = .slice (some ⟨B, 0, none⟩) 1 1) (h0 : w.cell? ⟨B, 0, none⟩ = some (.slice g.a g.E.length g.c)) (h1 : w.cell? ⟨B, 1, none⟩ = some (.int .i64 g.t))
    (hlen : (G.length + 1) * 32 ≤ 140737488355328)
    (h : ∀ v' w', MkG w0 w' v' (G ++ [g]) → Grw w v w' v' → K (a.put o.dst v') w') :
    if Region.wanted o (yielded ops a.tmps) = true then Oper.wp Tryz.prog o a w K Q else X := by
  have hw : Region.wanted o (yielded ops a.tmps) = true := by simp [Region.wanted, hgd]
  rw [if_pos hw]
  obtain ⟨i0, hi, hz0, hz1, hz2⟩ := info_parts infoG
  obtain ⟨v', w', hr, h2, h3, _, h5⟩ := run_append_own_at (P := Tryz.prog) w w0.heap.size 279 o.type 282 i0 (.agg #[.slice none 0 0, .int .i64 0]) 2 32 Tryz.underlying279 hi hz0 hz1 hz2 rfl (by decide) v G.length (cellsG G) hm.own ⟨B, 0, none⟩ 1 1 [.slice g.a g.E.length g.c, .int .i64 g.t] rfl
    (by
      intro j u hj
      match j, hj with
      | 0, hj => simp at hj; subst hj; rw [WideShapes.add_plain]; exact h0
      | 1, hj => simp at hj; subst hj; rw [WideShapes.add_plain]; exact h1
      | j + 2, hj => simp at hj)
    (by intro u hu; simp at hu; rcases hu with rfl | rfl <;> rfl) (by unfold maxLen; omega) hlen hm.b.size
  unfold Oper.wp execOp
  simp only [ho, resolve, invoke, builtin, Sem.run_bind, Sem.run_pure, Result.andThen_ok, List.map_toArray, List.map_cons, List.map_nil, hs, hx, hr]
  exact h v' w' ⟨by rw [cellsG_snoc, List.length_append]; exact h2, hm.b.grown h3 hm.b.size hm.lo⟩ ((Grw.refl w v).app h3 h5)
theorem wp_g {w0 w : World} {ops : Array Oper} {rest : List Oper} {o : Oper} {a : Act} {Q : Exit → Act → World → Prop} (hgd : o.guard = none) (s x : Operand)
    (ho : o.op = .call { callee := .builtin .append, args := #[s, x], argTypes := #[279, 279] })
    {v : Value} {G : List Gx} (hs : a.eval s = v) (hm : MkG w0 w v G)
    (g : Gx) (B : Nat) (hx : a.eval x = .slice (some ⟨B, 0, none⟩) 1 1) (h0 : w.cell? ⟨B, 0, none⟩ = some (.slice g.a g.E.length g.c)) (h1 : w.cell? ⟨B, 1, none⟩ = some (.int .i64 g.t))
    (hlen : (G.length + 1) * 32 ≤ 140737488355328)
    (h : ∀ v' w', MkG w0 w' v' (G ++ [g]) → Grw w v w' v' → wpList Tryz.prog ops Q rest (a.put o.dst v') w') : wpList Tryz.prog ops Q (o :: rest) a w := by
  refine wpList_plain hgd fun K hK => ?_
  have := step_g (ops := #[]) (K := K) (Q := Q) (X := True) hgd s x ho hs hm g B hx h0 h1 hlen (fun v' w' h2 h3 => hK _ _ (h v' w' h2 h3))
  rwa [if_pos (by simp [Region.wanted, hgd])] at this
/-- Groups as they lie, each with its rows. -/
structure GrpsAt (w : World) (a : Option Addr) (G : List Gx) : Prop where
  at_ : G ≠ [] → ∃ b off, a = some ⟨b, off, none⟩ ∧ ∀ i (h : i < G.length), w.cell? ⟨b, off + i * 2, none⟩ = some (.slice G[i].a G[i].E.length G[i].c) ∧ w.cell? ⟨b, off + i * 2 + 1, none⟩ = some (.int .i64 G[i].t)
  rows : ∀ g ∈ G, GrpOk w g.a g.c g.E
theorem GrpsAt.later {w w' : World} {a : Option Addr} {G : List Gx} (h : GrpsAt w a G) (hb : Below w.heap.size w w') : GrpsAt w' a G := ⟨fun hn => by
  obtain ⟨b, off, e, hc⟩ := h.at_ hn
  exact ⟨b, off, e, fun i hi => ⟨cell_later hb (hc i hi).1, cell_later hb (hc i hi).2⟩⟩, fun g hg => (h.rows g hg).later hb⟩
theorem MkG.at_ {w0 w : World} {v : Value} {G : List Gx} (h : MkG w0 w v G) (hr : ∀ g ∈ G, GrpOk w g.a g.c g.E) : ∃ a c, v = .slice a G.length c ∧ GrpsAt w a G := by
  have h0 := h.own
  rcases h.own.2 with ⟨e, hl⟩ | ⟨g, cap, cur, e, _, hh, hn, _, hsz, ht⟩
  · exact ⟨none, 0, by rw [e, hl], fun hn => absurd (List.length_eq_zero_iff.1 hl) hn, hr⟩
  · refine ⟨some ⟨g, 0, none⟩, cap, e, fun hn => ⟨g, 0, rfl, fun i hi => ?_⟩, hr⟩
    have V := varB_ownE h0 (g := g) (by rw [e]; rfl)
    obtain ⟨c0, c1⟩ := cellsG_at G i hi
    rw [Nat.zero_add]
    exact ⟨V.cell _ c0, V.cell _ c1⟩
/-- One row of a group's, as a group. -/
theorem GrpOk.one {w : World} {b o c : Nat} {E : List Elem} (h : GrpOk w (some ⟨b, o, none⟩) c E) {i : Nat} (hi : i < E.length) : GrpOk w (some ⟨b, o + i * 2, none⟩) (c - i) [E[i]] := by
  have hd := (h.at_.drop i).take 1
  have e : (E.drop i).take 1 = [E[i]] := by rw [List.drop_eq_getElem_cons hi]; rfl
  rw [e] at hd
  have hm := List.getElem_mem hi
  have ha := absS_mem (L := E.map pr) (List.mem_map_of_mem (f := pr) hm)
  have hall := h.all
  have hn := (h.i _ hm).2.2
  have hc := h.cap
  have e2 : (pr E[i]).2 = E[i].n := rfl
  rw [e2] at ha
  refine ⟨hd, fun e he => ?_, by simp, ?_, by simp; omega⟩
  · obtain rfl := List.mem_singleton.1 he; exact h.i _ hm
  · show absS [pr E[i]] ≤ _
    unfold absS; rw [e2, if_neg (by omega)]; unfold absS; omega
set_option maxHeartbeats 4000000 in
set_option maxRecDepth 1000000 in
theorem alone_any (a : Option Addr) (c : Nat) (E : List Elem) (w : World) (h : GrpOk w a c E) :
    Calls Tryz.prog 300 #[.slice a E.length c] w fun e w' => (∃ a' c' G, e = .returned (.slice a' G.length c') ∧ GrpsAt w' a' G ∧ G.map Gx.grp = (E.map pr).map fun x => ([x], x.2)) ∧ Below w.heap.size w w' := by
  have A := hid0 h
  have hfew := h.few
  have hcap := h.cap
  clear h
  go_enter Tryz.func300, Tryz.ntmps300
  go_wp2
  go_loopw [3, 8] (fun gv iv wr => ∃ (i : Nat) (G : List Gx), i ≤ E.length ∧ iv = .int .i64 i ∧ MkG w wr gv G ∧ Hid (G.map Gx.grp = ((E.map pr).take i).map fun x => ([x], x.2)) ∧ Hid (∀ g ∈ G, GrpOk w g.a g.c g.E)) (fun _ iv _ => E.length - (intOf iv).toNat)
  case atStart => exact ⟨0, [], Nat.zero_le _, rfl, MkG.nil w, hid0 (by simp), hid0 (fun g hg => absurd hg (by simp))⟩
  case round =>
    obtain ⟨i, G, hi, rfl, hM, hT, hG⟩ := hrel
    have hsz := hM.b.size
    by_cases hlt : i < E.length
    · obtain ⟨b1, o1, rfl, hc1⟩ := (A.out.at_.1.later hM.b) (by intro e; rw [e] at hlt; exact absurd hlt (by simp))
      obtain ⟨q0, q1⟩ := hc1 i hlt
      clear hc1
      have HG1 := hid0 (A.out.one hlt)
      have HT := hid0 (show ((E.map pr).take (i + 1)).map (fun x => ([x], x.2)) = ((E.map pr).take i).map (fun x => (([x], x.2) : Grp)) ++ [([pr E[i]], E[i].n)] by
        rw [List.take_succ_eq_append_getElem (by simpa using hlt)]; simp [pr])
      have hGl : G.length ≤ 1000000 := by
        have := congrArg List.length hT.out
        rw [List.length_map, List.length_map, List.length_take, List.length_map] at this; omega
      generalize E[i] = x at q0 q1 HG1 HT
      have hMA := hM.alloc (Obj.cells #[.slice x.a x.r.length x.c, .int .i64 x.n] 80)
      have VA := VarB.new wr [.slice x.a x.r.length x.c, .int .i64 x.n] 80
      have hbx := hM.box
      have hwi : IntKind.i64.wrap ((i : Int) + 1) = (i : Int) + 1 := IntWalk.i64_in _ (by omega)
      have hci : ¬ c = i := by omega
      have hi0 : (0 : Int) ≤ (i : Int) := by omega
      have hi1 : (i : Int) ≤ (i : Int) + 1 := by omega
      have hi2 : (i : Int) + 1 ≤ (c : Int) := by omega
      go_wp2_with fail
      clear q0 q1 hM
      generalize wr.alloc (Obj.cells #[.slice x.a x.r.length x.c, .int .i64 x.n] 80) = WA at hMA VA ⊢
      generalize wr.heap.size = BX at hbx VA hsz ⊢
      have x0 := VA.cell 0 rfl
      have x1 := VA.cell 1 rfl
      have hM3 := fun o => (hMA.alloc o).drew
      go_region_held3 (fun w' => w'.cell? ⟨BX, 0, none⟩ = some (.slice x.a x.r.length x.c) ∧ w'.cell? ⟨BX, 1, none⟩ = some (.int .i64 x.n))
        (first
          | (exact ⟨x0, x1⟩)
          | (go_split_ands; (try dsimp only); (repeat' apply And.intro); all_goals (first
            | assumption
            | exact hX1.cell 0 rfl
            | exact hX1.cell 1 rfl
            | go_keep)))
        (first | (refine step_g (by rfl) _ _ (by rfl) (by rfl) (hM3 _) ⟨some ⟨b1, o1 + i * 2, none⟩, c - i, [x], x.n⟩ _ (by rfl) (elem_newD _ _ _ _).1 (elem_newD _ _ _ _).2 (by omega) ?_; intro v1 w1 hm1 hg1; have hX1 := hg1.var (VA.alloc _).drew hbx))
      have R := hid0 (show (G ++ [⟨some ⟨b1, o1 + i * 2, none⟩, c - i, [x], x.n⟩] : List Gx).map Gx.grp = ((E.map pr).take (i + 1)).map fun x => ([x], x.2) by
        rw [List.map_append, hT.out, HT.out]; rfl)
      have RG := hid0 (fun g (hg : g ∈ (G ++ [⟨some ⟨b1, o1 + i * 2, none⟩, c - i, [x], x.n⟩] : List Gx)) => (show GrpOk w g.a g.c g.E by
        rcases List.mem_append.1 hg with hg | hg
        · exact hG.out g hg
        · obtain rfl := List.mem_singleton.1 hg; exact HG1.out))
      clear hM3 hMA VA hg1 hX1
      go_wp2
      exact ⟨⟨i + 1, _, by omega, by go_num, hm1, R, RG⟩, by simp [intOf]; omega⟩
    · have hie : ¬ (i : Int) < E.length := by omega
      rw [List.take_of_length_le (by simp; omega)] at hT
      obtain ⟨a', c', rfl, hat⟩ := hM.at_ (fun g hg => (hG.out g hg).later hM.b)
      have HAT := hid0 hat
      have hb := hM.b
      clear hM hat
      go_wp2
      go_ret
      exact ⟨⟨a', c', G, rfl, HAT.out, by rw [hT.out, List.map_map]⟩, hb⟩
end Go.Proofs.YtfdkajefcplfjaaGreat

/- The groups of a part's rows (plan.groups): a contract of the call, in whatever memory. Conditions: the part's and the rows' cells are known; what alike answers, where the part has columns to group by. -/
namespace Go.Proofs.YtfdkajefcplfjaaGreat
open Go.RowKit

/-- What a part's rows must be. -/
structure ElOk (E : List Elem) : Prop where
  i : ∀ e ∈ E, (∀ x ∈ e.r, inI x) ∧ e.r.length ≤ 1000 ∧ 0 ≤ e.n
  few : E.length ≤ 1000000
  all : absS (E.map pr) ≤ 1000000
theorem ElOk.grp {w0 w : World} {a : Option Addr} {c : Nat} {E : List Elem} (h : ElOk E) (hM : MkE w0 w (.slice a E.length c) E) : GrpOk w a c E := by
  obtain ⟨a', c', e, hc, hel⟩ := hM.elems
  obtain ⟨rfl, -, rfl⟩ := Value.slice.inj e
  exact ⟨hel, h.i, h.few, h.all, hc⟩
/-- What alike answers of a list. -/
structure AlikeC (w0 : World) (v : Value) (E : List Elem) (gp : Option Addr) (gc : Nat) (gs : List Int) : Prop where
  out : ∀ W, MkE w0 W v E → Calls Tryz.prog 301 #[v, .slice gp gs.length gc] W fun e w' => ∃ a' c' G, e = .returned (.slice a' G.length c') ∧ GrpsAt w' a' G ∧ G.map Gx.grp = (runsM gs (sortG gs (E.map pr))).map (fun g => (g, 1)) ∧ W.grownBy w' v.ownBlock
theorem grown_of {w w' : World} (hb : Below w.heap.size w w') (row : Option Nat) : w.grownBy w' row := ⟨hb.os, hb.tape, hb.output, hb.size, fun i hi _ => hb.block i hi⟩
set_option maxHeartbeats 4000000 in
set_option maxRecDepth 1000000 in
theorem groups_any {n : Nat} (p : Px) (v : Value) (E : List Elem) (w0 w : World) (hp : PxOk w n p) (hM : MkE w0 w v E) (hE : ElOk E) (hA : groupedB p = true → p.gs ≠ [] → AlikeC w0 v E p.gp p.gc p.gs) :
    Calls Tryz.prog 276 #[p.val, v] w fun e w' => ∃ a' c' G, e = .returned (.slice a' G.length c') ∧ GrpsAt w' a' G ∧ G.map Gx.grp = groupsM p (E.map pr) ∧ w.grownBy w' v.ownBlock := by
  obtain ⟨a, c, rfl, hcap, hel⟩ := hM.elems
  have hG := hE.grp hM
  obtain ⟨V, hB0⟩ := part_box p w
  have hl := p.cells_len
  have CG := hid0 (fun W (hW : Below w.heap.size w W) => grouped_any p W (hp.later hW))
  have HM := hid0 hM
  have q18 := V.cell 18 p.c18
  have hlt := V.lt
  unfold Px.val at CG ⊢
  obtain ⟨R, hR⟩ : ∃ R, groupsM p (E.map pr) = R := ⟨_, rfl⟩
  have HR0 := hid0 hR
  rw [hR]
  clear hR hM hel hp
  obtain ⟨us, hus⟩ : ∃ us, p.cells = us := ⟨_, rfl⟩
  rw [hus] at V hB0 hl CG q18 hlt ⊢
  clear hus
  cases hg : groupedB p with
  | false =>
    have HR := hid0 (show R = (E.map pr).map fun x => ([x], x.2) by rw [← HR0.out]; unfold groupsM; rw [hg]; rfl)
    rw [hg] at CG
    have CA := hid0 (fun W (hW : Below w.heap.size w W) => alone_any a c E W (hG.later hW))
    clear hA hG hg
    go_enter Tryz.func276, Tryz.ntmps276
    go_wp2_with (first | ((with_reducible refine wp_getB V.at_ Tryz.underlying50 ?_ ?_ ?_ ?_); (rfl); (rw [hl]; exact sizePx); (rfl); simp only [Act.put]) | (go_at_call 93; go_must (refine (CG.out _ hB0).mono ?_; rintro e w1 ⟨rfl, hb1⟩; (have hB1 := below_through hb1 hB0.size hB0))) | (go_at_call 300; go_must (refine (CA.out _ hB1).mono ?_; rintro e w2 ⟨⟨a2, c2, G, rfl, hG2, hm2⟩, hb2⟩)) | fail)
    go_ret
    exact ⟨a2, c2, G, rfl, hG2, by rw [hm2, HR.out], grown_of (below_through hb2 hB1.size hB1) _⟩
  | true =>
    rw [hg] at CG
    by_cases hgs : p.gs = []
    · have HR := hid0 (show R = [(E.map pr, 1)] by rw [← HR0.out]; unfold groupsM; rw [hg, if_pos rfl, if_pos hgs])
      have h0 : (p.gs.length : Int) = 0 := by rw [hgs]; rfl
      have hl0 : ((p.gs.length : Int) == 0) = true := by rw [h0]; rfl
      have HG := hid0 hG
      clear hA hG hg
      generalize p.gs.length = gl at *
      go_enter Tryz.func276, Tryz.ntmps276
      go_wp2_with (first | ((with_reducible refine wp_getB V.at_ Tryz.underlying50 ?_ ?_ ?_ ?_); (rfl); (rw [hl]; exact sizePx); (rfl); simp only [Act.put]) | (go_at_call 93; go_must (refine (CG.out _ hB0).mono ?_; rintro e w1 ⟨rfl, hb1⟩; (have hB1 := below_through hb1 hB0.size hB0); (have q1 := cell_later hb1 q18))) | fail)
      go_ret
      exact ⟨_, 1, [⟨a, c, E, 1⟩], rfl, ⟨fun _ => ⟨_, 0, rfl, fun i hi => by
        obtain rfl : i = 0 := by simp at hi; exact hi
        exact ⟨(elem_new _ _ _ _).1, (elem_new _ _ _ _).2⟩⟩, fun g hg => by
        obtain rfl := List.mem_singleton.1 hg
        exact (HG.out.later hB1).later ((Below.refl _ _).alloc (Nat.le_refl _) _)⟩, by rw [HR.out]; rfl, grown_of (hB1.alloc hB1.size _) _⟩
    · have HR := hid0 (show R = (runsM p.gs (sortG p.gs (E.map pr))).map (fun g => (g, 1)) by rw [← HR0.out]; unfold groupsM; rw [hg, if_pos rfl, if_neg hgs])
      have hl0 : ((p.gs.length : Int) == 0) = false := by
        have := List.length_pos_iff.2 hgs
        simp; omega
      have HA := hid0 (hA hg hgs)
      clear hA hG hg
      generalize p.gs = gs at *
      go_enter Tryz.func276, Tryz.ntmps276
      go_wp2_with (first | ((with_reducible refine wp_getB V.at_ Tryz.underlying50 ?_ ?_ ?_ ?_); (rfl); (rw [hl]; exact sizePx); (rfl); simp only [Act.put]) | (go_at_call 93; go_must (refine (CG.out _ hB0).mono ?_; rintro e w1 ⟨rfl, hb1⟩; (have hB1 := below_through hb1 hB0.size hB0); (have q1 := cell_later hb1 q18))) | (go_at_call 301; go_must (refine (HA.out.out _ (HM.out.below hB1)).mono ?_; rintro e w2 ⟨a2, c2, G, rfl, hG2, hm2, hb2⟩)) | fail)
      go_ret
      exact ⟨a2, c2, G, rfl, hG2, by rw [hm2, HR.out], (grown_of hB1 _).trans hb2⟩
end Go.Proofs.YtfdkajefcplfjaaGreat

/- A part's rows side by side (sources.sideBySide): a contract of the call, in whatever memory. Conditions: the sources are ready and not too great. -/
namespace Go.Proofs.YtfdkajefcplfjaaGreat
open Go.RowKit

theorem own_lower {w : World} {b0 b1 : Nat} {e : TypeId} {k n : Nat} {v : Value} {X : List Value} (h : w.ownsRow b1 e k v n X) (hb : b0 ≤ b1) : w.ownsRow b0 e k v n X := by
  refine ⟨h.1, ?_⟩
  rcases h.2 with h2 | ⟨g, cap, cur, e1, hg, rest⟩
  · exact .inl h2
  · exact .inr ⟨g, cap, cur, e1, Nat.le_trans hb hg, rest⟩
theorem MkE.weak {w0 w1 w : World} {v : Value} {E : List Elem} (h : MkE w1 w v E) (hb : Below w0.heap.size w0 w1) : MkE w0 w v E :=
  ⟨⟨own_lower h.own.out hb.size⟩, h.cp, h.z, h.cap, below_through h.b hb.size hb⟩
theorem MkE.lit (w0 w : World) (hb : Below w0.heap.size w0 w) (n : Int) : MkE w0 (w.alloc (Obj.cells #[.slice none 0 0, .int .i64 n] 80)) (.slice (some ⟨w.heap.size, 0, none⟩) 1 1) [⟨none, 0, [], n⟩] := by
  refine ⟨⟨World.ownsRow_lit w #[.slice none 0 0, .int .i64 n] 1 hb.size (by unfold maxLen; omega) rfl⟩, ⟨fun e he => ?_⟩, fun e he _ => ?_, fun e he => ?_, hb.alloc hb.size _⟩
  · simp at he; subst he; exact ⟨⟨fun h => absurd rfl h, fun h => absurd rfl h⟩, by show 0 * 32 ≤ _; omega⟩
  · simp at he; subst he; rfl
  · simp at he; subst he; exact Nat.le_refl _
theorem SideOk.of {E1 E2 : List Elem} {m k : Nat} {c d : Int} (h1 : PB (E1.map pr) m c) (h2 : PB (E2.map pr) k d) (hm : m + k ≤ 1000) (hc : 0 < c ∧ c ≤ 2000) (hd : 0 < d ∧ d ≤ 2000) (hcd : c * d ≤ 2000) (z1 : ∀ e ∈ E1, e.a = none → e.c = 0) (z2 : ∀ e ∈ E2, e.a = none → e.c = 0) : SideOk E1 E2 := by
  have l1 := h1.len
  have l2 := h2.len
  rw [List.length_map] at l1 l2
  refine ⟨z1, z2, fun x hx y hy => ?_, fun x hx y hy => ?_, ?_⟩
  · have a := (h1.pos _ (List.mem_map_of_mem (f := pr) hx)).2
    have b := (h2.pos _ (List.mem_map_of_mem (f := pr) hy)).2
    have e1 : (pr x).1 = x.r := rfl
    have e2 : (pr y).1 = y.r := rfl
    rw [e1] at a; rw [e2] at b
    omega
  · have a := h1.num (List.mem_map_of_mem (f := pr) hx)
    have b := h2.num (List.mem_map_of_mem (f := pr) hy)
    have e1 : (pr x).2 = x.n := rfl
    have e2 : (pr y).2 = y.n := rfl
    rw [e1] at a; rw [e2] at b
    have h0 := Int.mul_le_mul (show x.n ≤ 2000 by omega) (show y.n ≤ 2000 by omega) (by omega) (by omega)
    have h00 := Int.mul_nonneg (show 0 ≤ x.n by omega) (show 0 ≤ y.n by omega)
    unfold in64; omega
  · have h0 := Int.mul_le_mul l1 l2 (by omega) (by omega)
    have h1 : ((E1.length * E2.length : Nat) : Int) = (E1.length : Int) * (E2.length : Int) := by push_cast; rfl
    omega
set_option maxRecDepth 100000 in
set_option maxHeartbeats 4000000 in
theorem sideBy_any (b : Nat) (l : List Nx) (p : Px) (w : World) (hT : ThereAt w b l) (hN : ∀ x ∈ l, ElemsI w x.a x.c x.E) (hp : StrsA w p.fp p.fs) (hC : Cheap l p.fs) :
    Calls Tryz.prog 280 #[.map (some b), p.val] w fun e w' => ∃ v E, e = .returned v ∧ MkE w w' v E ∧ E.map pr = sideB l p := by
  have V := VarB.new w p.cells 50
  have a1 : _ = some (Value.slice p.fp p.fs.length p.fc) := V.cell 1 rfl
  have hl := p.cells_len
  have PC := hid0 (fun W (hW : Below w.heap.size w W) => partCost_any b l p W (hT.later hW) (hp.later hW) (by have := hC.few; omega))
  have HT := hid0 hT
  have HN := hid0 hN
  have HP := hid0 hp
  have HC := hid0 hC
  have hB0 : Below w.heap.size w (w.alloc (.cells p.cells.toArray 50)) := (Below.refl _ _).alloc (Nat.le_refl _) _
  have hin := costF_in l p.fs
  have hfew := hC.few
  clear hT hN hp hC
  unfold Px.val at PC ⊢
  by_cases hz : costF l p.fs = 0
  · have R := hid0 (show sideB l p = [] by unfold sideB; rw [if_pos hz])
    rw [hz] at PC
    generalize p.cells = us at *
    generalize p.fs = fs at *
    go_enter Tryz.func280, Tryz.ntmps280
    go_wp2_with (first | ((with_reducible refine wp_getB V.at_ Tryz.underlying50 ?_ ?_ ?_ ?_); (rfl); (rw [hl]; exact sizePx); (rfl); simp only [Act.put]) | (go_at_call 110; refine (PC.out _ hB0).mono ?_; rintro e w1 ⟨rfl, hb1⟩; (have hB1 := below_through hb1 hB0.size hB0); (have q1 := cell_later hb1 a1); (have hlt1 := Nat.lt_of_lt_of_le V.lt hb1.size)) | fail)
    go_ret
    exact ⟨_, [], rfl, (MkE.nil w).below hB1, R.out.symm⟩
  · have hpos : 0 < costF l p.fs := by omega
    have R := hid0 (show sideB l p = prodB l p.fs by unfold sideB; rw [if_neg hz])
    have HPB := hid0 (prod_pb HC.out hpos)
    obtain ⟨fp, hfp⟩ : ∃ fp, p.fp = fp := ⟨_, rfl⟩
    rw [hfp] at a1 HP
    clear hfp
    have HCA := hid0 (fun i (h : i < p.fs.length) x hx => cheap_at HC.out hpos h (x := x) hx)
    generalize p.cells = us at *
    generalize p.fs = fs at *
    generalize costF l fs = cst at *
    have hbe : (cst == 0) = false := by simpa using hz
    go_enter Tryz.func280, Tryz.ntmps280
    go_wp2_with (first | ((with_reducible refine wp_getB V.at_ Tryz.underlying50 ?_ ?_ ?_ ?_); (rfl); (rw [hl]; exact sizePx); (rfl); simp only [Act.put]) | (go_at_call 110; refine (PC.out _ hB0).mono ?_; rintro e w1 ⟨rfl, hb1⟩; (have hB1 := below_through hb1 hB0.size hB0); (have q1 := cell_later hb1 a1); (have hlt1 := Nat.lt_of_lt_of_le V.lt hb1.size)) | fail)
    have M0 := MkE.lit w w1 hB1 1
    have q2 := cell_later ((Below.refl w1.heap.size w1).alloc (Nat.le_refl _) (Obj.cells #[.slice none 0 0, .int .i64 1] 80)) q1
    clear q1 hB0 PC hB1 a1 V
    go_loopw [5, 17] (fun ov iv wr => ∃ (i : Nat) (Eo : List Elem), i ≤ fs.length ∧ iv = .int .i64 i ∧ MkE w wr ov Eo ∧ Hid (Eo.map pr = prodB l (fs.take i))) (fun _ iv _ => fs.length - (intOf iv).toNat)
    case atStart => exact ⟨0, _, Nat.zero_le _, rfl, M0, hid0 rfl⟩
    case round =>
      obtain ⟨i, Eo, hi, rfl, hM, hT⟩ := hrel
      clear M0 q2 hb1 hlt1
      have hsz := hM.b.size
      by_cases hlt : i < fs.length
      · obtain ⟨b1, o1, rfl, hc1⟩ := (HP.out.later hM.b).out (by intro e; rw [e] at hlt; exact absurd hlt (by simp))
        have q0 := hc1 i hlt
        clear hc1
        have hsm := (HP.out).small _ (List.getElem_mem hlt)
        obtain ⟨x, hx, hxe⟩ := HC.out.ok _ (List.getElem_mem hlt)
        obtain ⟨k1, k2, k3, k4, k5, hd, k7⟩ := HCA.out i hlt x hx
        have k6 := HPB.out i hi
        rw [← hT.out] at k6
        have hlk := (HT.out.later hM.b).look false hsm
        unfold srcOf at hlk
        rw [hx] at hlk
        dsimp only at hlk
        unfold Nx.val at hlk
        simp only [Bool.false_eq_true, if_false] at hlk
        have hxm := HN.out x (findN_mem hx)
        have hSO := hid0 (SideOk.of k6 k1 (by omega) ⟨k2, k3⟩ ⟨hd, k4⟩ k7 hM.z (fun e he ha => by
          obtain ⟨b', o', e', _⟩ := (hxm.at_.2 e he).1 (hxe e he).2.2
          rw [ha] at e'; cases e'))
        have HR := hid0 (show pairsB (Eo.map pr) (x.E.map pr) = prodB l (fs.take (i + 1)) by
          rw [List.take_succ_eq_append_getElem hlt, prodB_snoc, hT.out]; unfold rowsN; rw [hx])
        have hl1 : Eo.length ≤ 1000000 := by have := k6.len; rw [List.length_map] at this; omega
        have hl2 : x.E.length ≤ 1000000 := by have := k1.len; rw [List.length_map] at this; omega
        obtain ⟨a', c', rfl, hcc, hel⟩ := hM.elems
        have HEL := hid0 hel
        have HX := hid0 (hxm.at_.later hM.b)
        have hB := hid0 hM.b
        clear hxe k1 k6 hel hxm hM hx hd k2 k3 k4 k5 k7
        generalize sizeB (x.E.map pr) = z at hlk
        generalize fs[i] = s at q0 hlk hsm
        have hfl : ∀ W : World, (Instr.field 140 (.agg #[.slice x.a x.E.length x.c, .int .i64 z]) 0).run Tryz.prog W = .ok (.slice x.a x.E.length x.c) W := fun W => rfl
        go_wp2_with (go_at_call 303; refine (pairs_any _ _ _ _ _ _ _ HEL.out HX.out hl1 hl2 hSO.out).mono ?_; rintro e w2 ⟨v2, E2, rfl, hM2, hT2⟩)
        have R2 := hid0 (hM2.weak hB.out)
        exact ⟨⟨i + 1, E2, by omega, by go_num, R2.out, hid0 (by rw [hT2, HR.out])⟩, by simp [intOf]; omega⟩
      · have hie : ¬ (i : Int) < fs.length := by omega
        rw [List.take_of_length_le (by omega)] at hT
        go_wp2
        go_ret
        exact ⟨_, rfl, Eo, hM, by rw [hT.out, R.out]⟩
end Go.Proofs.YtfdkajefcplfjaaGreat

/- Rows that are there, each once (bag.Once): a contract of the call, in whatever memory. Conditions: the rows' cells are known; they are not too many. -/
namespace Go.Proofs.YtfdkajefcplfjaaGreat
open Go.RowKit

/-- Elements in a block of their own that a call has laid, their rows copies. -/
structure MkA (w0 w : World) (v : Value) (E : List Elem) : Prop where
  own : OwnB w w0.heap.size v E
  cp : CopiesE w E
  b : Below w0.heap.size w0 w
theorem MkE.toA {w0 w : World} {v : Value} {E : List Elem} (h : MkE w0 w v E) : MkA w0 w v E := ⟨h.own, h.cp, h.b⟩
theorem MkA.nil (w : World) : MkA w w (.slice none 0 0) [] := ⟨OwnB.nil _ _, CopiesE.nil _, Below.refl _ _⟩
theorem MkA.alloc {w0 w : World} {v : Value} {E : List Elem} (h : MkA w0 w v E) (o : Obj) : MkA w0 (w.alloc o) v E := ⟨h.own.alloc o, h.cp.later ((Below.refl _ _).alloc (Nat.le_refl _) _), h.b.alloc h.b.size o⟩
theorem MkA.below {w0 w w' : World} {v : Value} {E : List Elem} (h : MkA w0 w v E) (hb : Below w.heap.size w w') : MkA w0 w' v E := ⟨h.own.kept hb, h.cp.later hb, below_through hb h.b.size h.b⟩
theorem MkA.weak {w0 w1 w : World} {v : Value} {E : List Elem} (h : MkA w1 w v E) (hb : Below w0.heap.size w0 w1) : MkA w0 w v E :=
  ⟨⟨own_lower h.own.out hb.size⟩, h.cp, below_through h.b hb.size hb⟩
theorem MkA.lo {w0 w : World} {v : Value} {E : List Elem} (h : MkA w0 w v E) : ∀ k, v.ownBlock = some k → w0.heap.size ≤ k := fun k hk => (h.own.out.lt k hk).1
theorem MkA.hi {w0 w : World} {v : Value} {E : List Elem} (h : MkA w0 w v E) : ∀ k, v.ownBlock = some k → k < w.heap.size := fun k hk => (h.own.out.lt k hk).2
theorem MkA.box {w0 w : World} {v : Value} {E : List Elem} (h : MkA w0 w v E) : v.ownBlock ≠ some w.heap.size := fun e => by have := h.hi _ e; omega
theorem MkA.elems {w0 w : World} {v : Value} {E : List Elem} (h : MkA w0 w v E) : ∃ a c, v = .slice a E.length c ∧ E.length ≤ c ∧ ElemsAt w a E := by
  obtain ⟨a', c', hv, hcap, _, hcl⟩ := elems_owned h.own.out
  exact ⟨a', c', hv, hcap, hcl, h.cp.rows⟩
/-- An element appended. -/
theorem wp_ma {w0 w : World} {ops : Array Oper} {rest : List Oper} {o : Oper} {a : Act} {Q : Exit → Act → World → Prop} (hgd : o.guard = none) (s x : Operand)
    (ho : o.op = .call { callee := .builtin .append, args := #[s, x], argTypes := #[57, 57] })
    {v : Value} {E : List Elem} (hs : a.eval s = v) (hm : MkA w0 w v E)
    (e : Elem) (B : Nat) (hx : a.eval x = .slice (some ⟨B, 0, none⟩) 1 1) (h0 : w.cell? ⟨B, 0, none⟩ = some (.slice e.a e.r.length e.c)) (h1 : w.cell? ⟨B, 1, none⟩ = some (.int .i64 e.n))
    (hc : Copied w e.a e.r) (hk : rowOK e.r) (hlen : (E.length + 1) * 32 ≤ 140737488355328)
    (h : ∀ v' w', MkA w0 w' v' (E ++ [e]) → wpList Tryz.prog ops Q rest (a.put o.dst v') w') : wpList Tryz.prog ops Q (o :: rest) a w :=
  wp_bag1 hgd s x ho hs hm.own e B hx h0 h1 hlen hm.b.size fun v' w' h2 h3 => h v' w' ⟨h2, (hm.cp.keptT h3).snoc ⟨hc.keptE h3, hk⟩, hm.b.trans h3.below⟩
theorem once_take {E : List Elem} {i : Nat} (h : i < E.length) : onceB ((E.map pr).take (i + 1)) = onceB ((E.map pr).take i) ++ (if 0 < E[i].n then [(E[i].r, 1)] else []) := by
  unfold onceB
  rw [List.take_succ_eq_append_getElem (by simpa using h), List.filter_append, List.map_append]
  congr 1
  by_cases hn : 0 < E[i].n
  · simp [pr, hn]
  · simp [pr, hn]
theorem once_len (L : List Pair) : (onceB L).length ≤ L.length := by unfold onceB; rw [List.length_map]; exact List.length_filter_le _ _
set_option maxHeartbeats 4000000 in
set_option maxRecDepth 1000000 in
theorem once_any (a : Option Addr) (c : Nat) (E : List Elem) (w : World) (h : ElemsAt w a E) (hl : E.length ≤ 1000000) :
    Calls Tryz.prog 76 #[.slice a E.length c] w fun e w' => ∃ v E', e = .returned v ∧ MkA w w' v E' ∧ E'.map pr = onceB (E.map pr) := by
  have A := hid0 h
  clear h
  go_enter Tryz.func76, Tryz.ntmps76
  go_wp2
  go_loopw [3, 8] (fun ov iv wr => ∃ (i : Nat) (Eo : List Elem), i ≤ E.length ∧ iv = .int .i64 i ∧ MkA w wr ov Eo ∧ Hid (Eo.map pr = onceB ((E.map pr).take i))) (fun _ iv _ => E.length - (intOf iv).toNat)
  case atStart => exact ⟨0, [], Nat.zero_le _, rfl, MkA.nil w, hid0 (by simp [onceB])⟩
  case round =>
    obtain ⟨i, Eo, hi, rfl, hM, hT⟩ := hrel
    have hsz := hM.b.size
    by_cases hlt : i < E.length
    · obtain ⟨b1, o1, rfl, hc1⟩ := (A.out.1.later hM.b) (by intro e; rw [e] at hlt; exact absurd hlt (by simp))
      obtain ⟨q0, q1⟩ := hc1 i hlt
      clear hc1
      have r1 := hid0 (A.out.2 _ (List.getElem_mem hlt))
      have hot := once_take hlt
      have hEo : Eo.length ≤ 1000000 := by have h1 := congrArg List.length hT.out; have h2 := once_len ((E.map pr).take i); rw [List.length_map] at h1; rw [List.length_take, List.length_map] at h2; omega
      have HOT := hid0 hot
      clear hot
      generalize E[i] = x at q0 q1 r1 HOT
      have hMA := hM.alloc (Obj.cells #[.slice x.a x.r.length x.c, .int .i64 x.n] 80)
      by_cases hn : 0 < x.n
      · have HO2 := hid0 (show onceB ((E.map pr).take (i + 1)) = onceB ((E.map pr).take i) ++ [(x.r, 1)] by rw [HOT.out, if_pos hn])
        have CC := hid0 (clone_any x.a x.c x.r _ (r1.out.1.later hMA.b) r1.out.2)
        go_wp2_with (first | (go_at_call 39; go_must (refine CC.out.mono ?_; rintro e wn ⟨⟨a', c', rfl, hrow, hblk⟩, hbn⟩; (have HCP := hid0 (Copied.mk hrow hblk)); (have hM3 := hMA.below hbn))) | (at_builtin; refine wp_ma rfl _ _ rfl rfl (hM3.alloc _) ⟨a', c', x.r, 1⟩ _ rfl (elem_at _ _ _ _ (by simp)).1 (elem_at _ _ _ _ (by simp)).2 (HCP.out.later ((Below.refl _ _).alloc (Nat.le_refl _) _)) ?_ ?_ ?_; (exact r1.out.2); (omega); intro v1 w1 hm1) | fail)
        exact ⟨⟨i + 1, _, by omega, by go_num, hm1, hid0 (by rw [List.map_append, hT.out, HO2.out]; rfl)⟩, by simp [intOf]; omega⟩
      · have HO2 := hid0 (show onceB ((E.map pr).take (i + 1)) = onceB ((E.map pr).take i) by rw [HOT.out, if_neg hn, List.append_nil])
        go_wp2
        exact ⟨⟨i + 1, Eo, by omega, by go_num, hMA, hid0 (by rw [HO2.out, hT.out])⟩, by simp [intOf]; omega⟩
    · have hie : ¬ (i : Int) < E.length := by omega
      rw [List.take_of_length_le (by simp; omega)] at hT
      go_wp2
      go_ret
      exact ⟨_, rfl, Eo, hM, hT.out⟩
end Go.Proofs.YtfdkajefcplfjaaGreat

/- What a part tells of the rows that it keeps (plan.told): a contract of the call, in whatever memory. Conditions: the part's and the rows' cells are known; they are not too many; what alike answers, where the part has columns to group by. -/
namespace Go.Proofs.YtfdkajefcplfjaaGreat
open Go.RowKit

theorem runs_len (gs : List Int) : ∀ L, (runsM gs L).length ≤ L.length
  | [] => Nat.le_refl _
  | x :: L => by
    have ih := runs_len gs L
    unfold runsM
    split
    · rename_i y g R h
      rw [h] at ih
      split
      · simp at ih ⊢; omega
      · simp at ih ⊢; omega
    · simp
theorem runs_ne (gs : List Int) : ∀ L, ∀ g ∈ runsM gs L, g ≠ []
  | [], g, h => by simp [runsM] at h
  | x :: L, g, h => by
    have ih := runs_ne gs L
    unfold runsM at h
    split at h
    · rename_i y g' R e
      split at h
      · rcases List.mem_cons.1 h with rfl | h
        · simp
        · exact ih g (by rw [e]; simp [h])
      · rcases List.mem_cons.1 h with rfl | h
        · simp
        · exact ih g (by rw [e]; exact h)
    · rcases List.mem_cons.1 h with rfl | h
      · simp
      · simp at h
theorem groups_ne {p : Px} {K : List Pair} (hs : groupedB p = true → settledB p = true) {g : Grp} (hg : g ∈ groupsM p K) {o : Ox} (ho : o ∈ p.os) (h0 : o.g = 0) : g.1 ≠ [] := by
  unfold groupsM at hg
  split at hg
  · rename_i hb
    split at hg
    · rename_i hgs
      have := List.all_eq_true.1 (hs hb) o ho
      rw [h0, hgs] at this
      simp at this
    · obtain ⟨g', hg', rfl⟩ := List.mem_map.1 hg
      exact runs_ne _ _ _ hg'
  · obtain ⟨x, _, rfl⟩ := List.mem_map.1 hg
    simp
theorem absS_ones' {α : Type} (f : α → List Val) : ∀ G : List α, absS (G.map fun g => (f g, (1 : Int))) = G.length
  | [] => rfl
  | g :: G => by
    rw [List.map_cons, absS, absS_ones' f G, List.length_cons, if_neg (by show ¬ (1 : Int) < 0; omega)]
    show 1 + (G.length : Int) = _
    omega
theorem absS_same (f : Pair → List Val) : ∀ K : List Pair, absS (K.map fun x => (f x, x.2)) = absS K
  | [] => rfl
  | x :: K => by rw [List.map_cons, absS, absS, absS_same f K]
theorem told_small (p : Px) (K : List Pair) : (toldL p (groupsM p K)).length ≤ K.length + 1 ∧ absS (toldL p (groupsM p K)) ≤ absS K + K.length + 1 := by
  have h0 := absS_nonneg K
  unfold toldL groupsM
  split
  · split
    · refine ⟨by simp, ?_⟩
      show absS [(rowM p.os K, 1)] ≤ _
      simp only [absS]
      omega
    · have h1 := runs_len p.gs (sortG p.gs K)
      have h2 : (sortG p.gs K).length = K.length := List.length_mergeSort _
      rw [List.map_map]
      refine ⟨by rw [List.length_map]; omega, ?_⟩
      have := absS_ones' (fun g => rowM p.os g) (runsM p.gs (sortG p.gs K))
      have e : ((fun g : Grp => (rowM p.os g.1, g.2)) ∘ fun g => (g, (1 : Int))) = fun g => (rowM p.os g, 1) := rfl
      rw [e, this]; omega
  · rw [List.map_map]
    refine ⟨by rw [List.length_map]; omega, ?_⟩
    have e : ((fun g : Grp => (rowM p.os g.1, g.2)) ∘ fun x : Pair => ([x], x.2)) = fun x => (rowM p.os [x], x.2) := rfl
    rw [e, absS_same (fun x => rowM p.os [x])]; omega
theorem grp_at {G : List Gx} {i : Nat} (p : Px) (h : i < G.length) : toldL p ((G.map Gx.grp).take (i + 1)) = toldL p ((G.map Gx.grp).take i) ++ [(rowM p.os (G[i].E.map pr), G[i].t)] ∧ toldE p ((G.map Gx.grp).take (i + 1)) = graverM (toldE p ((G.map Gx.grp).take i)) (errM p.os (G[i].E.map pr)) := by
  rw [List.take_succ_eq_append_getElem (by simpa using h), toldL_snoc, toldE_snoc]
  simp [Gx.grp]
set_option maxHeartbeats 16000000 in
set_option maxRecDepth 1000000 in
theorem told_any {n : Nat} (p : Px) (v : Value) (E : List Elem) (w0 w : World) (hp : PxOk w0 n p) (ho8 : p.os.length ≤ 8) (hM : MkE w0 w v E) (hE : ElOk E) (hfew : E.length ≤ 2000) (hall : absS (E.map pr) ≤ 2000) (hs : groupedB p = true → settledB p = true) (hA : groupedB p = true → p.gs ≠ [] → AlikeC w0 v E p.gp p.gc p.gs) :
    Calls Tryz.prog 252 #[p.val, v] w fun e w' => ∃ v' E', e = .returned (.tuple #[v', .int .i64 (toldE p (groupsM p (E.map pr)))]) ∧ MkA w0 w' v' E' ∧ E'.map pr = toldM p (E.map pr) := by
  obtain ⟨V, hB0⟩ := part_box p w
  have hl := p.cells_len
  have HMB := hid0 hM.b
  have hbv := hM.box
  have hlo := hM.lo
  have CG := hid0 (fun W (hW : Below w.heap.size w W) => groups_any p v E w0 W (hp.later (below_through hW hM.b.size hM.b)) (hM.below hW) hE hA)
  have HNE := hid0 (fun (g : Gx) (hg : g.grp ∈ groupsM p (E.map pr)) (o : Ox) (ho : o ∈ p.os) (h0 : o.g = 0) => (show g.E ≠ [] from fun e => groups_ne hs hg ho h0 (by show g.E.map pr = []; rw [e]; rfl)))
  have HTS := hid0 (told_small p (E.map pr))
  have CT := hid0 (fun (W : World) (g : Gx) (hg : g.grp ∈ groupsM p (E.map pr)) (hW : Below w0.heap.size w0 W) (hG : GrpOk W g.a g.c g.E) => toldOf_any p.op p.oc p.os g.a g.c g.E W (hp.outs.later hW) (fun o ho => (hp.es o ho).1.later hW) (by omega) hG (HNE.out g hg))
  obtain ⟨RE, hRE⟩ : ∃ RE, toldE p (groupsM p (E.map pr)) = RE := ⟨_, rfl⟩
  have HRE := hid0 hRE
  rw [hRE]
  have HRL := hid0 (show toldM p (E.map pr) = if p.d = true then onceB (ofB (toldL p (groupsM p (E.map pr)))) else toldL p (groupsM p (E.map pr)) from rfl)
  obtain ⟨RL, hRL⟩ : ∃ RL, toldM p (E.map pr) = RL := ⟨_, rfl⟩
  rw [hRL] at HRL ⊢
  have q19 := V.cell 19 p.c19
  have q0 := V.cell 0 p.c0
  have c19 := p.c19
  have c0 := p.c0
  have hKl : (E.map pr).length ≤ 2000 := by rw [List.length_map]; exact hfew
  generalize groupsM p (E.map pr) = GM at *
  generalize E.map pr = K at *
  clear hM hE hA hs hp hRE hRL
  unfold Px.val at CG ⊢
  obtain ⟨us, hus⟩ : ∃ us, p.cells = us := ⟨_, rfl⟩
  rw [hus] at V hB0 hl CG c19 c0 q0 q19 ⊢
  clear hus
  go_enter Tryz.func252, Tryz.ntmps252
  go_wp2_with (first | ((with_reducible refine wp_getB V.at_ Tryz.underlying50 ?_ ?_ ?_ ?_); (rfl); (rw [hl]; exact sizePx); (rfl); simp only [Act.put]) | (go_at_call 276; go_must (refine (CG.out _ hB0).mono ?_; rintro e w1 ⟨ag, cg, G, rfl, hG, hGm, hg1⟩)) | fail)
  have hB1 : Below w0.heap.size w0 w1 := ((HMB.out.alloc HMB.out.size _)).grown hg1 (by have := HMB.out.size; simp; omega) hlo
  have V1 : VarB w1 w.heap.size us := V.keep (hg1.block _ V.lt (fun e => hbv e.symm)) hg1.size
  have hG1 := hid0 hG
  have hGM := hid0 hGm
  have hGlen : G.length ≤ 1000000 := by
    have h1 := HTS.out.1
    have h2 := congrArg List.length hGm
    unfold toldL at h1
    rw [List.length_map] at h1 h2
    omega
  clear V q0 q19 hg1 hG hGm CG hB0
  go_loopw [6, 7, 16] (fun sv ev iv wr => ∃ (i : Nat) (Eo : List Elem), i ≤ G.length ∧ iv = .int .i64 i ∧ ev = .int .i64 (toldE p (GM.take i)) ∧ MkE w1 wr sv Eo ∧ VarB wr w.heap.size us ∧ sv.ownBlock ≠ some w.heap.size ∧ Hid (Eo.map pr = toldL p (GM.take i))) (fun _ _ iv _ => G.length - (intOf iv).toNat)
  case atStart => exact ⟨0, [], Nat.zero_le _, rfl, rfl, MkE.nil w1, V1, by simp [Value.ownBlock], hid0 rfl⟩
  case round =>
    obtain ⟨i, Eo, hi, rfl, rfl, hM, VX, hbX, hT⟩ := hrel
    clear V1
    have hsz := hM.b.size
    by_cases hlt : i < G.length
    · obtain ⟨b1, o1, rfl, hc1⟩ := (hG1.out.later hM.b).at_ (by intro e; rw [e] at hlt; exact absurd hlt (by simp))
      obtain ⟨r0, r1⟩ := hc1 i hlt
      clear hc1
      have hmem := List.getElem_mem hlt
      have hgo := (hG1.out.later hM.b).rows _ hmem
      have hgm : (G[i]).grp ∈ GM := by rw [← hGM.out]; exact List.mem_map_of_mem hmem
      obtain ⟨hL, hE2⟩ := grp_at (G := G) p hlt
      rw [hGM.out] at hL hE2
      have hEo : Eo.length ≤ 1000000 := by
        have h1 := congrArg List.length hT.out
        have h2 := congrArg List.length hGM.out
        unfold toldL at h1
        rw [List.length_map, List.length_map, List.length_take] at h1
        have h3 := HTS.out.1
        unfold toldL at h3
        rw [List.length_map] at h3
        omega
      have CTg := fun (W : World) (hW : Below w0.heap.size w0 W) => CT.out W G[i] hgm hW
      have HL := hid0 hL
      have HE2 := hid0 hE2
      clear hL hE2 hgm hmem
      generalize G[i] = g at r0 r1 hgo HL HE2 CTg
      have hMA := hM.alloc (Obj.cells #[.slice g.a g.E.length g.c, .int .i64 g.t] 282)
      have VXA := VX.alloc (Obj.cells #[.slice g.a g.E.length g.c, .int .i64 g.t] 282)
      have VBA := VarB.new wr [.slice g.a g.E.length g.c, .int .i64 g.t] 282
      have CTx := hid0 (CTg _ (below_through hMA.b hB1.size hB1) (hgo.later ((Below.refl wr.heap.size wr).alloc (Nat.le_refl _) (Obj.cells #[.slice g.a g.E.length g.c, .int .i64 g.t] 282))))
      have x19 := VXA.cell 19 c19
      have e0 := VBA.cell 0 rfl
      have e1 := VBA.cell 1 rfl
      have hbl := VBA.lt
      clear CTg hgo hM VX VBA
      obtain ⟨rr, hrr⟩ : ∃ rr, rowM p.os (g.E.map pr) = rr := ⟨_, rfl⟩
      obtain ⟨f, hf⟩ : ∃ f, errM p.os (g.E.map pr) = f := ⟨_, rfl⟩
      have hrl := rowM_len p.os (g.E.map pr)
      rw [hrr] at HL CTx hrl
      rw [hf] at HE2 CTx
      clear hrr hf
      obtain ⟨er, herr⟩ : ∃ er, toldE p (GM.take i) = er := ⟨_, rfl⟩
      rw [herr] at HE2 ⊢
      have CGr := hid0 (fun W => graver_any er f W)
      clear herr
      have hrk : rr.length * 32 ≤ 140737488351232 := by omega
      have hrk := hid0 hrk
      clear hrl
      go_wp2_with (first | (go_at_call 277; refine CTx.out.mono ?_; rintro e w2 ⟨⟨a', c', rfl, hcc, hcp⟩, hb2⟩; (have hM2 := hMA.below hb2); (have VX2 := VXA.below hb2); (have z1 := cell_later hb2 e1); (have hlt2 := Nat.lt_of_lt_of_le hbl hb2.size); (have HCP := hid0 hcp); (have HCC := hid0 hcc); clear hcp hcc) | (go_at_call 254; refine (CGr.out _).mono ?_; rintro e w3 ⟨rfl, hw3⟩; rw [hw3]) | (at_builtin; refine wp_mk rfl _ _ rfl rfl (hM2.alloc _) ⟨a', c', rr, g.t⟩ _ rfl (elem_at _ _ _ _ (by simp)).1 (elem_at _ _ _ _ (by simp)).2 (HCP.out.later ((Below.refl _ _).alloc (Nat.le_refl _) _)) ?_ ?_ ?_ ?_; (exact hrk.out); (exact HCC.out); (omega); intro v4 w4 hm4 hg4; (have VX4 := hg4.var (VX2.alloc _) hbX); (have hbX4 := hg4.apart (VX2.alloc _) hbX); clear hg4) | fail)
      exact ⟨⟨i + 1, _, by omega, by go_num, by rw [HE2.out], hm4, VX4, hbX4, hid0 (by rw [List.map_append, hT.out, HL.out]; rfl)⟩, by simp [intOf]; omega⟩
    · have hie : ¬ (i : Int) < G.length := by omega
      have hGl : GM.length = G.length := by rw [← hGM.out, List.length_map]
      rw [List.take_of_length_le (by omega)] at hT ⊢
      rw [HRE.out]
      have x0 := VX.cell 0 c0
      have hMw := hid0 ((hM.toA).weak hB1)
      obtain ⟨ae, ce, rfl, hce, hel⟩ := hM.elems
      have hEl := congrArg List.length hT.out
      rw [List.length_map] at hEl
      have hsm := HTS.out
      have HEL := hid0 hel
      have hab := absS_ofB (toldL p GM)
      have hlb := len_ofB (toldL p GM)
      have hb := hid0 hM.b
      have CO := hid0 (bagOf_any ae ce Eo wr hel hce (by omega) (by rw [hT.out]; omega))
      clear hel hM VX hEl HEL
      cases hd : p.d with
      | false =>
        rw [hd] at x0 HRL
        have HRL2 := hid0 (show RL = toldL p GM by rw [HRL.out]; simp)
        go_wp2
        go_returns
        exact ⟨_, rfl, Eo, hMw.out, by rw [hT.out, HRL2.out]⟩
      | true =>
        rw [hd] at x0 HRL
        have HRL2 := hid0 (show RL = onceB (ofB (toldL p GM)) by rw [HRL.out]; simp)
        go_wp2_with (first | (go_at_call 47; go_must (refine CO.out.mono ?_; rintro e w5 ⟨⟨a5, c5, E5, rfl, hc5, hE5, hm5⟩, hb5⟩; (have hE5l : E5.length ≤ 1000000 := by have h9 := congrArg List.length hm5; rw [List.length_map, hT.out] at h9; omega); (have HM5 := hid0 hm5); clear hm5)) | (go_at_call 76; go_must (refine (once_any a5 c5 E5 _ hE5 hE5l).mono ?_; rintro e w6 ⟨v6, E6, rfl, hM6, hm6⟩)) | fail)
        go_returns
        exact ⟨_, E6, rfl, hM6.weak (below_through hb5 (by have := hB1.size; have := hb.out.size; omega) (below_through hb.out hB1.size hB1)), by rw [hm6, HM5.out, hT.out, HRL2.out]⟩
end Go.Proofs.YtfdkajefcplfjaaGreat
