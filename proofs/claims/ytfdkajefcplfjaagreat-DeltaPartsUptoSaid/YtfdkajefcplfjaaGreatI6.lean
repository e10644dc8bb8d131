/- Several of my texts laid together, each as it was: XS, XT, XH, XU, XV. Conditions: each names its own. -/
import Derived.Test.YtfdkajefcplfjaaGreatI5
import Derived.Test.YtfdkajefcplfjaaGreatI3
import Derived.Test.YtfdkajefcplfjaaGreatH8
import Derived.Test.YtfdkajefcplfjaaGreatI2
import Derived.Test.YtfdkajefcplfjaaGreatI1
import Derived.Test.YtfdkajefcplfjaaGreatI4
/- Groups of rows as they lie; each row a group of its own (plan.alone): contracts of the calls, in whatever memory. Conditions: the rows' cells are known; they are not too many. -/
namespace Go.Proofs.YtfdkajefcplfjaaGreat
open Go.RowKit

/-- A group: where its rows lie, how often its row is told. -/
structure Gx where
  a : Option Addr
  c : Nat
  E : List Elem
  t : Int
def Gx.one (g : Gx) : List Value := [.slice g.a g.E.length g.c, .int .i64 g.t]
def cellsG (G : List Gx) : List Value := G.flatMap Gx.one
def Gx.grp (g : Gx) : Grp := (g.E.map pr, g.t)
theorem cellsG_at : ∀ (G : List Gx) (i : Nat) (h : i < G.length), (cellsG G)[i * 2]? = some (.slice G[i].a G[i].E.length G[i].c) ∧ (cellsG G)[i * 2 + 1]? = some (.int .i64 G[i].t)
  | g :: G, 0, _ => ⟨by simp [cellsG, Gx.one], by simp [cellsG, Gx.one]⟩
  | g :: G, i + 1, h => by
    have ih := cellsG_at G i (by simpa using h)
    have e : cellsG (g :: G) = .slice g.a g.E.length g.c :: .int .i64 g.t :: cellsG G := by simp [cellsG, Gx.one]
    rw [e, show (i + 1) * 2 = i * 2 + 1 + 1 by omega]
    simp only [List.getElem?_cons_succ, List.getElem_cons_succ]
    exact ih
/-- Groups in a block of their own. -/
structure MkG (w0 w : World) (v : Value) (G : List Gx) : Prop where
  own : w.ownsRow w0.heap.size 282 2 v G.length (cellsG G)
  b : Below w0.heap.size w0 w
theorem MkG.nil (w : World) : MkG w w (.slice none 0 0) [] := ⟨World.ownsRow_nil _ _ _ _, Below.refl _ _⟩
theorem MkG.alloc {w0 w : World} {v : Value} {G : List Gx} (h : MkG w0 w v G) (o : Obj) : MkG w0 (w.alloc o) v G := ⟨h.own.alloc o, h.b.alloc h.b.size o⟩
theorem MkG.drew {w0 w : World} {v : Value} {G : List Gx} (h : MkG w0 w v G) : MkG w0 w.drew v G := ⟨h.own, Below.drew h.b⟩
theorem MkG.below {w0 w w' : World} {v : Value} {G : List Gx} (h : MkG w0 w v G) (hb : Below w.heap.size w w') : MkG w0 w' v G := ⟨own_belowY h.own hb, below_through hb h.b.size h.b⟩
theorem MkG.hi {w0 w : World} {v : Value} {G : List Gx} (h : MkG w0 w v G) : ∀ k, v.ownBlock = some k → k < w.heap.size := fun k hk => (h.own.lt k hk).2
theorem MkG.lo {w0 w : World} {v : Value} {G : List Gx} (h : MkG w0 w v G) : ∀ k, v.ownBlock = some k → w0.heap.size ≤ k := fun k hk => (h.own.lt k hk).1
theorem MkG.box {w0 w : World} {v : Value} {G : List Gx} (h : MkG w0 w v G) : v.ownBlock ≠ some w.heap.size := fun e => by have := h.hi _ e; omega
/-- Groups as they lie, each with its rows. -/
structure GrpsAt (w : World) (a : Option Addr) (G : List Gx) : Prop where
  at_ : G ≠ [] → ∃ b off, a = some ⟨b, off, none⟩ ∧ ∀ i (h : i < G.length), w.cell? ⟨b, off + i * 2, none⟩ = some (.slice G[i].a G[i].E.length G[i].c) ∧ w.cell? ⟨b, off + i * 2 + 1, none⟩ = some (.int .i64 G[i].t)
  rows : ∀ g ∈ G, GrpOk w g.a g.c g.E
theorem GrpsAt.later {w w' : World} {a : Option Addr} {G : List Gx} (h : GrpsAt w a G) (hb : Below w.heap.size w w') : GrpsAt w' a G := ⟨fun hn => by
  obtain ⟨b, off, e, hc⟩ := h.at_ hn
  exact ⟨b, off, e, fun i hi => ⟨cell_later hb (hc i hi).1, cell_later hb (hc i hi).2⟩⟩, fun g hg => (h.rows g hg).later hb⟩
theorem MkG.at_ {w0 w : World} {v : Value} {G : List Gx} (h : MkG w0 w v G) (hr : ∀ g ∈ G, GrpOk w g.a g.c g.E) : ∃ a c, v = .slice a G.length c ∧ GrpsAt w a G := by
  have h0 := h.own
  rcases h.own.2 with ⟨e, hl⟩ | ⟨g, cap, cur, e, _, hh, hn, _, hsz, ht⟩
  · exact ⟨none, 0, by rw [e, hl], fun hn => absurd (List.length_eq_zero_iff.1 hl) hn, hr⟩
  · refine ⟨some ⟨g, 0, none⟩, cap, e, fun hn => ⟨g, 0, rfl, fun i hi => ?_⟩, hr⟩
    have V := varB_ownE h0 (g := g) (by rw [e]; rfl)
    obtain ⟨c0, c1⟩ := cellsG_at G i hi
    rw [Nat.zero_add]
    exact ⟨V.cell _ c0, V.cell _ c1⟩
/-- One row of a group's, as a group. -/
theorem GrpOk.one {w : World} {b o c : Nat} {E : List Elem} (h : GrpOk w (some ⟨b, o, none⟩) c E) {i : Nat} (hi : i < E.length) : GrpOk w (some ⟨b, o + i * 2, none⟩) (c - i) [E[i]] := by
  have hd := (h.at_.drop i).take 1
  have e : (E.drop i).take 1 = [E[i]] := by rw [List.drop_eq_getElem_cons hi]; rfl
  rw [e] at hd
  have hm := List.getElem_mem hi
  have ha := absS_mem (L := E.map pr) (List.mem_map_of_mem (f := pr) hm)
  have hall := h.all
  have hn := (h.i _ hm).2.2
  have hc := h.cap
  have e2 : (pr E[i]).2 = E[i].n := rfl
  rw [e2] at ha
  refine ⟨hd, fun e he => ?_, by simp, ?_, by simp; omega⟩
  · obtain rfl := List.mem_singleton.1 he; exact h.i _ hm
  · show absS [pr E[i]] ≤ _
    unfold absS; rw [e2, if_neg (by omega)]; unfold absS; omega
end Go.Proofs.YtfdkajefcplfjaaGreat

/- The groups of a part's rows (plan.groups): a contract of the call, in whatever memory. Conditions: the part's and the rows' cells are known; what alike answers, where the part has columns to group by. -/
namespace Go.Proofs.YtfdkajefcplfjaaGreat
open Go.RowKit

/-- What a part's rows must be. -/
structure ElOk (E : List Elem) : Prop where
  i : ∀ e ∈ E, (∀ x ∈ e.r, inI x) ∧ e.r.length ≤ 1000 ∧ 0 ≤ e.n
  few : E.length ≤ 1000000
  all : absS (E.map pr) ≤ 1000000
theorem ElOk.grp {w0 w : World} {a : Option Addr} {c : Nat} {E : List Elem} (h : ElOk E) (hM : MkE w0 w (.slice a E.length c) E) : GrpOk w a c E := by
  obtain ⟨a', c', e, hc, hel⟩ := hM.elems
  obtain ⟨rfl, -, rfl⟩ := Value.slice.inj e
  exact ⟨hel, h.i, h.few, h.all, hc⟩
end Go.Proofs.YtfdkajefcplfjaaGreat

/- A part's rows side by side (sources.sideBySide): a contract of the call, in whatever memory. Conditions: the sources are ready and not too great. -/
namespace Go.Proofs.YtfdkajefcplfjaaGreat
open Go.RowKit

theorem own_lower {w : World} {b0 b1 : Nat} {e : TypeId} {k n : Nat} {v : Value} {X : List Value} (h : w.ownsRow b1 e k v n X) (hb : b0 ≤ b1) : w.ownsRow b0 e k v n X := by
  refine ⟨h.1, ?_⟩
  rcases h.2 with h2 | ⟨g, cap, cur, e1, hg, rest⟩
  · exact .inl h2
  · exact .inr ⟨g, cap, cur, e1, Nat.le_trans hb hg, rest⟩
theorem MkE.weak {w0 w1 w : World} {v : Value} {E : List Elem} (h : MkE w1 w v E) (hb : Below w0.heap.size w0 w1) : MkE w0 w v E :=
  ⟨⟨own_lower h.own.out hb.size⟩, h.cp, h.z, h.cap, below_through h.b hb.size hb⟩
theorem MkE.lit (w0 w : World) (hb : Below w0.heap.size w0 w) (n : Int) : MkE w0 (w.alloc (Obj.cells #[.slice none 0 0, .int .i64 n] 80)) (.slice (some ⟨w.heap.size, 0, none⟩) 1 1) [⟨none, 0, [], n⟩] := by
  refine ⟨⟨World.ownsRow_lit w #[.slice none 0 0, .int .i64 n] 1 hb.size (by unfold maxLen; omega) rfl⟩, ⟨fun e he => ?_⟩, fun e he _ => ?_, fun e he => ?_, hb.alloc hb.size _⟩
  · simp at he; subst he; exact ⟨⟨fun h => absurd rfl h, fun h => absurd rfl h⟩, by show 0 * 32 ≤ _; omega⟩
  · simp at he; subst he; rfl
  · simp at he; subst he; exact Nat.le_refl _
theorem SideOk.of {E1 E2 : List Elem} {m k : Nat} {c d : Int} (h1 : PB (E1.map pr) m c) (h2 : PB (E2.map pr) k d) (hm : m + k ≤ 1000) (hc : 0 < c ∧ c ≤ 2000) (hd : 0 < d ∧ d ≤ 2000) (hcd : c * d ≤ 2000) (z1 : ∀ e ∈ E1, e.a = none → e.c = 0) (z2 : ∀ e ∈ E2, e.a = none → e.c = 0) : SideOk E1 E2 := by
  have l1 := h1.len
  have l2 := h2.len
  rw [List.length_map] at l1 l2
  refine ⟨z1, z2, fun x hx y hy => ?_, fun x hx y hy => ?_, ?_⟩
  · have a := (h1.pos _ (List.mem_map_of_mem (f := pr) hx)).2
    have b := (h2.pos _ (List.mem_map_of_mem (f := pr) hy)).2
    have e1 : (pr x).1 = x.r := rfl
    have e2 : (pr y).1 = y.r := rfl
    rw [e1] at a; rw [e2] at b
    omega
  · have a := h1.num (List.mem_map_of_mem (f := pr) hx)
    have b := h2.num (List.mem_map_of_mem (f := pr) hy)
    have e1 : (pr x).2 = x.n := rfl
    have e2 : (pr y).2 = y.n := rfl
    rw [e1] at a; rw [e2] at b
    have h0 := Int.mul_le_mul (show x.n ≤ 2000 by omega) (show y.n ≤ 2000 by omega) (by omega) (by omega)
    have h00 := Int.mul_nonneg (show 0 ≤ x.n by omega) (show 0 ≤ y.n by omega)
    unfold in64; omega
  · have h0 := Int.mul_le_mul l1 l2 (by omega) (by omega)
    have h1 : ((E1.length * E2.length : Nat) : Int) = (E1.length : Int) * (E2.length : Int) := by push_cast; rfl
    omega
set_option maxRecDepth 100000 in
set_option maxHeartbeats 4000000 in
theorem sideBy_any (b : Nat) (l : List Nx) (p : Px) (w : World) (hT : ThereAt w b l) (hN : ∀ x ∈ l, ElemsI w x.a x.c x.E) (hp : StrsA w p.fp p.fs) (hC : Cheap l p.fs) :
    Calls Tryz.prog 280 #[.map (some b), p.val] w fun e w' => ∃ v E, e = .returned v ∧ MkE w w' v E ∧ E.map pr = sideB l p := by
  have V := VarB.new w p.cells 50
  have a1 : _ = some (Value.slice p.fp p.fs.length p.fc) := V.cell 1 rfl
  have hl := p.cells_len
  have PC := hid0 (fun W (hW : Below w.heap.size w W) => partCost_any b l p W (hT.later hW) (hp.later hW) (by have := hC.few; omega))
  have HT := hid0 hT
  have HN := hid0 hN
  have HP := hid0 hp
  have HC := hid0 hC
  have hB0 : Below w.heap.size w (w.alloc (.cells p.cells.toArray 50)) := (Below.refl _ _).alloc (Nat.le_refl _) _
  have hin := costF_in l p.fs
  have hfew := hC.few
  clear hT hN hp hC
  unfold Px.val at PC ⊢
  by_cases hz : costF l p.fs = 0
  · have R := hid0 (show sideB l p = [] by unfold sideB; rw [if_pos hz])
    rw [hz] at PC
    generalize p.cells = us at *
    generalize p.fs = fs at *
    go_enter Tryz.func280, Tryz.ntmps280
    go_wp2_with (first | ((with_reducible refine wp_getB V.at_ Tryz.underlying50 ?_ ?_ ?_ ?_); (rfl); (rw [hl]; exact sizePx); (rfl); simp only [Act.put]) | (go_at_call 110; refine (PC.out _ hB0).mono ?_; rintro e w1 ⟨rfl, hb1⟩; (have hB1 := below_through hb1 hB0.size hB0); (have q1 := cell_later hb1 a1); (have hlt1 := Nat.lt_of_lt_of_le V.lt hb1.size)) | fail)
    go_ret
    exact ⟨_, [], rfl, (MkE.nil w).below hB1, R.out.symm⟩
  · have hpos : 0 < costF l p.fs := by omega
    have R := hid0 (show sideB l p = prodB l p.fs by unfold sideB; rw [if_neg hz])
    have HPB := hid0 (prod_pb HC.out hpos)
    obtain ⟨fp, hfp⟩ : ∃ fp, p.fp = fp := ⟨_, rfl⟩
    rw [hfp] at a1 HP
    clear hfp
    have HCA := hid0 (fun i (h : i < p.fs.length) x hx => cheap_at HC.out hpos h (x := x) hx)
    generalize p.cells = us at *
    generalize p.fs = fs at *
    generalize costF l fs = cst at *
    have hbe : (cst == 0) = false := by simpa using hz
    go_enter Tryz.func280, Tryz.ntmps280
    go_wp2_with (first | ((with_reducible refine wp_getB V.at_ Tryz.underlying50 ?_ ?_ ?_ ?_); (rfl); (rw [hl]; exact sizePx); (rfl); simp only [Act.put]) | (go_at_call 110; refine (PC.out _ hB0).mono ?_; rintro e w1 ⟨rfl, hb1⟩; (have hB1 := below_through hb1 hB0.size hB0); (have q1 := cell_later hb1 a1); (have hlt1 := Nat.lt_of_lt_of_le V.lt hb1.size)) | fail)
    have M0 := MkE.lit w w1 hB1 1
    have q2 := cell_later ((Below.refl w1.heap.size w1).alloc (Nat.le_refl _) (Obj.cells #[.slice none 0 0, .int .i64 1] 80)) q1
    clear q1 hB0 PC hB1 a1 V
    go_loopw [5, 17] (fun ov iv wr => ∃ (i : Nat) (Eo : List Elem), i ≤ fs.length ∧ iv = .int .i64 i ∧ MkE w wr ov Eo ∧ Hid (Eo.map pr = prodB l (fs.take i))) (fun _ iv _ => fs.length - (intOf iv).toNat)
    case atStart => exact ⟨0, _, Nat.zero_le _, rfl, M0, hid0 rfl⟩
    case round =>
      obtain ⟨i, Eo, hi, rfl, hM, hT⟩ := hrel
      clear M0 q2 hb1 hlt1
      have hsz := hM.b.size
      by_cases hlt : i < fs.length
      · obtain ⟨b1, o1, rfl, hc1⟩ := (HP.out.later hM.b).out (by intro e; rw [e] at hlt; exact absurd hlt (by simp))
        have q0 := hc1 i hlt
        clear hc1
        have hsm := (HP.out).small _ (List.getElem_mem hlt)
        obtain ⟨x, hx, hxe⟩ := HC.out.ok _ (List.getElem_mem hlt)
        obtain ⟨k1, k2, k3, k4, k5, hd, k7⟩ := HCA.out i hlt x hx
        have k6 := HPB.out i hi
        rw [← hT.out] at k6
        have hlk := (HT.out.later hM.b).look false hsm
        unfold srcOf at hlk
        rw [hx] at hlk
        dsimp only at hlk
        unfold Nx.val at hlk
        simp only [Bool.false_eq_true, if_false] at hlk
        have hxm := HN.out x (findN_mem hx)
        have hSO := hid0 (SideOk.of k6 k1 (by omega) ⟨k2, k3⟩ ⟨hd, k4⟩ k7 hM.z (fun e he ha => by
          obtain ⟨b', o', e', _⟩ := (hxm.at_.2 e he).1 (hxe e he).2.2
          rw [ha] at e'; cases e'))
        have HR := hid0 (show pairsB (Eo.map pr) (x.E.map pr) = prodB l (fs.take (i + 1)) by
          rw [List.take_succ_eq_append_getElem hlt, prodB_snoc, hT.out]; unfold rowsN; rw [hx])
        have hl1 : Eo.length ≤ 1000000 := by have := k6.len; rw [List.length_map] at this; omega
        have hl2 : x.E.length ≤ 1000000 := by have := k1.len; rw [List.length_map] at this; omega
        obtain ⟨a', c', rfl, hcc, hel⟩ := hM.elems
        have HEL := hid0 hel
        have HX := hid0 (hxm.at_.later hM.b)
        have hB := hid0 hM.b
        clear hxe k1 k6 hel hxm hM hx hd k2 k3 k4 k5 k7
        generalize sizeB (x.E.map pr) = z at hlk
        generalize fs[i] = s at q0 hlk hsm
        have hfl : ∀ W : World, (Instr.field 140 (.agg #[.slice x.a x.E.length x.c, .int .i64 z]) 0).run Tryz.prog W = .ok (.slice x.a x.E.length x.c) W := fun W => rfl
        go_wp2_with (go_at_call 303; refine (pairs_any _ _ _ _ _ _ _ HEL.out HX.out hl1 hl2 hSO.out).mono ?_; rintro e w2 ⟨v2, E2, rfl, hM2, hT2⟩)
        have R2 := hid0 (hM2.weak hB.out)
        exact ⟨⟨i + 1, E2, by omega, by go_num, R2.out, hid0 (by rw [hT2, HR.out])⟩, by simp [intOf]; omega⟩
      · have hie : ¬ (i : Int) < fs.length := by omega
        rw [List.take_of_length_le (by omega)] at hT
        go_wp2
        go_ret
        exact ⟨_, rfl, Eo, hM, by rw [hT.out, R.out]⟩
end Go.Proofs.YtfdkajefcplfjaaGreat

/- Rows that are there, each once (bag.Once): a contract of the call, in whatever memory. Conditions: the rows' cells are known; they are not too many. -/
namespace Go.Proofs.YtfdkajefcplfjaaGreat
open Go.RowKit

/-- Elements in a block of their own that a call has laid, their rows copies. -/
structure MkA (w0 w : World) (v : Value) (E : List Elem) : Prop where
  own : OwnB w w0.heap.size v E
  cp : CopiesE w E
  b : Below w0.heap.size w0 w
theorem MkA.nil (w : World) : MkA w w (.slice none 0 0) [] := ⟨OwnB.nil _ _, CopiesE.nil _, Below.refl _ _⟩
theorem MkA.alloc {w0 w : World} {v : Value} {E : List Elem} (h : MkA w0 w v E) (o : Obj) : MkA w0 (w.alloc o) v E := ⟨h.own.alloc o, h.cp.later ((Below.refl _ _).alloc (Nat.le_refl _) _), h.b.alloc h.b.size o⟩
theorem MkA.below {w0 w w' : World} {v : Value} {E : List Elem} (h : MkA w0 w v E) (hb : Below w.heap.size w w') : MkA w0 w' v E := ⟨h.own.kept hb, h.cp.later hb, below_through hb h.b.size h.b⟩
theorem MkA.weak {w0 w1 w : World} {v : Value} {E : List Elem} (h : MkA w1 w v E) (hb : Below w0.heap.size w0 w1) : MkA w0 w v E :=
  ⟨⟨own_lower h.own.out hb.size⟩, h.cp, below_through h.b hb.size hb⟩
theorem MkA.lo {w0 w : World} {v : Value} {E : List Elem} (h : MkA w0 w v E) : ∀ k, v.ownBlock = some k → w0.heap.size ≤ k := fun k hk => (h.own.out.lt k hk).1
theorem MkA.hi {w0 w : World} {v : Value} {E : List Elem} (h : MkA w0 w v E) : ∀ k, v.ownBlock = some k → k < w.heap.size := fun k hk => (h.own.out.lt k hk).2
theorem MkA.box {w0 w : World} {v : Value} {E : List Elem} (h : MkA w0 w v E) : v.ownBlock ≠ some w.heap.size := fun e => by have := h.hi _ e; omega
theorem MkA.elems {w0 w : World} {v : Value} {E : List Elem} (h : MkA w0 w v E) : ∃ a c, v = .slice a E.length c ∧ E.length ≤ c ∧ ElemsAt w a E := by
  obtain ⟨a', c', hv, hcap, _, hcl⟩ := elems_owned h.own.out
  exact ⟨a', c', hv, hcap, hcl, h.cp.rows⟩
theorem once_len (L : List Pair) : (onceB L).length ≤ L.length := by unfold onceB; rw [List.length_map]; exact List.length_filter_le _ _
end Go.Proofs.YtfdkajefcplfjaaGreat

/- What a part tells of the rows that it keeps (plan.told): a contract of the call, in whatever memory. Conditions: the part's and the rows' cells are known; they are not too many; what alike answers, where the part has columns to group by. -/
namespace Go.Proofs.YtfdkajefcplfjaaGreat
open Go.RowKit

theorem runs_len (gs : List Int) : ∀ L, (runsM gs L).length ≤ L.length
  | [] => Nat.le_refl _
  | x :: L => by
    have ih := runs_len gs L
    unfold runsM
    split
    · rename_i y g R h
      rw [h] at ih
      split
      · simp at ih ⊢; omega
      · simp at ih ⊢; omega
    · simp
theorem absS_ones' {α : Type} (f : α → List Val) : ∀ G : List α, absS (G.map fun g => (f g, (1 : Int))) = G.length
  | [] => rfl
  | g :: G => by
    rw [List.map_cons, absS, absS_ones' f G, List.length_cons, if_neg (by show ¬ (1 : Int) < 0; omega)]
    show 1 + (G.length : Int) = _
    omega
theorem absS_same (f : Pair → List Val) : ∀ K : List Pair, absS (K.map fun x => (f x, x.2)) = absS K
  | [] => rfl
  | x :: K => by rw [List.map_cons, absS, absS, absS_same f K]
theorem told_small (p : Px) (K : List Pair) : (toldL p (groupsM p K)).length ≤ K.length + 1 ∧ absS (toldL p (groupsM p K)) ≤ absS K + K.length + 1 := by
  have h0 := absS_nonneg K
  unfold toldL groupsM
  split
  · split
    · refine ⟨by simp, ?_⟩
      show absS [(rowM p.os K, 1)] ≤ _
      simp only [absS]
      omega
    · have h1 := runs_len p.gs (sortG p.gs K)
      have h2 : (sortG p.gs K).length = K.length := List.length_mergeSort _
      rw [List.map_map]
      refine ⟨by rw [List.length_map]; omega, ?_⟩
      have := absS_ones' (fun g => rowM p.os g) (runsM p.gs (sortG p.gs K))
      have e : ((fun g : Grp => (rowM p.os g.1, g.2)) ∘ fun g => (g, (1 : Int))) = fun g => (rowM p.os g, 1) := rfl
      rw [e, this]; omega
  · rw [List.map_map]
    refine ⟨by rw [List.length_map]; omega, ?_⟩
    have e : ((fun g : Grp => (rowM p.os g.1, g.2)) ∘ fun x : Pair => ([x], x.2)) = fun x => (rowM p.os [x], x.2) := rfl
    rw [e, absS_same (fun x => rowM p.os [x])]; omega
end Go.Proofs.YtfdkajefcplfjaaGreat
