/- Several of my texts laid together, each as it was: Xe, Xg, Xh, Xf, Xi, Yj, Yk, Yl, Xj, Xk, Xn, Bq, Br, Xo. Conditions: each names its own. -/
import Derived.Test.YtadidikegfiedaaB4
import Derived.Test.YtadidikegfiedaaB3
import Derived.Maps.AppendAt
import Derived.Test.YtadidikegfiedaaShelf
import Derived.Sort.OwnSortedInts
import Derived.Test.YtadidikegfiedaaC3
import Derived.BigQuiet
/- What a plan costs, all parts. Conditions: see Xd. -/
namespace Go.Proofs.Ytadidikegfiedaa
open Go.RowKit

/-- A part that was nothing yet. -/
def zPx : List Value := [.bool false, .slice none 0 0, .slice none 0 0, .int .i64 0, .int .i64 0, .int .i64 0, .int .i64 0, .int .i64 0, .int .i64 0, .string ⟨#[]⟩, .slice none 0 0, .int .i64 0, .int .i64 0, .int .i64 0, .int .i64 0, .string ⟨#[]⟩, .slice none 0 0, .slice none 0 0, .slice none 0 0, .slice none 0 0]
def planV (a : Option Addr) (n c : Nat) : Value := .agg #[.slice a n c]
theorem costP_take {l : List Nx} {ps : List Px} {i : Nat} (h : i < ps.length) : costP l (ps.take (i + 1)) = addMany (costP l (ps.take i)) (costF l ps[i].fs) := by
  rw [List.take_succ_eq_append_getElem h, costP_snoc]
end Go.Proofs.Ytadidikegfiedaa

/- Whether a plan may be: the small questions: within, inside, aggregates, whether one of the outs is one, whether a list holds a number. Conditions: the lists' cells are known. -/
namespace Go.Proofs.Ytadidikegfiedaa
open Go.RowKit

theorem all_take {α : Type} {l : List α} {f : α → Bool} {i : Nat} (hi : i < l.length) (h : (l.take i).all f = true) (hf : f l[i] = true) : (l.take (i + 1)).all f = true := by
  rw [List.take_succ_eq_append_getElem hi, List.all_append, h]; simp [hf]
theorem all_bad {α : Type} {l : List α} {f : α → Bool} {i : Nat} (hi : i < l.length) (hf : f l[i] = false) : l.all f = false := by
  rw [List.all_eq_false]; exact ⟨l[i], List.getElem_mem hi, by simp [hf]⟩
/-- A place that is one exactly if b. -/
def IsAt (r : Int) (b : Bool) : Prop := decide (0 ≤ r) = b
/-! ### Outs -/
/-- A list of outs, as it lies. -/
structure OutsAt (w : World) (a : Option Addr) (l : List Ox) : Prop where
  row : RowC w 9 a (l.map Ox.cells)
theorem OutsAt.later {w w' : World} {a : Option Addr} {l : List Ox} (h : OutsAt w a l) (hb : Below w.heap.size w w') : OutsAt w' a l := ⟨h.row.later hb⟩
theorem OutsAt.at_ {w : World} {a : Option Addr} {l : List Ox} (h : OutsAt w a l) (i : Nat) (hi : i < l.length) : ∃ b o, a = some ⟨b, o, none⟩ ∧ b < w.heap.size ∧ w.rangeAt b (o + i * 9) (l[i]).cells := by
  obtain ⟨b, o, e, hlt, hR⟩ := h.row.out i (by simpa using hi)
  exact ⟨b, o, e, hlt, by simpa using hR⟩
theorem PxOk.outs {w : World} {n : Nat} {p : Px} (h : PxOk w n p) : OutsAt w p.op p.os := ⟨h.os⟩
theorem Px.c0 (p : Px) : p.cells[0]? = some (.bool p.d) := rfl
theorem Px.c1 (p : Px) : p.cells[1]? = some (.slice p.fp p.fs.length p.fc) := rfl
theorem Px.c2 (p : Px) : p.cells[2]? = some (.slice p.wp p.ws.length p.wc) := rfl
theorem Px.c18 (p : Px) : p.cells[18]? = some (.slice p.gp p.gs.length p.gc) := by
  obtain ⟨d, fp, fc, fs, wp, wc, ws, ⟨k, op, ⟨kl, al, vl, pl, cl, yl⟩, ⟨kr, ar, vr, pr, cr, yr⟩, p, c, ys⟩, gp, gc, gs, op', oc, os⟩ := p
  rfl
theorem Px.c19 (p : Px) : p.cells[19]? = some (.slice p.op p.os.length p.oc) := by
  obtain ⟨d, fp, fc, fs, wp, wc, ws, ⟨k, op, ⟨kl, al, vl, pl, cl, yl⟩, ⟨kr, ar, vr, pr, cr, yr⟩, p, c, ys⟩, gp, gc, gs, op', oc, os⟩ := p
  rfl
end Go.Proofs.Ytadidikegfiedaa

/- Whether a part tells of groups; how many columns its rows have. Conditions: the part's lists are known. -/
namespace Go.Proofs.Ytadidikegfiedaa
open Go.RowKit

theorem sumW_snoc (l : List Int) (x : Int) : sumW (l ++ [x]) = sumW l + x := by unfold sumW; rw [List.foldl_append]; rfl
theorem sumW_in : ∀ (l : List Int) (m : Int), (∀ x ∈ l, 1 ≤ x ∧ x ≤ 8) → m ≤ l.foldl (· + ·) m ∧ l.foldl (· + ·) m ≤ m + 8 * (l.length : Int)
  | [], m, _ => by simp
  | x :: l, m, h => by
    have h1 := sumW_in l (m + x) (fun y hy => h y (List.mem_cons_of_mem _ hy))
    have h2 := h x List.mem_cons_self
    simp only [List.foldl_cons, List.length_cons]
    omega
theorem sumW_le {l : List Int} (h : (l.all fun x => inN x 1 8) = true) : 0 ≤ sumW l ∧ sumW l ≤ 8 * (l.length : Int) := by
  have := sumW_in l 0 (fun x hx => by have := List.all_eq_true.1 h x hx; unfold inN at this; simpa using this)
  unfold sumW; omega
def acrossV (p : Px) : Int := if acrossB p = true then sumW p.ws else 0
theorem across_no {p : Px} (h : acrossB p = false) : (Ending.returned (.tuple #[.int .i64 0, .bool false])) = Ending.returned (.tuple #[.int .i64 (acrossV p), .bool (acrossB p)]) := by
  unfold acrossV; rw [h]; rfl
theorem across_yes {p : Px} (h : acrossB p = true) {x : Int} (hx : x = sumW p.ws) : (Ending.returned (.tuple #[.int .i64 x, .bool true])) = Ending.returned (.tuple #[.int .i64 (acrossV p), .bool (acrossB p)]) := by
  unfold acrossV; rw [h, hx]; rfl
theorem inN_in {x a b : Int} (h : inN x a b = true) : a ≤ x ∧ x ≤ b := by unfold inN at h; simpa using h
end Go.Proofs.Ytadidikegfiedaa

/- Cost: the contract of the call, in whatever memory. Conditions: the plan's and the names' cells are known. -/
namespace Go.Proofs.Ytadidikegfiedaa
open Go.RowKit

structure SPlan (w0 : World) (vb : Nat) (us : List Value) (w : World) : Prop where
  v : VarB w vb us
  b : Below w0.heap.size w0 w
theorem SPlan.below {w0 : World} {vb : Nat} {us : List Value} {w w' : World} (h : SPlan w0 vb us w) (hb : Below w.heap.size w w') : SPlan w0 vb us w' := ⟨h.v.below hb, below_through hb h.b.size h.b⟩
end Go.Proofs.Ytadidikegfiedaa

/- Whether each out without an aggregate is the same in all of a group. Conditions: the part's lists are known. -/
namespace Go.Proofs.Ytadidikegfiedaa
open Go.RowKit

theorem SPlan.var {w0 : World} {vb : Nat} {us : List Value} {w : World} (h : SPlan w0 vb us w) (o : Obj) (vs : List Value) : SPlan w0 vb us ((w.alloc o).setCells w.heap.size 0 vs) :=
  ⟨(h.v.alloc o).other vs (by have := h.v.lt; omega), below_setCells vs 0 (h.b.alloc h.b.size o) h.b.size⟩
/-- What is told that was nothing yet. -/
def zOx : List Value := [.int .i64 0, .int .i64 0, .int .i64 0, .int .i64 0, .int .i64 0, .string ⟨#[]⟩, .slice none 0 0, .string ⟨#[]⟩, .int .i64 0]
theorem Ox.c1 (o : Ox) : o.cells[1]? = some (.int .i64 o.e.kind) := by
  obtain ⟨g, ⟨k, a, v, p, c, ys⟩, nm, ty⟩ := o
  rfl
theorem Ox.c2 (o : Ox) : o.cells[2]? = some (.int .i64 o.e.at) := by
  obtain ⟨g, ⟨k, a, v, p, c, ys⟩, nm, ty⟩ := o
  rfl
def setO (p : Px) (o : Ox) : Bool := o.g != 0 || (decide (o.e.kind = 1) && p.gs.contains o.e.at)
theorem settled_all (p : Px) : settledB p = p.os.all (setO p) := rfl
end Go.Proofs.Ytadidikegfiedaa

/- The project's read: the places of an expression's columns, put behind those that are found: a contract of the call, in whatever memory. Conditions: the expression's cells are known, what is found lies in a row of its own, and is not too long. -/
namespace Go.Proofs.Ytadidikegfiedaa
open Go.RowKit

/-- A row of its own has grown: what else was there is as it was. -/
structure Grw (w : World) (v : Value) (w' : World) (v' : Value) : Prop where
  g : w.grownBy w' v.ownBlock
  o : v'.ownBlock = v.ownBlock ∨ ∀ k, v'.ownBlock = some k → w.heap.size ≤ k
theorem Grw.refl (w : World) (v : Value) : Grw w v w v := ⟨⟨rfl, rfl, rfl, Nat.le_refl _, fun _ _ _ => rfl⟩, .inl rfl⟩
theorem Grw.trans {w w1 w2 : World} {v v1 v2 : Value} (h : Grw w v w1 v1) (k : Grw w1 v1 w2 v2) : Grw w v w2 v2 := by
  refine ⟨⟨k.g.os.trans h.g.os, k.g.tape.trans h.g.tape, k.g.output.trans h.g.output, Nat.le_trans h.g.size k.g.size, fun i hi hn => ?_⟩, ?_⟩
  · have h1 := h.g.block i hi hn
    refine (k.g.block i (Nat.lt_of_lt_of_le hi h.g.size) ?_).trans h1
    rcases h.o with e | e
    · rw [e]; exact hn
    · intro e2; have := e i e2.symm; omega
  · rcases k.o with e | e
    · rw [e]; exact h.o
    · exact .inr fun i hi => Nat.le_trans h.g.size (e i hi)
theorem Grw.alloc {w w1 : World} {v v1 : Value} (h : Grw w v w1 v1) (o : Obj) : Grw w v (w1.alloc o) v1 :=
  h.trans ⟨World.grownBy_alloc w1 o _, .inl rfl⟩
theorem Grw.drew {w w1 : World} {v v1 : Value} (h : Grw w v w1 v1) : Grw w v w1.drew v1 := ⟨⟨h.g.os, h.g.tape, h.g.output, h.g.size, h.g.block⟩, h.o⟩
theorem Grw.app {w w1 w2 : World} {v v1 v2 : Value} (h : Grw w v w1 v1) (g : w1.grownBy w2 v1.ownBlock) (o : v2.ownBlock = v1.ownBlock ∨ v2.ownBlock = some w1.heap.size) : Grw w v w2 v2 :=
  h.trans ⟨g, o.imp_right fun e k hk => by rw [e] at hk; cases hk; exact Nat.le_refl _⟩
theorem Grw.below {n : Nat} {x w w' : World} {v v' : Value} (h : Grw w v w' v') (hb : Below n x w) (hn : n ≤ w.heap.size) (hv : ∀ k, v.ownBlock = some k → n ≤ k) : Below n x w' := hb.grown h.g hn hv
theorem Grw.var {w w' : World} {v v' : Value} {b : Nat} {us : List Value} (h : Grw w v w' v') (hV : VarB w b us) (hb : v.ownBlock ≠ some b) : VarB w' b us := hV.keep (h.g.block b hV.lt (fun e => hb e.symm)) h.g.size
/-- A row of numbers of its own. -/
structure IRow (w0 w : World) (v : Value) (F : List Int) : Prop where
  own : w.ownsRow w0.heap.size 3 1 v F.length (ints F)
  b : Below w0.heap.size w0 w
theorem IRow.lo {w0 w : World} {v : Value} {F : List Int} (h : IRow w0 w v F) : ∀ k, v.ownBlock = some k → w0.heap.size ≤ k := fun k hk => (h.own.lt k hk).1
theorem IRow.hi {w0 w : World} {v : Value} {F : List Int} (h : IRow w0 w v F) : ∀ k, v.ownBlock = some k → k < w.heap.size := fun k hk => (h.own.lt k hk).2
theorem IRow.nil (w : World) : IRow w w (.slice none 0 0) [] := ⟨World.ownsRow_nil _ _ _ _, Below.refl _ _⟩
theorem IRow.alloc {w0 w : World} {v : Value} {F : List Int} (h : IRow w0 w v F) (o : Obj) : IRow w0 (w.alloc o) v F := ⟨h.own.alloc o, h.b.alloc h.b.size o⟩
theorem IRow.drew {w0 w : World} {v : Value} {F : List Int} (h : IRow w0 w v F) : IRow w0 w.drew v F := ⟨h.own, Below.drew h.b⟩
theorem IRow.below {w0 w w' : World} {v : Value} {F : List Int} (h : IRow w0 w v F) (hb : Below w.heap.size w w') : IRow w0 w' v F := ⟨own_belowY h.own hb, below_through hb h.b.size h.b⟩
theorem IRow.box {w0 w : World} {v : Value} {F : List Int} (h : IRow w0 w v F) : v.ownBlock ≠ some w.heap.size := fun e => by have := h.hi _ e; omega
/-- What a call answers that puts numbers behind those that are there. -/
def RdAns (w0 w : World) (v : Value) (L : List Int) (e : Ending) (w' : World) : Prop := ∃ v', e = .returned v' ∧ IRow w0 w' v' L ∧ Grw w v w' v'
end Go.Proofs.Ytadidikegfiedaa

/- The project's asked: the places of a condition's columns: a contract of the call, in whatever memory. Conditions: as read's. -/
namespace Go.Proofs.Ytadidikegfiedaa
open Go.RowKit

theorem Grw.ne {w w' : World} {v v' : Value} {b : Nat} (h : Grw w v w' v') (hv : v.ownBlock ≠ some b) (hb : b < w.heap.size) : v'.ownBlock ≠ some b := by
  rcases h.o with e | e
  · rw [e]; exact hv
  · intro e2; have := e b e2; omega
end Go.Proofs.Ytadidikegfiedaa

/- The project's Reads and Asks: contracts of the calls, in whatever memory. Conditions: what comes in is not too great. -/
namespace Go.Proofs.Ytadidikegfiedaa
open Go.RowKit

open Go.Sort
/-- What a call answers that tells a list of numbers. -/
def ListAns (w0 : World) (L : List Int) (e : Ending) (w' : World) : Prop := (∃ a c, e = .returned (.slice a L.length c) ∧ IntsAt w' a L) ∧ Below w0.heap.size w0 w'
structure Calls' (f : Nat) (w : World) (args : Array Value) (Q : World → Ending → World → Prop) : Prop where
  out : ∀ W, Below w.heap.size w W → Calls Try.prog f args W (Q W)
end Go.Proofs.Ytadidikegfiedaa

/- Whether a part has neither too few nor too many outs and reads nothing but its columns. Conditions: the part's lists are known. -/
namespace Go.Proofs.Ytadidikegfiedaa
open Go.RowKit

def outB (W : Int) (o : Ox) : Bool := inN o.g 0 6 && insideB (rise (rdC o.e)) W
theorem lists_all (p : Px) (W : Int) : listsB p W = (inN p.os.length 1 8 && decide (p.gs.length ≤ 4) && insideB p.gs W && insideB (rise (asT p.wh)) W && p.os.all (outB W)) := rfl
theorem Px.where_at {w : World} {b : Nat} (p : Px) (h : w.rangeAt b 0 p.cells) : w.rangeAt b 3 p.wh.cells :=
  range_mid (xs := [.bool p.d, .slice p.fp p.fs.length p.fc, .slice p.wp p.ws.length p.wc]) (ys := p.wh.cells) (zs := [.slice p.gp p.gs.length p.gc, .slice p.op p.os.length p.oc]) h
theorem Ox.calc_at (o : Ox) (w : World) (b : Nat) (h : w.rangeAt b 0 o.cells) : w.rangeAt b 1 o.e.cells :=
  range_mid (xs := [.int .i64 o.g]) (ys := o.e.cells) (zs := [.string o.nm, .int .i64 o.ty]) h
end Go.Proofs.Ytadidikegfiedaa

/- Whether a part may be. Conditions: the part's lists are known. -/
namespace Go.Proofs.Ytadidikegfiedaa
open Go.RowKit

theorem across_len {p : Px} (h : acrossB p = true) : 0 ≤ sumW p.ws ∧ sumW p.ws ≤ 1000 := by
  unfold acrossB at h
  simp only [Bool.and_eq_true, decide_eq_true_eq] at h
  have h1 := inN_in h.1.1
  have h2 := sumW_le h.2
  omega
end Go.Proofs.Ytadidikegfiedaa

/- Whether a plan may be. Conditions: its parts are known. -/
namespace Go.Proofs.Ytadidikegfiedaa
open Go.RowKit

/-- What a round of the loop over a plan's parts keeps. -/
structure SRight (w0 : World) (pb b0 o0 n c : Nat) (us : List Value) (fo : Value) (w : World) : Prop where
  v : VarB w w0.heap.size [.slice (some ⟨b0, o0, none⟩) n c]
  p : VarB w pb us
  f : w.cell? ⟨b0, o0 + 19, none⟩ = some fo
  b : Below w0.heap.size w0 w
theorem SRight.below {w0 : World} {pb b0 o0 n c : Nat} {us : List Value} {fo : Value} {w w' : World} (h : SRight w0 pb b0 o0 n c us fo w) (hb : Below w.heap.size w w') : SRight w0 pb b0 o0 n c us fo w' :=
  ⟨h.v.below hb, h.p.below hb, cell_later hb h.f, below_through hb h.b.size h.b⟩
theorem SRight.of {w0 wr w5 : World} {b0 o0 n c : Nat} {us : List Value} {fo : Value} {o : Obj} (hI : VarB wr w0.heap.size [.slice (some ⟨b0, o0, none⟩) n c]) (hB : Below w0.heap.size w0 wr) (hV : VarB w5 wr.heap.size us)
    (hw : w5 = (wr.alloc o).setCells wr.heap.size 0 us) (hf : w0.cell? ⟨b0, o0 + 19, none⟩ = some fo) : SRight w0 wr.heap.size b0 o0 n c us fo w5 := by
  have hb : Below w0.heap.size w0 w5 := by rw [hw]; exact below_setCells us 0 (hB.alloc hB.size o) hB.size
  exact ⟨by rw [hw]; exact (hI.alloc o).other us (by have := hI.lt; omega), hV, cell_later hb hf, hb⟩
def partM (k0 : Nat) (p : Px) : Bool := partB p && decide (p.os.length = k0)
theorem planB_at {ps : List Px} {n : Nat} (hn : ps.length = n) (h : 0 < ps.length) : planB ps = (inN n 1 4 && ps.all (partM ps[0].os.length)) := by
  subst hn
  cases ps with
  | nil => simp at h
  | cons p ps => rfl
theorem planB_no {ps : List Px} (h : inN ps.length 1 4 = false) : planB ps = false := by unfold planB; rw [h]; rfl
end Go.Proofs.Ytadidikegfiedaa

/- The project's bag.List and bag.Rows: the bag of rows, each once; the rows of a bag: contracts of the calls, in whatever memory. Conditions: the rows' cells are known; they are not too many. -/
namespace Go.Proofs.Ytadidikegfiedaa
open Go.RowKit

/-- A block that is known whole. -/
structure BlkAt (w : World) (B : Nat) (cs : Array Value) (t : TypeId) : Prop where
  out : ∃ fz, w.heap[B]? = some (Obj.cells cs t fz)
theorem BlkAt.later {w w' : World} {B : Nat} {cs : Array Value} {t : TypeId} (h : BlkAt w B cs t) (hb : Below w.heap.size w w') : BlkAt w' B cs t := by
  obtain ⟨fz, hh⟩ := h.out
  exact ⟨fz, (hb.block B (Array.getElem?_eq_some_iff.1 hh).1).trans hh⟩
theorem BlkAt.keptT {w w' : World} {B : Nat} {cs : Array Value} {t e : TypeId} {base : Nat} (h : BlkAt w B cs t) (ht : t ≠ e) (hK : KeptT e base w w') : BlkAt w' B cs t := by
  obtain ⟨fz, hh⟩ := h.out
  exact ⟨fz, hK.other B cs fz t ht hh⟩
theorem BlkAt.two {w : World} {B : Nat} {u v : Value} {t : TypeId} (h : BlkAt w B #[u, v] t) : w.cell? ⟨B, 0, none⟩ = some u ∧ w.cell? ⟨B, 1, none⟩ = some v := by
  obtain ⟨fz, hh⟩ := h.out
  constructor <;> simp [World.cell?, hh]
theorem BlkAt.new (w : World) (cs : Array Value) (t : TypeId) : BlkAt (w.alloc (Obj.cells cs t)) w.heap.size cs t := ⟨_, by show (w.heap.push (Obj.cells cs t))[w.heap.size]? = some (Obj.cells cs t); simp⟩

end Go.Proofs.Ytadidikegfiedaa

/- The project's bag.Count, Right and Plain: contracts of the calls, in whatever memory. Conditions: the bag's cells are known; its numbers are so small that no sum passes the ends. -/
namespace Go.Proofs.Ytadidikegfiedaa
open Go.RowKit

theorem countB_append : ∀ A B : List Pair, countB (A ++ B) = countB A + countB B
  | [], B => by simp [countB]
  | x :: A, B => by rw [List.cons_append, countB, countB_append A B, countB]; omega
theorem countB_pos : ∀ A : List Pair, 0 ≤ countB A
  | [] => Int.le_refl _
  | x :: A => by have := countB_pos A; rw [countB]; split <;> omega
theorem countB_abs : ∀ A : List Pair, countB A ≤ absS A
  | [] => Int.le_refl _
  | x :: A => by have := countB_abs A; rw [countB, absS]; split <;> split <;> omega
theorem countB_step {E : List Elem} {i : Nat} (h : i < E.length) : countB ((E.map pr).take (i + 1)) = countB ((E.map pr).take i) + (if 0 < E[i].n then E[i].n else 0) := by
  rw [List.take_succ_eq_append_getElem (by simpa using h), countB_append]
  simp [countB, pr]
theorem countB_few {E : List Elem} (i : Nat) : countB ((E.map pr).take i) ≤ absS (E.map pr) := by
  have h1 := countB_abs ((E.map pr).take i)
  have h2 := absS_take (E.map pr) i
  have h3 := absS_nonneg ((E.map pr).drop i)
  omega
theorem countB_all {E : List Elem} {i : Nat} (h : ¬ i < E.length) : countB ((E.map pr).take i) = countB (E.map pr) := by rw [List.take_of_length_le (by simp; omega)]

theorem rises_at : ∀ {B : List Pair}, Rises B → ∀ i (h : i + 1 < B.length), rowsV (B[i]).1 (B[i + 1]).1 < 0
  | x :: B, hB, 0, h => hB.2.1 _ (List.getElem_mem _)
  | x :: B, hB, i + 1, h => by
    have := rises_at hB.2.2 i (by simpa using h)
    simpa using this
theorem rises_not0 : ∀ {B : List Pair}, Rises B → ∀ x ∈ B, x.2 ≠ 0
  | y :: B, hB, x, h => by
    rcases List.mem_cons.1 h with rfl | h
    · exact hB.1
    · exact rises_not0 hB.2.2 x h
theorem rises_elems {E : List Elem} (h : Rises (E.map pr)) (i : Nat) (h1 : i + 1 < E.length) : rowsV (E[i]).r (E[i + 1]).r < 0 := by
  have := rises_at h i (by simpa using h1)
  simpa [pr] using this

set_option maxHeartbeats 4000000 in
theorem bagRight_any (a : Option Addr) (c : Nat) (E : List Elem) (w : World) (h : ElemsAt w a E) (hle : E.length ≤ 1000000) (hr : Rises (E.map pr)) (hp : ∀ e ∈ E, -1000000 ≤ e.n ∧ e.n ≤ 1000000) :
    Calls Try.prog 22 #[.slice a E.length c] w fun e w' => e = .returned (.bool true) ∧ Below w.heap.size w w' := by
  have A := hid0 h
  have HP := hid0 hp
  have HR := hid0 hr
  clear h hr hp
  go_enter Try.func22, Try.ntmps22
  go_wp2
  go_loopw [7] (fun iv wr => ∃ i : Nat, i ≤ E.length ∧ iv = .int .i64 i ∧ Below w.heap.size w wr) (fun iv _ => E.length - (intOf iv).toNat)
  case atStart => exact ⟨0, Nat.zero_le _, rfl, Below.refl _ _⟩
  case round =>
    obtain ⟨i, hi, rfl, hB⟩ := hrel
    have hsz := hB.size
    by_cases hlt : i < E.length
    · obtain ⟨b1, o1, rfl, hc1⟩ := (A.out.1.later hB) (by intro e; rw [e] at hlt; exact absurd hlt (by simp))
      have hcc := hc1
      obtain ⟨q0, q1⟩ := hc1 i hlt
      clear hc1
      have hn0 : E[i].n ≠ 0 := rises_not0 HR.out (pr E[i]) (List.mem_map_of_mem (List.getElem_mem hlt))
      obtain ⟨hn1, hn2⟩ := HP.out _ (List.getElem_mem hlt)
      have n1 : ¬ E[i].n < -1099511627776 := by omega
      have n2 : ¬ 1099511627776 < E[i].n := by omega
      have HCC := hid0 hcc
      clear hcc
      go_wp2_with fail
      have hblk := BlkAt.new wr #[.slice E[i].a E[i].r.length E[i].c, .int .i64 E[i].n] 46
      have hBA := Below.alloc hB hsz (Obj.cells #[.slice E[i].a E[i].r.length E[i].c, .int .i64 E[i].n] 46)
      have hzA := hBA.size
      have HBA := hid0 hBA
      have hblt : b1 < wr.heap.size := World.block_lt_of_cell? _ _ q0
      have hlater : ∀ {p : Addr} {v : Value}, wr.cell? p = some v → (wr.alloc (Obj.cells #[.slice E[i].a E[i].r.length E[i].c, .int .i64 E[i].n] 46)).cell? p = some v := fun h => cell_later ((Below.refl _ _).alloc (Nat.le_refl _) _) h
      clear q0 q1 hB
      rcases Nat.eq_zero_or_pos i with h0 | hpos
      · have hg0 : ¬ (0 : Int) < (i : Int) := by omega
        clear hlater
        generalize wr.alloc (Obj.cells #[.slice E[i].a E[i].r.length E[i].c, .int .i64 E[i].n] 46) = W at hblk hBA HBA hzA ⊢
        go_quiet (fail)
        go_wp2
        exact ⟨⟨i + 1, by omega, by go_num, ⟨HBA.out.os, HBA.out.tape, HBA.out.output, HBA.out.size, HBA.out.block⟩⟩, by simp [intOf]; omega⟩
      · obtain ⟨j, hj⟩ : ∃ j, j + 1 = i := ⟨i - 1, by omega⟩
        have hjl : j < E.length := by omega
        obtain ⟨s0, s1⟩ := HCC.out j hjl
        have s0' := hlater s0
        have hg0 : (0 : Int) < (i : Int) := by omega
        have hwj : IntKind.i64.wrap ((i : Int) - 1) = (j : Int) := by rw [IntWalk.i64_in _ (by omega)]; omega
        have hj2 : (j : Int) < (E.length : Int) := by omega
        have hjn : (0 : Int) ≤ (j : Int) := by omega
        have r1 := A.out.2 _ (List.getElem_mem hjl)
        have r2 := A.out.2 _ (List.getElem_mem hlt)
        have hrise : rowsV E[j].r E[i].r < 0 := by
          have := rises_elems HR.out j (by omega)
          simpa only [hj] using this
        obtain ⟨cv, hcv⟩ : ∃ cv, rowsV E[j].r E[i].r = cv := ⟨_, rfl⟩
        have CR : ∀ W, Below w.heap.size w W → Calls Try.prog 39 #[.slice E[j].a E[j].r.length E[j].c, .slice E[i].a E[i].r.length E[i].c] W fun e w' => e = .returned (.int .i64 cv) ∧ Below W.heap.size W w' := fun W hb => by
          have h := rows_any E[j].a E[i].a E[j].c E[i].c E[j].r E[i].r W (r1.1.later hb) (r2.1.later hb) (by have := r1.2; unfold rowOK at this; unfold maxLen; omega)
          rwa [hcv] at h
        rw [hcv] at hrise
        have hcn : ¬ (0 : Int) ≤ cv := by omega
        obtain ⟨p0, p1⟩ := hblk.two
        clear r1 r2 hcv s0 s1 hlater HCC hj
        generalize wr.alloc (Obj.cells #[.slice E[i].a E[i].r.length E[i].c, .int .i64 E[i].n] 46) = W at hblk hBA HBA hzA s0' p0 p1 ⊢
        generalize wr.heap.size = B at hblk hsz hblt p0 p1 ⊢
        go_region_held3 (fun w' => w'.cell? ⟨b1, o1 + j * 2, none⟩ = some (.slice E[j].a E[j].r.length E[j].c) ∧ w'.cell? ⟨B, 0, none⟩ = some (.slice E[i].a E[i].r.length E[i].c) ∧ Below w.heap.size w w')
          ((go_split_ands; (try dsimp only); (repeat' apply And.intro); all_goals (first
            | assumption
            | exact cell_later hbn ‹_›
            | exact below_through hbn (Below.size ‹Below w.heap.size w _›) ‹_›
            | exact Below.drew hBA
            | go_keep)))
          (first
            | (go_at_call 39; (try go_split_ands); refine (CR _ (by assumption)).mono ?_; rintro e wn ⟨rfl, hbn⟩))
        have HH := ‹wn.cell? ⟨b1, o1 + j * 2, none⟩ = some (.slice E[j].a E[j].r.length E[j].c) ∧ _›
        have hBn := HH.2.2
        clear CR s0' p0 p1 hblk
        go_wp2
        exact ⟨⟨i + 1, by omega, by go_num, hBn⟩, by simp [intOf]; omega⟩
    · have hie : ¬ (i : Int) < E.length := by omega
      go_wp2
      go_ret
      exact ⟨rfl, hB⟩

/-! ### Plain: none is taken away -/
end Go.Proofs.Ytadidikegfiedaa

/- Whether a list of rows may be a bag. Conditions: the list's cells are known. -/
namespace Go.Proofs.Ytadidikegfiedaa
open Go.RowKit

/-- Whether the row at place i may stand there. -/
def okR (n : Int) : Bool := !(decide (n = 0) || decide (n < -1099511627776) || decide (1099511627776 < n))
def upAt (E : List Elem) : Nat → Elem → Bool
  | 0, _ => true
  | j + 1, e => match E[j]? with
    | some d => decide (rowsV d.r e.r < 0)
    | none => true
def rightAt (E : List Elem) (i : Nat) : Bool := match E[i]? with
  | some e => okR e.n && upAt E i e
  | none => true
def rightE (E : List Elem) : Bool := (List.range E.length).all (rightAt E)
theorem rightAt_get {E : List Elem} {i : Nat} (h : i < E.length) : rightAt E i = (okR E[i].n && upAt E i E[i]) := by
  unfold rightAt; rw [List.getElem?_eq_getElem h]
theorem upAt_get {E : List Elem} {j : Nat} (h : j < E.length) (e : Elem) : upAt E (j + 1) e = decide (rowsV E[j].r e.r < 0) := by
  show (match E[j]? with | some d => decide (rowsV d.r e.r < 0) | none => true) = _
  rw [List.getElem?_eq_getElem h]
set_option maxHeartbeats 4000000 in
theorem bagRight_all (a : Option Addr) (c : Nat) (E : List Elem) (w : World) (h : ElemsI w a c E) :
    Calls Try.prog 22 #[.slice a E.length c] w fun e w' => e = .returned (.bool (rightE E)) ∧ Below w.heap.size w w' := by
  have A := hid0 h.at_
  have HP := hid0 (fun e (he : e ∈ E) => (h.i e he).2.1)
  have hfew := h.few
  obtain ⟨R, hr⟩ : ∃ R, rightE E = R := ⟨_, rfl⟩
  rw [hr]
  have HR := hid0 (show (List.range E.length).all (rightAt E) = R from hr)
  clear h hr
  go_enter Try.func22, Try.ntmps22
  go_wp2
  go_loopw [7] (fun iv wr => ∃ i : Nat, i ≤ E.length ∧ iv = .int .i64 i ∧ Hid (((List.range E.length).take i).all (rightAt E) = true) ∧ Below w.heap.size w wr) (fun iv _ => E.length - (intOf iv).toNat)
  case atStart => exact ⟨0, Nat.zero_le _, rfl, hid0 rfl, Below.refl _ _⟩
  case round =>
    obtain ⟨i, hi, rfl, hO, hB⟩ := hrel
    have hsz := hB.size
    by_cases hlt : i < E.length
    · obtain ⟨b1, o1, rfl, hc1⟩ := (A.out.1.later hB) (by intro e; rw [e] at hlt; exact absurd hlt (by simp))
      have hcc := hc1
      obtain ⟨q0, q1⟩ := hc1 i hlt
      clear hc1
      have hrl : i < (List.range E.length).length := by simpa using hlt
      have hbad := hid0 (fun hf : rightAt E i = false => all_bad (f := rightAt E) hrl (by simpa using hf))
      have hnext := hid0 (fun hf : rightAt E i = true => all_take (f := rightAt E) hrl hO.out (by simpa using hf))
      have hra := rightAt_get hlt
      have hup : ∀ j, j + 1 = i → upAt E i E[i] = decide (rowsV (E[j]?.getD E[i]).r E[i].r < 0) := fun j hj => by
        subst hj
        rw [upAt_get (by omega), List.getElem?_eq_getElem (by omega)]; rfl
      have hup0 : i = 0 → upAt E i E[i] = true := fun h => by subst h; rfl
      obtain ⟨hn1, hn2⟩ := HP.out _ (List.getElem_mem hlt)
      have HCC := hid0 hcc
      have HRA := hid0 hra
      have HUP := hid0 hup
      have HUP0 := hid0 hup0
      clear hcc hra hup hup0
      by_cases hn0 : E[i].n = 0
      · rw [hn0] at q1
        have HX := hid0 hn0
        clear hn0
        go_wp2
        go_ret
        exact ⟨ret_bool (by rw [← HR.out, hbad.out (by rw [HRA.out, HX.out]; rfl)]), by go_grown⟩
      · by_cases hlo : E[i].n < -1099511627776
        · have HK := hid0 (show okR E[i].n = false by unfold okR; simp [hlo])
          go_wp2
          go_ret
          exact ⟨ret_bool (by rw [← HR.out, hbad.out (by rw [HRA.out, HK.out]; rfl)]), by go_grown⟩
        by_cases hhi : 1099511627776 < E[i].n
        · have HK := hid0 (show okR E[i].n = false by unfold okR; simp [hhi])
          go_wp2
          go_ret
          exact ⟨ret_bool (by rw [← HR.out, hbad.out (by rw [HRA.out, HK.out]; rfl)]), by go_grown⟩
        have HK := hid0 (show okR E[i].n = true by unfold okR; simp [hn0, hlo, hhi])
        have HX := hid0 (show rightAt E i = upAt E i E[i] by rw [HRA.out, HK.out]; rfl)
        go_wp2_with fail
        have hblk := BlkAt.new wr #[.slice E[i].a E[i].r.length E[i].c, .int .i64 E[i].n] 46
        have hBA := Below.alloc hB hsz (Obj.cells #[.slice E[i].a E[i].r.length E[i].c, .int .i64 E[i].n] 46)
        have hzA := hBA.size
        have HBA := hid0 hBA
        have hblt : b1 < wr.heap.size := World.block_lt_of_cell? _ _ q0
        have hlater : ∀ {p : Addr} {v : Value}, wr.cell? p = some v → (wr.alloc (Obj.cells #[.slice E[i].a E[i].r.length E[i].c, .int .i64 E[i].n] 46)).cell? p = some v := fun h => cell_later ((Below.refl _ _).alloc (Nat.le_refl _) _) h
        clear q0 q1 hB
        rcases Nat.eq_zero_or_pos i with h0 | hpos
        · have hg0 : ¬ (0 : Int) < (i : Int) := by omega
          have HT := hid0 (show rightAt E i = true by rw [HX.out]; exact HUP0.out h0)
          clear hlater
          generalize wr.alloc (Obj.cells #[.slice E[i].a E[i].r.length E[i].c, .int .i64 E[i].n] 46) = W at hblk hBA HBA hzA ⊢
          go_quiet (fail)
          go_wp2
          exact ⟨⟨i + 1, by omega, by go_num, hid0 (hnext.out HT.out), ⟨HBA.out.os, HBA.out.tape, HBA.out.output, HBA.out.size, HBA.out.block⟩⟩, by simp [intOf]; omega⟩
        · have HFX := hid0 (fun j (hj : j + 1 = i) (hjl : j < E.length) => (show rightAt E i = decide (rowsV E[j].r E[i].r < 0) by rw [HX.out, HUP.out j hj, List.getElem?_eq_getElem hjl]; rfl))
          obtain ⟨j, hj⟩ : ∃ j, j + 1 = i := ⟨i - 1, by omega⟩
          have hjl : j < E.length := by omega
          obtain ⟨s0, s1⟩ := HCC.out j hjl
          have s0' := hlater s0
          have hg0 : (0 : Int) < (i : Int) := by omega
          have hwj : IntKind.i64.wrap ((i : Int) - 1) = (j : Int) := by rw [IntWalk.i64_in _ (by omega)]; omega
          have hj2 : (j : Int) < (E.length : Int) := by omega
          have hjn : (0 : Int) ≤ (j : Int) := by omega
          have r1 := A.out.2 _ (List.getElem_mem hjl)
          have r2 := A.out.2 _ (List.getElem_mem hlt)
          obtain ⟨cv, hcv⟩ : ∃ cv, rowsV E[j].r E[i].r = cv := ⟨_, rfl⟩
          have CR : ∀ W, Below w.heap.size w W → Calls Try.prog 39 #[.slice E[j].a E[j].r.length E[j].c, .slice E[i].a E[i].r.length E[i].c] W fun e w' => e = .returned (.int .i64 cv) ∧ Below W.heap.size W w' := fun W hb => by
            have h := rows_any E[j].a E[i].a E[j].c E[i].c E[j].r E[i].r W (r1.1.later hb) (r2.1.later hb) (by have := r1.2; unfold rowOK at this; unfold maxLen; omega)
            rwa [hcv] at h
          have hfx := HFX.out j hj hjl
          clear HFX
          rw [hcv] at hfx
          obtain ⟨p0, p1⟩ := hblk.two
          have HFX := hid0 hfx
          clear r1 r2 hcv s0 s1 hlater HCC hj hfx
          generalize wr.alloc (Obj.cells #[.slice E[i].a E[i].r.length E[i].c, .int .i64 E[i].n] 46) = W at hblk hBA HBA hzA s0' p0 p1 ⊢
          generalize wr.heap.size = B at hblk hsz hblt p0 p1 ⊢
          go_region_held3 (fun w' => w'.cell? ⟨b1, o1 + j * 2, none⟩ = some (.slice E[j].a E[j].r.length E[j].c) ∧ w'.cell? ⟨B, 0, none⟩ = some (.slice E[i].a E[i].r.length E[i].c) ∧ Below w.heap.size w w')
            ((go_split_ands; (try dsimp only); (repeat' apply And.intro); all_goals (first
              | assumption
              | exact cell_later hbn ‹_›
              | exact below_through hbn (Below.size ‹Below w.heap.size w _›) ‹_›
              | exact Below.drew hBA
              | go_keep)))
            (first
              | (go_at_call 39; (try go_split_ands); refine (CR _ (by assumption)).mono ?_; rintro e wn ⟨rfl, hbn⟩))
          have HH := ‹wn.cell? ⟨b1, o1 + j * 2, none⟩ = some (.slice E[j].a E[j].r.length E[j].c) ∧ _›
          have hBn := HH.2.2
          clear CR s0' p0 p1 hblk
          by_cases hcn : (0 : Int) ≤ cv
          · have HN := hid0 hcn
            go_wp2
            go_ret
            exact ⟨ret_bool (by rw [← HR.out, hbad.out (by rw [HFX.out]; have := HN.out; simp; omega)]), hBn⟩
          · have HN := hid0 hcn
            go_wp2
            exact ⟨⟨i + 1, by omega, by go_num, hid0 (hnext.out (by rw [HFX.out]; have := HN.out; simp; omega)), hBn⟩, by simp [intOf]; omega⟩
    · have hie : ¬ (i : Int) < E.length := by omega
      rw [List.take_of_length_le (by simp; omega)] at hO
      go_wp2
      go_ret
      exact ⟨ret_bool (by rw [← HR.out, hO.out]), hB⟩
end Go.Proofs.Ytadidikegfiedaa
