/- Several of my texts laid together, each as it was: Hc, Hd, He, Hf, Hg, Hr, Hh. Conditions: each names its own. -/
import Derived.Test.YtneebnankghhgaaGE
import Derived.Test.YtneebnankghhgaaGD
import Derived.BigQuiet
import Derived.Deep.RegionHeldLaw
import Derived.Deep.Cut
/- Heaps in memory: their pages' cells are known; the reference of layer 6: whether it may be: a contract of the call, in whatever memory. Conditions: the pages' cells are known. -/
namespace Go.Proofs.Ytneebnankghhgaa
open Go.RowKit

/-- A page as it lies in memory: where its slots are, their capacity, the page. -/
structure PgE where
  a : Option Addr
  c : Nat
  p : Pg
def hp (E : List PgE) : Hp := E.map (·.p)
/-- A heap whose pages' cells are known. (A structure: nothing parts it.) -/
structure HpAt (w : World) (a : Option Addr) (c : Nat) (E : List PgE) : Prop where
  cells : E ≠ [] → ∃ b off, a = some ⟨b, off, none⟩ ∧ ∀ i (h : i < E.length), w.cell? ⟨b, off + i, none⟩ = some (.slice (E[i]).a (E[i]).p.length (E[i]).c)
  pages : ∀ e ∈ E, PgAt w e.a e.c e.p
  cap : E.length ≤ c
  len : E.length * 24 ≤ 140737488351232
theorem HpAt.later {w w' : World} {a : Option Addr} {c : Nat} {E : List PgE} (h : HpAt w a c E) (hb : Below w.heap.size w w') : HpAt w' a c E := by
  refine ⟨fun hn => ?_, fun e he => (h.pages e he).later hb, h.cap, h.len⟩
  obtain ⟨b, off, e, hc⟩ := h.cells hn
  exact ⟨b, off, e, fun i hi => cell_later hb (hc i hi)⟩
theorem HpAt.alloc {w : World} {a : Option Addr} {c : Nat} {E : List PgE} (h : HpAt w a c E) (o : Obj) : HpAt (w.alloc o) a c E := h.later ((Below.refl _ _).alloc (Nat.le_refl _) _)
theorem hp_len (E : List PgE) : (hp E).length = E.length := List.length_map _
theorem hp_at {E : List PgE} {i : Nat} (h : i < E.length) : (hp E)[i]'(by rw [hp_len]; exact h) = E[i].p := by simp [hp]
theorem rightH_bad {h : Hp} {i : Nat} (hi : i < h.length) (hb : rightB h[i] = false) : rightH h = false := by
  have e : h.all rightB = false := by
    rw [List.all_eq_false]
    exact ⟨h[i], List.getElem_mem hi, by simp [hb]⟩
  unfold rightH
  rw [e]; simp
theorem allH_next {h : Hp} {i : Nat} (ha : (h.take i).all rightB = true) (hi : i < h.length) (hb : rightB h[i] = true) : (h.take (i + 1)).all rightB = true := by
  rw [List.take_succ_eq_append_getElem hi, List.all_append, ha]; simp [hb]
theorem lastFull_at {h : Hp} (hl : 0 < h.length) : lastFull h = !(h[h.length - 1]).isEmpty := by
  rcases hsnoc_cases h with rfl | ⟨g, p, rfl⟩
  · simp at hl
  · rw [lastFull_snoc]; simp

end Go.Proofs.Ytneebnankghhgaa

/- The reference of layer 6: a row of a place; two heaps that are the same: contracts of the calls, in whatever memory. Conditions: the pages' cells are known. -/
namespace Go.Proofs.Ytneebnankghhgaa
open Go.RowKit

end Go.Proofs.Ytneebnankghhgaa

/- The reference of layer 6: a heap's pages in new memory; two heaps that are the same: contracts of the calls, in whatever memory. Conditions: the pages' cells are known, they are not too many. -/
namespace Go.Proofs.Ytneebnankghhgaa
open Go.RowKit

theorem info62 : (Try.prog.info? 55).map (fun i => (i.zero, i.size, i.bytes)) = some (some (.agg #[.slice none 0 0]), 1, 24) := by kernel_rfl
def pgCells (E : List PgE) : List Value := E.map fun e => .slice e.a e.p.length e.c
theorem pgCells_append (A B : List PgE) : pgCells (A ++ B) = pgCells A ++ pgCells B := by simp [pgCells]
theorem pgCells_len (E : List PgE) : (pgCells E).length = E.length * 1 := by simp [pgCells]
theorem pgCells_one (E : List PgE) : ∀ u ∈ pgCells E, u.oneCell' = true := by
  intro u hu
  obtain ⟨e, _, rfl⟩ := List.mem_map.1 hu
  rfl
def HCells (w : World) (a : Option Addr) (E : List PgE) : Prop :=
  E ≠ [] → ∃ b off, a = some ⟨b, off, none⟩ ∧ ∀ i (h : i < E.length), w.cell? ⟨b, off + i, none⟩ = some (.slice (E[i]).a (E[i]).p.length (E[i]).c)
theorem HCells.later {w w' : World} {a : Option Addr} {E : List PgE} (h : HCells w a E) (hb : Below w.heap.size w w') : HCells w' a E := fun hn => by
  obtain ⟨b, off, e, hc⟩ := h hn
  exact ⟨b, off, e, fun i hi => cell_later hb (hc i hi)⟩
theorem pgCells_of {w : World} {b off : Nat} {E : List PgE} (h : HCells w (some ⟨b, off, none⟩) E) : ∀ j u, (pgCells E)[j]? = some u → w.cell? ((⟨b, off, none⟩ : Addr).add j) = some u := by
  intro j u hj
  have hlt : j < E.length := by
    have := (List.getElem?_eq_some_iff.1 hj).1
    simpa [pgCells] using this
  have hne : E ≠ [] := fun e => by subst e; simp at hlt
  obtain ⟨b', off', e, hc⟩ := h hne
  obtain ⟨rfl, rfl⟩ : b = b' ∧ off = off' := by simpa using e
  rw [WideShapes.add_plain, hc j hlt]
  rw [← hj]; simp [pgCells, hlt]
/-- The pages E, in a block of its own from base on, or nil. -/
structure OwnH (w : World) (base : Nat) (v : Value) (E : List PgE) : Prop where
  out : w.ownsRow base 55 1 v E.length (pgCells E)
theorem OwnH.base {w : World} {base base' : Nat} {v : Value} {E : List PgE} (h : OwnH w base v E) (hb : base' ≤ base) : OwnH w base' v E := by
  refine ⟨h.out.1, ?_⟩
  rcases h.out.2 with h | ⟨g, cap, cur, h1, h2, h3⟩
  · exact .inl h
  · exact .inr ⟨g, cap, cur, h1, by omega, h3⟩
theorem OwnH.setCell {w : World} {base : Nat} {v : Value} {E : List PgE} (h : OwnH w base v E) {a : Addr} (ha : a.block < base) (u : Value) : OwnH (w.setCell a u) base v E := ⟨ownsRow_setCell_below h.out ha u⟩
theorem OwnH.kept {w w' : World} {base : Nat} {v : Value} {E : List PgE} (h : OwnH w base v E) (hb : Below w.heap.size w w') : OwnH w' base v E := by
  exact ⟨World.ownsRow.kept (row := none) h.out ⟨hb.os, hb.tape, hb.output, hb.size, fun j hj _ => hb.block j hj⟩ (by cases hv : v.ownBlock <;> simp)⟩
theorem OwnH.alloc {w : World} {base : Nat} {v : Value} {E : List PgE} (h : OwnH w base v E) (o : Obj) : OwnH (w.alloc o) base v E := ⟨World.ownsRow.alloc h.out o⟩
theorem OwnH.drew {w : World} {base : Nat} {v : Value} {E : List PgE} (h : OwnH w base v E) : OwnH w.drew base v E := ⟨h.out⟩
theorem pgs_owned {base : Nat} {w : World} {v : Value} {E : List PgE} (h : OwnH w base v E) : ∃ a c, v = .slice a E.length c ∧ E.length ≤ c ∧ c ≤ maxLen ∧ HCells w a E := by
  have h0 := h.out
  rcases h.out.2 with ⟨rfl, hl⟩ | ⟨g, cap', cur, rfl, hg, hh, hn, hcap, hsz, htake⟩
  · exact ⟨none, 0, by rw [hl], by omega, by unfold maxLen; omega, fun hne => absurd (List.length_eq_zero_iff.1 hl) hne⟩
  · refine ⟨some ⟨g, 0, none⟩, cap', rfl, hn, hcap, fun _ => ⟨g, 0, rfl, fun i hi => ?_⟩⟩
    rw [Nat.zero_add, h0.cellAt _ (by omega)]
    simp [pgCells, hi]
/-- Where the pages lie, if there are any. -/
theorem OwnH.form {w : World} {base : Nat} {v : Value} {E : List PgE} (h : OwnH w base v E) (hp : 0 < E.length) : ∃ g c, v = .slice (some ⟨g, 0, none⟩) E.length c ∧ base ≤ g ∧ E.length ≤ c ∧ (∀ j, w.frozen? ⟨g, j, none⟩ = false) ∧ (∀ i (h : i < E.length), w.cell? ⟨g, i, none⟩ = some (.slice (E[i]).a (E[i]).p.length (E[i]).c)) := by
  have h0 := h.out
  rcases h.out.2 with ⟨_, hl⟩ | ⟨g, cap', cur, rfl, hg, hh, hn, hcap, hsz, htake⟩
  · omega
  · refine ⟨g, cap', rfl, hg, hn, fun j => World.ownsRow.frozenAt h0 j, fun i hi => ?_⟩
    rw [h0.cellAt _ (by omega)]
    simp [pgCells, hi]
/-- A page written anew. -/
theorem OwnH.write {w : World} {base g c : Nat} {E : List PgE} (h : OwnH w base (.slice (some ⟨g, 0, none⟩) E.length c) E) (i : Nat) (e : PgE) :
    OwnH (w.setCell ⟨g, i, none⟩ (.slice e.a e.p.length e.c)) base (.slice (some ⟨g, 0, none⟩) (E.set i e).length c) (E.set i e) := by
  have h1 := (World.ownsRow.stored h.out i (.slice e.a e.p.length e.c)).1
  refine ⟨?_⟩
  have e' : pgCells (E.set i e) = (pgCells E).set i (.slice e.a e.p.length e.c) := by simp [pgCells, List.map_set]
  rw [e', List.length_set]
  exact h1
theorem HpAt.cellsH {w : World} {a : Option Addr} {c : Nat} {E : List PgE} (h : HpAt w a c E) : HCells w a E := h.cells

theorem hp_map_at {E1 E2 : List PgE} (h : hp E1 = hp E2) {i : Nat} (h1 : i < E1.length) (h2 : i < E2.length) : E1[i].p = E2[i].p := by
  have e : (hp E1)[i]? = (hp E2)[i]? := by rw [h]
  simpa [hp, h1, h2] using e
end Go.Proofs.Ytneebnankghhgaa

/- The reference of layer 6: two heaps that are the same are told to be so: a contract of the call, in whatever memory. Conditions: the pages' cells are known. -/
namespace Go.Proofs.Ytneebnankghhgaa
open Go.RowKit

set_option maxHeartbeats 2000000 in
set_option maxRecDepth 1000000 in
theorem refHSame_any (a1 a2 : Option Addr) (c1 c2 : Nat) (E1 E2 : List PgE) (w : World) (h1 : HpAt w a1 c1 E1) (h2 : HpAt w a2 c2 E2) (he : hp E1 = hp E2) :
    Calls Try.prog 6 #[.agg #[.slice a1 E1.length c1], .agg #[.slice a2 E2.length c2]] w fun e w' => e = .returned (.bool true) ∧ Below w.heap.size w w' := by
  have hlen : E2.length = E1.length := by have := congrArg List.length he; rw [hp_len, hp_len] at this; omega
  have A1 := hid0 h1
  have A2 := hid0 h2
  have HE := hid0 he
  have HLEN := hid0 hlen
  have hlb : E1.length ≤ 5864062014805 := by have := h1.len; omega
  rw [hlen]
  clear h1 h2 he hlen
  have q0 : ((w.alloc (Obj.cells #[.slice a1 E1.length c1] 25)).alloc (Obj.cells #[.slice a2 E1.length c2] 25)).cell? ⟨w.heap.size, 0, none⟩ = some (.slice a1 E1.length c1) := by go_cell
  have q1 : ((w.alloc (Obj.cells #[.slice a1 E1.length c1] 25)).alloc (Obj.cells #[.slice a2 E1.length c2] 25)).cell? ⟨w.heap.size + 1, 0, none⟩ = some (.slice a2 E1.length c2) := by go_cell
  have hB0 : Below w.heap.size w ((w.alloc (Obj.cells #[.slice a1 E1.length c1] 25)).alloc (Obj.cells #[.slice a2 E1.length c2] 25)) := ((Below.refl _ _).alloc (Nat.le_refl _) _).alloc (by simp) _
  go_enter Try.func6, Try.ntmps6
  go_wp2_with fail
  go_loopw [5] (fun iv wr => ∃ i : Nat, i ≤ E1.length ∧ iv = .int .i64 i ∧ wr.cell? ⟨w.heap.size, 0, none⟩ = some (.slice a1 E1.length c1) ∧ wr.cell? ⟨w.heap.size + 1, 0, none⟩ = some (.slice a2 E1.length c2) ∧ Below w.heap.size w wr) (fun iv _ => E1.length - (intOf iv).toNat)
  case atStart => exact ⟨0, Nat.zero_le _, rfl, q0, q1, hB0⟩
  case round =>
    clear q0 q1 hB0
    obtain ⟨i, hi, rfl, q0, q1, hB⟩ := hrel
    have hsz := hB.size
    by_cases hlt : i < E1.length
    · have hlt2 : i < E2.length := by have := HLEN.out; omega
      obtain ⟨b1, o1, rfl, hc1⟩ := (A1.out.later hB).cells (by intro e; rw [e] at hlt; exact absurd hlt (by simp))
      have r0 := hc1 i hlt
      obtain ⟨b2, o2, rfl, hc2⟩ := (A2.out.later hB).cells (by intro e; rw [e] at hlt2; exact absurd hlt2 (by simp))
      have s0 := hc2 i hlt2
      have hP1 := A1.out.pages _ (List.getElem_mem hlt)
      have hP2 := A2.out.pages _ (List.getElem_mem hlt2)
      have ep : E1[i].p = E2[i].p := hp_map_at HE.out hlt hlt2
      obtain ⟨a1', c1', p1, e1⟩ : ∃ a c p, E1[i] = ⟨a, c, p⟩ := ⟨_, _, _, rfl⟩
      obtain ⟨a2', c2', p2, e2⟩ : ∃ a c p, E2[i] = ⟨a, c, p⟩ := ⟨_, _, _, rfl⟩
      rw [e1] at r0 hP1 ep
      rw [e2] at s0 hP2 ep
      dsimp only at r0 s0 hP1 hP2 ep
      obtain rfl := ep
      have C := fun W (hb : Below w.heap.size w W) => refSame_any a1' a2' c1' c2' p1 W (hP1.out.later hb) (hP2.out.later hb) (by have := hP1.len; unfold maxLen; omega)
      clear hc1 hc2 hP1 hP2 e1 e2
      go_wp2_with fail
      go_region_held3 (fun w' => w'.cell? ⟨w.heap.size, 0, none⟩ = some (.slice (some ⟨b1, o1, none⟩) E1.length c1) ∧ w'.cell? ⟨w.heap.size + 1, 0, none⟩ = some (.slice (some ⟨b2, o2, none⟩) E1.length c2) ∧ w'.cell? ⟨b1, o1 + i, none⟩ = some (.slice a1' p1.length c1') ∧ w'.cell? ⟨b2, o2 + i, none⟩ = some (.slice a2' p1.length c2') ∧ Below w.heap.size w w')
        ((go_split_ands; (try dsimp only); (repeat' apply And.intro); all_goals (first
          | assumption
          | exact cell_later hbn ‹_›
          | exact below_through hbn (Below.size ‹Below w.heap.size w _›) ‹_›
          | exact Below.drew hB
          | go_keep)))
        (first
          | (go_at_call 17; (try go_split_ands); refine (C _ (by assumption)).mono ?_; rintro e wn ⟨rfl, hbn⟩))
      have HH := ‹wn.cell? ⟨w.heap.size, 0, none⟩ = some (.slice (some ⟨b1, o1, none⟩) E1.length c1) ∧ _›
      clear C q0 q1 r0 s0 hB
      go_wp2
      exact ⟨⟨i + 1, by omega, by go_num, HH.1, HH.2.1, HH.2.2.2.2⟩, by simp [intOf]; omega⟩
    · have hie : ¬ (i : Int) < E1.length := by omega
      go_wp2
      go_ret
      exact ⟨rfl, hB⟩
end Go.Proofs.Ytneebnankghhgaa

/- The reference of layer 6: putting: a contract of the call, in whatever memory. Conditions: the pages' cells are known. -/
namespace Go.Proofs.Ytneebnankghhgaa
open Go.RowKit

/-- A variable of two ints, in a block of its own. -/
structure IdAt (w : World) (B : Nat) (x y : Int) : Prop where
  c0 : w.cell? ⟨B, 0, none⟩ = some (.int .i64 x)
  c1 : w.cell? ⟨B, 1, none⟩ = some (.int .i64 y)
  f : ∀ j, w.frozen? ⟨B, j, none⟩ = false
theorem IdAt.lt {w : World} {B : Nat} {x y : Int} (h : IdAt w B x y) : B < w.heap.size := World.block_lt_of_cell? _ _ h.c0
theorem IdAt.later {w w' : World} {B : Nat} {x y : Int} (h : IdAt w B x y) (hb : Below w.heap.size w w') : IdAt w' B x y :=
  ⟨cell_later hb h.c0, cell_later hb h.c1, fun j => (hb.frozen (p := ⟨B, j, none⟩) h.lt).trans (h.f j)⟩
theorem IdAt.below {w w' : World} {B base : Nat} {x y : Int} (h : IdAt w B x y) (hb : Below base w w') (hlt : B < base) : IdAt w' B x y :=
  ⟨(hb.cell (p := ⟨B, 0, none⟩) hlt).trans h.c0, (hb.cell (p := ⟨B, 1, none⟩) hlt).trans h.c1, fun j => (hb.frozen (p := ⟨B, j, none⟩) hlt).trans (h.f j)⟩
theorem IdAt.new (w : World) (x y : Int) (t : TypeId) : IdAt (w.alloc (Obj.cells #[.int .i64 x, .int .i64 y] t)) w.heap.size x y :=
  ⟨by go_cell, by go_cell, fun j => World.frozen?_alloc_at _ _ _ _ rfl⟩
theorem IdAt.alloc {w : World} {B : Nat} {x y : Int} (h : IdAt w B x y) (o : Obj) : IdAt (w.alloc o) B x y := h.later ((Below.refl _ _).alloc (Nat.le_refl _) _)
theorem IdAt.other {w : World} {B : Nat} {x y : Int} (h : IdAt w B x y) (a : Addr) (u : Value) (ha : a.block ≠ B) : IdAt (w.setCell a u) B x y :=
  ⟨by rw [World.cell?_setCell_other _ _ _ _ (fun e => ha (by rw [e]))]; exact h.c0, by rw [World.cell?_setCell_other _ _ _ _ (fun e => ha (by rw [e]))]; exact h.c1, fun j => by rw [World.frozen?_setCell]; exact h.f j⟩
theorem IdAt.set {w : World} {B : Nat} {x y : Int} (h : IdAt w B x y) (x' y' : Int) : IdAt ((w.setCell ⟨B, 0, none⟩ (.int .i64 x')).setCell ⟨B, 1, none⟩ (.int .i64 y')) B x' y' := by
  refine ⟨?_, ?_, fun j => ?_⟩
  · rw [World.cell?_setCell_other _ _ _ _ (by simp)]
    exact World.cell?_setCell_same _ _ _ h.c0
  · refine World.cell?_setCell_same _ _ _ (u := .int .i64 y) ?_
    rw [World.cell?_setCell_other _ _ _ _ (by simp)]; exact h.c1
  · rw [World.frozen?_setCell, World.frozen?_setCell]; exact h.f j

/-- Where an answered heap lies: it is the argument, or its pages are new; each page is one of the argument's, or new. -/
structure AwayH (w : World) (a : Option Addr) (E : List PgE) (a' : Option Addr) (E' : List PgE) : Prop where
  outer : (a' = a ∧ E' = E) ∨ ∀ b off, a' = some ⟨b, off, none⟩ → w.heap.size ≤ b
  inner : ∀ e ∈ E', (∃ e0 ∈ E, e.a = e0.a ∧ e.p = e0.p) ∨ ∀ b off, e.a = some ⟨b, off, none⟩ → w.heap.size ≤ b
theorem AwayH.same (w : World) (a : Option Addr) (E : List PgE) : AwayH w a E a E := ⟨.inl ⟨rfl, rfl⟩, fun e he => .inl ⟨e, he, rfl, rfl⟩⟩
/-- What Put, and Set, must answer. -/
def HIdAns (w : World) (a : Option Addr) (E : List PgE) (h : Hp) (x y er : Int) (e : Ending) (w' : World) : Prop :=
  (∃ a' c E', e = .returned (.tuple #[.agg #[.slice a' E'.length c], .agg #[.int .i64 x, .int .i64 y], .int .i64 er]) ∧ HpAt w' a' c E' ∧ hp E' = h ∧ AwayH w a E a' E') ∧ Below w.heap.size w w'
theorem putHE_wrong {h : Hp} (d : List UInt8) (most : Int) (hr : rightH h = false) : putHP h d most = h ∧ putHX h d most = 0 ∧ putHY h d most = 0 ∧ putHE h d most = 1 := by
  have ho : okH h d most = false := by unfold okH; rw [hr]; rfl
  unfold putHP putHX putHY putHE
  rw [ho, hr]; exact ⟨rfl, rfl, rfl, rfl⟩
theorem putHE_long {h : Hp} {d : List UInt8} (most : Int) (hr : rightH h = true) (hd : ¬ d.length ≤ 1016) : putHP h d most = h ∧ putHX h d most = 0 ∧ putHY h d most = 0 ∧ putHE h d most = 3 := by
  have ho : okH h d most = false := by unfold okH; simp [hd]
  unfold putHP putHX putHY putHE
  rw [ho, hr, if_pos rfl, if_neg hd]; exact ⟨rfl, rfl, rfl, rfl⟩
theorem putHE_full {h : Hp} {d : List UInt8} {most : Int} (hr : rightH h = true) (hd : d.length ≤ 1016) (hc : canH h d most = false) : putHP h d most = h ∧ putHX h d most = 0 ∧ putHY h d most = 0 ∧ putHE h d most = 17 := by
  have ho : okH h d most = false := by unfold okH; rw [hc]; simp
  unfold putHP putHX putHY putHE
  rw [ho, hr, hc, if_pos rfl, if_pos hd]; exact ⟨rfl, rfl, rfl, rfl⟩
theorem putHE_done {h : Hp} {d : List UInt8} {most : Int} (hr : rightH h = true) (hd : d.length ≤ 1016) (hc : canH h d most = true) : putHP h d most = putHR h d ∧ putHX h d most = fitH d.length h ∧ putHY h d most = slotH h d ∧ putHE h d most = 0 := by
  have ho : okH h d most = true := by unfold okH; rw [hr, hc]; simp [hd]
  unfold putHP putHX putHY putHE
  rw [ho, hr, hc, if_pos rfl, if_pos hd]; exact ⟨rfl, rfl, rfl, rfl⟩

theorem line_new1 (w : World) (u : Value) (t : TypeId) : (w.alloc (Obj.cells #[u] t)).cell? ⟨w.heap.size, 0, none⟩ = some u := by go_cell
/-- An append of one page, laid in a block of its own first. -/
theorem wp_page1 {w : World} {ops : Array Oper} {rest : List Oper} {o : Oper} {a : Act} {Q : Exit → Act → World → Prop} (hgd : o.guard = none) (s x : Operand)
    (ho : o.op = .call { callee := .builtin .append, args := #[s, x], argTypes := #[23, 23] })
    {base : Nat} {v : Value} {E : List PgE} (hs : a.eval s = v) (hown : OwnH w base v E)
    (e : PgE) (B : Nat) (hx : a.eval x = .slice (some ⟨B, 0, none⟩) 1 1) (h0 : w.cell? ⟨B, 0, none⟩ = some (.slice e.a e.p.length e.c))
    (hlen : (E.length + 1) * 24 ≤ 140737488355328) (hbase : base ≤ w.heap.size)
    (h : ∀ v' w', OwnH w' base v' (E ++ [e]) → w.grownBy w' v.ownBlock → Below base w w' → wpList Try.prog ops Q rest (a.put o.dst v') w') : wpList Try.prog ops Q (o :: rest) a w := by
  obtain ⟨i0, hi, hz0, hz1, hz2⟩ := info_parts info62
  refine wpList_append_own w hgd s x 23 ho base 55 i0 (.agg #[.slice none 0 0]) 1 24 Try.underlying23 hi hz0 hz1 hz2 rfl (by decide) v E.length (pgCells E) hs hown.out ⟨B, 0, none⟩ 1 1 [.slice e.a e.p.length e.c] hx rfl ?_ ?_ (by unfold maxLen; omega) hlen hbase ?_
  · intro j u hj
    match j, hj with
    | 0, hj => simp at hj; subst hj; rw [WideShapes.add_plain]; exact h0
    | j + 1, hj => simp at hj
  · intro u hu; simp at hu; subst hu; rfl
  · intro v' w' hown' hgrow _
    refine h v' w' ⟨?_⟩ hgrow ((Below.refl _ _).grown hgrow hbase (fun k hk => (hown.out.lt k hk).1))
    rw [pgCells_append, List.length_append]
    exact hown'
theorem fitH_stop {h : Hp} {n : Int} {i : Nat} (hf : i + fitH n (h.drop i) = fitH n h) (hi : i < h.length) (hu : fitsB h[i] n = true) : fitH n h = i := by
  rw [List.drop_eq_getElem_cons hi] at hf
  have e : fitH n (h[i] :: h.drop (i + 1)) = 0 := by simp [fitH, hu]
  rw [e] at hf; omega
theorem fitH_go {h : Hp} {n : Int} {i : Nat} (hf : i + fitH n (h.drop i) = fitH n h) (hi : i < h.length) (hu : fitsB h[i] n = false) : (i + 1) + fitH n (h.drop (i + 1)) = fitH n h := by
  rw [List.drop_eq_getElem_cons hi] at hf
  have e : fitH n (h[i] :: h.drop (i + 1)) = fitH n (h.drop (i + 1)) + 1 := by simp [fitH, hu]
  rw [e] at hf; omega
theorem hp_set (E : List PgE) (i : Nat) (e : PgE) : hp (E.set i e) = (hp E).set i e.p := by simp [hp, List.map_set]
theorem OwnH.slots {w : World} {base n c : Nat} {a : Option Addr} {E : List PgE} (h : OwnH w base (.slice a n c) E) : HCells w a E := by
  obtain ⟨a', c', e, _, _, hs⟩ := pgs_owned h
  obtain ⟨rfl, -, -⟩ := Value.slice.inj e
  exact hs
theorem mem_set_away {w : World} {E : List PgE} {i : Nat} {e : PgE} (he : (∃ e0 ∈ E, e.a = e0.a ∧ e.p = e0.p) ∨ ∀ b off, e.a = some ⟨b, off, none⟩ → w.heap.size ≤ b) :
    ∀ x ∈ E.set i e, (∃ e0 ∈ E, x.a = e0.a ∧ x.p = e0.p) ∨ ∀ b off, x.a = some ⟨b, off, none⟩ → w.heap.size ≤ b := fun x hx => by
  rcases List.mem_or_eq_of_mem_set hx with hx | rfl
  · exact .inl ⟨x, hx, rfl, rfl⟩
  · exact he

end Go.Proofs.Ytneebnankghhgaa

/- What the laws of layer 6 keep of their own: rows with their places, in memory; where one is. Conditions: each names its own. -/
namespace Go.Proofs.Ytneebnankghhgaa
open Go.RowKit

def kCells (R : List KeptR) : List Value := R.flatMap fun r => [.int .i64 r.x, .int .i64 r.y, .string (txt r.d)]
theorem kCells_append (A B : List KeptR) : kCells (A ++ B) = kCells A ++ kCells B := by simp [kCells]
theorem kCells_len : ∀ R, (kCells R).length = R.length * 3
  | [] => rfl
  | r :: R => by
    have := kCells_len R
    show (kCells R).length + 3 = _
    rw [this, List.length_cons]; omega
theorem kCells_at : ∀ (R : List KeptR) (i : Nat) (h : i < R.length), (kCells R)[i * 3]? = some (.int .i64 R[i].x) ∧ (kCells R)[i * 3 + 1]? = some (.int .i64 R[i].y) ∧ (kCells R)[i * 3 + 2]? = some (.string (txt R[i].d))
  | r :: R, 0, _ => ⟨rfl, rfl, rfl⟩
  | r :: R, i + 1, h => by
    have := kCells_at R i (by simpa using h)
    have e : kCells (r :: R) = [.int .i64 r.x, .int .i64 r.y, .string (txt r.d)] ++ kCells R := rfl
    have g : ∀ d, (kCells (r :: R))[(i + 1) * 3 + d]? = (kCells R)[i * 3 + d]? := fun d => by
      rw [e, List.getElem?_append_right (by simp; omega)]
      congr 1
      simp; omega
    exact ⟨(g 0).trans this.1, (g 1).trans this.2.1, (g 2).trans this.2.2⟩
theorem kCells_one (R : List KeptR) : ∀ u ∈ kCells R, u.oneCell' = true := by
  intro u hu
  obtain ⟨s, _, hu⟩ := List.mem_flatMap.1 hu
  simp at hu
  rcases hu with rfl | rfl | rfl <;> rfl
/-- The cells of rows with their places. -/
def KeptAt (w : World) (a : Option Addr) (R : List KeptR) : Prop :=
  R ≠ [] → ∃ b off, a = some ⟨b, off, none⟩ ∧ ∀ i (h : i < R.length), w.cell? ⟨b, off + i * 3, none⟩ = some (.int .i64 R[i].x) ∧ w.cell? ⟨b, off + i * 3 + 1, none⟩ = some (.int .i64 R[i].y) ∧ w.cell? ⟨b, off + i * 3 + 2, none⟩ = some (.string (txt R[i].d))
theorem KeptAt.later {w w' : World} {a : Option Addr} {R : List KeptR} (h : KeptAt w a R) (hb : Below w.heap.size w w') : KeptAt w' a R := fun hn => by
  obtain ⟨b, off, e, hc⟩ := h hn
  exact ⟨b, off, e, fun i hi => ⟨cell_later hb (hc i hi).1, cell_later hb (hc i hi).2.1, cell_later hb (hc i hi).2.2⟩⟩
/-- Rows with their places, in a block of their own from base on, or nil. -/
structure OwnK (w : World) (base : Nat) (v : Value) (R : List KeptR) : Prop where
  out : w.ownsRow base 37 3 v R.length (kCells R)
theorem kept_owned {base : Nat} {w : World} {v : Value} {R : List KeptR} (h : OwnK w base v R) : ∃ a c, v = .slice a R.length c ∧ R.length ≤ c ∧ c ≤ maxLen ∧ KeptAt w a R := by
  have h0 := h.out
  rcases h.out.2 with ⟨rfl, hl⟩ | ⟨g, cap', cur, rfl, hg, hh, hn, hcap, hsz, htake⟩
  · exact ⟨none, 0, by rw [hl], by omega, by unfold maxLen; omega, fun hne => absurd (List.length_eq_zero_iff.1 hl) hne⟩
  · refine ⟨some ⟨g, 0, none⟩, cap', rfl, hn, hcap, fun _ => ⟨g, 0, rfl, fun i hi => ?_⟩⟩
    obtain ⟨h1, h2, h3⟩ := kCells_at R i hi
    rw [Nat.zero_add]
    exact ⟨(h0.cellAt _ (by omega)).trans h1, (h0.cellAt _ (by omega)).trans h2, (h0.cellAt _ (by omega)).trans h3⟩
theorem OwnK.kept {w w' : World} {base : Nat} {v : Value} {R : List KeptR} (h : OwnK w base v R) (hb : Below w.heap.size w w') : OwnK w' base v R :=
  ⟨World.ownsRow.kept (row := none) h.out ⟨hb.os, hb.tape, hb.output, hb.size, fun j hj _ => hb.block j hj⟩ (by cases hv : v.ownBlock <;> simp)⟩
theorem OwnK.alloc {w : World} {base : Nat} {v : Value} {R : List KeptR} (h : OwnK w base v R) (o : Obj) : OwnK (w.alloc o) base v R := ⟨World.ownsRow.alloc h.out o⟩
theorem OwnK.drew {w : World} {base : Nat} {v : Value} {R : List KeptR} (h : OwnK w base v R) : OwnK w.drew base v R := ⟨h.out⟩
theorem infoK : (Try.prog.info? 37).map (fun i => (i.zero, i.size, i.bytes)) = some (some (.agg #[.int .i64 0, .int .i64 0, .string ⟨#[]⟩]), 3, 32) := by kernel_rfl

theorem at_next {R : List KeptR} {x y : Int} {i : Nat} (h : atR R x y = (atR (R.drop i) x y).map (· + i)) (hi : i < R.length) (hn : ¬ (R[i].x = x ∧ R[i].y = y)) : atR R x y = (atR (R.drop (i + 1)) x y).map (· + (i + 1)) := by
  have e : atR (R[i] :: R.drop (i + 1)) x y = (atR (R.drop (i + 1)) x y).map (· + 1) := by simp [atR, hn]
  rw [List.drop_eq_getElem_cons hi, e] at h
  rw [h]
  cases atR (R.drop (i + 1)) x y with
  | none => rfl
  | some j => simp; omega
theorem at_here {R : List KeptR} {x y : Int} {i : Nat} (h : atR R x y = (atR (R.drop i) x y).map (· + i)) (hi : i < R.length) (hn : R[i].x = x ∧ R[i].y = y) : atR R x y = some i := by
  have e : atR (R[i] :: R.drop (i + 1)) x y = some 0 := by simp [atR, hn]
  rw [List.drop_eq_getElem_cons hi, e] at h
  rw [h]; simp
set_option maxHeartbeats 2000000 in
theorem place_any (a : Option Addr) (c : Nat) (R : List KeptR) (x y : Int) (w : World) (h : KeptAt w a R) (hl : R.length ≤ 1000000) :
    Calls Try.prog 4 #[.slice a R.length c, .agg #[.int .i64 x, .int .i64 y]] w fun e w' => e = .returned (.int .i64 (placeR R x y)) ∧ Below w.heap.size w w' := by
  have A := hid0 h
  clear h
  go_enter Try.func4, Try.ntmps4
  go_wp2
  have D := IdAt.new w x y 29
  have hB0 : Below w.heap.size w (w.alloc (Obj.cells #[.int .i64 x, .int .i64 y] 29)) := (Below.refl _ _).alloc (Nat.le_refl _) _
  obtain ⟨i0, i1, _⟩ := D
  generalize w.alloc (Obj.cells #[.int .i64 x, .int .i64 y] 29) = W0 at i0 i1 hB0 ⊢
  go_loopw [5] (fun iv wr => ∃ i : Nat, i ≤ R.length ∧ iv = .int .i64 i ∧ Hid (atR R x y = (atR (R.drop i) x y).map (· + i)) ∧ wr.cell? ⟨w.heap.size, 0, none⟩ = some (.int .i64 x) ∧ wr.cell? ⟨w.heap.size, 1, none⟩ = some (.int .i64 y) ∧ Below w.heap.size w wr) (fun iv _ => R.length - (intOf iv).toNat)
  case atStart => exact ⟨0, Nat.zero_le _, rfl, hid0 (by rw [List.drop_zero]; cases atR R x y <;> simp), i0, i1, hB0⟩
  case round =>
    clear i0 i1 hB0
    obtain ⟨i, hi, rfl, hA, i0, i1, hB⟩ := hrel
    by_cases hlt : i < R.length
    · obtain ⟨b, o, rfl, hc⟩ := (A.out.later hB) (by intro e; rw [e] at hlt; exact absurd hlt (by simp))
      obtain ⟨q0, q1, q2⟩ := hc i hlt
      clear hc
      have hii : (i : Int) < (R.length : Int) := by omega
      have hin : (0 : Int) ≤ (i : Int) := by omega
      by_cases he : R[i].x = x ∧ R[i].y = y
      · have HP := hid0 (show placeR R x y = i by unfold placeR; rw [at_here hA.out hlt he])
        rw [he.1] at q0
        rw [he.2] at q1
        clear he
        go_wp2_with fail
        go_region
        go_wp2
        go_ret
        exact ⟨ret_i64 HP.out.symm, Below.drew hB⟩
      · have HN := hid0 (at_next hA.out hlt he)
        obtain ⟨x', hx'⟩ : ∃ x', R[i].x = x' := ⟨_, rfl⟩
        obtain ⟨y', hy'⟩ : ∃ y', R[i].y = y' := ⟨_, rfl⟩
        rw [hx', hy'] at he
        rw [hx'] at q0
        rw [hy'] at q1
        clear hx' hy'
        have he2 : (decide (x' = x) && decide (y' = y)) = false := by simpa using he
        by_cases hxx : x' = x
        · have hyy : ¬ y' = y := fun e => he ⟨hxx, e⟩
          clear he he2
          subst hxx
          go_wp2_with fail
          go_region
          go_wp2
          exact ⟨⟨i + 1, by omega, by go_num, HN, i0, i1, Below.drew hB⟩, by simp [intOf]; omega⟩
        · clear he he2
          go_wp2_with fail
          go_region
          go_wp2
          exact ⟨⟨i + 1, by omega, by go_num, HN, i0, i1, Below.drew hB⟩, by simp [intOf]; omega⟩
    · have hie : ¬ (i : Int) < R.length := by omega
      have HP := hid0 (show placeR R x y = -1 by
        have h := hA.out
        rw [List.drop_eq_nil_of_le (by omega)] at h
        unfold placeR
        rw [h]; rfl)
      go_wp2
      go_ret
      exact ⟨ret_i64 HP.out.symm, hB⟩

theorem step_kept {w : World} {ops : Array Oper} {o : Oper} {a : Act} {K : Act → World → Prop} {Q : Exit → Act → World → Prop} {X : Prop} (hgd : o.guard = none) (s x : Operand)
    (ho : o.op = .call { callee := .builtin .append, args := #[s, x], argTypes := #[26, 26] })
    {base : Nat} {v : Value} {R : List KeptR} (hs : a.eval s = v) (hown : OwnK w base v R)
    (ad : Addr) (m c : Nat) (hx : a.eval x = .slice (some ad) m c) (N : List KeptR) (hm : N.length = m) (hnews : ∀ j u, (kCells N)[j]? = some u → w.cell? (ad.add j) = some u)
    (hlen : (R.length + m) * 32 ≤ 140737488355328) (hbase : base ≤ w.heap.size)
    (h : ∀ v' w', OwnK w' base v' (R ++ N) → Below base w w' → K (a.put o.dst v') w') :
    if Region.wanted o (yielded ops a.tmps) = true then Oper.wp Try.prog o a w K Q else X := by
  have hw : Region.wanted o (yielded ops a.tmps) = true := by simp [Region.wanted, hgd]
  rw [if_pos hw]
  obtain ⟨i0, hi, hz0, hz1, hz2⟩ := info_parts infoK
  refine wp_append_own w s x 26 ho base 37 i0 (.agg #[.int .i64 0, .int .i64 0, .string ⟨#[]⟩]) 3 32 Try.underlying26 hi hz0 hz1 hz2 rfl (by decide) v R.length (kCells R) hs hown.out ad m c (kCells N) hx (by rw [kCells_len, hm]) hnews (kCells_one N) (by unfold maxLen; omega) hlen hbase ?_
  intro v' w' hown' hgrow _
  refine h v' w' ⟨?_⟩ ((Below.refl _ _).grown hgrow hbase (fun k hk => (hown.out.lt k hk).1))
  rw [kCells_append, List.length_append, hm]
  exact hown'
theorem kCells_of {w : World} {b off : Nat} {R : List KeptR} (h : KeptAt w (some ⟨b, off, none⟩) R) (k : Nat) (N : List KeptR) (hN : ∀ i (hi : i < N.length), ∃ hk : k + i < R.length, R[k + i] = N[i]) (ad : Addr) (had : N = [] ∨ ad = ⟨b, off + k * 3, none⟩) : ∀ j u, (kCells N)[j]? = some u → w.cell? (ad.add j) = some u := by
  intro j u hj
  have hlt : j < N.length * 3 := by
    have := (List.getElem?_eq_some_iff.1 hj).1
    rwa [kCells_len] at this
  rcases had with rfl | rfl
  · simp at hlt
  have hi : j / 3 < N.length := by omega
  obtain ⟨hk, hRN⟩ := hN (j / 3) hi
  have hne : R ≠ [] := fun e => by subst e; simp at hk
  obtain ⟨b', off', e, hc⟩ := h hne
  obtain ⟨rfl, rfl⟩ : b = b' ∧ off = off' := by simpa using e
  obtain ⟨c0, c1, c2⟩ := hc _ hk
  rw [hRN] at c0 c1 c2
  obtain ⟨r0, r1, r2⟩ := kCells_at N (j / 3) hi
  rw [WideShapes.add_plain]
  rcases (by omega : j % 3 = 0 ∨ j % 3 = 1 ∨ j % 3 = 2) with e | e | e
  · rw [show j = j / 3 * 3 by omega] at hj
    rw [r0] at hj
    rw [← hj, ← c0]; congr 2; omega
  · rw [show j = j / 3 * 3 + 1 by omega] at hj
    rw [r1] at hj
    rw [← hj, ← c1]; congr 2; omega
  · rw [show j = j / 3 * 3 + 2 by omega] at hj
    rw [r2] at hj
    rw [← hj, ← c2]; congr 2; omega
theorem slice_rest (b o k n c : Nat) (hk : k ≤ n) (hn : n ≤ c) : ∃ ad : Addr, (n - k = 0 ∨ ad = ⟨b, o + k * 3, none⟩) ∧ ∀ W : World, (Instr.slice 26 (.slice (some ⟨b, o, none⟩) n c) (some (.int .i64 (k : Int))) none none).run Try.prog W = .ok (.slice (some ad) (n - k) (c - k)) W := by
  obtain ⟨i0, hi, hz0, hz1, hz2⟩ := info_parts infoK
  by_cases h : c = k
  · refine ⟨⟨b, o, none⟩, .inl (by omega), fun W => ?_⟩
    rw [run_slice_l W 26 (some ⟨b, o, none⟩) n c Try.underlying26 .i64 (k : Int) (by omega) (by omega)]
    simp [go_sem, Result.andThen, sliced, h]
  · refine ⟨⟨b, o + k * 3, none⟩, .inr rfl, fun W => ?_⟩
    rw [run_slice_l W 26 (some ⟨b, o, none⟩) n c Try.underlying26 .i64 (k : Int) (by omega) (by omega)]
    simp [go_sem, Result.andThen, sliced, h]

set_option maxHeartbeats 4000000 in
theorem without_any (a : Option Addr) (c : Nat) (R : List KeptR) (i : Nat) (w : World) (h : KeptAt w a R) (hc : R.length ≤ c) (hl : R.length ≤ 1000000) (hi : i < R.length) :
    Calls Try.prog 8 #[.slice a R.length c, .int .i64 (i : Int)] w fun e w' => (∃ v, e = .returned v ∧ OwnK w' w.heap.size v (R.eraseIdx i)) ∧ Below w.heap.size w w' := by
  have A := hid0 h
  obtain ⟨b, o, rfl, _⟩ := h (by intro e; rw [e] at hi; exact absurd hi (by simp))
  obtain ⟨n, hn⟩ : ∃ n, R.length = n := ⟨_, rfl⟩
  have HN := hid0 hn
  rw [hn] at hc hl hi ⊢
  clear hn
  obtain ⟨ad, had, hs2⟩ := slice_rest b o (i + 1) n c (by omega) hc
  have HAD := hid0 had
  have hs1 : ∀ W : World, (Instr.slice 26 (.slice (some ⟨b, o, none⟩) n c) none (some (.int .i64 (i : Int))) none).run Try.prog W = .ok (.slice (some ⟨b, o, none⟩) i c) W := by
    intro W
    rw [run_slice_h W 26 (some ⟨b, o, none⟩) n c Try.underlying26 .i64 i (by omega) (by omega)]
    simp [go_sem, Result.andThen, sliced]
  have hs3 : ∀ W : World, (Instr.slice 26 (.slice (some ⟨b, o, none⟩) n c) (some (.int .i64 ((i : Int) + 1))) none none).run Try.prog W = .ok (.slice (some ad) (n - (i + 1)) (c - (i + 1))) W := hs2
  have hwi : IntKind.i64.wrap ((i : Int) + 1) = (i : Int) + 1 := IntWalk.i64_in _ (by omega)
  have hown0 : OwnK ((w.alloc (Obj.cells #[] 37)).drew) w.heap.size (.slice (some ⟨w.heap.size, 0, none⟩) 0 0) [] := ⟨World.ownsRow_made w #[] 0 (Nat.le_refl _) (by unfold maxLen; omega) rfl⟩
  have hB0 : Below w.heap.size w (w.alloc (Obj.cells #[] 37)).drew := Below.drew ((Below.refl _ _).alloc (Nat.le_refl _) _)
  have htk : (R.take i).length = i := by rw [List.length_take]; have := HN.out; omega
  have HTK := hid0 htk
  have hdr : (R.drop (i + 1)).length = n - (i + 1) := by rw [List.length_drop]; have := HN.out; omega
  have HDR := hid0 hdr
  have hc1 := fun W (hb : Below w.heap.size w W) => kCells_of (A.out.later hb) 0 (R.take i) (fun j hj => ⟨by have := HN.out; omega, by simp⟩) ⟨b, o, none⟩ (.inr (by simp))
  have hc2 := fun W (hb : Below w.heap.size w W) => kCells_of (A.out.later hb) (i + 1) (R.drop (i + 1)) (fun j hj => ⟨by have := HN.out; omega, by simp⟩) ad (HAD.out.imp (fun h => List.length_eq_zero_iff.1 (by omega)) id)
  clear htk hdr had hs2
  go_enter Try.func8, Try.ntmps8
  go_wp2_with fail
  go_region_held_law (fun w' => Below w.heap.size w w')
    (first | assumption | exact hB0 | exact hB0.trans hb1 | exact (hB0.trans hb1).trans hb2 | exact Below.drew (Below.refl _ _) | go_keep)
    (first
      | (refine step_kept (by rfl) _ _ (by rfl) (by rfl) hown0 ⟨b, o, none⟩ i c (by rfl) (R.take i) HTK.out (hc1 _ hB0) (by simp; omega) (by simp) ?_; intro v1 w1 hown1 hb1)
      | (refine step_kept (by rfl) _ _ (by rfl) (by rfl) hown1 ad (n - (i + 1)) (c - (i + 1)) (by rfl) (R.drop (i + 1)) HDR.out (hc2 _ (hB0.trans hb1)) (by simp; omega) ((hB0.trans hb1).size) ?_; intro v2 w2 hown2 hb2))
  go_wp2
  go_ret
  rw [List.nil_append, ← List.eraseIdx_eq_take_drop_succ] at hown2
  exact ⟨⟨v2, by simp, hown2⟩, (hB0.trans hb1).trans hb2⟩
end Go.Proofs.Ytneebnankghhgaa

/- The reference of layer 6: cutting: a contract of the call, in whatever memory. Conditions: the pages' cells are known. -/
namespace Go.Proofs.Ytneebnankghhgaa
open Go.RowKit

/-- What Cut must answer. -/
def HAns (w : World) (a : Option Addr) (E : List PgE) (h : Hp) (er : Int) (e : Ending) (w' : World) : Prop :=
  (∃ a' c E', e = .returned (.tuple #[.agg #[.slice a' E'.length c], .int .i64 er]) ∧ HpAt w' a' c E' ∧ hp E' = h ∧ AwayH w a E a' E') ∧ Below w.heap.size w w'

theorem trimH_all : ∀ (g : Hp), (∀ p ∈ g, p = []) → trimH g = []
  | [], _ => rfl
  | p :: g, h => by
    have e := trimH_all g (fun q hq => h q (by simp [hq]))
    have hp := h p (by simp)
    subst hp
    simp [trimH, e]
theorem trimH_append : ∀ (h g : Hp), (∀ p ∈ g, p = []) → lastFull h = true → trimH (h ++ g) = h
  | [], g, hg, _ => trimH_all g hg
  | [p], g, hg, hl => by
    have hp : (!p.isEmpty) = true := hl
    simp [trimH, trimH_all g hg] at hp ⊢
    exact hp
  | p :: q :: h, g, hg, hl => by
    have e := trimH_append (q :: h) g hg hl
    rw [List.cons_append, trimH, e]
/-- n pages are left when all behind them have no slot, and the last of them has one. -/
theorem trimH_at {h : Hp} {n : Nat} (h1 : ∀ i (hi : i < h.length), n ≤ i → h[i] = []) (h2 : n = 0 ∨ ∃ hl : n - 1 < h.length, 0 < n ∧ h[n - 1] ≠ []) : trimH h = h.take n := by
  have e : h = h.take n ++ h.drop n := (List.take_append_drop n h).symm
  conv => lhs; rw [e]
  refine trimH_append _ _ (fun p hp => ?_) ?_
  · obtain ⟨j, hj, rfl⟩ := List.mem_iff_getElem.1 hp
    rw [List.getElem_drop]
    exact h1 _ _ (by omega)
  · rcases h2 with rfl | ⟨hl, h0, hu⟩
    · rfl
    · rw [lastFull_at (by rw [List.length_take]; omega), List.getElem_take]
      have : (h.take n).length - 1 = n - 1 := by rw [List.length_take]; omega
      simp only [this]
      cases hq : h[n - 1] with
      | nil => exact absurd hq hu
      | cons _ _ => rfl
theorem HCells.take {w : World} {a : Option Addr} {E : List PgE} (h : HCells w a E) (n : Nat) : HCells w a (E.take n) := by
  intro hne
  have hp : E ≠ [] := fun e => hne (by rw [e]; simp)
  obtain ⟨b, off, e, hc⟩ := h hp
  refine ⟨b, off, e, fun i hi => ?_⟩
  rw [List.getElem_take]
  exact hc i (by rw [List.length_take] at hi; omega)
theorem hp_take (E : List PgE) (n : Nat) : hp (E.take n) = (hp E).take n := by simp [hp, List.map_take]
theorem away_less {w w0 : World} {a : Option Addr} {p : Pg} {a' : Option Addr} {q : Pg} (h : Away w a p a' q) (hw : w0.heap.size ≤ w.heap.size) : Away w0 a p a' q := h.imp id (fun h b off e => Nat.le_trans hw (h b off e))
theorem cell_alloc_keep {W : World} {o : Obj} {p : Addr} {v : Value} (h : W.cell? p = some v) : (W.alloc o).cell? p = some v := cell_later ((Below.refl _ _).alloc (Nat.le_refl _) _) h
theorem store_new_keep {W0 W : World} {T B o : Nat} {u v v0 : Value} (h0 : W0.cell? ⟨B, o, none⟩ = some v0) (hT : W0.heap.size ≤ T) (h : W.cell? ⟨B, o, none⟩ = some v) : (W.setCell ⟨T, 0, none⟩ u).cell? ⟨B, o, none⟩ = some v := by
  have hlt : B < W0.heap.size := World.block_lt_of_cell? _ _ h0
  have hne : T ≠ B := by omega
  rw [World.cell?_setCell_other _ _ _ _ (fun e => hne (by simpa using congrArg Addr.block e))]
  exact h
end Go.Proofs.Ytneebnankghhgaa
