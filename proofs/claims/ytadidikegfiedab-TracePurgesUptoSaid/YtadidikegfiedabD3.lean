/- Several of my texts laid together, each as it was: Ul, T20, T21. Conditions: each names its own. -/
import Derived.Deep.RegionHeld3
import Derived.StillTail
import Derived.Test.YtadidikegfiedabC9
import Derived.Test.YtadidikegfiedabE1
import Derived.Test.YtadidikegfiedabD2
import Derived.Test.YtadidikegfiedabB6
/- A region that draws its order and ends in ONE operation that waits for all the others (a store: 'x.f = append(x.f[:i], x.f[i+1:]...)' through a pointer): what holds of the cells that are read need not hold behind that one. 'wp_region_last': what is left is 'wpList .. [the last one] ..' behind a 'wpAnyH' over all the others. Nothing of any program here. Conditions: the last operation has no temporary of its own. -/
namespace Go
section
variable {P : Program} {md : Region.Mode} {S : World → Prop}
/-- What holds behind all but the last. -/
def LastQ (P : Program) (ops : Array Oper) (Q : Exit → Act → World → Prop) (l : List Oper) : Exit → Act → World → Prop
  | .normal, a, w => wpList P ops Q l a w
  | e, a, w => Q e a w
def Region.backB (md : Region.Mode) (ops : Array Oper) : Bool := (List.range ops.size).all fun i => match ops[i]? with | some o => o.after.all fun e => !Region.binds md e || decide (e.on < i) | none => true
theorem Region.backB_spec {ops : Array Oper} (h : Region.backB md ops = true) {i : Nat} {o : Oper} (ho : ops[i]? = some o) : ∀ e ∈ o.after, Region.binds md e = true → e.on < i := by
  intro e he hb
  have h1 := List.all_eq_true.1 h i (List.mem_range.2 (Array.getElem?_eq_some_iff.1 ho).1)
  simp only [ho] at h1
  have h2 := (Array.all_eq_true_iff_forall_mem.1 h1) e he
  simpa [hb] using h2
theorem yielded_last {l : List Oper} {o : Oper} (hd : o.dst = none) (tmps : Array Value) : yielded l.toArray tmps = yielded (l ++ [o]).toArray tmps := by
  funext j
  unfold yielded
  rcases Nat.lt_trichotomy j l.length with h | h | h
  · simp [List.getElem?_append_left h]
  · subst h; simp [hd]
  · rw [List.getElem?_toArray, List.getElem?_toArray, List.getElem?_eq_none (by omega), List.getElem?_eq_none (by simp; omega)]
theorem Oper.wp_last {ops : Array Oper} {Q : Exit → Act → World → Prop} {l : List Oper} {o : Oper} {a : Act} {w : World} {K : Act → World → Prop} (h : o.wp P a w K (LastQ P ops Q l)) : o.wp P a w K Q := by
  unfold Oper.wp at *
  generalize (execOp a.eval o).run P w = r at *
  cases r with
  | ok n w' =>
    cases n <;> simp only [Oper.upon] at h ⊢ <;>
      first
        | exact h
        | exact Calls.mono h (fun e w'' he => by cases e <;> exact he)
  | halt x w' => cases x <;> simp only [Oper.upon] at h ⊢ <;> exact h
theorem wpOp_last {Q : Exit → Act → World → Prop} {l : List Oper} {o : Oper} {ll : List Oper} (hd : o.dst = none) {i : Nat} (hi : i < l.length) {a : Act} {w : World} {K : Act → World → Prop} (h : wpOp P l.toArray (LastQ P (l ++ [o]).toArray Q ll) i K a w) : wpOp P (l ++ [o]).toArray Q i K a w := by
  unfold wpOp at *
  rw [← yielded_last hd]
  have e : (l ++ [o]).toArray[i]? = l.toArray[i]? := by simp [List.getElem?_append_left hi]
  rw [e]
  rw [List.getElem?_toArray, List.getElem?_eq_getElem hi] at *
  simp only at h ⊢
  split
  · rename_i hw
    rw [if_pos hw] at h
    exact h.imp Oper.wp_last id
  · rename_i hw
    rwa [if_neg hw] at h
theorem push_getD {L : Array Bool} (k : Nat) : (L.push false).getD k false = L.getD k false := by
  rcases Nat.lt_trichotomy k L.size with h | h | h
  · simp [Array.getElem?_push_lt h, h]
  · subst h; simp
  · simp [Array.getElem?_eq_none (xs := L) (i := k) (by omega), Array.getElem?_eq_none (xs := L.push false) (i := k) (by simp; omega)]
theorem push_getD' {L : Array Bool} {k : Nat} (h : k < L.size) : (L.push false).getD k true = L.getD k true := by
  simp [Array.getElem?_push_lt h, h]
theorem ready_last {l : List Oper} {o : Oper} {L : Array Bool} (hL : L.size = l.length) {i : Nat} (hi : i < l.length) : i ∈ Region.ready md (l ++ [o]).toArray (L.push false) ↔ i ∈ Region.ready md l.toArray L := by
  rw [mem_ready, mem_ready, push_getD' (by omega)]
  have e : (l ++ [o]).toArray[i]? = l.toArray[i]? := by simp [List.getElem?_append_left hi]
  rw [e]
  simp only [push_getD]
theorem push_set {L : Array Bool} {i : Nat} (h : i < L.size) : (L.push false).setIfInBounds i true = (L.setIfInBounds i true).push false := by
  obtain ⟨l⟩ := L
  simp only [List.size_toArray] at h
  simp [h]
theorem all_listed {l : List Oper} {L : Array Bool} {ops : Array Oper} (hL : L.size = l.length) (hb : Region.backB md ops = true) (hp : ∀ i, i < l.length → ops[i]? = l.toArray[i]?) (h0 : Region.ready md l.toArray L = []) : ∀ i, i < l.length → L.getD i true = true ∧ L.getD i false = true := by
  intro i
  induction i using Nat.strongRecOn with
  | _ i ih =>
    intro hi
    have key : L.getD i true = true := by
      cases hc : L.getD i true with
      | true => rfl
      | false =>
        exfalso
        have hm : i ∈ Region.ready md l.toArray L := by
          rw [mem_ready]
          refine ⟨hc, l[i], by simp [hi], fun e he hbe => ?_⟩
          have := Region.backB_spec hb (i := i) (o := l[i]) (by rw [hp i hi]; simp [hi]) e he hbe
          exact (ih e.on this (by omega)).2
        rw [h0] at hm
        cases hm
    exact ⟨key, by have hs : i < L.size := by omega
                   simp [hs] at key ⊢; exact key⟩
theorem wpAny_end {Q : Exit → Act → World → Prop} {l : List Oper} {o : Oper} (hb : Region.backB md (l ++ [o]).toArray = true) {L : Array Bool} (hL : L.size = l.length) {a : Act} {w : World}
    (h0 : Region.ready md l.toArray L = []) (h : wpList P (l ++ [o]).toArray Q [o] a w) (fuel : Nat) : wpAny P md (l ++ [o]).toArray Q (fuel + 1) (L.push false) a w := by
  have hall := all_listed hL hb (fun i hi => by simp [List.getElem?_append_left hi]) h0
  have hon : (l ++ [o]).toArray[l.length]? = some o := by simp
  have hlast : l.length ∈ Region.ready md (l ++ [o]).toArray (L.push false) := by
    rw [mem_ready]
    refine ⟨by simp [← hL], o, hon, fun e he hbe => ?_⟩
    rw [push_getD]
    exact (hall e.on (Region.backB_spec hb hon e he hbe)).2
  have honly : ∀ i ∈ Region.ready md (l ++ [o]).toArray (L.push false), i = l.length := by
    intro i hi
    obtain ⟨_, o', ho', _⟩ := mem_ready.1 hi
    have hlt : i < (l ++ [o]).toArray.size := (Array.getElem?_eq_some_iff.1 ho').1
    simp at hlt
    rcases Nat.lt_or_ge i l.length with g | g
    · have := (ready_last (o := o) hL g).1 hi
      rw [h0] at this; cases this
    · omega
  refine ⟨fun hn => (by rw [hn] at hlast; cases hlast), fun i hi => ?_⟩
  obtain rfl := honly i hi
  have hw : wpOp P (l ++ [o]).toArray Q l.length (wpList P (l ++ [o]).toArray Q []) a w := by unfold wpOp; simp only [hon]; exact h
  refine wpOp_mono (fun a' w' h' => ?_) hw
  have hnone : Region.ready md (l ++ [o]).toArray ((L.push false).setIfInBounds l.length true) = [] := by
    rw [List.eq_nil_iff_forall_not_mem]
    intro j hj
    obtain ⟨h1, o', ho', _⟩ := mem_ready.1 hj
    have hlt : j < (l ++ [o]).toArray.size := (Array.getElem?_eq_some_iff.1 ho').1
    simp at hlt
    by_cases hjl : j = l.length
    · subst hjl; simp [← hL] at h1
    · rw [getD_set_ne true (Ne.symm hjl), push_getD' (by omega), (hall j (by omega)).1] at h1; cases h1
  cases fuel with
  | zero => exact ⟨hnone, h'⟩
  | succ f => exact ⟨fun _ => h', fun j hj => (by rw [hnone] at hj; cases hj)⟩
theorem wpAny_last {Q : Exit → Act → World → Prop} {l : List Oper} {o : Oper} (hs : Region.sinkB md (l ++ [o]).toArray l.length = true) (hb : Region.backB md (l ++ [o]).toArray = true) (hd : o.dst = none) :
    ∀ (fuel : Nat) (L : Array Bool) (a : Act) (w : World), L.size = l.length → HeadInv md (l ++ [o]).toArray l.length (L.push false) →
      wpAnyH P md l.toArray (LastQ P (l ++ [o]).toArray Q [o]) S fuel L a w → wpAny P md (l ++ [o]).toArray Q (fuel + 1) (L.push false) a w
  | 0, L, a, w, hL, _, h => wpAny_end hb hL h.1 h.2 0
  | fuel + 1, L, a, w, hL, inv, h => by
    by_cases h0 : Region.ready md l.toArray L = []
    · exact wpAny_end hb hL h0 (h.1 h0) _
    · obtain ⟨i0, hi0⟩ := List.exists_mem_of_ne_nil _ h0
      have hlt : ∀ i ∈ Region.ready md l.toArray L, i < l.length := fun i hi => by
        obtain ⟨_, o', ho', _⟩ := mem_ready.1 hi
        have := (Array.getElem?_eq_some_iff.1 ho').1
        simpa using this
      have hi0l := hlt i0 hi0
      have hc : Region.chainB md (l ++ [o]).toArray l.length = true := by
        unfold Region.chainB
        rw [List.all_eq_true]
        intro t ht
        have := List.mem_range.1 ht
        simp at this
        simp; left; omega
      have hun : (L.push false).getD i0 true = false := by rw [push_getD' (by omega)]; exact (mem_ready.1 hi0).1
      refine ⟨fun hn => ?_, fun i hi => ?_⟩
      · have := (ready_last (o := o) hL hi0l).2 hi0
        rw [hn] at this; cases this
      · have hil : i < l.length := by
          rcases Nat.lt_or_ge i l.length with g | g
          · exact g
          · exact absurd hi (tail_waits hs hc (by simp) inv _ i0 rfl hi0l hun i g)
        have h1 := h.2 i ((ready_last (o := o) hL hil).1 hi)
        refine wpOp_mono (fun a' w' h' => ?_) (wpOp_last hd hil h1)
        rw [push_set (by omega)]
        refine wpAny_last hs hb hd fuel _ a' w' (by simp [hL]) ?_ h'.2
        rw [← push_set (by omega)]
        exact inv.set hi hil
/-- What is asked of the operations: nobody looks ahead, and all stand ahead of the last one, which has no temporary. -/
def Region.lastB (md : Region.Mode) (ops : List Oper) (n : Nat) : Bool :=
  decide (ops.length = n + 1) && Region.sinkB md ops.toArray n && Region.backB md ops.toArray && (match ops[n]? with | some o => o.dst.isNone | none => false)
theorem wp_region_last {id : Nat} {Q : Exit → Act → World → Prop} {a : Act} {w : World} {l : List Oper} (n : Nat) (hm : P.follows .mixedOrders = true) (hB : Region.lastB .any l n = true) (hS : S w.drew)
    (h : S w.drew → wpAnyH P .any (l.take n).toArray (LastQ P l.toArray Q (l.drop n)) S (l.take n).toArray.size (Array.replicate (l.take n).toArray.size false) a w.drew) : (Code.region id l.toArray true).wp P Q a w := by
  simp only [Region.lastB, Bool.and_eq_true, decide_eq_true_eq] at hB
  obtain ⟨⟨⟨hlen, hs⟩, hb⟩, hd⟩ := hB
  have hn : n < l.length := by omega
  rw [List.getElem?_eq_getElem hn] at hd
  have hd' : l[n].dst = none := by simpa using hd
  have e : l = l.take n ++ [l[n]] := by
    conv => lhs; rw [← List.take_append_drop n l, List.drop_eq_getElem_cons hn, List.drop_eq_nil_of_le (by omega)]
  have edr : l.drop n = [l[n]] := by rw [List.drop_eq_getElem_cons hn, List.drop_eq_nil_of_le (by omega)]
  have htl : (l.take n).length = n := by simp; omega
  rw [edr] at h
  generalize hx : l[n] = x at *
  generalize hh : l.take n = hd0 at *
  subst e
  refine wp_region_any hm ?_
  have inv0 : HeadInv .any (hd0 ++ [x]).toArray hd0.length ((Array.replicate hd0.toArray.size false).push false) := by
    refine ⟨by simp, fun j oj _ hl => ?_, fun t ht ht' => ?_⟩
    · rw [push_getD, getD_replicate_false] at hl; cases hl
    · simp at ht'
      obtain rfl : t = hd0.length := by omega
      simp [Array.getElem_push]
  have H := wpAny_last (md := .any) (o := x) (Q := Q) (S := S) (l := hd0) (by rw [htl]; exact hs) hb hd' _ _ a w.drew (by simp) inv0 (h hS)
  have e1 : (Array.replicate hd0.toArray.size false).push false = Array.replicate (hd0 ++ [x]).toArray.size false := by simp [Array.replicate_succ]
  rw [e1] at H
  simpa using H
end
end Go

/- A log, the bags at each time, and steps in memory: what outlasts a store into a variable, an append to the list of bags. Nothing of any program here but the types. Conditions: each lemma names its own. -/
namespace Go.Proofs.Ytadidikegfiedab
open Go.RowKit

/-- Blocks below rb, and those of rows, bags and logs, stay as they are. -/
structure KeptK (rb : Nat) (w w' : World) : Prop where
  old : ∀ b, b < rb → w'.heap[b]? = w.heap[b]?
  ty : ∀ (b : Nat) cs fz (t : TypeId), (t = 70 ∨ t = 51 ∨ t = 42) → w.heap[b]? = some (Obj.cells cs t fz) → w'.heap[b]? = some (Obj.cells cs t fz)
theorem KeptK.puts {w : World} {rb B : Nat} {us : List Value} {t : TypeId} (hV : VarT w B us t) (hB : rb ≤ B) (ht : t ≠ 70 ∧ t ≠ 51 ∧ t ≠ 42) (o : Nat) (vs : List Value) : KeptK rb w (w.setCells B o vs) := by
  refine ⟨fun b hb => heap_setCells B vs o w b (by omega), fun b cs fz t' h3 hh => ?_⟩
  have hne : b ≠ B := by
    intro e
    obtain ⟨cs2, fz2, h2⟩ := hV.t
    rw [e, h2] at hh
    obtain ⟨-, h4, -⟩ := Obj.cells.inj (Option.some.inj hh)
    subst h4
    rcases h3 with h3 | h3 | h3
    · exact ht.1 h3
    · exact ht.2.1 h3
    · exact ht.2.2 h3
  rw [heap_setCells B vs o w b hne]; exact hh
theorem KeptK.ofT {w w' : World} {rb base : Nat} {e : TypeId} (hK : KeptT e base w w') (hr : rb ≤ base) (ht : e ≠ 70 ∧ e ≠ 51 ∧ e ≠ 42) : KeptK rb w w' :=
  ⟨fun b hb => hK.below.block b (by omega), fun b cs fz t h3 hh => hK.other b cs fz t (by
    rintro rfl
    rcases h3 with h3 | h3 | h3
    · exact ht.1 h3
    · exact ht.2.1 h3
    · exact ht.2.2 h3) hh⟩
theorem RowG.keptK {w w' : World} {rb : Nat} {a : Option Addr} {r : List Val} (h : RowG w rb a r) (hK : KeptK rb w w') : RowG w' rb a r := by
  by_cases hn : r = []
  · subst hn; exact ⟨fun h => absurd rfl h, h.ok, fun h => absurd rfl h⟩
  obtain ⟨ad, e, hh⟩ := h.blk hn
  have heq : w'.heap[ad.block]? = w.heap[ad.block]? := by
    rcases hh with hh | ⟨cs, fz, hh⟩
    · exact hK.old _ hh
    · rw [hh, hK.ty _ cs fz 70 (.inl rfl) hh]
  refine ⟨fun _ => ?_, h.ok, fun _ => ⟨ad, e, hh.imp id (fun ⟨cs, fz, hh⟩ => ⟨cs, fz, heq.trans hh⟩)⟩⟩
  obtain ⟨b, off, e', hc⟩ := h.row hn
  obtain rfl : ad = ⟨b, off, none⟩ := by rw [e] at e'; simpa using e'
  have hcell : ∀ o, w'.cell? ⟨b, o, none⟩ = w.cell? ⟨b, o, none⟩ := fun o => World.cell?_of_block heq
  exact ⟨b, off, e, fun i hi => by rw [hcell, hcell, hcell]; exact hc i hi⟩
/-- A log that outlasts them. -/
structure LogG (w : World) (rb : Nat) (a : Option Addr) (L : List Ent) : Prop where
  at_ : CellsN w a L
  blk : L ≠ [] → ∃ ad, a = some ad ∧ (ad.block < rb ∨ ∃ cs fz, w.heap[ad.block]? = some (Obj.cells cs 42 fz))
  g : ∀ e ∈ L, RowG w rb e.a e.r
theorem LogG.ents {w : World} {rb : Nat} {a : Option Addr} {L : List Ent} (h : LogG w rb a L) : EntsAt w a L := ⟨h.at_, fun e he => ⟨(h.g e he).row, (h.g e he).ok⟩⟩
theorem LogG.below {w w' : World} {rb : Nat} {a : Option Addr} {L : List Ent} (h : LogG w rb a L) (hb : Below w.heap.size w w') : LogG w' rb a L := ⟨h.at_.later hb, fun hn => by
  obtain ⟨ad, e, hh⟩ := h.blk hn
  refine ⟨ad, e, hh.imp id ?_⟩
  rintro ⟨cs, fz, hh⟩
  exact ⟨cs, fz, (hb.block _ (Array.getElem?_eq_some_iff.1 hh).1).trans hh⟩, fun e he => (h.g e he).later hb⟩
theorem LogG.keptK {w w' : World} {rb : Nat} {a : Option Addr} {L : List Ent} (h : LogG w rb a L) (hK : KeptK rb w w') : LogG w' rb a L := by
  refine ⟨fun hn => ?_, fun hn => ?_, fun e he => (h.g e he).keptK hK⟩
  · obtain ⟨ad, e, hh⟩ := h.blk hn
    have heq : w'.heap[ad.block]? = w.heap[ad.block]? := by
      rcases hh with hh | ⟨cs, fz, hh⟩
      · exact hK.old _ hh
      · rw [hh, hK.ty _ cs fz 42 (.inr (.inr rfl)) hh]
    obtain ⟨b, off, e', hc⟩ := h.at_ hn
    obtain rfl : ad = ⟨b, off, none⟩ := by rw [e] at e'; simpa using e'
    have hcell : ∀ o, w'.cell? ⟨b, o, none⟩ = w.cell? ⟨b, o, none⟩ := fun o => World.cell?_of_block heq
    exact ⟨b, off, e, fun i hi => by rw [hcell, hcell, hcell]; exact hc i hi⟩
  · obtain ⟨ad, e, hh⟩ := h.blk hn
    exact ⟨ad, e, hh.imp id (fun ⟨cs, fz, hh⟩ => ⟨cs, fz, hK.ty _ cs fz _ (.inr (.inr rfl)) hh⟩)⟩
theorem MkN.logG {w0 w : World} {a : Option Addr} {n c : Nat} {L : List Ent} (rb : Nat) (h : MkN 0 w0 w (.slice a n c) L) : LogG w rb a L := by
  obtain ⟨a', c', e, _, hE⟩ := h.ents
  obtain ⟨rfl, -, rfl⟩ := Value.slice.inj e
  refine ⟨hE.1, fun hn => ?_, fun e he => (h.g e he).lift (Nat.zero_le _)⟩
  rcases h.own.out.2 with ⟨e1, h0⟩ | ⟨g, cap', cur, e1, _, hh, _⟩
  · exact absurd (List.length_eq_zero_iff.1 h0) hn
  · obtain ⟨rfl, -, -⟩ := Value.slice.inj e1
    exact ⟨_, rfl, .inr ⟨cur, _, hh⟩⟩
theorem LogG.nil (w : World) (rb : Nat) (a : Option Addr) : LogG w rb a [] := ⟨fun h => absurd rfl h, fun h => absurd rfl h, fun _ h => absurd h (by simp)⟩

/-- A bag in a list of bags: where it lies, its capacity, its elements. -/
structure Bg where
  a : Option Addr
  c : Nat
  E : List Elem
def Bg.prs (b : Bg) : List Pair := b.E.map pr
def cellsG (B : List Bg) : List Value := B.map fun e => .slice e.a e.E.length e.c
structure BagG (w : World) (rb : Nat) (x : Bg) : Prop where
  at_ : CellsAt w x.a x.E
  blk : x.E ≠ [] → ∃ ad, x.a = some ad ∧ (ad.block < rb ∨ ∃ cs fz, w.heap[ad.block]? = some (Obj.cells cs 51 fz))
  g : ∀ e ∈ x.E, RowG w rb e.a e.r
theorem BagG.elems {w : World} {rb : Nat} {x : Bg} (h : BagG w rb x) : ElemsAt w x.a x.E := ⟨h.at_, fun e he => ⟨(h.g e he).row, (h.g e he).ok⟩⟩
theorem BagG.below {w w' : World} {rb : Nat} {x : Bg} (h : BagG w rb x) (hb : Below w.heap.size w w') : BagG w' rb x := ⟨h.at_.later hb, fun hn => by
  obtain ⟨ad, e, hh⟩ := h.blk hn
  refine ⟨ad, e, hh.imp id ?_⟩
  rintro ⟨cs, fz, hh⟩
  exact ⟨cs, fz, (hb.block _ (Array.getElem?_eq_some_iff.1 hh).1).trans hh⟩, fun e he => (h.g e he).later hb⟩
theorem BagG.keptK {w w' : World} {rb : Nat} {x : Bg} (h : BagG w rb x) (hK : KeptK rb w w') : BagG w' rb x := by
  refine ⟨fun hn => ?_, fun hn => ?_, fun e he => (h.g e he).keptK hK⟩
  · obtain ⟨ad, e, hh⟩ := h.blk hn
    have heq : w'.heap[ad.block]? = w.heap[ad.block]? := by
      rcases hh with hh | ⟨cs, fz, hh⟩
      · exact hK.old _ hh
      · rw [hh, hK.ty _ cs fz 51 (.inr (.inl rfl)) hh]
    obtain ⟨b, off, e', hc⟩ := h.at_ hn
    obtain rfl : ad = ⟨b, off, none⟩ := by rw [e] at e'; simpa using e'
    have hcell : ∀ o, w'.cell? ⟨b, o, none⟩ = w.cell? ⟨b, o, none⟩ := fun o => World.cell?_of_block heq
    exact ⟨b, off, e, fun i hi => by rw [hcell, hcell]; exact hc i hi⟩
  · obtain ⟨ad, e, hh⟩ := h.blk hn
    exact ⟨ad, e, hh.imp id (fun ⟨cs, fz, hh⟩ => ⟨cs, fz, hK.ty _ cs fz _ (.inr (.inl rfl)) hh⟩)⟩
/-- What the reference's Add answers outlasts them. -/
theorem bagG_of {w : World} {a : Option Addr} {c : Nat} {E : List Elem} (rb : Nat) (h : ElemsAt w a E) (ht : TagL w a) (hg : ∀ e ∈ E, GoodE w e) : BagG w rb ⟨a, c, E⟩ := ⟨h.1, fun hn => by
  obtain ⟨b, o, e, _⟩ := h.1 hn
  obtain ⟨cs, fz, hh⟩ := ht _ e
  exact ⟨_, e, .inr ⟨cs, fz, hh⟩⟩, fun e he => RowG.copied rb (hg e he).2 (h.2 e he).2⟩
theorem BagG.nil (w : World) (rb : Nat) (a : Option Addr) (c : Nat) : BagG w rb ⟨a, c, []⟩ := ⟨fun h => absurd rfl h, fun h => absurd rfl h, fun _ h => absurd h (by simp)⟩

/-! ### The list of bags, in a block of its own -/
theorem infoG : (Try.prog.info? 32).map (fun i => (i.zero, i.size, i.bytes)) = some (some (.slice none 0 0), 1, 24) := by kernel_rfl
structure MkG (w0 w : World) (v : Value) (B : List Bg) : Prop where
  own : w.ownsRow w0.heap.size 32 1 v B.length (cellsG B)
  g : ∀ x ∈ B, BagG w w0.heap.size x
  b : Below w0.heap.size w0 w
theorem cellsG_len (B : List Bg) : (cellsG B).length = B.length := List.length_map _
theorem MkG.alloc {w0 w : World} {v : Value} {B : List Bg} (h : MkG w0 w v B) (o : Obj) : MkG w0 (w.alloc o) v B := ⟨World.ownsRow.alloc h.own o, fun e he => (h.g e he).below ((Below.refl _ _).alloc (Nat.le_refl _) _), h.b.alloc h.b.size o⟩
theorem MkG.drew {w0 w : World} {v : Value} {B : List Bg} (h : MkG w0 w v B) : MkG w0 w.drew v B := ⟨h.own, fun e he => (h.g e he).below (Below.drew (Below.refl _ _)), Below.drew h.b⟩
theorem MkG.below {w0 w w' : World} {v : Value} {B : List Bg} (h : MkG w0 w v B) (hb : Below w.heap.size w w') : MkG w0 w' v B := ⟨own_below h.own hb, fun e he => (h.g e he).below hb, below_through hb h.b.size h.b⟩
theorem MkG.bags {w0 w : World} {v : Value} {B : List Bg} (h : MkG w0 w v B) : ∃ a c, v = .slice a B.length c ∧ B.length ≤ c ∧ ∀ i (hi : i < B.length), ∃ b o, a = some ⟨b, o, none⟩ ∧ w.cell? ⟨b, o + i, none⟩ = some (.slice (B[i]).a (B[i]).E.length (B[i]).c) := by
  have h0 := h.own
  obtain ⟨_, hcase⟩ := h.own
  rcases hcase with ⟨rfl, hl⟩ | ⟨g, cap', cur, rfl, hg, hh, hn, hcap, hsz, htake⟩
  · exact ⟨none, 0, by rw [hl], by omega, fun i hi => by omega⟩
  · refine ⟨some ⟨g, 0, none⟩, cap', rfl, hn, fun i hi => ⟨g, 0, rfl, ?_⟩⟩
    rw [Nat.zero_add, h0.cellAt _ (by omega)]
    simp [cellsG, hi]
theorem MkG.apart {w0 w : World} {v : Value} {E : List Bg} (h : MkG w0 w v E) {B : Nat} {us : List Value} {t : TypeId} (hV : VarT w B us t) (ht : t ≠ 32) : v.ownBlock ≠ some B := fun e => by
  rcases h.own.2 with ⟨rfl, _⟩ | ⟨g, cap', cur, rfl, _, hh, _⟩
  · cases e
  · obtain ⟨cs, fz, h2⟩ := hV.t
    obtain rfl : g = B := Option.some.inj e
    rw [hh] at h2
    obtain ⟨-, h3, -⟩ := Obj.cells.inj (Option.some.inj h2)
    exact ht h3.symm
theorem MkG.puts {w0 w : World} {v : Value} {E : List Bg} (h : MkG w0 w v E) {B : Nat} {us : List Value} {t : TypeId} (hV : VarT w B us t) (hB : w0.heap.size ≤ B) (ht : t ≠ 32) (ht3 : t ≠ 70 ∧ t ≠ 51 ∧ t ≠ 42) (vs : List Value) (o : Nat := 0) : MkG w0 (w.setCells B o vs) v E :=
  ⟨h.own.kept (row := some B) ⟨(below_setCells vs o (Below.refl 0 w) (Nat.zero_le B)).os, (below_setCells vs o (Below.refl 0 w) (Nat.zero_le B)).tape, (below_setCells vs o (Below.refl 0 w) (Nat.zero_le B)).output, Nat.le_of_eq (size_setCells B vs o w).symm, fun j _ hj => heap_setCells B vs o w j (fun e => hj (by rw [e]))⟩ (Or.inr (h.apart hV ht)), fun e he => (h.g e he).keptK (KeptK.puts hV hB ht3 o vs), below_setCells vs o h.b hB⟩
/-- A bag appended, at a step of a region that draws its order. -/
theorem step_appG {w : World} {ops : Array Oper} {o : Oper} {a : Act} {K : Act → World → Prop} {Q : Exit → Act → World → Prop} {X : Prop} (hgd : o.guard = none) (s x : Operand)
    (ho : o.op = .call { callee := .builtin .append, args := #[s, x], argTypes := #[26, 26] })
    {w0 : World} {v : Value} {E : List Bg} (hs : a.eval s = v) (hm : MkG w0 w v E)
    (e : Bg) (B : Nat) (hx : a.eval x = .slice (some ⟨B, 0, none⟩) 1 1) (h0 : w.cell? ⟨B, 0, none⟩ = some (.slice e.a e.E.length e.c)) (hg : BagG w w0.heap.size e)
    (hlen : (E.length + 1) * 24 ≤ 140737488355328)
    (h : ∀ v' w', MkG w0 w' v' (E ++ [e]) → KeptT 32 w0.heap.size w w' → K (a.put o.dst v') w') :
    if Region.wanted o (yielded ops a.tmps) = true then Oper.wp Try.prog o a w K Q else X := by
  have hw : Region.wanted o (yielded ops a.tmps) = true := by simp [Region.wanted, hgd]
  rw [if_pos hw]
  obtain ⟨i0, hi, hz0, hz1, hz2⟩ := info_parts infoG
  obtain ⟨v', w', hr, h2, h3, _, h5⟩ := run_append_own_at (P := Try.prog) w w0.heap.size 26 o.type 32 i0 (.slice none 0 0) 1 24 Try.underlying26 hi hz0 hz1 hz2 rfl (by decide) v E.length (cellsG E) hm.own ⟨B, 0, none⟩ 1 1 [.slice e.a e.E.length e.c] rfl
    (by
      intro j u hj
      match j, hj with
      | 0, hj => simp at hj; subst hj; rw [WideShapes.add_plain]; exact h0
      | j + 1, hj => simp at hj)
    (by intro u hu; simp at hu; subst hu; rfl) (by unfold maxLen; omega) (by omega) hm.b.size
  have hK : KeptT 32 w0.heap.size w w' := keptT_grown hm.own hm.b.size h3
  have hlo : ∀ k, v.ownBlock = some k → w0.heap.size ≤ k := fun k hk => (hm.own.lt k hk).1
  unfold Oper.wp execOp
  simp only [ho, resolve, invoke, builtin, Sem.run_bind, Sem.run_pure, Result.andThen_ok, List.map_toArray, List.map_cons, List.map_nil, hs, hx, hr]
  refine h v' w' ⟨?_, fun y hy => ?_, hm.b.grown h3 hm.b.size hlo⟩ hK
  · rw [List.length_append]
    have : cellsG (E ++ [e]) = cellsG E ++ [.slice e.a e.E.length e.c] := by simp [cellsG]
    rw [this]; exact h2
  · rcases List.mem_append.1 hy with hy | hy
    · exact (hm.g y hy).keptK (KeptK.ofT hK (Nat.le_refl _) (by decide))
    · obtain rfl := List.mem_singleton.1 hy; exact hg.keptK (KeptK.ofT hK (Nat.le_refl _) (by decide))

/-! ### Steps -/
structure StX where
  a : Option Addr
  c : Nat
  E : List Elem
  p : Bool
  l : Int
def StX.cells (x : StX) : List Value := [.slice x.a x.E.length x.c, .bool x.p, .int .i64 x.l]
structure StepsAt (w : World) (a : Option Addr) (S : List StX) : Prop where
  at_ : S ≠ [] → ∃ b o, a = some ⟨b, o, none⟩ ∧ ∀ i (h : i < S.length), w.cell? ⟨b, o + i * 3, none⟩ = some (.slice (S[i]).a (S[i]).E.length (S[i]).c) ∧ w.cell? ⟨b, o + i * 3 + 1, none⟩ = some (.bool (S[i]).p) ∧ w.cell? ⟨b, o + i * 3 + 2, none⟩ = some (.int .i64 (S[i]).l)
  el : ∀ x ∈ S, ElemsI w x.a x.c x.E ∧ x.E.length ≤ 1000000 ∧ in64 x.l
  few : S.length ≤ 1048576
theorem StepsAt.later {w w' : World} {a : Option Addr} {S : List StX} (h : StepsAt w a S) (hb : Below w.heap.size w w') : StepsAt w' a S := ⟨fun hn => by
  obtain ⟨b, o, e, hc⟩ := h.at_ hn
  exact ⟨b, o, e, fun i hi => ⟨cell_later hb (hc i hi).1, cell_later hb (hc i hi).2.1, cell_later hb (hc i hi).2.2⟩⟩, fun x hx => ⟨(h.el x hx).1.later hb, (h.el x hx).2⟩, h.few⟩
end Go.Proofs.Ytadidikegfiedab

/- What was played, in memory: a log, bags, a low time in a variable; its fields laid anew. Nothing of any program here but the types. Conditions: each lemma names its own. -/
namespace Go.Proofs.Ytadidikegfiedab
open Go.RowKit

structure SPm (w : World) (b2 b4 : Nat) (la : Option Addr) (n lc : Nat) (L : List Ent) (ba : Option Addr) (nb cb : Nat) (Bs : List Bg) (low : Int) (W : World) : Prop where
  v2 : VarT W b2 [.int .i64 0, .slice none 0 0, .slice none 0 0, .int .i64 0] 28
  v4 : VarT W b4 [.int .i64 0, .slice la n lc, .slice ba nb cb, .int .i64 low] 28
  lg : LogG W w.heap.size la L
  bg : MkG w W (.slice ba nb cb) Bs
  ln : L.length = n
  bn : Bs.length = nb
  lo : w.heap.size ≤ b2 ∧ b2 < b4
theorem SPm.below {w : World} {b2 b4 : Nat} {la : Option Addr} {n lc : Nat} {L : List Ent} {ba : Option Addr} {nb cb : Nat} {Bs : List Bg} {low : Int} {W W' : World} (h : SPm w b2 b4 la n lc L ba nb cb Bs low W) (hb : Below W.heap.size W W') : SPm w b2 b4 la n lc L ba nb cb Bs low W' :=
  ⟨h.v2.below hb, h.v4.below hb, h.lg.below hb, h.bg.below hb, h.ln, h.bn, h.lo⟩
theorem SPm.drew {w : World} {b2 b4 : Nat} {la : Option Addr} {n lc : Nat} {L : List Ent} {ba : Option Addr} {nb cb : Nat} {Bs : List Bg} {low : Int} {W : World} (h : SPm w b2 b4 la n lc L ba nb cb Bs low W) : SPm w b2 b4 la n lc L ba nb cb Bs low W.drew := h.below (Below.drew (Below.refl _ _))
theorem SPm.b {w : World} {b2 b4 : Nat} {la : Option Addr} {n lc : Nat} {L : List Ent} {ba : Option Addr} {nb cb : Nat} {Bs : List Bg} {low : Int} {W : World} (h : SPm w b2 b4 la n lc L ba nb cb Bs low W) : Below w.heap.size w W := h.bg.b
theorem played3 : 28 ≠ 70 ∧ 28 ≠ 51 ∧ 28 ≠ 42 := by decide
theorem SPm.setLog {w : World} {b2 b4 : Nat} {la : Option Addr} {n lc : Nat} {L : List Ent} {ba : Option Addr} {nb cb : Nat} {Bs : List Bg} {low : Int} {W : World} (h : SPm w b2 b4 la n lc L ba nb cb Bs low W) {a' : Option Addr} {n' c' : Nat} {F : List Ent} (hF : LogG W w.heap.size a' F) (hn : F.length = n') :
    SPm w b2 b4 a' n' c' F ba nb cb Bs low ((W.setCell ⟨b4, 0, none⟩ (.int .i64 0)).setCell ⟨b4, 1, none⟩ (.slice a' n' c')) := by
  have hB : w.heap.size ≤ b4 := by have := h.lo; omega
  have hne : b2 ≠ b4 := by have := h.lo; omega
  exact ⟨h.v2.other (b := b4) (o := 0) [.int .i64 0, .slice a' n' c'] hne, (h.v4.set (i := 0) (.int .i64 0) (by simp)).set (i := 1) (.slice a' n' c') (by simp), hF.keptK (KeptK.puts h.v4 hB played3 0 [.int .i64 0, .slice a' n' c']), h.bg.puts h.v4 hB (by decide) played3 [.int .i64 0, .slice a' n' c'] 0, hn, h.bn, h.lo⟩
theorem SPm.setLow {w : World} {b2 b4 : Nat} {la : Option Addr} {n lc : Nat} {L : List Ent} {ba : Option Addr} {nb cb : Nat} {Bs : List Bg} {low : Int} {W : World} (h : SPm w b2 b4 la n lc L ba nb cb Bs low W) (l' : Int) :
    SPm w b2 b4 la n lc L ba nb cb Bs l' (W.setCell ⟨b4, 3, none⟩ (.int .i64 l')) := by
  have hB : w.heap.size ≤ b4 := by have := h.lo; omega
  have hne : b2 ≠ b4 := by have := h.lo; omega
  exact ⟨h.v2.other (b := b4) (o := 3) [.int .i64 l'] hne, h.v4.set (i := 3) (.int .i64 l') (by simp), h.lg.keptK (KeptK.puts h.v4 hB played3 3 [.int .i64 l']), h.bg.puts h.v4 hB (by decide) played3 [.int .i64 l'] 3, h.ln, h.bn, h.lo⟩
/-- While a bag is appended: the list of bags is told apart. -/
structure SPa (w : World) (b2 b4 : Nat) (la : Option Addr) (n lc : Nat) (L : List Ent) (bv bw : Value) (Bs : List Bg) (low : Int) (W : World) : Prop where
  v2 : VarT W b2 [.int .i64 0, .slice none 0 0, .slice none 0 0, .int .i64 0] 28
  v4 : VarT W b4 [.int .i64 0, .slice la n lc, bv, .int .i64 low] 28
  lg : LogG W w.heap.size la L
  bg : MkG w W bw Bs
  ln : L.length = n
  lo : w.heap.size ≤ b2 ∧ b2 < b4
theorem SPm.a {w : World} {b2 b4 : Nat} {la : Option Addr} {n lc : Nat} {L : List Ent} {ba : Option Addr} {nb cb : Nat} {Bs : List Bg} {low : Int} {W : World} (h : SPm w b2 b4 la n lc L ba nb cb Bs low W) : SPa w b2 b4 la n lc L (.slice ba nb cb) (.slice ba nb cb) Bs low W := ⟨h.v2, h.v4, h.lg, h.bg, h.ln, h.lo⟩
theorem SPa.below {w : World} {b2 b4 : Nat} {la : Option Addr} {n lc : Nat} {L : List Ent} {bv bw : Value} {Bs : List Bg} {low : Int} {W W' : World} (h : SPa w b2 b4 la n lc L bv bw Bs low W) (hb : Below W.heap.size W W') : SPa w b2 b4 la n lc L bv bw Bs low W' :=
  ⟨h.v2.below hb, h.v4.below hb, h.lg.below hb, h.bg.below hb, h.ln, h.lo⟩
theorem SPa.app {w : World} {b2 b4 : Nat} {la : Option Addr} {n lc : Nat} {L : List Ent} {bv bw bw' : Value} {Bs Bs' : List Bg} {low : Int} {W W' : World} (h : SPa w b2 b4 la n lc L bv bw Bs low W) (hM : MkG w W' bw' Bs') (hK : KeptT 32 w.heap.size W W') : SPa w b2 b4 la n lc L bv bw' Bs' low W' :=
  ⟨h.v2.keptT (by decide) hK, h.v4.keptT (by decide) hK, h.lg.keptK (KeptK.ofT hK (Nat.le_refl _) (by decide)), hM, h.ln, h.lo⟩
theorem SPa.stored {w : World} {b2 b4 : Nat} {la : Option Addr} {n lc : Nat} {L : List Ent} {bv : Value} {ba : Option Addr} {nb cb : Nat} {Bs : List Bg} {low : Int} {W : World} (h : SPa w b2 b4 la n lc L bv (.slice ba nb cb) Bs low W) (hn : Bs.length = nb) :
    SPm w b2 b4 la n lc L ba nb cb Bs low (W.setCell ⟨b4, 2, none⟩ (.slice ba nb cb)) := by
  have hB : w.heap.size ≤ b4 := by have := h.lo; omega
  have hne : b2 ≠ b4 := by have := h.lo; omega
  exact ⟨h.v2.other (b := b4) (o := 2) [.slice ba nb cb] hne, h.v4.set (i := 2) (.slice ba nb cb) (by simp), h.lg.keptK (KeptK.puts h.v4 hB played3 2 [.slice ba nb cb]), h.bg.puts h.v4 hB (by decide) played3 [.slice ba nb cb] 2, h.ln, hn, h.lo⟩
theorem SPm.bag {w : World} {b2 b4 : Nat} {la : Option Addr} {n lc : Nat} {L : List Ent} {ba : Option Addr} {nb cb : Nat} {Bs : List Bg} {low : Int} {W : World} (h : SPm w b2 b4 la n lc L ba nb cb Bs low W) (k : Nat) (hk : k < Bs.length) :
    ∃ b o, ba = some ⟨b, o, none⟩ ∧ W.cell? ⟨b, o + k, none⟩ = some (.slice (Bs[k]).a (Bs[k]).E.length (Bs[k]).c) := by
  obtain ⟨a, c, e, _, hx⟩ := h.bg.bags
  obtain ⟨rfl, -, rfl⟩ := Value.slice.inj e
  exact hx k hk
/-- What play tells. -/
structure BagsAt (w : World) (a : Option Addr) (Bs : List Bg) : Prop where
  at_ : ∀ i (hi : i < Bs.length), ∃ b o, a = some ⟨b, o, none⟩ ∧ w.cell? ⟨b, o + i, none⟩ = some (.slice (Bs[i]).a (Bs[i]).E.length (Bs[i]).c)
  el : ∀ x ∈ Bs, ElemsAt w x.a x.E
theorem BagsAt.later {w w' : World} {a : Option Addr} {Bs : List Bg} (h : BagsAt w a Bs) (hb : Below w.heap.size w w') : BagsAt w' a Bs := ⟨fun i hi => by
  obtain ⟨b, o, e, hc⟩ := h.at_ i hi
  exact ⟨b, o, e, cell_later hb hc⟩, fun x hx => (h.el x hx).later hb⟩
def PlayAns (w : World) (e : Ending) (w' : World) : Prop := (∃ (i : Nat) (la : Option Addr) (lc : Nat) (L : List Ent) (ba : Option Addr) (cb : Nat) (Bs : List Bg) (low : Nat), e = .returned (.tuple #[.agg #[.int .i64 0, .slice la L.length lc, .slice ba Bs.length cb, .int .i64 low], .bool true]) ∧ i ≤ 60 ∧ EntsAt w' la L ∧ BagsAt w' ba Bs ∧ InvT i (L.map dat) (Bs.map Bg.prs) low) ∧ Below w.heap.size w w'
theorem SPm.ended {w : World} {b2 b4 : Nat} {la : Option Addr} {n lc : Nat} {L : List Ent} {ba : Option Addr} {nb cb : Nat} {Bs : List Bg} {low : Nat} {W : World} {i : Nat} (h : SPm w b2 b4 la n lc L ba nb cb Bs low W) (hi : i ≤ 60) (hinv : InvT i (L.map dat) (Bs.map Bg.prs) low) (vs : List Value) :
    PlayAns w (.returned (.tuple #[.agg #[.int .i64 0, .slice la n lc, .slice ba nb cb, .int .i64 low], .bool true])) (W.setCells b2 0 vs) := by
  have hB : w.heap.size ≤ b2 := h.lo.1
  have hG := h.bg.puts h.v2 hB (by decide) played3 vs 0
  obtain ⟨a, c, e, _, hx⟩ := hG.bags
  obtain ⟨rfl, -, rfl⟩ := Value.slice.inj e
  have h1 := h.ln
  have h2 := h.bn
  subst h1 h2
  exact ⟨⟨i, la, lc, L, _, _, Bs, low, rfl, hi, (h.lg.keptK (KeptK.puts h.v2 hB played3 0 vs)).ents, ⟨hx, fun x hxx => (hG.g x hxx).elems⟩, hinv⟩, hG.b⟩
/-- What changes make of the log that is played. -/
theorem play_add {i : Nat} {D : List Dat} {Bs : List (List Pair)} {low : Nat} (h : InvT i D Bs low) {R : List Elem} (hr : rightE R = true) (hs : absS (R.map pr) ≤ 4000) : addM 0 D ((i + 1 : Nat) : Int) R = (D ++ entsD ((i + 1 : Nat) : Int) (R.map pr), 0) := by
  have := h.lastD
  unfold addM
  rw [if_pos ⟨h.right, hr, by push_cast; omega⟩, if_neg (by omega)]
end Go.Proofs.Ytadidikegfiedab
