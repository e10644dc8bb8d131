/- Several of my texts laid together, each as it was: Ul. Conditions: each names its own. -/
import Derived.Deep.RegionHeld3
import Derived.StillTail
/- A region that draws its order and ends in ONE operation that waits for all the others (a store: 'x.f = append(x.f[:i], x.f[i+1:]...)' through a pointer): what holds of the cells that are read need not hold behind that one. 'wp_region_last': what is left is 'wpList .. [the last one] ..' behind a 'wpAnyH' over all the others. Nothing of any program here. Conditions: the last operation has no temporary of its own. -/
namespace Go
section
variable {P : Program} {md : Region.Mode} {S : World → Prop}
/-- What holds behind all but the last. -/
def LastQ (P : Program) (ops : Array Oper) (Q : Exit → Act → World → Prop) (l : List Oper) : Exit → Act → World → Prop
  | .normal, a, w => wpList P ops Q l a w
  | e, a, w => Q e a w
def Region.backB (md : Region.Mode) (ops : Array Oper) : Bool := (List.range ops.size).all fun i => match ops[i]? with | some o => o.after.all fun e => !Region.binds md e || decide (e.on < i) | none => true
theorem Region.backB_spec {ops : Array Oper} (h : Region.backB md ops = true) {i : Nat} {o : Oper} (ho : ops[i]? = some o) : ∀ e ∈ o.after, Region.binds md e = true → e.on < i := by
  intro e he hb
  have h1 := List.all_eq_true.1 h i (List.mem_range.2 (Array.getElem?_eq_some_iff.1 ho).1)
  simp only [ho] at h1
  have h2 := (Array.all_eq_true_iff_forall_mem.1 h1) e he
  simpa [hb] using h2
theorem yielded_last {l : List Oper} {o : Oper} (hd : o.dst = none) (tmps : Array Value) : yielded l.toArray tmps = yielded (l ++ [o]).toArray tmps := by
  funext j
  unfold yielded
  rcases Nat.lt_trichotomy j l.length with h | h | h
  · simp [List.getElem?_append_left h]
  · subst h; simp [hd]
  · rw [List.getElem?_toArray, List.getElem?_toArray, List.getElem?_eq_none (by omega), List.getElem?_eq_none (by simp; omega)]
theorem Oper.wp_last {ops : Array Oper} {Q : Exit → Act → World → Prop} {l : List Oper} {o : Oper} {a : Act} {w : World} {K : Act → World → Prop} (h : o.wp P a w K (LastQ P ops Q l)) : o.wp P a w K Q := by
  unfold Oper.wp at *
  generalize (execOp a.eval o).run P w = r at *
  cases r with
  | ok n w' =>
    cases n <;> simp only [Oper.upon] at h ⊢ <;>
      first
        | exact h
        | exact Calls.mono h (fun e w'' he => by cases e <;> exact he)
  | halt x w' => cases x <;> simp only [Oper.upon] at h ⊢ <;> exact h
theorem wpOp_last {Q : Exit → Act → World → Prop} {l : List Oper} {o : Oper} {ll : List Oper} (hd : o.dst = none) {i : Nat} (hi : i < l.length) {a : Act} {w : World} {K : Act → World → Prop} (h : wpOp P l.toArray (LastQ P (l ++ [o]).toArray Q ll) i K a w) : wpOp P (l ++ [o]).toArray Q i K a w := by
  unfold wpOp at *
  rw [← yielded_last hd]
  have e : (l ++ [o]).toArray[i]? = l.toArray[i]? := by simp [List.getElem?_append_left hi]
  rw [e]
  rw [List.getElem?_toArray, List.getElem?_eq_getElem hi] at *
  simp only at h ⊢
  split
  · rename_i hw
    rw [if_pos hw] at h
    exact h.imp Oper.wp_last id
  · rename_i hw
    rwa [if_neg hw] at h
theorem push_getD {L : Array Bool} (k : Nat) : (L.push false).getD k false = L.getD k false := by
  rcases Nat.lt_trichotomy k L.size with h | h | h
  · simp [Array.getElem?_push_lt h, h]
  · subst h; simp
  · simp [Array.getElem?_eq_none (xs := L) (i := k) (by omega), Array.getElem?_eq_none (xs := L.push false) (i := k) (by simp; omega)]
theorem push_getD' {L : Array Bool} {k : Nat} (h : k < L.size) : (L.push false).getD k true = L.getD k true := by
  simp [Array.getElem?_push_lt h, h]
theorem ready_last {l : List Oper} {o : Oper} {L : Array Bool} (hL : L.size = l.length) {i : Nat} (hi : i < l.length) : i ∈ Region.ready md (l ++ [o]).toArray (L.push false) ↔ i ∈ Region.ready md l.toArray L := by
  rw [mem_ready, mem_ready, push_getD' (by omega)]
  have e : (l ++ [o]).toArray[i]? = l.toArray[i]? := by simp [List.getElem?_append_left hi]
  rw [e]
  simp only [push_getD]
theorem push_set {L : Array Bool} {i : Nat} (h : i < L.size) : (L.push false).setIfInBounds i true = (L.setIfInBounds i true).push false := by
  obtain ⟨l⟩ := L
  simp only [List.size_toArray] at h
  simp [h]
theorem all_listed {l : List Oper} {L : Array Bool} {ops : Array Oper} (hL : L.size = l.length) (hb : Region.backB md ops = true) (hp : ∀ i, i < l.length → ops[i]? = l.toArray[i]?) (h0 : Region.ready md l.toArray L = []) : ∀ i, i < l.length → L.getD i true = true ∧ L.getD i false = true := by
  intro i
  induction i using Nat.strongRecOn with
  | _ i ih =>
    intro hi
    have key : L.getD i true = true := by
      cases hc : L.getD i true with
      | true => rfl
      | false =>
        exfalso
        have hm : i ∈ Region.ready md l.toArray L := by
          rw [mem_ready]
          refine ⟨hc, l[i], by simp [hi], fun e he hbe => ?_⟩
          have := Region.backB_spec hb (i := i) (o := l[i]) (by rw [hp i hi]; simp [hi]) e he hbe
          exact (ih e.on this (by omega)).2
        rw [h0] at hm
        cases hm
    exact ⟨key, by have hs : i < L.size := by omega
                   simp [hs] at key ⊢; exact key⟩
theorem wpAny_end {Q : Exit → Act → World → Prop} {l : List Oper} {o : Oper} (hb : Region.backB md (l ++ [o]).toArray = true) {L : Array Bool} (hL : L.size = l.length) {a : Act} {w : World}
    (h0 : Region.ready md l.toArray L = []) (h : wpList P (l ++ [o]).toArray Q [o] a w) (fuel : Nat) : wpAny P md (l ++ [o]).toArray Q (fuel + 1) (L.push false) a w := by
  have hall := all_listed hL hb (fun i hi => by simp [List.getElem?_append_left hi]) h0
  have hon : (l ++ [o]).toArray[l.length]? = some o := by simp
  have hlast : l.length ∈ Region.ready md (l ++ [o]).toArray (L.push false) := by
    rw [mem_ready]
    refine ⟨by simp [← hL], o, hon, fun e he hbe => ?_⟩
    rw [push_getD]
    exact (hall e.on (Region.backB_spec hb hon e he hbe)).2
  have honly : ∀ i ∈ Region.ready md (l ++ [o]).toArray (L.push false), i = l.length := by
    intro i hi
    obtain ⟨_, o', ho', _⟩ := mem_ready.1 hi
    have hlt : i < (l ++ [o]).toArray.size := (Array.getElem?_eq_some_iff.1 ho').1
    simp at hlt
    rcases Nat.lt_or_ge i l.length with g | g
    · have := (ready_last (o := o) hL g).1 hi
      rw [h0] at this; cases this
    · omega
  refine ⟨fun hn => (by rw [hn] at hlast; cases hlast), fun i hi => ?_⟩
  obtain rfl := honly i hi
  have hw : wpOp P (l ++ [o]).toArray Q l.length (wpList P (l ++ [o]).toArray Q []) a w := by unfold wpOp; simp only [hon]; exact h
  refine wpOp_mono (fun a' w' h' => ?_) hw
  have hnone : Region.ready md (l ++ [o]).toArray ((L.push false).setIfInBounds l.length true) = [] := by
    rw [List.eq_nil_iff_forall_not_mem]
    intro j hj
    obtain ⟨h1, o', ho', _⟩ := mem_ready.1 hj
    have hlt : j < (l ++ [o]).toArray.size := (Array.getElem?_eq_some_iff.1 ho').1
    simp at hlt
    by_cases hjl : j = l.length
    · subst hjl; simp [← hL] at h1
    · rw [getD_set_ne true (Ne.symm hjl), push_getD' (by omega), (hall j (by omega)).1] at h1; cases h1
  cases fuel with
  | zero => exact ⟨hnone, h'⟩
  | succ f => exact ⟨fun _ => h', fun j hj => (by rw [hnone] at hj; cases hj)⟩
theorem wpAny_last {Q : Exit → Act → World → Prop} {l : List Oper} {o : Oper} (hs : Region.sinkB md (l ++ [o]).toArray l.length = true) (hb : Region.backB md (l ++ [o]).toArray = true) (hd : o.dst = none) :
    ∀ (fuel : Nat) (L : Array Bool) (a : Act) (w : World), L.size = l.length → HeadInv md (l ++ [o]).toArray l.length (L.push false) →
      wpAnyH P md l.toArray (LastQ P (l ++ [o]).toArray Q [o]) S fuel L a w → wpAny P md (l ++ [o]).toArray Q (fuel + 1) (L.push false) a w
  | 0, L, a, w, hL, _, h => wpAny_end hb hL h.1 h.2 0
  | fuel + 1, L, a, w, hL, inv, h => by
    by_cases h0 : Region.ready md l.toArray L = []
    · exact wpAny_end hb hL h0 (h.1 h0) _
    · obtain ⟨i0, hi0⟩ := List.exists_mem_of_ne_nil _ h0
      have hlt : ∀ i ∈ Region.ready md l.toArray L, i < l.length := fun i hi => by
        obtain ⟨_, o', ho', _⟩ := mem_ready.1 hi
        have := (Array.getElem?_eq_some_iff.1 ho').1
        simpa using this
      have hi0l := hlt i0 hi0
      have hc : Region.chainB md (l ++ [o]).toArray l.length = true := by
        unfold Region.chainB
        rw [List.all_eq_true]
        intro t ht
        have := List.mem_range.1 ht
        simp at this
        simp; left; omega
      have hun : (L.push false).getD i0 true = false := by rw [push_getD' (by omega)]; exact (mem_ready.1 hi0).1
      refine ⟨fun hn => ?_, fun i hi => ?_⟩
      · have := (ready_last (o := o) hL hi0l).2 hi0
        rw [hn] at this; cases this
      · have hil : i < l.length := by
          rcases Nat.lt_or_ge i l.length with g | g
          · exact g
          · exact absurd hi (tail_waits hs hc (by simp) inv _ i0 rfl hi0l hun i g)
        have h1 := h.2 i ((ready_last (o := o) hL hil).1 hi)
        refine wpOp_mono (fun a' w' h' => ?_) (wpOp_last hd hil h1)
        rw [push_set (by omega)]
        refine wpAny_last hs hb hd fuel _ a' w' (by simp [hL]) ?_ h'.2
        rw [← push_set (by omega)]
        exact inv.set hi hil
/-- What is asked of the operations: nobody looks ahead, and all stand ahead of the last one, which has no temporary. -/
def Region.lastB (md : Region.Mode) (ops : List Oper) (n : Nat) : Bool :=
  decide (ops.length = n + 1) && Region.sinkB md ops.toArray n && Region.backB md ops.toArray && (match ops[n]? with | some o => o.dst.isNone | none => false)
theorem wp_region_last {id : Nat} {Q : Exit → Act → World → Prop} {a : Act} {w : World} {l : List Oper} (n : Nat) (hm : P.follows .mixedOrders = true) (hB : Region.lastB .any l n = true) (hS : S w.drew)
    (h : S w.drew → wpAnyH P .any (l.take n).toArray (LastQ P l.toArray Q (l.drop n)) S (l.take n).toArray.size (Array.replicate (l.take n).toArray.size false) a w.drew) : (Code.region id l.toArray true).wp P Q a w := by
  simp only [Region.lastB, Bool.and_eq_true, decide_eq_true_eq] at hB
  obtain ⟨⟨⟨hlen, hs⟩, hb⟩, hd⟩ := hB
  have hn : n < l.length := by omega
  rw [List.getElem?_eq_getElem hn] at hd
  have hd' : l[n].dst = none := by simpa using hd
  have e : l = l.take n ++ [l[n]] := by
    conv => lhs; rw [← List.take_append_drop n l, List.drop_eq_getElem_cons hn, List.drop_eq_nil_of_le (by omega)]
  have edr : l.drop n = [l[n]] := by rw [List.drop_eq_getElem_cons hn, List.drop_eq_nil_of_le (by omega)]
  have htl : (l.take n).length = n := by simp; omega
  rw [edr] at h
  generalize hx : l[n] = x at *
  generalize hh : l.take n = hd0 at *
  subst e
  refine wp_region_any hm ?_
  have inv0 : HeadInv .any (hd0 ++ [x]).toArray hd0.length ((Array.replicate hd0.toArray.size false).push false) := by
    refine ⟨by simp, fun j oj _ hl => ?_, fun t ht ht' => ?_⟩
    · rw [push_getD, getD_replicate_false] at hl; cases hl
    · simp at ht'
      obtain rfl : t = hd0.length := by omega
      simp [Array.getElem_push]
  have H := wpAny_last (md := .any) (o := x) (Q := Q) (S := S) (l := hd0) (by rw [htl]; exact hs) hb hd' _ _ a w.drew (by simp) inv0 (h hS)
  have e1 : (Array.replicate hd0.toArray.size false).push false = Array.replicate (hd0 ++ [x]).toArray.size false := by simp [Array.replicate_succ]
  rw [e1] at H
  simpa using H
end
end Go
