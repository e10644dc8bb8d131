/- Several of my texts laid together, each as it was: Ul, Gj, Gk, Gl, Gm, Gn, Go, Gp. Conditions: each names its own. -/
import Derived.Deep.RegionHeld3
import Derived.StillTail
import Derived.Test.YtneebnankghhgacGreatDoorGA
/- A region that draws its order and ends in ONE operation that waits for all the others (a store: 'x.f = append(x.f[:i], x.f[i+1:]...)' through a pointer): what holds of the cells that are read need not hold behind that one. 'wp_region_last': what is left is 'wpList .. [the last one] ..' behind a 'wpAnyH' over all the others. Nothing of any program here. Conditions: the last operation has no temporary of its own. -/
namespace Go
section
variable {P : Program} {md : Region.Mode} {S : World → Prop}
/-- What holds behind all but the last. -/
def LastQ (P : Program) (ops : Array Oper) (Q : Exit → Act → World → Prop) (l : List Oper) : Exit → Act → World → Prop
  | .normal, a, w => wpList P ops Q l a w
  | e, a, w => Q e a w
def Region.backB (md : Region.Mode) (ops : Array Oper) : Bool := (List.range ops.size).all fun i => match ops[i]? with | some o => o.after.all fun e => !Region.binds md e || decide (e.on < i) | none => true
theorem Region.backB_spec {ops : Array Oper} (h : Region.backB md ops = true) {i : Nat} {o : Oper} (ho : ops[i]? = some o) : ∀ e ∈ o.after, Region.binds md e = true → e.on < i := by
  intro e he hb
  have h1 := List.all_eq_true.1 h i (List.mem_range.2 (Array.getElem?_eq_some_iff.1 ho).1)
  simp only [ho] at h1
  have h2 := (Array.all_eq_true_iff_forall_mem.1 h1) e he
  simpa [hb] using h2
theorem yielded_last {l : List Oper} {o : Oper} (hd : o.dst = none) (tmps : Array Value) : yielded l.toArray tmps = yielded (l ++ [o]).toArray tmps := by
  funext j
  unfold yielded
  rcases Nat.lt_trichotomy j l.length with h | h | h
  · simp [List.getElem?_append_left h]
  · subst h; simp [hd]
  · rw [List.getElem?_toArray, List.getElem?_toArray, List.getElem?_eq_none (by omega), List.getElem?_eq_none (by simp; omega)]
theorem Oper.wp_last {ops : Array Oper} {Q : Exit → Act → World → Prop} {l : List Oper} {o : Oper} {a : Act} {w : World} {K : Act → World → Prop} (h : o.wp P a w K (LastQ P ops Q l)) : o.wp P a w K Q := by
  unfold Oper.wp at *
  generalize (execOp a.eval o).run P w = r at *
  cases r with
  | ok n w' =>
    cases n <;> simp only [Oper.upon] at h ⊢ <;>
      first
        | exact h
        | exact Calls.mono h (fun e w'' he => by cases e <;> exact he)
  | halt x w' => cases x <;> simp only [Oper.upon] at h ⊢ <;> exact h
theorem wpOp_last {Q : Exit → Act → World → Prop} {l : List Oper} {o : Oper} {ll : List Oper} (hd : o.dst = none) {i : Nat} (hi : i < l.length) {a : Act} {w : World} {K : Act → World → Prop} (h : wpOp P l.toArray (LastQ P (l ++ [o]).toArray Q ll) i K a w) : wpOp P (l ++ [o]).toArray Q i K a w := by
  unfold wpOp at *
  rw [← yielded_last hd]
  have e : (l ++ [o]).toArray[i]? = l.toArray[i]? := by simp [List.getElem?_append_left hi]
  rw [e]
  rw [List.getElem?_toArray, List.getElem?_eq_getElem hi] at *
  simp only at h ⊢
  split
  · rename_i hw
    rw [if_pos hw] at h
    exact h.imp Oper.wp_last id
  · rename_i hw
    rwa [if_neg hw] at h
theorem push_getD {L : Array Bool} (k : Nat) : (L.push false).getD k false = L.getD k false := by
  rcases Nat.lt_trichotomy k L.size with h | h | h
  · simp [Array.getElem?_push_lt h, h]
  · subst h; simp
  · simp [Array.getElem?_eq_none (xs := L) (i := k) (by omega), Array.getElem?_eq_none (xs := L.push false) (i := k) (by simp; omega)]
theorem push_getD' {L : Array Bool} {k : Nat} (h : k < L.size) : (L.push false).getD k true = L.getD k true := by
  simp [Array.getElem?_push_lt h, h]
theorem ready_last {l : List Oper} {o : Oper} {L : Array Bool} (hL : L.size = l.length) {i : Nat} (hi : i < l.length) : i ∈ Region.ready md (l ++ [o]).toArray (L.push false) ↔ i ∈ Region.ready md l.toArray L := by
  rw [mem_ready, mem_ready, push_getD' (by omega)]
  have e : (l ++ [o]).toArray[i]? = l.toArray[i]? := by simp [List.getElem?_append_left hi]
  rw [e]
  simp only [push_getD]
theorem push_set {L : Array Bool} {i : Nat} (h : i < L.size) : (L.push false).setIfInBounds i true = (L.setIfInBounds i true).push false := by
  obtain ⟨l⟩ := L
  simp only [List.size_toArray] at h
  simp [h]
theorem all_listed {l : List Oper} {L : Array Bool} {ops : Array Oper} (hL : L.size = l.length) (hb : Region.backB md ops = true) (hp : ∀ i, i < l.length → ops[i]? = l.toArray[i]?) (h0 : Region.ready md l.toArray L = []) : ∀ i, i < l.length → L.getD i true = true ∧ L.getD i false = true := by
  intro i
  induction i using Nat.strongRecOn with
  | _ i ih =>
    intro hi
    have key : L.getD i true = true := by
      cases hc : L.getD i true with
      | true => rfl
      | false =>
        exfalso
        have hm : i ∈ Region.ready md l.toArray L := by
          rw [mem_ready]
          refine ⟨hc, l[i], by simp [hi], fun e he hbe => ?_⟩
          have := Region.backB_spec hb (i := i) (o := l[i]) (by rw [hp i hi]; simp [hi]) e he hbe
          exact (ih e.on this (by omega)).2
        rw [h0] at hm
        cases hm
    exact ⟨key, by have hs : i < L.size := by omega
                   simp [hs] at key ⊢; exact key⟩
theorem wpAny_end {Q : Exit → Act → World → Prop} {l : List Oper} {o : Oper} (hb : Region.backB md (l ++ [o]).toArray = true) {L : Array Bool} (hL : L.size = l.length) {a : Act} {w : World}
    (h0 : Region.ready md l.toArray L = []) (h : wpList P (l ++ [o]).toArray Q [o] a w) (fuel : Nat) : wpAny P md (l ++ [o]).toArray Q (fuel + 1) (L.push false) a w := by
  have hall := all_listed hL hb (fun i hi => by simp [List.getElem?_append_left hi]) h0
  have hon : (l ++ [o]).toArray[l.length]? = some o := by simp
  have hlast : l.length ∈ Region.ready md (l ++ [o]).toArray (L.push false) := by
    rw [mem_ready]
    refine ⟨by simp [← hL], o, hon, fun e he hbe => ?_⟩
    rw [push_getD]
    exact (hall e.on (Region.backB_spec hb hon e he hbe)).2
  have honly : ∀ i ∈ Region.ready md (l ++ [o]).toArray (L.push false), i = l.length := by
    intro i hi
    obtain ⟨_, o', ho', _⟩ := mem_ready.1 hi
    have hlt : i < (l ++ [o]).toArray.size := (Array.getElem?_eq_some_iff.1 ho').1
    simp at hlt
    rcases Nat.lt_or_ge i l.length with g | g
    · have := (ready_last (o := o) hL g).1 hi
      rw [h0] at this; cases this
    · omega
  refine ⟨fun hn => (by rw [hn] at hlast; cases hlast), fun i hi => ?_⟩
  obtain rfl := honly i hi
  have hw : wpOp P (l ++ [o]).toArray Q l.length (wpList P (l ++ [o]).toArray Q []) a w := by unfold wpOp; simp only [hon]; exact h
  refine wpOp_mono (fun a' w' h' => ?_) hw
  have hnone : Region.ready md (l ++ [o]).toArray ((L.push false).setIfInBounds l.length true) = [] := by
    rw [List.eq_nil_iff_forall_not_mem]
    intro j hj
    obtain ⟨h1, o', ho', _⟩ := mem_ready.1 hj
    have hlt : j < (l ++ [o]).toArray.size := (Array.getElem?_eq_some_iff.1 ho').1
    simp at hlt
    by_cases hjl : j = l.length
    · subst hjl; simp [← hL] at h1
    · rw [getD_set_ne true (Ne.symm hjl), push_getD' (by omega), (hall j (by omega)).1] at h1; cases h1
  cases fuel with
  | zero => exact ⟨hnone, h'⟩
  | succ f => exact ⟨fun _ => h', fun j hj => (by rw [hnone] at hj; cases hj)⟩
theorem wpAny_last {Q : Exit → Act → World → Prop} {l : List Oper} {o : Oper} (hs : Region.sinkB md (l ++ [o]).toArray l.length = true) (hb : Region.backB md (l ++ [o]).toArray = true) (hd : o.dst = none) :
    ∀ (fuel : Nat) (L : Array Bool) (a : Act) (w : World), L.size = l.length → HeadInv md (l ++ [o]).toArray l.length (L.push false) →
      wpAnyH P md l.toArray (LastQ P (l ++ [o]).toArray Q [o]) S fuel L a w → wpAny P md (l ++ [o]).toArray Q (fuel + 1) (L.push false) a w
  | 0, L, a, w, hL, _, h => wpAny_end hb hL h.1 h.2 0
  | fuel + 1, L, a, w, hL, inv, h => by
    by_cases h0 : Region.ready md l.toArray L = []
    · exact wpAny_end hb hL h0 (h.1 h0) _
    · obtain ⟨i0, hi0⟩ := List.exists_mem_of_ne_nil _ h0
      have hlt : ∀ i ∈ Region.ready md l.toArray L, i < l.length := fun i hi => by
        obtain ⟨_, o', ho', _⟩ := mem_ready.1 hi
        have := (Array.getElem?_eq_some_iff.1 ho').1
        simpa using this
      have hi0l := hlt i0 hi0
      have hc : Region.chainB md (l ++ [o]).toArray l.length = true := by
        unfold Region.chainB
        rw [List.all_eq_true]
        intro t ht
        have := List.mem_range.1 ht
        simp at this
        simp; left; omega
      have hun : (L.push false).getD i0 true = false := by rw [push_getD' (by omega)]; exact (mem_ready.1 hi0).1
      refine ⟨fun hn => ?_, fun i hi => ?_⟩
      · have := (ready_last (o := o) hL hi0l).2 hi0
        rw [hn] at this; cases this
      · have hil : i < l.length := by
          rcases Nat.lt_or_ge i l.length with g | g
          · exact g
          · exact absurd hi (tail_waits hs hc (by simp) inv _ i0 rfl hi0l hun i g)
        have h1 := h.2 i ((ready_last (o := o) hL hil).1 hi)
        refine wpOp_mono (fun a' w' h' => ?_) (wpOp_last hd hil h1)
        rw [push_set (by omega)]
        refine wpAny_last hs hb hd fuel _ a' w' (by simp [hL]) ?_ h'.2
        rw [← push_set (by omega)]
        exact inv.set hi hil
/-- What is asked of the operations: nobody looks ahead, and all stand ahead of the last one, which has no temporary. -/
def Region.lastB (md : Region.Mode) (ops : List Oper) (n : Nat) : Bool :=
  decide (ops.length = n + 1) && Region.sinkB md ops.toArray n && Region.backB md ops.toArray && (match ops[n]? with | some o => o.dst.isNone | none => false)
theorem wp_region_last {id : Nat} {Q : Exit → Act → World → Prop} {a : Act} {w : World} {l : List Oper} (n : Nat) (hm : P.follows .mixedOrders = true) (hB : Region.lastB .any l n = true) (hS : S w.drew)
    (h : S w.drew → wpAnyH P .any (l.take n).toArray (LastQ P l.toArray Q (l.drop n)) S (l.take n).toArray.size (Array.replicate (l.take n).toArray.size false) a w.drew) : (Code.region id l.toArray true).wp P Q a w := by
  simp only [Region.lastB, Bool.and_eq_true, decide_eq_true_eq] at hB
  obtain ⟨⟨⟨hlen, hs⟩, hb⟩, hd⟩ := hB
  have hn : n < l.length := by omega
  rw [List.getElem?_eq_getElem hn] at hd
  have hd' : l[n].dst = none := by simpa using hd
  have e : l = l.take n ++ [l[n]] := by
    conv => lhs; rw [← List.take_append_drop n l, List.drop_eq_getElem_cons hn, List.drop_eq_nil_of_le (by omega)]
  have edr : l.drop n = [l[n]] := by rw [List.drop_eq_getElem_cons hn, List.drop_eq_nil_of_le (by omega)]
  have htl : (l.take n).length = n := by simp; omega
  rw [edr] at h
  generalize hx : l[n] = x at *
  generalize hh : l.take n = hd0 at *
  subst e
  refine wp_region_any hm ?_
  have inv0 : HeadInv .any (hd0 ++ [x]).toArray hd0.length ((Array.replicate hd0.toArray.size false).push false) := by
    refine ⟨by simp, fun j oj _ hl => ?_, fun t ht ht' => ?_⟩
    · rw [push_getD, getD_replicate_false] at hl; cases hl
    · simp at ht'
      obtain rfl : t = hd0.length := by omega
      simp [Array.getElem_push]
  have H := wpAny_last (md := .any) (o := x) (Q := Q) (S := S) (l := hd0) (by rw [htl]; exact hs) hb hd' _ _ a w.drew (by simp) inv0 (h hS)
  have e1 : (Array.replicate hd0.toArray.size false).push false = Array.replicate (hd0 ++ [x]).toArray.size false := by simp [Array.replicate_succ]
  rw [e1] at H
  simpa using H
end
end Go

/- The project's parser: factors multiplied, over any contract of a factor: a contract of the call. Conditions: a factor's contract. -/
namespace Go.Proofs.YtneebnankghhgacGreatDoor
open Go.RowKit

/-- Blocks from n on, but one. -/
def frx (n B : Nat) : Nat → Prop := fun b => n ≤ b ∧ b ≠ B
section
variable {w w' : World} {n k a B : Nat} {P : Nat → Prop} {xs ys : List Lf} {us vs : List Value}
theorem LsAt.allocP (h : LsAt w P xs us) (o : Obj) : LsAt (w.alloc o) P xs us := h.keep (fun b hb hlt => ⟨hb, Below.heap_alloc w o b hlt⟩) (by simp)
theorem LsAt.allocx (h : LsAt w (fr n) xs us) (o : Obj) : LsAt (w.alloc o) (frx n w.heap.size) xs us := h.keep (fun b (hb : n ≤ b) hlt => ⟨⟨hb, by omega⟩, Below.heap_alloc w o b hlt⟩) (by simp)
theorem LsAt.putsx {o : Nat} (h : LsAt w (frx n B) xs us) : LsAt (w.setCells B o vs) (frx n B) xs us := h.keep (fun b (hb : n ≤ b ∧ b ≠ B) _ => ⟨hb, heap_setCells B vs o w b hb.2⟩) (Nat.le_of_eq (size_setCells B vs o w).symm)
theorem LsAt.laterx (h : LsAt w (frx n B) xs us) (ho : Onl a w w') (ha : a < n) : LsAt w' (frx n B) xs us := h.keep (fun b (hb : n ≤ b ∧ b ≠ B) hlt => ⟨hb, ho.block b hlt (by simp; omega)⟩) ho.size
theorem LsAt.tox (h : LsAt w (fr k) xs us) (hk : B < k) (hn : n ≤ k) : LsAt w (frx n B) xs us := h.keep (fun b (hb : k ≤ b) _ => ⟨⟨by omega, by omega⟩, rfl⟩) (Nat.le_refl _)
theorem LsAt.unx (h : LsAt w (frx n B) xs us) : LsAt w (fr n) xs us := h.keep (fun b (hb : n ≤ b ∧ b ≠ B) _ => ⟨hb.1, rfl⟩) (Nat.le_refl _)
/-- A row of structs newly laid. -/
theorem LsAt.two (h : LsAt w P xs us) (h2 : LsAt w P ys vs) (ty : TypeId) (hP : P w.heap.size) : LfAt (w.alloc (.cells (us ++ vs).toArray ty)) P (rL [xs, ys]) (.slice (some ⟨w.heap.size, 0, none⟩) 2 2) := by
  have hL := (h.app h2).allocP (.cells (us ++ vs).toArray ty)
  have e : [xs, ys].flatten = xs ++ ys := by simp
  unfold rL
  rw [e]
  exact LfAt.row hL (by simp) (Nat.le_refl _) hP (by simp) (fun i u hu => (VarB.new w (us ++ vs) ty).cell i hu)
theorem LsAt.single (h : LsAt w P xs us) (ty : TypeId) (hP : P w.heap.size) : LfAt (w.alloc (.cells us.toArray ty)) P (rL [xs]) (.slice (some ⟨w.heap.size, 0, none⟩) 1 1) := by
  have hL := h.allocP (.cells us.toArray ty)
  have e : [xs].flatten = xs := by simp
  unfold rL
  rw [e]
  exact LfAt.row hL (by simp) (Nat.le_refl _) hP (by simp) (fun i u hu => (VarB.new w us ty).cell i hu)
end
theorem mulP_no {l : List Wd} {fac : PS → List Lf × PS} {k : Nat} {e : List Lf} {ρ : PS} (h : isP l [42] ρ = false) : mulP l fac k e ρ = (e, ρ) := by
  cases k with
  | zero => rfl
  | succ k => simp [mulP, h]
theorem mulP_yes {l : List Wd} {fac : PS → List Lf × PS} {k : Nat} {e y : List Lf} {ρ ρ2 : PS} (h : isP l [42] ρ = true) (h1 : fac ⟨ρ.i + 1, ρ.e⟩ = (y, ρ2)) : mulP l fac (k + 1) e ρ = mulP l fac k (opTwo 5 e y) ρ2 := by
  simp [mulP, h, h1]
theorem addP_no {l : List Wd} {fac : PS → List Lf × PS} {k : Nat} {e : List Lf} {ρ : PS} (h : isP l [43] ρ = false) (h2 : isP l [45] ρ = false) : addP l fac k e ρ = (e, ρ) := by
  cases k with
  | zero => rfl
  | succ k => simp [addP, h, h2]
theorem addP_plus {l : List Wd} {fac : PS → List Lf × PS} {k : Nat} {e y : List Lf} {ρ ρ2 : PS} (h : isP l [43] ρ = true) (h1 : termP l fac ⟨ρ.i + 1, ρ.e⟩ = (y, ρ2)) : addP l fac (k + 1) e ρ = addP l fac k (opTwo 3 e y) ρ2 := by
  simp [addP, h, h1]
theorem addP_minus {l : List Wd} {fac : PS → List Lf × PS} {k : Nat} {e y : List Lf} {ρ ρ2 : PS} (h : isP l [43] ρ = false) (h2 : isP l [45] ρ = true) (h1 : termP l fac ⟨ρ.i + 1, ρ.e⟩ = (y, ρ2)) : addP l fac (k + 1) e ρ = addP l fac k (opTwo 4 e y) ρ2 := by
  simp [addP, h, h2, h1]

set_option maxRecDepth 100000 in
set_option maxHeartbeats 8000000 in
theorem paTerm_of {w : World} {a : Nat} {l : List Wd} {m : Int} {d n : Nat} {σ : PS} (HF : ∀ (w : World) (d : Nat) (σ : PS), Rd w a l m d σ → l.length < n + σ.i → Calls Tryz.prog 84 #[.pointer (some ⟨a, 0, none⟩)] w (Ans w a l m d σ 7 (factorP l m n d σ).1 (factorP l m n d σ).2)) (hR : Rd w a l m d σ) (hn : l.length < n + σ.i) :
    Calls Tryz.prog 74 #[.pointer (some ⟨a, 0, none⟩)] w (Ans w a l m d σ 7 (termP l (factorP l m n d) σ).1 (termP l (factorP l m n d) σ).2) := by
  have HF' := hid0 HF
  have E0 := hR.start zEv 39
  obtain ⟨⟨x, τ⟩, hM⟩ : ∃ y, termP l (factorP l m n d) σ = y := ⟨_, rfl⟩
  rw [hM]
  dsimp only
  obtain ⟨⟨y0, σ1⟩, h1⟩ : ∃ y, factorP l m n d σ = y := ⟨_, rfl⟩
  unfold termP at hM
  rw [h1] at hM
  dsimp only at hM
  replace hM := hid0 hM
  have hfew := hR.few
  clear hR HF
  go_enter Tryz.func74, Tryz.ntmps74
  go_wp2_with fail
  go_at_call 84
  refine (Ans.at_ (hid0 h1) (HF'.out _ _ _ E0.rd hn)).mono ?_
  rintro e w1 ⟨us, hl, rfl, hA, hS⟩
  obtain ⟨u0, u1, u2, u3, u4, u5, u6, rfl⟩ := len7 hl
  clear hl h1
  have hle1 := hS.le
  have hwB : w.heap.size < w1.heap.size := (E0.step hS).z
  have haB : a < w1.heap.size := Nat.lt_trans E0.lt hwB
  have hL0 := (E0.leaf hA).allocx (Obj.cells #[.int .i64 0, .string ⟨#[]⟩, .string ⟨#[]⟩, .int .i64 0, .int .i64 0, .string ⟨#[]⟩, .slice none 0 0] 39)
  have hX0 : VarB (w1.alloc (Obj.cells #[.int .i64 0, .string ⟨#[]⟩, .string ⟨#[]⟩, .int .i64 0, .int .i64 0, .string ⟨#[]⟩, .slice none 0 0] 39)) w1.heap.size zEv := VarB.new w1 zEv 39
  have E10 := (E0.step hS).alloc (Obj.cells #[.int .i64 0, .string ⟨#[]⟩, .string ⟨#[]⟩, .int .i64 0, .int .i64 0, .string ⟨#[]⟩, .slice none 0 0] 39)
  clear hA hS
  have hrem : l.length - σ1.i ≤ l.length := Nat.sub_le _ _
  go_wp2_with (first | ((with_reducible refine wp_putB hX0 hL0 ?_ ?_ ?_ ?_ ?_); (rfl); (exact infoE); (rfl); (rfl); intro w11 hX1 hw11; simp only [Act.put]) | fail)
  have E1 : Env w a l m d σ σ1 zEv w11 := by rw [hw11.out]; exact E10.puts 0 _ hwB
  have hL1 : Hid (LsAt w11 (frx (w.heap.size + 1) w1.heap.size) y0 _) := hid0 (by rw [hw11.out]; exact hL0.putsx)
  replace hX1 := hid0 hX1
  clear hL0 hX0 E10 hw11
  obtain ⟨B, hBB⟩ : ∃ B, w1.heap.size = B := ⟨_, rfl⟩
  rw [hBB] at hwB haB hL1 hX1 ⊢
  replace hBB := hid0 hBB
  go_loopw [] (fun wr => ∃ (k : Nat) (e : List Lf) (ρ : PS), Hid (mulP l (factorP l m n d) k e ρ = (x, τ)) ∧ l.length - ρ.i ≤ k ∧ ∃ us : List Value, Hid (us.length = 7) ∧ Hid (VarB wr B us) ∧ Hid (LsAt wr (frx (w.heap.size + 1) B) e us) ∧ Env w a l m d σ ρ zEv wr) (fun wr => l.length - atOf wr a)
  case atStart => exact ⟨l.length, y0, σ1, hM, hrem, _, hid0 rfl, hX1, hL1, E1⟩
  case round =>
    clear hM hX1 hL1 E1 hrem
    obtain ⟨k, e, ρ, hM, hk, us, hl, hX, hLA0, E⟩ := hrel
    obtain ⟨u0, u1, u2, u3, u4, u5, u6, rfl⟩ := len7 hl.out
    have hat := E.rd.at_
    have hρ := E.st.le
    clear hl
    rcases Bool.eq_false_or_eq_true (isP l [42] ρ) with hb | hb
    · have hmore := is_more E.rd.ok E.rd.hi hb
      obtain ⟨⟨y, ρ2⟩, h2⟩ : ∃ y, factorP l m n d ⟨ρ.i + 1, ρ.e⟩ = y := ⟨_, rfl⟩
      obtain ⟨k, rfl⟩ : ∃ k', k = k' + 1 := ⟨k - 1, by omega⟩
      have HM := hid0 ((mulP_yes (k := k) (e := e) hb h2).symm.trans hM.out)
      replace h2 := hid0 h2
      replace hb := hid0 hb
      replace hat := hid0 hat
      clear hM
      go_wp2_with fail
      go_at_call 17
      refine (paTake_yes [42] E.rd hb.out).mono ?_
      rintro e9 w2 ⟨rfl, hS2⟩
      have HX2 := hid0 (hX.out.later hS2.onl haB)
      have hLA := hid0 (hLA0.out.laterx hS2.onl (Nat.lt_succ_of_lt E0.lt))
      have E2 := E.step hS2
      clear hX hLA0 hS2
      go_wp2_with fail
      refine wp_region_last (S := fun w' => VarB w' B [u0, u1, u2, u3, u4, u5, u6]) 5 (by kernel_rfl) (by kernel_rfl) HX2.out.drew (fun hHeld => ?_)
      simp only [List.take_succ_cons, List.take_zero, List.drop_succ_cons, List.drop_zero]
      refine wpAnyH_take (i := 0) (v := .agg #[u0, u1, u2, u3, u4, u5, u6]) rfl (by kernel_rfl) (by kernel_rfl) (by kernel_rfl) (fun _ _ _ h => h) (yieldsIf_load_mid rfl 39 _ rfl B 0 rfl [u0, u1, u2, u3, u4, u5, u6] _ (fun w h => h.at_) Tryz.underlying39 rfl infoE) (by assumption) ?_
      (try simp only [Act.put, List.setIfInBounds_toArray, List.set_cons_zero, List.set_cons_succ, List.getElem_toArray, List.getElem_cons_zero])
      refine wpAnyH_take (i := 1) (v := ?_) rfl (by kernel_rfl) (by kernel_rfl) (by kernel_rfl) (fun _ _ _ h => h) (Or.inl ⟨by rfl, ?_⟩) (by assumption) ?_
      rotate_left
      · (intro wx hSw; go_simp; (try with_reducible rfl))
      (try simp only [Act.put, List.setIfInBounds_toArray, List.set_cons_zero, List.set_cons_succ, List.getElem_toArray, List.getElem_cons_zero, List.getElem_cons_succ])
      refine wpAnyH_ready (rs := [2]) (by kernel_rfl) (by simp) ?_
      refine AllReadyH.cons rfl (fun K hK => ?_) AllReadyH.nil
      go_simp
      refine (Ans.at_ h2 (HF'.out _ _ _ E2.drew.rd (by dsimp only; omega))).mono ?_
      rintro e9 w3 ⟨vs, hl, rfl, hA3, hS3⟩
      obtain ⟨v0, v1, v2, v3, v4, v5, v6, rfl⟩ := len7 hl
      clear hl
      have hX3 := HX2.out.drew.later hS3.onl haB
      have hle3 := hS3.le
      dsimp only at hle3
      have hzB : B < w2.heap.size := HX2.out.lt
      have hz3 := hS3.onl.size
      have hA2 := (hLA.out.drew).laterx hS3.onl (Nat.lt_succ_of_lt E0.lt)
      have hB3 := hA3.tox (B := B) (n := w.heap.size + 1) hzB (Nat.le_trans E2.z (Nat.le_refl _))
      have hrow := hid0 (LsAt.two hA2 hB3 39 ⟨Nat.le_trans E2.z hz3, by show w3.heap.size ≠ B; have : w2.heap.size ≤ w3.heap.size := hz3; omega⟩)
      have E3 := (E2.drew.step hS3).alloc (Obj.cells #[u0, u1, u2, u3, u4, u5, u6, v0, v1, v2, v3, v4, v5, v6] 39)
      have hX4 := hX3.alloc (Obj.cells #[u0, u1, u2, u3, u4, u5, u6, v0, v1, v2, v3, v4, v5, v6] 39)
      refine hK.out _ _ hX3 (fun hHeld => ?_)
      clear hK K
      (try simp only [Act.put, List.setIfInBounds_toArray, List.set_cons_zero, List.set_cons_succ, List.getElem_toArray, List.getElem_cons_zero, List.getElem_cons_succ])
      refine wpAnyH_ready (rs := [3]) (by kernel_rfl) (by simp) ?_
      refine AllReadyH.cons rfl (fun K hK => ?_) AllReadyH.nil
      go_simp
      refine hK.out _ _ hX4 (fun hHeld => ?_)
      clear hK K
      (try simp only [Act.put, List.setIfInBounds_toArray, List.set_cons_zero, List.set_cons_succ, List.getElem_toArray, List.getElem_cons_zero, List.getElem_cons_succ])
      refine wpAnyH_take (i := 4) (v := ?_) rfl (by kernel_rfl) (by kernel_rfl) (by kernel_rfl) (fun _ _ _ h => h) (Or.inl ⟨by rfl, ?_⟩) (by assumption) ?_
      rotate_left
      · (intro wx hSw; go_simp; (try with_reducible rfl))
      (try simp only [Act.put, List.setIfInBounds_toArray, List.set_cons_zero, List.set_cons_succ, List.getElem_toArray, List.getElem_cons_zero, List.getElem_cons_succ])
      refine wpAnyH_done (by kernel_rfl) ?_ _
      have hL4 : LsAt (w3.alloc (Obj.cells #[u0, u1, u2, u3, u4, u5, u6, v0, v1, v2, v3, v4, v5, v6] 39)) (frx (w.heap.size + 1) B) (opTwo 5 e y) [.int .i64 5, .string ⟨#[]⟩, .string ⟨#[]⟩, .int .i64 0, .int .i64 0, .string ⟨#[]⟩, .slice (some ⟨w3.heap.size, 0, none⟩) 2 2] := .ex rfl rfl rfl (.zV _ _) hrow.out
      clear hA2 hB3 hA3 hS3 hX3
      show wpList _ _ _ _ _ _
      go_wp2_with (first | ((with_reducible refine wp_putB hX4 hL4 ?_ ?_ ?_ ?_ ?_); (rfl); (exact infoE); (rfl); (rfl); intro w5 hV5 hw5; simp only [Act.put]) | fail)
      have E5 : Env w a l m d σ ρ2 zEv w5 := by rw [hw5.out]; exact E3.puts 0 _ hwB
      have hL5 : LsAt w5 (frx (w.heap.size + 1) B) (opTwo 5 e y) [.int .i64 5, .string ⟨#[]⟩, .string ⟨#[]⟩, .int .i64 0, .int .i64 0, .string ⟨#[]⟩, .slice (some ⟨w3.heap.size, 0, none⟩) 2 2] := by rw [hw5.out]; exact hL4.putsx
      go_roundw
      case rel => exact ⟨k, _, ρ2, HM, by omega, _, hid0 rfl, hid0 hV5, hid0 hL5, E5⟩
      case measure => rw [hat.out, E5.rd.at_]; omega
    · have hE := (mulP_no (k := k) (e := e) (fac := factorP l m n d) hb).symm.trans hM.out
      replace hE := hid0 hE
      replace hb := hid0 hb
      clear hM
      go_wp2_with fail
      go_at_call 17
      refine (paTake_no [42] E.rd hb.out).mono ?_
      rintro e9 w2 ⟨rfl, hS2⟩
      have HX2 := hX.out.later hS2.onl haB
      have hLA := (hLA0.out.laterx hS2.onl (Nat.lt_succ_of_lt E0.lt)).unx
      have E2 := E.step hS2
      go_wp2_with (first | ((with_reducible refine wp_getB HX2 Tryz.underlying39 ?_ ?_ ?_ ?_); (rfl); (exact infoE); (rfl)) | ((with_reducible refine wp_putB E2.res hLA ?_ ?_ ?_ ?_ ?_); (rfl); (exact infoE); (rfl); (rfl); intro w0 hV0 hw0) | fail)
      cases hE.out
      exact end_blk hV0 rfl rfl _ Tryz.underlying39 rfl infoE rfl (E2.fin hLA rfl hw0.out)
end Go.Proofs.YtneebnankghhgacGreatDoor

/- The project's parser: terms added and taken away, over any contract of a factor: a contract of the call. Conditions: a factor's contract. -/
namespace Go.Proofs.YtneebnankghhgacGreatDoor
open Go.RowKit

set_option maxRecDepth 100000 in
set_option maxHeartbeats 8000000 in
theorem paExpr_of {w : World} {a : Nat} {l : List Wd} {m : Int} {d n : Nat} {σ : PS} (HF : ∀ (w : World) (d : Nat) (σ : PS), Rd w a l m d σ → l.length < n + σ.i → Calls Tryz.prog 84 #[.pointer (some ⟨a, 0, none⟩)] w (Ans w a l m d σ 7 (factorP l m n d σ).1 (factorP l m n d σ).2)) (hR : Rd w a l m d σ) (hn : l.length < n + σ.i) :
    Calls Tryz.prog 63 #[.pointer (some ⟨a, 0, none⟩)] w (Ans w a l m d σ 7 (exprOf l (factorP l m n d) σ).1 (exprOf l (factorP l m n d) σ).2) := by
  have HF' := hid0 HF
  have E0 := hR.start zEv 39
  obtain ⟨⟨x, τ⟩, hM⟩ : ∃ y, exprOf l (factorP l m n d) σ = y := ⟨_, rfl⟩
  rw [hM]
  dsimp only
  obtain ⟨⟨y0, σ1⟩, h1⟩ : ∃ y, termP l (factorP l m n d) σ = y := ⟨_, rfl⟩
  unfold exprOf at hM
  rw [h1] at hM
  dsimp only at hM
  replace hM := hid0 hM
  have hfew := hR.few
  clear hR HF
  go_enter Tryz.func63, Tryz.ntmps63
  go_wp2_with fail
  go_at_call 74
  refine (Ans.at_ (hid0 h1) (paTerm_of HF'.out E0.rd hn)).mono ?_
  rintro e w1 ⟨us, hl, rfl, hA, hS⟩
  obtain ⟨u0, u1, u2, u3, u4, u5, u6, rfl⟩ := len7 hl
  clear hl h1
  have hle1 := hS.le
  have hwB : w.heap.size < w1.heap.size := (E0.step hS).z
  have haB : a < w1.heap.size := Nat.lt_trans E0.lt hwB
  have hL0 := (E0.leaf hA).allocx (Obj.cells #[.int .i64 0, .string ⟨#[]⟩, .string ⟨#[]⟩, .int .i64 0, .int .i64 0, .string ⟨#[]⟩, .slice none 0 0] 39)
  have hX0 : VarB (w1.alloc (Obj.cells #[.int .i64 0, .string ⟨#[]⟩, .string ⟨#[]⟩, .int .i64 0, .int .i64 0, .string ⟨#[]⟩, .slice none 0 0] 39)) w1.heap.size zEv := VarB.new w1 zEv 39
  have E10 := (E0.step hS).alloc (Obj.cells #[.int .i64 0, .string ⟨#[]⟩, .string ⟨#[]⟩, .int .i64 0, .int .i64 0, .string ⟨#[]⟩, .slice none 0 0] 39)
  clear hA hS
  have hrem : l.length - σ1.i ≤ l.length := Nat.sub_le _ _
  go_wp2_with (first | ((with_reducible refine wp_putB hX0 hL0 ?_ ?_ ?_ ?_ ?_); (rfl); (exact infoE); (rfl); (rfl); intro w11 hX1 hw11; simp only [Act.put]) | fail)
  have E1 : Env w a l m d σ σ1 zEv w11 := by rw [hw11.out]; exact E10.puts 0 _ hwB
  have hL1 : Hid (LsAt w11 (frx (w.heap.size + 1) w1.heap.size) y0 _) := hid0 (by rw [hw11.out]; exact hL0.putsx)
  replace hX1 := hid0 hX1
  clear hL0 hX0 E10 hw11
  obtain ⟨B, hBB⟩ : ∃ B, w1.heap.size = B := ⟨_, rfl⟩
  rw [hBB] at hwB haB hL1 hX1 ⊢
  replace hBB := hid0 hBB
  go_loopw [] (fun wr => ∃ (k : Nat) (e : List Lf) (ρ : PS), Hid (addP l (factorP l m n d) k e ρ = (x, τ)) ∧ l.length - ρ.i ≤ k ∧ ∃ us : List Value, Hid (us.length = 7) ∧ Hid (VarB wr B us) ∧ Hid (LsAt wr (frx (w.heap.size + 1) B) e us) ∧ Env w a l m d σ ρ zEv wr) (fun wr => l.length - atOf wr a)
  case atStart => exact ⟨l.length, y0, σ1, hM, hrem, _, hid0 rfl, hX1, hL1, E1⟩
  case round =>
    clear hM hX1 hL1 E1 hrem
    obtain ⟨k, e, ρ, hM, hk, us, hl, hX, hLA0, E⟩ := hrel
    obtain ⟨u0, u1, u2, u3, u4, u5, u6, rfl⟩ := len7 hl.out
    have hat := E.rd.at_
    have hρ := E.st.le
    clear hl
    rcases Bool.eq_false_or_eq_true (isP l [43] ρ) with hb | hb
    · have hmore := is_more E.rd.ok E.rd.hi hb
      obtain ⟨⟨y, ρ2⟩, h2⟩ : ∃ y, termP l (factorP l m n d) ⟨ρ.i + 1, ρ.e⟩ = y := ⟨_, rfl⟩
      obtain ⟨k, rfl⟩ : ∃ k', k = k' + 1 := ⟨k - 1, by omega⟩
      have HM := hid0 ((addP_plus (k := k) (e := e) hb h2).symm.trans hM.out)
      replace h2 := hid0 h2
      replace hb := hid0 hb
      replace hat := hid0 hat
      clear hM
      go_wp2_with fail
      go_at_call 17
      refine (paTake_yes [43] E.rd hb.out).mono ?_
      rintro e9 w2 ⟨rfl, hS2⟩
      have HX2 := hid0 (hX.out.later hS2.onl haB)
      have hLA := hid0 (hLA0.out.laterx hS2.onl (Nat.lt_succ_of_lt E0.lt))
      have E2 := E.step hS2
      clear hX hLA0 hS2
      go_wp2_with fail
      refine wp_region_last (S := fun w' => VarB w' B [u0, u1, u2, u3, u4, u5, u6]) 5 (by kernel_rfl) (by kernel_rfl) HX2.out.drew (fun hHeld => ?_)
      simp only [List.take_succ_cons, List.take_zero, List.drop_succ_cons, List.drop_zero]
      refine wpAnyH_take (i := 0) (v := .agg #[u0, u1, u2, u3, u4, u5, u6]) rfl (by kernel_rfl) (by kernel_rfl) (by kernel_rfl) (fun _ _ _ h => h) (yieldsIf_load_mid rfl 39 _ rfl B 0 rfl [u0, u1, u2, u3, u4, u5, u6] _ (fun w h => h.at_) Tryz.underlying39 rfl infoE) (by assumption) ?_
      (try simp only [Act.put, List.setIfInBounds_toArray, List.set_cons_zero, List.set_cons_succ, List.getElem_toArray, List.getElem_cons_zero])
      refine wpAnyH_take (i := 1) (v := ?_) rfl (by kernel_rfl) (by kernel_rfl) (by kernel_rfl) (fun _ _ _ h => h) (Or.inl ⟨by rfl, ?_⟩) (by assumption) ?_
      rotate_left
      · (intro wx hSw; go_simp; (try with_reducible rfl))
      (try simp only [Act.put, List.setIfInBounds_toArray, List.set_cons_zero, List.set_cons_succ, List.getElem_toArray, List.getElem_cons_zero, List.getElem_cons_succ])
      refine wpAnyH_ready (rs := [2]) (by kernel_rfl) (by simp) ?_
      refine AllReadyH.cons rfl (fun K hK => ?_) AllReadyH.nil
      go_simp
      refine (Ans.at_ h2 (paTerm_of HF'.out E2.drew.rd (by dsimp only; omega))).mono ?_
      rintro e9 w3 ⟨vs, hl, rfl, hA3, hS3⟩
      obtain ⟨v0, v1, v2, v3, v4, v5, v6, rfl⟩ := len7 hl
      clear hl
      have hX3 := HX2.out.drew.later hS3.onl haB
      have hle3 := hS3.le
      dsimp only at hle3
      have hzB : B < w2.heap.size := HX2.out.lt
      have hz3 := hS3.onl.size
      have hA2 := (hLA.out.drew).laterx hS3.onl (Nat.lt_succ_of_lt E0.lt)
      have hB3 := hA3.tox (B := B) (n := w.heap.size + 1) hzB (Nat.le_trans E2.z (Nat.le_refl _))
      have hrow := hid0 (LsAt.two hA2 hB3 39 ⟨Nat.le_trans E2.z hz3, by show w3.heap.size ≠ B; have : w2.heap.size ≤ w3.heap.size := hz3; omega⟩)
      have E3 := (E2.drew.step hS3).alloc (Obj.cells #[u0, u1, u2, u3, u4, u5, u6, v0, v1, v2, v3, v4, v5, v6] 39)
      have hX4 := hX3.alloc (Obj.cells #[u0, u1, u2, u3, u4, u5, u6, v0, v1, v2, v3, v4, v5, v6] 39)
      refine hK.out _ _ hX3 (fun hHeld => ?_)
      clear hK K
      (try simp only [Act.put, List.setIfInBounds_toArray, List.set_cons_zero, List.set_cons_succ, List.getElem_toArray, List.getElem_cons_zero, List.getElem_cons_succ])
      refine wpAnyH_ready (rs := [3]) (by kernel_rfl) (by simp) ?_
      refine AllReadyH.cons rfl (fun K hK => ?_) AllReadyH.nil
      go_simp
      refine hK.out _ _ hX4 (fun hHeld => ?_)
      clear hK K
      (try simp only [Act.put, List.setIfInBounds_toArray, List.set_cons_zero, List.set_cons_succ, List.getElem_toArray, List.getElem_cons_zero, List.getElem_cons_succ])
      refine wpAnyH_take (i := 4) (v := ?_) rfl (by kernel_rfl) (by kernel_rfl) (by kernel_rfl) (fun _ _ _ h => h) (Or.inl ⟨by rfl, ?_⟩) (by assumption) ?_
      rotate_left
      · (intro wx hSw; go_simp; (try with_reducible rfl))
      (try simp only [Act.put, List.setIfInBounds_toArray, List.set_cons_zero, List.set_cons_succ, List.getElem_toArray, List.getElem_cons_zero, List.getElem_cons_succ])
      refine wpAnyH_done (by kernel_rfl) ?_ _
      have hL4 : LsAt (w3.alloc (Obj.cells #[u0, u1, u2, u3, u4, u5, u6, v0, v1, v2, v3, v4, v5, v6] 39)) (frx (w.heap.size + 1) B) (opTwo 3 e y) [.int .i64 3, .string ⟨#[]⟩, .string ⟨#[]⟩, .int .i64 0, .int .i64 0, .string ⟨#[]⟩, .slice (some ⟨w3.heap.size, 0, none⟩) 2 2] := .ex rfl rfl rfl (.zV _ _) hrow.out
      clear hA2 hB3 hA3 hS3 hX3
      show wpList _ _ _ _ _ _
      go_wp2_with (first | ((with_reducible refine wp_putB hX4 hL4 ?_ ?_ ?_ ?_ ?_); (rfl); (exact infoE); (rfl); (rfl); intro w5 hV5 hw5; simp only [Act.put]) | fail)
      have E5 : Env w a l m d σ ρ2 zEv w5 := by rw [hw5.out]; exact E3.puts 0 _ hwB
      have hL5 : LsAt w5 (frx (w.heap.size + 1) B) (opTwo 3 e y) [.int .i64 3, .string ⟨#[]⟩, .string ⟨#[]⟩, .int .i64 0, .int .i64 0, .string ⟨#[]⟩, .slice (some ⟨w3.heap.size, 0, none⟩) 2 2] := by rw [hw5.out]; exact hL4.putsx
      go_roundw
      case rel => exact ⟨k, _, ρ2, HM, by omega, _, hid0 rfl, hid0 hV5, hid0 hL5, E5⟩
      case measure => rw [hat.out, E5.rd.at_]; omega
    rcases Bool.eq_false_or_eq_true (isP l [45] ρ) with hb2 | hb2
    · have hmore := is_more E.rd.ok E.rd.hi hb2
      obtain ⟨⟨y, ρ2⟩, h2⟩ : ∃ y, termP l (factorP l m n d) ⟨ρ.i + 1, ρ.e⟩ = y := ⟨_, rfl⟩
      obtain ⟨k, rfl⟩ : ∃ k', k = k' + 1 := ⟨k - 1, by omega⟩
      have HM := hid0 ((addP_minus (k := k) (e := e) hb hb2 h2).symm.trans hM.out)
      replace h2 := hid0 h2
      replace hb := hid0 hb
      replace hb2 := hid0 hb2
      replace hat := hid0 hat
      clear hM
      go_wp2_with fail
      go_at_call 17
      refine (paTake_no [43] E.rd hb.out).mono ?_
      rintro e9 w20 ⟨rfl, hS0⟩
      replace hX := hid0 (hX.out.later hS0.onl haB)
      replace hLA0 := hid0 (hLA0.out.laterx hS0.onl (Nat.lt_succ_of_lt E0.lt))
      replace E := E.step hS0
      clear hS0
      go_wp2_with fail
      go_at_call 17
      refine (paTake_yes [45] E.rd hb2.out).mono ?_
      rintro e9 w2 ⟨rfl, hS2⟩
      have HX2 := hid0 (hX.out.later hS2.onl haB)
      have hLA := hid0 (hLA0.out.laterx hS2.onl (Nat.lt_succ_of_lt E0.lt))
      have E2 := E.step hS2
      clear hX hLA0 hS2
      go_wp2_with fail
      refine wp_region_last (S := fun w' => VarB w' B [u0, u1, u2, u3, u4, u5, u6]) 5 (by kernel_rfl) (by kernel_rfl) HX2.out.drew (fun hHeld => ?_)
      simp only [List.take_succ_cons, List.take_zero, List.drop_succ_cons, List.drop_zero]
      refine wpAnyH_take (i := 0) (v := .agg #[u0, u1, u2, u3, u4, u5, u6]) rfl (by kernel_rfl) (by kernel_rfl) (by kernel_rfl) (fun _ _ _ h => h) (yieldsIf_load_mid rfl 39 _ rfl B 0 rfl [u0, u1, u2, u3, u4, u5, u6] _ (fun w h => h.at_) Tryz.underlying39 rfl infoE) (by assumption) ?_
      (try simp only [Act.put, List.setIfInBounds_toArray, List.set_cons_zero, List.set_cons_succ, List.getElem_toArray, List.getElem_cons_zero])
      refine wpAnyH_take (i := 1) (v := ?_) rfl (by kernel_rfl) (by kernel_rfl) (by kernel_rfl) (fun _ _ _ h => h) (Or.inl ⟨by rfl, ?_⟩) (by assumption) ?_
      rotate_left
      · (intro wx hSw; go_simp; (try with_reducible rfl))
      (try simp only [Act.put, List.setIfInBounds_toArray, List.set_cons_zero, List.set_cons_succ, List.getElem_toArray, List.getElem_cons_zero, List.getElem_cons_succ])
      refine wpAnyH_ready (rs := [2]) (by kernel_rfl) (by simp) ?_
      refine AllReadyH.cons rfl (fun K hK => ?_) AllReadyH.nil
      go_simp
      refine (Ans.at_ h2 (paTerm_of HF'.out E2.drew.rd (by dsimp only; omega))).mono ?_
      rintro e9 w3 ⟨vs, hl, rfl, hA3, hS3⟩
      obtain ⟨v0, v1, v2, v3, v4, v5, v6, rfl⟩ := len7 hl
      clear hl
      have hX3 := HX2.out.drew.later hS3.onl haB
      have hle3 := hS3.le
      dsimp only at hle3
      have hzB : B < w2.heap.size := HX2.out.lt
      have hz3 := hS3.onl.size
      have hA2 := (hLA.out.drew).laterx hS3.onl (Nat.lt_succ_of_lt E0.lt)
      have hB3 := hA3.tox (B := B) (n := w.heap.size + 1) hzB (Nat.le_trans E2.z (Nat.le_refl _))
      have hrow := hid0 (LsAt.two hA2 hB3 39 ⟨Nat.le_trans E2.z hz3, by show w3.heap.size ≠ B; have : w2.heap.size ≤ w3.heap.size := hz3; omega⟩)
      have E3 := (E2.drew.step hS3).alloc (Obj.cells #[u0, u1, u2, u3, u4, u5, u6, v0, v1, v2, v3, v4, v5, v6] 39)
      have hX4 := hX3.alloc (Obj.cells #[u0, u1, u2, u3, u4, u5, u6, v0, v1, v2, v3, v4, v5, v6] 39)
      refine hK.out _ _ hX3 (fun hHeld => ?_)
      clear hK K
      (try simp only [Act.put, List.setIfInBounds_toArray, List.set_cons_zero, List.set_cons_succ, List.getElem_toArray, List.getElem_cons_zero, List.getElem_cons_succ])
      refine wpAnyH_ready (rs := [3]) (by kernel_rfl) (by simp) ?_
      refine AllReadyH.cons rfl (fun K hK => ?_) AllReadyH.nil
      go_simp
      refine hK.out _ _ hX4 (fun hHeld => ?_)
      clear hK K
      (try simp only [Act.put, List.setIfInBounds_toArray, List.set_cons_zero, List.set_cons_succ, List.getElem_toArray, List.getElem_cons_zero, List.getElem_cons_succ])
      refine wpAnyH_take (i := 4) (v := ?_) rfl (by kernel_rfl) (by kernel_rfl) (by kernel_rfl) (fun _ _ _ h => h) (Or.inl ⟨by rfl, ?_⟩) (by assumption) ?_
      rotate_left
      · (intro wx hSw; go_simp; (try with_reducible rfl))
      (try simp only [Act.put, List.setIfInBounds_toArray, List.set_cons_zero, List.set_cons_succ, List.getElem_toArray, List.getElem_cons_zero, List.getElem_cons_succ])
      refine wpAnyH_done (by kernel_rfl) ?_ _
      have hL4 : LsAt (w3.alloc (Obj.cells #[u0, u1, u2, u3, u4, u5, u6, v0, v1, v2, v3, v4, v5, v6] 39)) (frx (w.heap.size + 1) B) (opTwo 4 e y) [.int .i64 4, .string ⟨#[]⟩, .string ⟨#[]⟩, .int .i64 0, .int .i64 0, .string ⟨#[]⟩, .slice (some ⟨w3.heap.size, 0, none⟩) 2 2] := .ex rfl rfl rfl (.zV _ _) hrow.out
      clear hA2 hB3 hA3 hS3 hX3
      show wpList _ _ _ _ _ _
      go_wp2_with (first | ((with_reducible refine wp_putB hX4 hL4 ?_ ?_ ?_ ?_ ?_); (rfl); (exact infoE); (rfl); (rfl); intro w5 hV5 hw5; simp only [Act.put]) | fail)
      have E5 : Env w a l m d σ ρ2 zEv w5 := by rw [hw5.out]; exact E3.puts 0 _ hwB
      have hL5 : LsAt w5 (frx (w.heap.size + 1) B) (opTwo 4 e y) [.int .i64 4, .string ⟨#[]⟩, .string ⟨#[]⟩, .int .i64 0, .int .i64 0, .string ⟨#[]⟩, .slice (some ⟨w3.heap.size, 0, none⟩) 2 2] := by rw [hw5.out]; exact hL4.putsx
      go_roundw
      case rel => exact ⟨k, _, ρ2, HM, by omega, _, hid0 rfl, hid0 hV5, hid0 hL5, E5⟩
      case measure => rw [hat.out, E5.rd.at_]; omega
    · have hE := (addP_no (k := k) (e := e) (fac := factorP l m n d) hb hb2).symm.trans hM.out
      replace hE := hid0 hE
      replace hb := hid0 hb
      replace hb2 := hid0 hb2
      clear hM
      go_wp2_with fail
      go_at_call 17
      refine (paTake_no [43] E.rd hb.out).mono ?_
      rintro e9 w20 ⟨rfl, hS0⟩
      replace hX := hid0 (hX.out.later hS0.onl haB)
      replace hLA0 := hid0 (hLA0.out.laterx hS0.onl (Nat.lt_succ_of_lt E0.lt))
      replace E := E.step hS0
      clear hS0
      go_wp2_with fail
      go_at_call 17
      refine (paTake_no [45] E.rd hb2.out).mono ?_
      rintro e9 w2 ⟨rfl, hS2⟩
      have HX2 := hX.out.later hS2.onl haB
      have hLA := (hLA0.out.laterx hS2.onl (Nat.lt_succ_of_lt E0.lt)).unx
      have E2 := E.step hS2
      go_wp2_with (first | ((with_reducible refine wp_getB HX2 Tryz.underlying39 ?_ ?_ ?_ ?_); (rfl); (exact infoE); (rfl)) | ((with_reducible refine wp_putB E2.res hLA ?_ ?_ ?_ ?_ ?_); (rfl); (exact infoE); (rfl); (rfl); intro w0 hV0 hw0) | fail)
      cases hE.out
      exact end_blk hV0 rfl rfl _ Tryz.underlying39 rfl infoE rfl (E2.fin hLA rfl hw0.out)
end Go.Proofs.YtneebnankghhgacGreatDoor

/- The project's parser: a factor, an expression, however deep: contracts of the calls, by the words that are left. Conditions: none besides. -/
namespace Go.Proofs.YtneebnankghhgacGreatDoor
open Go.RowKit

theorem paNeed1_B {w : World} {a : Nat} {l : List Wd} {m : Int} {d : Nat} {σ σ' : PS} {s : List UInt8} (h : Hid (need1 l s σ = σ')) (ty : TypeId) (B : Nat) (hB : w.heap.size = B) (hR : Rd w a l m d σ) :
    Calls Tryz.prog 24 #[.pointer (some ⟨a, 0, none⟩), .slice (some ⟨B, 0, none⟩) 1 1] (w.alloc (.cells #[.string (txt s)] ty)) fun e w' => e = .returned (.tuple #[]) ∧ Step w a l m d σ σ' w' := by
  subst hB
  exact paNeed1_at h ty hR
theorem Env.undeep {w w1 : World} {a : Nat} {l : List Wd} {m : Int} {d : Nat} {σ σ1 : PS} {us : List Value} (E : Env w a l m (d + 1) σ σ1 us w1) {x : Int} (hx : x = (d : Int)) : Env w a l m d σ σ1 us (w1.setCell ⟨a, 2, none⟩ (.int .i64 x)) := by
  obtain ⟨b, o, c, h⟩ := E.rd.out
  exact ⟨⟨⟨b, o, c, h.setD d hx (by have := h.hd; omega)⟩, E.st.onl.own _, E.st.le⟩, E.res.other (b := a) (o := 2) [.int .i64 x] (by have := E.lt; omega), by simpa using E.z, E.lt⟩
theorem LsAt.own {w : World} {a n o B : Nat} {xs : List Lf} {us : List Value} (h : LsAt w (frx n B) xs us) (ha : a < n) (u : Value) : LsAt (w.setCell ⟨a, o, none⟩ u) (frx n B) xs us := h.laterx (Onl.own (Onl.refl a w) u) ha
theorem VarB.own {w : World} {a o B : Nat} {us : List Value} (h : VarB w B us) (ha : a < B) (u : Value) : VarB (w.setCell ⟨a, o, none⟩ u) B us := h.later (Onl.own (Onl.refl a w) u) ha

set_option maxRecDepth 100000 in
set_option maxHeartbeats 8000000 in
theorem paFactor_all {a : Nat} {l : List Wd} {m : Int} : ∀ (n : Nat) (w : World) (d : Nat) (σ : PS), Rd w a l m d σ → l.length < n + σ.i →
    Calls Tryz.prog 84 #[.pointer (some ⟨a, 0, none⟩)] w (Ans w a l m d σ 7 (factorP l m n d σ).1 (factorP l m n d σ).2)
  | 0, w, d, σ, hR, hn => absurd hn (by have := hR.hi; omega)
  | n + 1, w, d, σ, hR, hn => by
    have IH := hid0 (paFactor_all (a := a) (l := l) (m := m) n)
    have E0 := hR.start zEv 39
    have dle := hR.cells.2.2.2.2.2
    obtain ⟨⟨x, τ⟩, hM⟩ : ∃ y, factorP l m (n + 1) d σ = y := ⟨_, rfl⟩
    rw [hM]
    dsimp only
    replace hM := hid0 hM
    go_enter Tryz.func84, Tryz.ntmps84
    rcases Bool.eq_false_or_eq_true (valuedP l σ) with hv | hv
    · obtain ⟨⟨y, σ3⟩, h3⟩ : ∃ z, operandP l σ = z := ⟨_, rfl⟩
      have hE : factorP l m (n + 1) d σ = (y, σ3) := by simp only [factorP, hv, h3, if_true]
      replace hE := hid0 hE
      replace h3 := hid0 h3
      replace hv := hid0 hv
      go_wp2_with fail
      go_at_call 90
      refine (paValued_at hv E0.rd).mono ?_
      rintro e w10 ⟨rfl, hS0⟩
      have E1 := E0.step hS0
      clear hS0
      go_wp2_with fail
      go_at_call 91
      refine (Ans.at_ h3 (paOperand_any E1.rd)).mono ?_
      rintro e w3 ⟨us, hl, rfl, hA, hS3⟩
      obtain ⟨u0, u1, u2, u3, u4, u5, u6, rfl⟩ := len7 hl
      have hL2 := E1.leaf hA
      have E3 := E1.step hS3
      go_wp2_with (first | ((with_reducible refine wp_putB E3.res hL2 ?_ ?_ ?_ ?_ ?_); (rfl); (exact infoE); (rfl); (rfl); intro w0 hV0 hw0; simp only [Act.put]) | fail)
      cases hM.out.symm.trans hE.out
      exact end_blk hV0 rfl rfl _ Tryz.underlying39 rfl infoE rfl (E3.fin hL2 rfl hw0.out)
    rcases Bool.eq_false_or_eq_true (isP l [40] σ) with hb | hb
    · obtain ⟨σ2, h2⟩ : ∃ y, deepP l m d ⟨σ.i + 1, σ.e⟩ = y := ⟨_, rfl⟩
      obtain ⟨⟨y, σ3⟩, h3⟩ : ∃ z, exprOf l (factorP l m n (d + 1)) σ2 = z := ⟨_, rfl⟩
      obtain ⟨σ4, h4⟩ : ∃ z, need1 l [41] σ3 = z := ⟨_, rfl⟩
      have hE : factorP l m (n + 1) d σ = (y, σ4) := by simp only [factorP, hv, hb, h2, h3, h4, if_true, if_false, Bool.false_eq_true]
      replace h4 := hid0 h4
      replace hE := hid0 hE
      replace h2 := hid0 h2
      replace h3 := hid0 h3
      replace hv := hid0 hv
      replace hb := hid0 hb
      go_wp2_with fail
      go_at_call 90
      refine (paValued_at hv E0.rd).mono ?_
      rintro e w10 ⟨rfl, hS0⟩
      have E01 := E0.step hS0
      clear hS0
      go_wp2_with fail
      go_at_call 17
      refine (paTake_yes [40] E01.rd hb.out).mono ?_
      rintro e w11 ⟨rfl, hS1⟩
      have E1 := E01.step hS1
      clear hS1
      go_wp2_with fail
      go_at_call 88
      refine (Calls.mono (paDeeper_any E1.rd (by dsimp only; omega)) ?_)
      rintro e w2 ⟨rfl, hS2⟩
      rw [h2.out] at hS2
      have le2 := hS2.le
      dsimp only at le2
      have E2 := E1.step hS2
      go_wp2_with fail
      go_at_call 63
      refine (Ans.at_ h3 (paExpr_of IH.out E2.rd (by omega))).mono ?_
      rintro e w3 ⟨us, hl, rfl, hA, hS3⟩
      obtain ⟨u0, u1, u2, u3, u4, u5, u6, rfl⟩ := len7 hl
      clear hl
      have hz3 := hS3.onl.size
      have z2 := E2.z
      have E3 := E2.step hS3
      have hwB : w.heap.size < w3.heap.size := E3.z
      have hL0 := (E2.leaf hA).allocx (Obj.cells #[.int .i64 0, .string ⟨#[]⟩, .string ⟨#[]⟩, .int .i64 0, .int .i64 0, .string ⟨#[]⟩, .slice none 0 0] 39)
      have hX0 : VarB (w3.alloc (Obj.cells #[.int .i64 0, .string ⟨#[]⟩, .string ⟨#[]⟩, .int .i64 0, .int .i64 0, .string ⟨#[]⟩, .slice none 0 0] 39)) w3.heap.size zEv := VarB.new w3 zEv 39
      have E10 := E3.alloc (Obj.cells #[.int .i64 0, .string ⟨#[]⟩, .string ⟨#[]⟩, .int .i64 0, .int .i64 0, .string ⟨#[]⟩, .slice none 0 0] 39)
      have haB : a < w3.heap.size := by have := E0.lt; omega
      go_wp2_with (first | ((with_reducible refine wp_putB hX0 hL0 ?_ ?_ ?_ ?_ ?_); (rfl); (exact infoE); (rfl); (rfl); intro w11 hX1 hw11; simp only [Act.put]; (have E11 : Env w a l m (d + 1) σ σ3 zEv w11 := (by rw [hw11.out]; exact E10.puts 0 _ hwB)); (have cc := E11.rd.cells); (have c2 : w11.cell? ⟨a, 2, none⟩ = some (.int .i64 ((d : Int) + 1)) := cc.2.2.1); (have f2 := cc.2.2.2.1); (have d5 := cc.2.2.2.2)) | fail)
      have hL1 : LsAt w11 (frx (w.heap.size + 1) w3.heap.size) (y) [u0, u1, u2, u3, u4, u5, u6] := by rw [hw11.out]; exact hL0.putsx
      have E12 := E11.undeep (x := (d : Int)) rfl
      replace hX1 := hX1.own (o := 2) haB (.int .i64 (d : Int))
      replace hL1 := hL1.own (a := a) (o := 2) (Nat.lt_succ_of_lt E0.lt) (.int .i64 (d : Int))
      go_at_call 24
      refine (paNeed1_B h4 _ w11.heap.size (by simp) E12.rd).mono ?_
      rintro e w4 ⟨rfl, hS4⟩
      have E13 := E12.step hS4
      replace hX1 := hX1.later hS4.onl haB
      have hL2 := (hL1.laterx hS4.onl (Nat.lt_succ_of_lt E0.lt)).unx
      go_wp2_with (first | ((with_reducible refine wp_getB hX1 Tryz.underlying39 ?_ ?_ ?_ ?_); (rfl); (exact infoE); (rfl)) | ((with_reducible refine wp_putB E13.res hL2 ?_ ?_ ?_ ?_ ?_); (rfl); (exact infoE); (rfl); (rfl); intro w0 hV0 hw0; simp only [Act.put]) | fail)
      cases hM.out.symm.trans hE.out
      exact end_blk hV0 rfl rfl _ Tryz.underlying39 rfl infoE rfl (E13.fin hL2 rfl hw0.out)
    rcases Bool.eq_false_or_eq_true (isP l [45] σ) with hc | hc
    · obtain ⟨σ2, h2⟩ : ∃ y, deepP l m d ⟨σ.i + 1, σ.e⟩ = y := ⟨_, rfl⟩
      obtain ⟨⟨y, σ3⟩, h3⟩ : ∃ z, factorP l m n (d + 1) σ2 = z := ⟨_, rfl⟩
      have hE : factorP l m (n + 1) d σ = (exL 6 [] [] zV (rL [y]), σ3) := by simp only [factorP, hv, hb, hc, h2, h3, if_true, if_false, Bool.false_eq_true]
      replace hE := hid0 hE
      replace h2 := hid0 h2
      replace h3 := hid0 h3
      replace hv := hid0 hv
      replace hb := hid0 hb
      replace hc := hid0 hc
      go_wp2_with fail
      go_at_call 90
      refine (paValued_at hv E0.rd).mono ?_
      rintro e w10 ⟨rfl, hS0⟩
      have E01 := E0.step hS0
      clear hS0
      go_wp2_with fail
      go_at_call 17
      refine (paTake_no [40] E01.rd hb.out).mono ?_
      rintro e w11 ⟨rfl, hS1⟩
      have E02 := E01.step hS1
      clear hS1
      go_wp2_with fail
      go_at_call 17
      refine (paTake_yes [45] E02.rd hc.out).mono ?_
      rintro e w12 ⟨rfl, hS1⟩
      have E1 := E02.step hS1
      clear hS1
      go_wp2_with fail
      go_at_call 88
      refine (Calls.mono (paDeeper_any E1.rd (by dsimp only; omega)) ?_)
      rintro e w2 ⟨rfl, hS2⟩
      rw [h2.out] at hS2
      have le2 := hS2.le
      dsimp only at le2
      have E2 := E1.step hS2
      go_wp2_with fail
      go_at_call 84
      refine (Ans.at_ h3 (IH.out _ _ _ E2.rd (by omega))).mono ?_
      rintro e w3 ⟨us, hl, rfl, hA, hS3⟩
      obtain ⟨u0, u1, u2, u3, u4, u5, u6, rfl⟩ := len7 hl
      clear hl
      have hz3 := hS3.onl.size
      have z2 := E2.z
      have E3 := E2.step hS3
      have hwB : w.heap.size < w3.heap.size + 1 := Nat.lt_succ_of_lt E3.z
      have hrow : LfAt (w3.alloc (Obj.cells #[u0, u1, u2, u3, u4, u5, u6] 39)) (fr (w.heap.size + 1)) (rL [y]) (.slice (some ⟨w3.heap.size, 0, none⟩) 1 1) := LsAt.single (E2.leaf hA) 39 (show w.heap.size + 1 ≤ w3.heap.size by omega)
      have hL00 : LsAt (w3.alloc (Obj.cells #[u0, u1, u2, u3, u4, u5, u6] 39)) (fr (w.heap.size + 1)) (exL 6 [] [] zV (rL [y])) [.int .i64 6, .string ⟨#[]⟩, .string ⟨#[]⟩, .int .i64 0, .int .i64 0, .string ⟨#[]⟩, .slice (some ⟨w3.heap.size, 0, none⟩) 1 1] := .ex rfl rfl rfl (.zV _ _) hrow
      have hL0 : LsAt ((w3.alloc (Obj.cells #[u0, u1, u2, u3, u4, u5, u6] 39)).alloc (Obj.cells #[.int .i64 0, .string ⟨#[]⟩, .string ⟨#[]⟩, .int .i64 0, .int .i64 0, .string ⟨#[]⟩, .slice none 0 0] 39)) (frx (w.heap.size + 1) (w3.heap.size + 1)) (exL 6 [] [] zV (rL [y])) [.int .i64 6, .string ⟨#[]⟩, .string ⟨#[]⟩, .int .i64 0, .int .i64 0, .string ⟨#[]⟩, .slice (some ⟨w3.heap.size, 0, none⟩) 1 1] := by have := hL00.allocx (Obj.cells #[.int .i64 0, .string ⟨#[]⟩, .string ⟨#[]⟩, .int .i64 0, .int .i64 0, .string ⟨#[]⟩, .slice none 0 0] 39); rw [World.size_alloc] at this; exact this
      have hX0 : VarB ((w3.alloc (Obj.cells #[u0, u1, u2, u3, u4, u5, u6] 39)).alloc (Obj.cells #[.int .i64 0, .string ⟨#[]⟩, .string ⟨#[]⟩, .int .i64 0, .int .i64 0, .string ⟨#[]⟩, .slice none 0 0] 39)) (w3.heap.size + 1) zEv := by have := VarB.new (w3.alloc (Obj.cells #[u0, u1, u2, u3, u4, u5, u6] 39)) zEv 39; rw [World.size_alloc] at this; exact this
      have E10 : Env w a l m (d + 1) σ σ3 zEv ((w3.alloc (Obj.cells #[u0, u1, u2, u3, u4, u5, u6] 39)).alloc (Obj.cells #[.int .i64 0, .string ⟨#[]⟩, .string ⟨#[]⟩, .int .i64 0, .int .i64 0, .string ⟨#[]⟩, .slice none 0 0] 39)) := (E3.alloc _).alloc _
      have haB : a < (w3.heap.size + 1) := by have := E0.lt; omega
      go_wp2_with (first | ((with_reducible refine wp_putB hX0 hL0 ?_ ?_ ?_ ?_ ?_); (rfl); (exact infoE); (rfl); (rfl); intro w11 hX1 hw11; simp only [Act.put]; (have E11 : Env w a l m (d + 1) σ σ3 zEv w11 := (by rw [hw11.out]; exact E10.puts 0 _ hwB)); (have cc := E11.rd.cells); (have c2 : w11.cell? ⟨a, 2, none⟩ = some (.int .i64 ((d : Int) + 1)) := cc.2.2.1); (have f2 := cc.2.2.2.1); (have d5 := cc.2.2.2.2); (have hL1 : LsAt w11 (frx (w.heap.size + 1) (w3.heap.size + 1)) (exL 6 [] [] zV (rL [y])) [.int .i64 6, .string ⟨#[]⟩, .string ⟨#[]⟩, .int .i64 0, .int .i64 0, .string ⟨#[]⟩, .slice (some ⟨w3.heap.size, 0, none⟩) 1 1] := (by rw [hw11.out]; exact hL0.putsx)); (have E12 := E11.undeep (x := (d : Int)) rfl); (have hX2 := hX1.own (a := a) (o := 2) haB (.int .i64 (d : Int))); (have hL2 := (hL1.own (a := a) (o := 2) (Nat.lt_succ_of_lt E0.lt) (.int .i64 (d : Int))).unx)) | ((with_reducible refine wp_getB hX2 Tryz.underlying39 ?_ ?_ ?_ ?_); (rfl); (exact infoE); (rfl)) | ((with_reducible refine wp_putB E12.res hL2 ?_ ?_ ?_ ?_ ?_); (rfl); (exact infoE); (rfl); (rfl); intro w0 hV0 hw0; simp only [Act.put]) | fail)
      cases hM.out.symm.trans hE.out
      exact end_blk hV0 rfl rfl _ Tryz.underlying39 rfl infoE rfl (E12.fin hL2 rfl hw0.out)
    · obtain ⟨⟨y, σ3⟩, h3⟩ : ∃ z, operandP l σ = z := ⟨_, rfl⟩
      have hE : factorP l m (n + 1) d σ = (y, σ3) := by simp only [factorP, hv, hb, hc, h3, if_false, Bool.false_eq_true]
      replace hE := hid0 hE
      replace h3 := hid0 h3
      replace hv := hid0 hv
      replace hb := hid0 hb
      replace hc := hid0 hc
      go_wp2_with fail
      go_at_call 90
      refine (paValued_at hv E0.rd).mono ?_
      rintro e w10 ⟨rfl, hS0⟩
      have E01 := E0.step hS0
      clear hS0
      go_wp2_with fail
      go_at_call 17
      refine (paTake_no [40] E01.rd hb.out).mono ?_
      rintro e w11 ⟨rfl, hS1⟩
      have E02 := E01.step hS1
      clear hS1
      go_wp2_with fail
      go_at_call 17
      refine (paTake_no [45] E02.rd hc.out).mono ?_
      rintro e w12 ⟨rfl, hS1⟩
      have E1 := E02.step hS1
      clear hS1
      go_wp2_with fail
      go_at_call 91
      refine (Ans.at_ h3 (paOperand_any E1.rd)).mono ?_
      rintro e w3 ⟨us, hl, rfl, hA, hS3⟩
      obtain ⟨u0, u1, u2, u3, u4, u5, u6, rfl⟩ := len7 hl
      have hL2 := E1.leaf hA
      have E3 := E1.step hS3
      go_wp2_with (first | ((with_reducible refine wp_putB E3.res hL2 ?_ ?_ ?_ ?_ ?_); (rfl); (exact infoE); (rfl); (rfl); intro w0 hV0 hw0; simp only [Act.put]) | fail)
      cases hM.out.symm.trans hE.out
      exact end_blk hV0 rfl rfl _ Tryz.underlying39 rfl infoE rfl (E3.fin hL2 rfl hw0.out)
/-- An expression. -/
theorem paExpr_any {w : World} {a : Nat} {l : List Wd} {m : Int} {d : Nat} {σ : PS} (hR : Rd w a l m d σ) :
    Calls Tryz.prog 63 #[.pointer (some ⟨a, 0, none⟩)] w (Ans w a l m d σ 7 (exprP l m d σ).1 (exprP l m d σ).2) :=
  paExpr_of (n := l.length + 1) (paFactor_all _) hR (by omega)
end Go.Proofs.YtneebnankghhgacGreatDoor

/- The project's parser: an operator, a comparison: contracts of the calls, in whatever memory that holds a reader. Conditions: none besides. -/
namespace Go.Proofs.YtneebnankghhgacGreatDoor
open Go.RowKit

/-- An append in a region that draws its order. -/
theorem wp_growR {P : Program} {w : World} {ops : Array Oper} {o : Oper} {a : Act} {K : Act → World → Prop} {Q : Exit → Act → World → Prop} {X : Prop} (hgd : o.guard = none) (s x : Operand) (t : TypeId)
    (ho : o.op = .call { callee := .builtin .append, args := #[s, x], argTypes := #[t, t] })
    (base : Nat) (ty : TypeId) (i : TypeInfo) (z : Value) (k bytes : Nat) (ht : P.underlying t = some (.slice ty)) (hi : P.info? ty = some i) (hz : i.zero = some z)
    (hsize : i.size = k) (hby : i.bytes = bytes) (hzs : z.cells.size = k) (hsz : 0 < k)
    (v : Value) (n : Nat) (xs : List Lf) (hs : a.eval s = v) (hown : GrowR w base ty k v n xs)
    (B c : Nat) (ys : List Lf) (us : List Value) (hx : a.eval x = .slice (some ⟨B, 0, none⟩) 1 c) (hl : us.length = k) (hnews : ∀ (j : Nat) (u : Value), us[j]? = some u → w.cell? ⟨B, j, none⟩ = some u)
    (lo : Nat) (hys : LsAt w (fr lo) ys us) (hlo : base ≤ lo) (hfar : ∀ g, v.ownBlock = some g → g < lo)
    (hbytes : (n + 1) * bytes ≤ 140737488355328) (h63 : n + 1 ≤ maxLen) (hbase : base ≤ w.heap.size)
    (h : ∀ v' w', GrowR w' base ty k v' (n + 1) (xs ++ ys) → (∀ y : World, (∀ a, Onl a y w → y.heap.size ≤ base → Onl a y w')) → Below base w w' → w.grownBy w' v.ownBlock → K (a.put o.dst v') w') :
    if Region.wanted o (yielded ops a.tmps) = true then Oper.wp P o a w K Q else X := by
  have hw : Region.wanted o (yielded ops a.tmps) = true := by simp [Region.wanted, hgd]
  rw [if_pos hw]
  obtain ⟨olds, h1, h2⟩ := hown
  obtain ⟨v', w', hr, hown', hg, _, hblk⟩ := run_append_own_at (P := P) w base t o.type ty i z k bytes ht hi hz hsize hby hzs hsz v n olds h1 ⟨B, 0, none⟩ 1 c us (by omega) (fun j u hj => by rw [WideShapes.add_plain, Nat.zero_add]; exact hnews j u hj) hys.one h63 hbytes hbase
  unfold Oper.wp execOp
  simp only [ho, resolve, invoke, builtin, Sem.run_bind, Sem.run_pure, Result.andThen_ok, List.map_toArray, List.map_cons, List.map_nil, hs, hx, hr]
  have hne : ∀ b, b < w.heap.size → some b ≠ v.ownBlock → some b ≠ v'.ownBlock := fun b hb hn => by
    rcases hblk with e | e
    · rw [e]; exact hn
    · rw [e]; simp; omega
  refine h v' w' ⟨olds ++ us, hown', (h2.keep (fun b hb hlt => ⟨⟨hb.1, hne b hlt hb.2⟩, hg.block b hlt hb.2⟩) hg.size).app (hys.keep (fun b (hb : lo ≤ b) hlt => ?_) hg.size)⟩ (fun y a ho hy => ho.grown hg (fun k hk => by have := (h1.lt k hk).1; omega)) ((Below.refl _ _).grown hg hbase (fun k hk => (h1.lt k hk).1)) hg
  have hn : some b ≠ v.ownBlock := fun e => by have := hfar b e.symm; omega
  exact ⟨⟨by omega, hne b hlt hn⟩, hg.block b hlt hn⟩
/-- A struct goes into the middle of a block. -/
theorem wp_putM {P : Program} {ops : Array Oper} {rest : List Oper} {a : Act} {w : World} {Q : Exit → Act → World → Prop} {B : Nat} {us vs : List Value} {R : Nat → Prop} {xs : List Lf} {ty tt : TypeId} {x y : Operand} {pos : String} {af : Array Edge} (hV : VarB w B us) (hL : LsAt w R xs vs) (o : Nat) (hl : o + vs.length ≤ us.length)
    (hi : (P.info? ty).map (·.size) = some vs.length) (hx : a.eval x = .pointer (some ⟨B, o, none⟩)) (hy : a.eval y = .agg vs.toArray)
    (h : ∀ w', VarB w' B (us.take o ++ (vs ++ us.drop (o + vs.length))) → Hid (w' = w.setCells B o vs) → wpList P ops Q rest (a.put none undef) w') : wpList P ops Q (⟨none, .store ty x y, tt, pos, af, none⟩ :: rest) a w := by
  have ht : w.there B o vs.length := fun j hj => by have := hV.there (o + j) (by omega); rwa [Nat.zero_add] at this
  refine wpList_store_mid rfl ty x y rfl B o vs.toArray hx hy (by simpa using ht) (by simpa using hi) (all_oneCell_toArray hL.one) (h _ ?_ (hid0 rfl))
  have hlen : (us.take o ++ (vs ++ us.drop (o + vs.length))).length = us.length := by simp; omega
  refine ⟨fun j v hv => ?_, by rw [hlen]; exact World.there_setCells hV.there B o vs, by rw [size_setCells]; exact hV.lt⟩
  have hto : (us.take o).length = o := by simp; omega
  rw [Nat.zero_add]
  rcases Nat.lt_or_ge j o with h1 | h1
  · rw [List.getElem?_append_left (by omega), List.getElem?_take, if_pos h1] at hv
    rw [World.cell?_setCells_out B vs o w ⟨B, j, none⟩ (fun _ _ => .inl h1)]
    exact hV.cell j hv
  · rw [List.getElem?_append_right (by omega), hto] at hv
    rcases Nat.lt_or_ge (j - o) vs.length with h2 | h2
    · rw [List.getElem?_append_left h2] at hv
      have := World.rangeAt_setCells_same w B o vs ht (j - o) v hv
      rwa [show o + (j - o) = j by omega] at this
    · rw [List.getElem?_append_right h2, List.getElem?_drop] at hv
      rw [World.cell?_setCells_out B vs o w ⟨B, j, none⟩ (fun _ _ => .inr (by show o + vs.length ≤ j; omega))]
      refine hV.cell j ?_
      rw [← hv]
      congr 1
      omega
theorem Step.step {w w1 w2 : World} {a : Nat} {l : List Wd} {m : Int} {d d' : Nat} {σ σ1 σ2 : PS} (h : Step w a l m d σ σ1 w1) (k : Step w1 a l m d' σ1 σ2 w2) : Step w a l m d' σ σ2 w2 := h.trans k
theorem len17 {us : List Value} (h : us.length = 17) : ∃ u0 u1 u2 u3 u4 u5 u6 u7 u8 u9 u10 u11 u12 u13 u14 u15 u16, us = [u0, u1, u2, u3, u4, u5, u6, u7, u8, u9, u10, u11, u12, u13, u14, u15, u16] := by
  match us, h with
  | [u0, u1, u2, u3, u4, u5, u6, u7, u8, u9, u10, u11, u12, u13, u14, u15, u16], _ => exact ⟨_, _, _, _, _, _, _, _, _, _, _, _, _, _, _, _, _, rfl⟩
theorem LsAt.zC (w : World) (P : Nat → Prop) : LsAt w P zC [.int .i64 0, .int .i64 0, .int .i64 0, .string ⟨#[]⟩, .string ⟨#[]⟩, .int .i64 0, .int .i64 0, .string ⟨#[]⟩, .slice none 0 0, .int .i64 0, .string ⟨#[]⟩, .string ⟨#[]⟩, .int .i64 0, .int .i64 0, .string ⟨#[]⟩, .slice none 0 0, .slice none 0 0] := .co rfl rfl (.zE _ _) (.zE _ _) (.nil _ _)

theorem paFault_at {w : World} {a : Nat} {l : List Wd} {m : Int} {d : Nat} {σ σ' : PS} (k : Nat) {x : Int} (h : Hid (faultP l k σ = σ')) (hR : Rd w a l m d σ) (hk : 0 < k ∧ k < 20 ∧ x = (k : Int)) :
    Calls Tryz.prog 27 #[.pointer (some ⟨a, 0, none⟩), .int .i64 x] w fun e w' => e = .returned (.tuple #[]) ∧ Step w a l m d σ σ' w' := by
  have := paFault_any k x hR hk
  rw [h.out] at this
  exact this
set_option maxRecDepth 100000 in
set_option maxHeartbeats 2000000 in
theorem paOp_at {w : World} {a : Nat} {l : List Wd} {m : Int} {d : Nat} {σ : PS} {n : Nat} {σ' : PS} (hM : Hid (opP l σ = (n, σ'))) (hR : Rd w a l m d σ) :
    Calls Tryz.prog 93 #[.pointer (some ⟨a, 0, none⟩)] w fun e w' => e = .returned (.int .i64 (n : Int)) ∧ Step w a l m d σ σ' w' := by
  have E0 := Step.refl hR
  go_enter Tryz.func93, Tryz.ntmps93
  rcases Bool.eq_false_or_eq_true (isP l [61] σ) with h1 | h1
  · replace h1 := hid0 h1
    go_wp2_with fail
    go_at_call 17
    refine (paTake_yes [61] E0.rd h1.out).mono ?_
    rintro e w1 ⟨rfl, hS⟩
    have E1 := E0.step hS
    clear hS
    go_wp2_with fail
    have hE : opP l σ = (1, (⟨σ.i + 1, σ.e⟩ : PS)) := by simp only [opP, h1.out, if_true]
    cases hM.out.symm.trans hE
    go_ret
    exact ⟨rfl, E1⟩
  · replace h1 := hid0 h1
    go_wp2_with fail
    go_at_call 17
    refine (paTake_no [61] E0.rd h1.out).mono ?_
    rintro e w1 ⟨rfl, hS⟩
    have E1 := E0.step hS
    clear hS
    rcases Bool.eq_false_or_eq_true (isP l [60, 62] σ) with h3 | h3
    · replace h3 := hid0 h3
      go_wp2_with fail
      go_at_call 17
      refine (paTake_yes [60, 62] E1.rd h3.out).mono ?_
      rintro e w2 ⟨rfl, hS⟩
      have E2 := E1.step hS
      clear hS
      go_wp2_with fail
      have hE : opP l σ = (2, (⟨σ.i + 1, σ.e⟩ : PS)) := by simp only [opP, h1.out, h3.out, Bool.false_eq_true, if_false, if_true]
      cases hM.out.symm.trans hE
      go_ret
      exact ⟨rfl, E2⟩
    · replace h3 := hid0 h3
      go_wp2_with fail
      go_at_call 17
      refine (paTake_no [60, 62] E1.rd h3.out).mono ?_
      rintro e w2 ⟨rfl, hS⟩
      have E2 := E1.step hS
      clear hS
      rcases Bool.eq_false_or_eq_true (isP l [60] σ) with h5 | h5
      · replace h5 := hid0 h5
        go_wp2_with fail
        go_at_call 17
        refine (paTake_yes [60] E2.rd h5.out).mono ?_
        rintro e w3 ⟨rfl, hS⟩
        have E3 := E2.step hS
        clear hS
        go_wp2_with fail
        have hE : opP l σ = (3, (⟨σ.i + 1, σ.e⟩ : PS)) := by simp only [opP, h1.out, h3.out, h5.out, Bool.false_eq_true, if_false, if_true]
        cases hM.out.symm.trans hE
        go_ret
        exact ⟨rfl, E3⟩
      · replace h5 := hid0 h5
        go_wp2_with fail
        go_at_call 17
        refine (paTake_no [60] E2.rd h5.out).mono ?_
        rintro e w3 ⟨rfl, hS⟩
        have E3 := E2.step hS
        clear hS
        rcases Bool.eq_false_or_eq_true (isP l [60, 61] σ) with h7 | h7
        · replace h7 := hid0 h7
          go_wp2_with fail
          go_at_call 17
          refine (paTake_yes [60, 61] E3.rd h7.out).mono ?_
          rintro e w4 ⟨rfl, hS⟩
          have E4 := E3.step hS
          clear hS
          go_wp2_with fail
          have hE : opP l σ = (4, (⟨σ.i + 1, σ.e⟩ : PS)) := by simp only [opP, h1.out, h3.out, h5.out, h7.out, Bool.false_eq_true, if_false, if_true]
          cases hM.out.symm.trans hE
          go_ret
          exact ⟨rfl, E4⟩
        · replace h7 := hid0 h7
          go_wp2_with fail
          go_at_call 17
          refine (paTake_no [60, 61] E3.rd h7.out).mono ?_
          rintro e w4 ⟨rfl, hS⟩
          have E4 := E3.step hS
          clear hS
          rcases Bool.eq_false_or_eq_true (isP l [62] σ) with h9 | h9
          · replace h9 := hid0 h9
            go_wp2_with fail
            go_at_call 17
            refine (paTake_yes [62] E4.rd h9.out).mono ?_
            rintro e w5 ⟨rfl, hS⟩
            have E5 := E4.step hS
            clear hS
            go_wp2_with fail
            have hE : opP l σ = (5, (⟨σ.i + 1, σ.e⟩ : PS)) := by simp only [opP, h1.out, h3.out, h5.out, h7.out, h9.out, Bool.false_eq_true, if_false, if_true]
            cases hM.out.symm.trans hE
            go_ret
            exact ⟨rfl, E5⟩
          · replace h9 := hid0 h9
            go_wp2_with fail
            go_at_call 17
            refine (paTake_no [62] E4.rd h9.out).mono ?_
            rintro e w5 ⟨rfl, hS⟩
            have E5 := E4.step hS
            clear hS
            rcases Bool.eq_false_or_eq_true (isP l [62, 61] σ) with h11 | h11
            · replace h11 := hid0 h11
              go_wp2_with fail
              go_at_call 17
              refine (paTake_yes [62, 61] E5.rd h11.out).mono ?_
              rintro e w6 ⟨rfl, hS⟩
              have E6 := E5.step hS
              clear hS
              go_wp2_with fail
              have hE : opP l σ = (6, (⟨σ.i + 1, σ.e⟩ : PS)) := by simp only [opP, h1.out, h3.out, h5.out, h7.out, h9.out, h11.out, Bool.false_eq_true, if_false, if_true]
              cases hM.out.symm.trans hE
              go_ret
              exact ⟨rfl, E6⟩
            · replace h11 := hid0 h11
              go_wp2_with fail
              go_at_call 17
              refine (paTake_no [62, 61] E5.rd h11.out).mono ?_
              rintro e w6 ⟨rfl, hS⟩
              have E6 := E5.step hS
              clear hS
              obtain ⟨σ13, h13⟩ : ∃ x, faultP l 4 σ = x := ⟨_, rfl⟩
              replace h13 := hid0 h13
              go_wp2_with fail
              go_at_call 27
              refine (paFault_at 4 h13 E6.rd (by decide)).mono ?_
              rintro e w7 ⟨rfl, hS⟩
              have E7 := E6.step hS
              clear hS
              go_wp2_with fail
              have hE : opP l σ = (0, σ13) := by simp only [opP, h1.out, h3.out, h5.out, h7.out, h9.out, h11.out, h13.out, Bool.false_eq_true, if_false]
              cases hM.out.symm.trans hE
              go_ret
              exact ⟨rfl, E7⟩
set_option maxRecDepth 100000 in
set_option maxHeartbeats 8000000 in
theorem paCompared_any {w : World} {a : Nat} {l : List Wd} {m : Int} {d : Nat} {σ : PS} (hR : Rd w a l m d σ) :
    Calls Tryz.prog 89 #[.pointer (some ⟨a, 0, none⟩)] w (Ans w a l m d σ 17 (comparedP l σ).1 (comparedP l σ).2) := by
  have E0 := hR.start zCv 42
  obtain ⟨⟨x, τ⟩, hM⟩ : ∃ y, comparedP l σ = y := ⟨_, rfl⟩
  rw [hM]
  dsimp only
  obtain ⟨⟨y, σ1⟩, h1⟩ : ∃ y, operandP l σ = y := ⟨_, rfl⟩
  unfold comparedP at hM
  rw [h1] at hM
  dsimp only at hM
  replace hM := hid0 hM
  replace h1 := hid0 h1
  go_enter Tryz.func89, Tryz.ntmps89
  go_wp2_with fail
  go_at_call 91
  refine (Ans.at_ h1 (paOperand_any E0.rd)).mono ?_
  rintro e w1 ⟨us, hl, rfl, hA, hS1⟩
  obtain ⟨u0, u1, u2, u3, u4, u5, u6, rfl⟩ := len7 hl
  clear hl
  have hwB : w.heap.size < w1.heap.size := (E0.step hS1).z
  have haB : a < w1.heap.size := Nat.lt_trans E0.lt hwB
  have han : a < w.heap.size + 1 := Nat.lt_succ_of_lt E0.lt
  have hA0 := (E0.leaf hA).allocx (Obj.cells #[.int .i64 0, .int .i64 0, .int .i64 0, .string ⟨#[]⟩, .string ⟨#[]⟩, .int .i64 0, .int .i64 0, .string ⟨#[]⟩, .slice none 0 0, .int .i64 0, .string ⟨#[]⟩, .string ⟨#[]⟩, .int .i64 0, .int .i64 0, .string ⟨#[]⟩, .slice none 0 0, .slice none 0 0] 42)
  have hL0 : LsAt (w1.alloc (Obj.cells #[.int .i64 0, .int .i64 0, .int .i64 0, .string ⟨#[]⟩, .string ⟨#[]⟩, .int .i64 0, .int .i64 0, .string ⟨#[]⟩, .slice none 0 0, .int .i64 0, .string ⟨#[]⟩, .string ⟨#[]⟩, .int .i64 0, .int .i64 0, .string ⟨#[]⟩, .slice none 0 0, .slice none 0 0] 42)) (frx (w.heap.size + 1) w1.heap.size) (coL 0 0 y zE nL) [.int .i64 0, .int .i64 0, u0, u1, u2, u3, u4, u5, u6, .int .i64 0, .string ⟨#[]⟩, .string ⟨#[]⟩, .int .i64 0, .int .i64 0, .string ⟨#[]⟩, .slice none 0 0, .slice none 0 0] := .co rfl rfl hA0 (.zE _ _) (.nil _ _)
  have hX0 : VarB (w1.alloc (Obj.cells #[.int .i64 0, .int .i64 0, .int .i64 0, .string ⟨#[]⟩, .string ⟨#[]⟩, .int .i64 0, .int .i64 0, .string ⟨#[]⟩, .slice none 0 0, .int .i64 0, .string ⟨#[]⟩, .string ⟨#[]⟩, .int .i64 0, .int .i64 0, .string ⟨#[]⟩, .slice none 0 0, .slice none 0 0] 42)) w1.heap.size zCv := VarB.new w1 zCv 42
  have E10 := (E0.step hS1).alloc (Obj.cells #[.int .i64 0, .int .i64 0, .int .i64 0, .string ⟨#[]⟩, .string ⟨#[]⟩, .int .i64 0, .int .i64 0, .string ⟨#[]⟩, .slice none 0 0, .int .i64 0, .string ⟨#[]⟩, .string ⟨#[]⟩, .int .i64 0, .int .i64 0, .string ⟨#[]⟩, .slice none 0 0, .slice none 0 0] 42)
  clear hA hS1
  go_wp2_with (first | ((with_reducible refine wp_putB hX0 hL0 ?_ ?_ ?_ ?_ ?_); (rfl); (exact infoC); (rfl); (rfl); intro w11 hX1 hw11; simp only [Act.put]) | fail)
  have E1 : Env w a l m d σ σ1 zCv w11 := by rw [hw11.out]; exact E10.puts 0 _ hwB
  have hA1 : LsAt w11 (frx (w.heap.size + 1) w1.heap.size) y [u0, u1, u2, u3, u4, u5, u6] := by rw [hw11.out]; exact hA0.putsx
  obtain ⟨B, hBB⟩ : ∃ B, w1.heap.size = B := ⟨_, rfl⟩
  rw [hBB] at hwB haB hA1 hX1 ⊢
  replace hBB := hid0 hBB
  clear hA0 hL0 hX0 E10 hw11
  rcases Bool.eq_false_or_eq_true (isP l [105, 115] σ1) with hb | hb
  · replace hb := hid0 hb
    go_at_call 17
    refine (paTake_yes [105, 115] E1.rd hb.out).mono ?_
    rintro e w2 ⟨rfl, hS2⟩
    replace hX1 := hX1.later hS2.onl haB
    replace hA1 := hA1.laterx hS2.onl han
    have E2 := E1.step hS2
    clear hS2
    have c0 := hX1.cell 0 rfl
    have f0 := hX1.frz 0 (by simp)
    have hX2 : VarB (w2.setCell ⟨B, 0, none⟩ (.int .i64 2)) B [.int .i64 2, .int .i64 0, u0, u1, u2, u3, u4, u5, u6, .int .i64 0, .string ⟨#[]⟩, .string ⟨#[]⟩, .int .i64 0, .int .i64 0, .string ⟨#[]⟩, .slice none 0 0, .slice none 0 0] := hX1.set (i := 0) (.int .i64 2) (by simp)
    have hA2 : LsAt (w2.setCell ⟨B, 0, none⟩ (.int .i64 2)) (frx (w.heap.size + 1) B) y [u0, u1, u2, u3, u4, u5, u6] := hA1.putsx (o := 0) (vs := [.int .i64 2])
    have E3 := E2.set 0 (.int .i64 2) hwB
    go_wp2_with fail
    rcases Bool.eq_false_or_eq_true (isP l [110, 111, 116] ⟨σ1.i + 1, σ1.e⟩) with hc | hc
    · replace hc := hid0 hc
      go_at_call 17
      refine (paTake_yes [110, 111, 116] E3.rd hc.out).mono ?_
      rintro e w3 ⟨rfl, hS3⟩
      replace hX2 := hX2.later hS3.onl haB
      replace hA2 := hA2.laterx hS3.onl han
      have E4 := E3.step hS3
      clear hS3
      have c3 := hX2.cell 0 rfl
      have f3 := hX2.frz 0 (by simp)
      have hX3 : VarB (w3.setCell ⟨B, 0, none⟩ (.int .i64 3)) B [.int .i64 3, .int .i64 0, u0, u1, u2, u3, u4, u5, u6, .int .i64 0, .string ⟨#[]⟩, .string ⟨#[]⟩, .int .i64 0, .int .i64 0, .string ⟨#[]⟩, .slice none 0 0, .slice none 0 0] := hX2.set (i := 0) (.int .i64 3) (by simp)
      have hA3 : LsAt (w3.setCell ⟨B, 0, none⟩ (.int .i64 3)) (frx (w.heap.size + 1) B) y [u0, u1, u2, u3, u4, u5, u6] := hA2.putsx (o := 0) (vs := [.int .i64 3])
      have E5 := E4.set 0 (.int .i64 3) hwB
      obtain ⟨σ6, h6⟩ : ∃ z, need1 l [110, 117, 108, 108] ⟨σ1.i + 2, σ1.e⟩ = z := ⟨_, rfl⟩
      replace h6 := hid0 h6
      go_wp2_with fail
      go_at_call 24
      refine (paNeed1_B h6 _ w3.heap.size (by simp) E5.rd).mono ?_
      rintro e w6 ⟨rfl, hS6⟩
      replace hX3 := hX3.later hS6.onl haB
      have hL3 : LsAt w6 (fr (w.heap.size + 1)) (coL 3 0 y zE nL) [.int .i64 3, .int .i64 0, u0, u1, u2, u3, u4, u5, u6, .int .i64 0, .string ⟨#[]⟩, .string ⟨#[]⟩, .int .i64 0, .int .i64 0, .string ⟨#[]⟩, .slice none 0 0, .slice none 0 0] := .co rfl rfl (hA3.laterx hS6.onl han).unx (.zE _ _) (.nil _ _)
      have E6 := E5.step hS6
      go_wp2_with (first | ((with_reducible refine wp_getB hX3 Tryz.underlying42 ?_ ?_ ?_ ?_); (rfl); (exact infoC); (rfl)) | ((with_reducible refine wp_putB E6.res hL3 ?_ ?_ ?_ ?_ ?_); (rfl); (exact infoC); (rfl); (rfl); intro w0 hV0 hw0; simp only [Act.put]) | fail)
      have hE : compP l y σ1 = (coL 3 0 y zE nL, σ6) := by simp only [compP, hb.out, hc.out, h6.out, if_true]
      cases hM.out.symm.trans hE
      exact end_blk hV0 rfl rfl _ Tryz.underlying42 rfl infoC rfl (E6.fin hL3 rfl hw0.out)
    · replace hc := hid0 hc
      go_at_call 17
      refine (paTake_no [110, 111, 116] E3.rd hc.out).mono ?_
      rintro e w3 ⟨rfl, hS3⟩
      replace hX2 := hX2.later hS3.onl haB
      replace hA2 := hA2.laterx hS3.onl han
      have E5 := E3.step hS3
      clear hS3
      obtain ⟨σ6, h6⟩ : ∃ z, need1 l [110, 117, 108, 108] ⟨σ1.i + 1, σ1.e⟩ = z := ⟨_, rfl⟩
      replace h6 := hid0 h6
      go_wp2_with fail
      go_at_call 24
      refine (paNeed1_at h6 _ E5.rd).mono ?_
      rintro e w6 ⟨rfl, hS6⟩
      replace hX2 := hX2.later hS6.onl haB
      have hL3 : LsAt w6 (fr (w.heap.size + 1)) (coL 2 0 y zE nL) [.int .i64 2, .int .i64 0, u0, u1, u2, u3, u4, u5, u6, .int .i64 0, .string ⟨#[]⟩, .string ⟨#[]⟩, .int .i64 0, .int .i64 0, .string ⟨#[]⟩, .slice none 0 0, .slice none 0 0] := .co rfl rfl (hA2.laterx hS6.onl han).unx (.zE _ _) (.nil _ _)
      have E6 := E5.step hS6
      go_wp2_with (first | ((with_reducible refine wp_getB hX2 Tryz.underlying42 ?_ ?_ ?_ ?_); (rfl); (exact infoC); (rfl)) | ((with_reducible refine wp_putB E6.res hL3 ?_ ?_ ?_ ?_ ?_); (rfl); (exact infoC); (rfl); (rfl); intro w0 hV0 hw0; simp only [Act.put]) | fail)
      have hE : compP l y σ1 = (coL 2 0 y zE nL, σ6) := by simp only [compP, hb.out, hc.out, h6.out, if_true, if_false, Bool.false_eq_true]
      cases hM.out.symm.trans hE
      exact end_blk hV0 rfl rfl _ Tryz.underlying42 rfl infoC rfl (E6.fin hL3 rfl hw0.out)
  · replace hb := hid0 hb
    go_at_call 17
    refine (paTake_no [105, 115] E1.rd hb.out).mono ?_
    rintro e w2 ⟨rfl, hS2⟩
    replace hX1 := hX1.later hS2.onl haB
    replace hA1 := hA1.laterx hS2.onl han
    have E2 := E1.step hS2
    clear hS2
    have c0 := hX1.cell 0 rfl
    have f0 := hX1.frz 0 (by simp)
    have hX2 : VarB (w2.setCell ⟨B, 0, none⟩ (.int .i64 1)) B [.int .i64 1, .int .i64 0, u0, u1, u2, u3, u4, u5, u6, .int .i64 0, .string ⟨#[]⟩, .string ⟨#[]⟩, .int .i64 0, .int .i64 0, .string ⟨#[]⟩, .slice none 0 0, .slice none 0 0] := hX1.set (i := 0) (.int .i64 1) (by simp)
    have hA2 : LsAt (w2.setCell ⟨B, 0, none⟩ (.int .i64 1)) (frx (w.heap.size + 1) B) y [u0, u1, u2, u3, u4, u5, u6] := hA1.putsx (o := 0) (vs := [.int .i64 1])
    have E3 := E2.set 0 (.int .i64 1) hwB
    obtain ⟨⟨o, σ4⟩, h4⟩ : ∃ z, opP l σ1 = z := ⟨_, rfl⟩
    replace h4 := hid0 h4
    go_wp2_with fail
    go_at_call 93
    refine (paOp_at h4 E3.rd).mono ?_
    rintro e w4 ⟨rfl, hS4⟩
    replace hX2 := hX2.later hS4.onl haB
    replace hA2 := hA2.laterx hS4.onl han
    have E4 := E3.step hS4
    clear hS4
    have c4 := hX2.cell 1 rfl
    have f4 := hX2.frz 1 (by simp)
    have hX3 : VarB (w4.setCell ⟨B, 1, none⟩ (.int .i64 (o : Int))) B [.int .i64 1, .int .i64 (o : Int), u0, u1, u2, u3, u4, u5, u6, .int .i64 0, .string ⟨#[]⟩, .string ⟨#[]⟩, .int .i64 0, .int .i64 0, .string ⟨#[]⟩, .slice none 0 0, .slice none 0 0] := hX2.set (i := 1) (.int .i64 (o : Int)) (by simp)
    have hA3 : LsAt (w4.setCell ⟨B, 1, none⟩ (.int .i64 (o : Int))) (frx (w.heap.size + 1) B) y [u0, u1, u2, u3, u4, u5, u6] := hA2.putsx (o := 1) (vs := [.int .i64 (o : Int)])
    have E5 := E4.set 1 (.int .i64 (o : Int)) hwB
    obtain ⟨⟨z, σ6⟩, h6⟩ : ∃ z, operandP l σ4 = z := ⟨_, rfl⟩
    replace h6 := hid0 h6
    go_wp2_with fail
    go_at_call 91
    refine (Ans.at_ h6 (paOperand_any E5.rd)).mono ?_
    rintro e w6 ⟨vs, hl, rfl, hA6, hS6⟩
    obtain ⟨v0, v1, v2, v3, v4, v5, v6, rfl⟩ := len7 hl
    clear hl
    replace hX3 := hX3.later hS6.onl haB
    have hA4 := hA3.laterx hS6.onl han
    have E6 := E5.step hS6
    have hz5 := E5.z
    have hBlt : B < (w4.setCell ⟨B, 1, none⟩ (.int .i64 (o : Int))).heap.size := (hX2.set (i := 1) (.int .i64 (o : Int)) (by simp)).lt
    have hB6 := hA6.tox (B := B) (n := w.heap.size + 1) hBlt hz5
    clear hA6 hS6
    go_wp2_with (first | ((with_reducible refine wp_putM hX3 hB6 9 ?_ ?_ ?_ ?_ ?_); (simp); (exact infoE); (rfl); (rfl); intro w7 hX7 hw7; simp only [Act.put]; (have hX8 : VarB w7 B [.int .i64 1, .int .i64 (o : Int), u0, u1, u2, u3, u4, u5, u6, v0, v1, v2, v3, v4, v5, v6, .slice none 0 0] := hX7); (have hA7 : LsAt w7 (frx (w.heap.size + 1) B) y [u0, u1, u2, u3, u4, u5, u6] := (by rw [hw7.out]; exact hA4.putsx)); (have hB7 : LsAt w7 (frx (w.heap.size + 1) B) z [v0, v1, v2, v3, v4, v5, v6] := (by rw [hw7.out]; exact hB6.putsx)); (have E7 : Env w a l m d σ σ6 zCv w7 := (by rw [hw7.out]; exact E6.puts 9 _ hwB)); (have hL7 : LsAt w7 (fr (w.heap.size + 1)) (coL 1 o y z nL) [.int .i64 1, .int .i64 (o : Int), u0, u1, u2, u3, u4, u5, u6, v0, v1, v2, v3, v4, v5, v6, .slice none 0 0] := .co rfl rfl hA7.unx hB7.unx (.nil _ _))) | ((with_reducible refine wp_getB hX8 Tryz.underlying42 ?_ ?_ ?_ ?_); (rfl); (exact infoC); (rfl)) | ((with_reducible refine wp_putB E7.res hL7 ?_ ?_ ?_ ?_ ?_); (rfl); (exact infoC); (rfl); (rfl); intro w0 hV0 hw0; simp only [Act.put]) | fail)
    have hE : compP l y σ1 = (coL 1 o y z nL, σ6) := by simp only [compP, hb.out, h4.out, h6.out, if_false, Bool.false_eq_true]
    cases hM.out.symm.trans hE
    exact end_blk hV0 rfl rfl _ Tryz.underlying42 rfl infoC rfl (E7.fin hL7 rfl hw0.out)
end Go.Proofs.YtneebnankghhgacGreatDoor

/- The project's parser: conditions joined by and, over any contract of one: a contract of the call. Conditions: the one's contract. -/
namespace Go.Proofs.YtneebnankghhgacGreatDoor
open Go.RowKit

/-- A row that grows, all whose blocks are such as P says. -/
def GrowP (w : World) (base : Nat) (P : Nat → Prop) (ty : TypeId) (k : Nat) (v : Value) (n : Nat) (xs : List Lf) : Prop :=
  ∃ us, w.ownsRow base ty k v n us ∧ LsAt w (fun b => P b ∧ some b ≠ v.ownBlock) xs us ∧ ∀ g, v.ownBlock = some g → P g
section
variable {w w' : World} {base : Nat} {P : Nat → Prop} {ty : TypeId} {k : Nat} {v : Value} {n : Nat} {xs : List Lf} {us : List Value}
theorem GrowP.later {a : Nat} (h : GrowP w base P ty k v n xs) (ho : Onl a w w') (ha : ¬ P a) : GrowP w' base P ty k v n xs := by
  obtain ⟨us, h1, h2, h3⟩ := h
  refine ⟨us, h1.kept ho ?_, h2.keep (fun b hb hlt => ⟨hb, ho.block b hlt (fun e => ha (by cases e; exact hb.1))⟩) ho.size, h3⟩
  cases hv : v.ownBlock with
  | none => exact .inl rfl
  | some g => exact .inr (fun e => ha ((show g = a by simpa using e) ▸ h3 g hv))
theorem GrowP.drew (h : GrowP w base P ty k v n xs) : GrowP w.drew base P ty k v n xs := by
  obtain ⟨us, h1, h2, h3⟩ := h
  exact ⟨us, h1, h2.drew, h3⟩
theorem GrowP.alloc (h : GrowP w base P ty k v n xs) (o : Obj) : GrowP (w.alloc o) base P ty k v n xs := by
  obtain ⟨us, h1, h2, h3⟩ := h
  exact ⟨us, h1.alloc o, h2.allocP o, h3⟩
theorem GrowP.puts {C : Nat} (h : GrowP w base P ty k v n xs) (o : Nat) (vs : List Value) (hC : ¬ P C) : GrowP (w.setCells C o vs) base P ty k v n xs := h.later (grown_setCells C vs o w) hC
theorem GrowP.far (h : GrowP w base P ty k v n xs) : ∀ g, v.ownBlock = some g → g < w.heap.size := by
  obtain ⟨us, h1, _⟩ := h
  exact fun g hg => (h1.lt g hg).2
theorem GrowP.leaf {lo : Nat} (h : GrowP w base P ty k v n xs) (hP : ∀ b, P b → lo ≤ b) : LfAt w (fr lo) (.s n xs) v := by
  obtain ⟨us, h1, h2, h3⟩ := h
  have hg : GrowR w 0 ty k v n xs := ⟨us, ⟨h1.1, h1.2.imp id (fun ⟨g, c, cur, e, hb, r⟩ => ⟨g, c, cur, e, Nat.zero_le _, r⟩)⟩, h2.keep (fun b hb hlt => ⟨⟨Nat.zero_le _, hb.2⟩, rfl⟩) (Nat.le_refl _)⟩
  have hlx := h2.len
  have hlu := h1.1
  rcases h1.2 with ⟨rfl, hn⟩ | ⟨g, cap, cur, rfl, hgb, hh, hnc, hcm, hsz, htake⟩
  · subst hn
    obtain rfl : us = [] := List.length_eq_zero_iff.1 (by omega)
    obtain rfl : xs = [] := List.length_eq_zero_iff.1 (by simpa using hlx.symm)
    exact LfAt.nil w _
  · refine .s n xs us _ cap hlx (fun hne hn0 => hne (List.length_eq_zero_iff.1 ?_)) hnc (fun i x u hx hu => (h2.out i x u hx hu).keep (fun b hb hlt => ⟨hP b hb.1, rfl⟩) (Nat.le_refl _)) (fun _ => ⟨g, 0, rfl, hP g (h3 g rfl), (Array.getElem?_eq_some_iff.1 hh).1, fun i u hu => ?_⟩)
    · subst hn0; omega
    · have h := h1.cells (g := g) rfl i u hu
      have e : (⟨g, 0, none⟩ : Addr).add i = ⟨g, 0 + i, none⟩ := by rw [WideShapes.add_plain]
      rw [← e]; exact h
theorem GrowP.slice (h : GrowP w base P ty k v n xs) : ∃ p c, v = .slice p n c ∧ n ≤ c := by
  obtain ⟨us, h1, h2⟩ := h
  rcases h1.2 with ⟨rfl, hn⟩ | ⟨g, cap, cur, rfl, hg, hh, hnc, _⟩
  · exact ⟨none, 0, by rw [hn], by omega⟩
  · exact ⟨_, cap, rfl, hnc⟩
theorem GrowP.nil : GrowP w base P ty k (.slice none 0 0) 0 [] := ⟨[], World.ownsRow_nil _ _ _ _, LsAt.nil _ _, fun g hg => by simp [Value.ownBlock] at hg⟩
/-- One struct, newly laid. -/
theorem GrowP.first {Q : Nat → Prop} (hL : LsAt w Q xs us) (hQ : ∀ b, Q b → b < w.heap.size → P b) (hP : P w.heap.size) (hb : base ≤ w.heap.size) : GrowP (w.alloc (.cells us.toArray ty)) base P ty us.length (.slice (some ⟨w.heap.size, 0, none⟩) 1 1) 1 ([xs].flatten) := by
  have e : [xs].flatten = xs := by simp
  rw [e]
  refine ⟨us, ⟨by simp, .inr ⟨w.heap.size, 1, us.toArray, rfl, hb, heap_alloc_new w _, Nat.le_refl _, by unfold maxLen; omega, by simp, by simp⟩⟩, hL.keep (fun b hb hlt => ⟨⟨hQ b hb hlt, by simp [Value.ownBlock]; omega⟩, Below.heap_alloc w _ b hlt⟩) (by simp), fun g hg => ?_⟩
  simp [Value.ownBlock] at hg
  subst hg
  exact hP
end
/-- An append in a region that draws its order, to such a row. -/
theorem wp_growP {Pg : Program} {w : World} {ops : Array Oper} {o : Oper} {a : Act} {K : Act → World → Prop} {Q : Exit → Act → World → Prop} {X : Prop} (hgd : o.guard = none) (s x : Operand) (t : TypeId)
    (ho : o.op = .call { callee := .builtin .append, args := #[s, x], argTypes := #[t, t] })
    (base : Nat) (P : Nat → Prop) (ty : TypeId) (i : TypeInfo) (z : Value) (k bytes : Nat) (ht : Pg.underlying t = some (.slice ty)) (hi : Pg.info? ty = some i) (hz : i.zero = some z)
    (hsize : i.size = k) (hby : i.bytes = bytes) (hzs : z.cells.size = k) (hsz : 0 < k)
    (v : Value) (n : Nat) (xs : List Lf) (hs : a.eval s = v) (hown : GrowP w base P ty k v n xs)
    (B c : Nat) (ys : List Lf) (us : List Value) (hx : a.eval x = .slice (some ⟨B, 0, none⟩) 1 c) (hl : us.length = k) (hnews : ∀ (j : Nat) (u : Value), us[j]? = some u → w.cell? ⟨B, j, none⟩ = some u)
    (lo : Nat) (hys : LsAt w (fr lo) ys us) (hlo : ∀ b, lo ≤ b → P b) (hfar : ∀ g, v.ownBlock = some g → g < lo) (hlw : lo ≤ w.heap.size)
    (hbytes : (n + 1) * bytes ≤ 140737488355328) (h63 : n + 1 ≤ maxLen) (hbase : base ≤ w.heap.size)
    (h : ∀ v' w', GrowP w' base P ty k v' (n + 1) (xs ++ ys) → (∀ y : World, (∀ a, Onl a y w → y.heap.size ≤ base → Onl a y w')) → Below base w w' → w.grownBy w' v.ownBlock → K (a.put o.dst v') w') :
    if Region.wanted o (yielded ops a.tmps) = true then Oper.wp Pg o a w K Q else X := by
  have hw : Region.wanted o (yielded ops a.tmps) = true := by simp [Region.wanted, hgd]
  rw [if_pos hw]
  obtain ⟨olds, h1, h2, h3⟩ := hown
  obtain ⟨v', w', hr, hown', hg, _, hblk⟩ := run_append_own_at (P := Pg) w base t o.type ty i z k bytes ht hi hz hsize hby hzs hsz v n olds h1 ⟨B, 0, none⟩ 1 c us (by omega) (fun j u hj => by rw [WideShapes.add_plain, Nat.zero_add]; exact hnews j u hj) hys.one h63 hbytes hbase
  unfold Oper.wp execOp
  simp only [ho, resolve, invoke, builtin, Sem.run_bind, Sem.run_pure, Result.andThen_ok, List.map_toArray, List.map_cons, List.map_nil, hs, hx, hr]
  have hne : ∀ b, b < w.heap.size → some b ≠ v.ownBlock → some b ≠ v'.ownBlock := fun b hb hn => by
    rcases hblk with e | e
    · rw [e]; exact hn
    · rw [e]; simp; omega
  refine h v' w' ⟨olds ++ us, hown', (h2.keep (fun b hb hlt => ⟨⟨hb.1, hne b hlt hb.2⟩, hg.block b hlt hb.2⟩) hg.size).app (hys.keep (fun b (hb : lo ≤ b) hlt => ?_) hg.size), fun g hgg => ?_⟩ (fun y a ho hy => ho.grown hg (fun k hk => by have := (h1.lt k hk).1; omega)) ((Below.refl _ _).grown hg hbase (fun k hk => (h1.lt k hk).1)) hg
  · have hn : some b ≠ v.ownBlock := fun e => by have := hfar b e.symm; omega
    exact ⟨⟨hlo b hb, hne b hlt hn⟩, hg.block b hlt hn⟩
  · rcases hblk with e | e
    · exact h3 g (by rw [← e]; exact hgg)
    · rw [e] at hgg; cases hgg; exact hlo _ hlw
theorem infoLC : (Tryz.prog.info? 42).map (fun i => (i.zero, i.size, i.bytes)) = some (some (.agg #[.int .i64 0, .int .i64 0, .int .i64 0, .string ⟨#[]⟩, .string ⟨#[]⟩, .int .i64 0, .int .i64 0, .string ⟨#[]⟩, .slice none 0 0, .int .i64 0, .string ⟨#[]⟩, .string ⟨#[]⟩, .int .i64 0, .int .i64 0, .string ⟨#[]⟩, .slice none 0 0, .slice none 0 0]), 17, 232) := by kernel_rfl

theorem GrowP.out1 {w : World} {base : Nat} {P : Nat → Prop} {ty : TypeId} {k : Nat} {v : Value} {n : Nat} {xs : List Lf} (h : GrowP w base P ty k v n xs) {g : Nat} (hg : some g = v.ownBlock) : P g := by
  obtain ⟨us, h1, h2, h3⟩ := h
  exact h3 g hg.symm

set_option maxRecDepth 1000000 in
set_option maxHeartbeats 16000000 in
theorem paJoinedAnd {w : World} {a : Nat} {l : List Wd} {m : Int} {d n : Nat} {σ : PS} (HF : ∀ (w : World) (σ : PS), Rd w a l m d σ → l.length < n + σ.i → Calls Tryz.prog 83 #[.pointer (some ⟨a, 0, none⟩)] w (Ans w a l m d σ 17 ((simpleP l m n d) σ).1 ((simpleP l m n d) σ).2)) (hR : Rd w a l m d σ) (hn : l.length < n + σ.i) :
    Calls Tryz.prog 72 #[.pointer (some ⟨a, 0, none⟩), .int .i64 4, .string (txt [97, 110, 100]), .func (.func 83) #[.pointer (some ⟨a, 0, none⟩)] #[]] w (Ans w a l m d σ 17 (joinedP l 4 [97, 110, 100] (simpleP l m n d) σ).1 (joinedP l 4 [97, 110, 100] (simpleP l m n d) σ).2) := by
  have HF' := hid0 HF
  have E0 := hR.start zCv 42
  obtain ⟨⟨x, τ⟩, hM⟩ : ∃ y, joinedP l 4 [97, 110, 100] (simpleP l m n d) σ = y := ⟨_, rfl⟩
  rw [hM]
  dsimp only
  obtain ⟨⟨y0, σ1⟩, h1⟩ : ∃ y, (simpleP l m n d) σ = y := ⟨_, rfl⟩
  unfold joinedP at hM
  rw [h1] at hM
  dsimp only at hM
  have hfew := hR.few
  clear hR HF
  replace hM := hid0 hM
  replace h1 := hid0 h1
  go_enter Tryz.func72, Tryz.ntmps72
  go_wp2_with fail
  go_at_call 83
  refine (Ans.at_ h1 (HF'.out _ _ E0.rd hn)).mono ?_
  rintro e w1 ⟨us, hl, rfl, hA, hS1⟩
  obtain ⟨u0, u1, u2, u3, u4, u5, u6, u7, u8, u9, u10, u11, u12, u13, u14, u15, u16, rfl⟩ := len17 hl
  clear hl h1
  have hle1 := hS1.le
  have hwB : w.heap.size < w1.heap.size := (E0.step hS1).z
  have haB : a < w1.heap.size := Nat.lt_trans E0.lt hwB
  have han : a < w.heap.size + 1 := Nat.lt_succ_of_lt E0.lt
  have hL0 := (E0.leaf hA).allocx (Obj.cells #[.int .i64 0, .int .i64 0, .int .i64 0, .string ⟨#[]⟩, .string ⟨#[]⟩, .int .i64 0, .int .i64 0, .string ⟨#[]⟩, .slice none 0 0, .int .i64 0, .string ⟨#[]⟩, .string ⟨#[]⟩, .int .i64 0, .int .i64 0, .string ⟨#[]⟩, .slice none 0 0, .slice none 0 0] 42)
  have hX0 : VarB (w1.alloc (Obj.cells #[.int .i64 0, .int .i64 0, .int .i64 0, .string ⟨#[]⟩, .string ⟨#[]⟩, .int .i64 0, .int .i64 0, .string ⟨#[]⟩, .slice none 0 0, .int .i64 0, .string ⟨#[]⟩, .string ⟨#[]⟩, .int .i64 0, .int .i64 0, .string ⟨#[]⟩, .slice none 0 0, .slice none 0 0] 42)) w1.heap.size zCv := VarB.new w1 zCv 42
  have E10 := (E0.step hS1).alloc (Obj.cells #[.int .i64 0, .int .i64 0, .int .i64 0, .string ⟨#[]⟩, .string ⟨#[]⟩, .int .i64 0, .int .i64 0, .string ⟨#[]⟩, .slice none 0 0, .int .i64 0, .string ⟨#[]⟩, .string ⟨#[]⟩, .int .i64 0, .int .i64 0, .string ⟨#[]⟩, .slice none 0 0, .slice none 0 0] 42)
  clear hA hS1
  go_wp2_with (first | ((with_reducible refine wp_putB hX0 hL0 ?_ ?_ ?_ ?_ ?_); (rfl); (exact infoC); (rfl); (rfl); intro w11 hX1 hw11; simp only [Act.put]) | fail)
  have E1 : Env w a l m d σ σ1 zCv w11 := by rw [hw11.out]; exact E10.puts 0 _ hwB
  have hL1 : LsAt w11 (frx (w.heap.size + 1) w1.heap.size) y0 [u0, u1, u2, u3, u4, u5, u6, u7, u8, u9, u10, u11, u12, u13, u14, u15, u16] := by rw [hw11.out]; exact hL0.putsx
  clear hL0 hX0 E10 hw11
  have haX := haB
  rcases Bool.eq_false_or_eq_true (isP l [97, 110, 100] σ1) with hb | hb
  · have hM2 := hM.out
    rw [if_pos hb] at hM2
    replace hM2 := hid0 hM2
    replace hb := hid0 hb
    clear hM
    go_at_call 15
    refine (paIs_at hb E1.rd).mono ?_
    rintro e w2 ⟨rfl, hS2⟩
    have hX2 := hX1.later hS2.onl haB
    have hL2 := hL1.laterx hS2.onl han
    have E2 := E1.step hS2
    clear hX1 hL1 E1 hS2 hb
    have hz2 := E2.z
    have hB2 := hX2.lt
    have hC : w.heap.size + 1 < w2.heap.size + 1 := by omega
    have hG2 : GrowP (w2.alloc (Obj.cells #[u0, u1, u2, u3, u4, u5, u6, u7, u8, u9, u10, u11, u12, u13, u14, u15, u16] 42)) (w.heap.size + 1) (fun b => w.heap.size + 1 ≤ b ∧ b ≠ w2.heap.size + 1) 42 17 (.slice (some ⟨w2.heap.size, 0, none⟩) 1 1) 1 ([y0].flatten) := GrowP.first (hL2.unx) (fun b (hb : w.heap.size + 1 ≤ b) hlt => ⟨hb, by omega⟩) ⟨hz2, by omega⟩ hz2
    have hY0 : VarB ((w2.alloc (Obj.cells #[u0, u1, u2, u3, u4, u5, u6, u7, u8, u9, u10, u11, u12, u13, u14, u15, u16] 42)).alloc (Obj.cells #[.int .i64 0, .int .i64 0, .int .i64 0, .string ⟨#[]⟩, .string ⟨#[]⟩, .int .i64 0, .int .i64 0, .string ⟨#[]⟩, .slice none 0 0, .int .i64 0, .string ⟨#[]⟩, .string ⟨#[]⟩, .int .i64 0, .int .i64 0, .string ⟨#[]⟩, .slice none 0 0, .slice none 0 0] 42)) (w2.heap.size + 1) zCv := by have := VarB.new (w2.alloc (Obj.cells #[u0, u1, u2, u3, u4, u5, u6, u7, u8, u9, u10, u11, u12, u13, u14, u15, u16] 42)) zCv 42; rw [World.size_alloc] at this; exact this
    have hLY : LsAt ((w2.alloc (Obj.cells #[u0, u1, u2, u3, u4, u5, u6, u7, u8, u9, u10, u11, u12, u13, u14, u15, u16] 42)).alloc (Obj.cells #[.int .i64 0, .int .i64 0, .int .i64 0, .string ⟨#[]⟩, .string ⟨#[]⟩, .int .i64 0, .int .i64 0, .string ⟨#[]⟩, .slice none 0 0, .int .i64 0, .string ⟨#[]⟩, .string ⟨#[]⟩, .int .i64 0, .int .i64 0, .string ⟨#[]⟩, .slice none 0 0, .slice none 0 0] 42)) (fr (w.heap.size + 1)) (coL 4 0 zE zE (rL [y0])) [.int .i64 4, .int .i64 0, .int .i64 0, .string ⟨#[]⟩, .string ⟨#[]⟩, .int .i64 0, .int .i64 0, .string ⟨#[]⟩, .slice none 0 0, .int .i64 0, .string ⟨#[]⟩, .string ⟨#[]⟩, .int .i64 0, .int .i64 0, .string ⟨#[]⟩, .slice none 0 0, .slice (some ⟨w2.heap.size, 0, none⟩) 1 1] := .co rfl rfl (.zE _ _) (.zE _ _) ((hG2.alloc _).leaf (fun b hb => hb.1))
    have E3 : Env w a l m d σ σ1 zCv ((w2.alloc (Obj.cells #[u0, u1, u2, u3, u4, u5, u6, u7, u8, u9, u10, u11, u12, u13, u14, u15, u16] 42)).alloc (Obj.cells #[.int .i64 0, .int .i64 0, .int .i64 0, .string ⟨#[]⟩, .string ⟨#[]⟩, .int .i64 0, .int .i64 0, .string ⟨#[]⟩, .slice none 0 0, .int .i64 0, .string ⟨#[]⟩, .string ⟨#[]⟩, .int .i64 0, .int .i64 0, .string ⟨#[]⟩, .slice none 0 0, .slice none 0 0] 42)) := (E2.alloc _).alloc _
    have hG3 := hG2.alloc (Obj.cells #[.int .i64 0, .int .i64 0, .int .i64 0, .string ⟨#[]⟩, .string ⟨#[]⟩, .int .i64 0, .int .i64 0, .string ⟨#[]⟩, .slice none 0 0, .int .i64 0, .string ⟨#[]⟩, .string ⟨#[]⟩, .int .i64 0, .int .i64 0, .string ⟨#[]⟩, .slice none 0 0, .slice none 0 0] 42)
    go_wp2_with (first | ((with_reducible refine wp_getB hX2 Tryz.underlying42 ?_ ?_ ?_ ?_); (rfl); (exact infoC); (rfl)) | ((with_reducible refine wp_putB hY0 hLY ?_ ?_ ?_ ?_ ?_); (rfl); (exact infoC); (rfl); (rfl); intro w5 hY hw5; simp only [Act.put]) | fail)
    have E5 : Env w a l m d σ σ1 zCv w5 := by rw [hw5.out]; exact E3.puts 0 _ (by omega)
    have hG5 : GrowP w5 (w.heap.size + 1) (fun b => w.heap.size + 1 ≤ b ∧ b ≠ w2.heap.size + 1) 42 17 (.slice (some ⟨w2.heap.size, 0, none⟩) 1 1) [y0].length ([y0].flatten) := by rw [hw5.out]; exact hG3.puts 0 _ (fun h => h.2 rfl)
    clear hG2 hG3 hY0 hLY E3 hw5 hX2 hL2
    have haC : a < w2.heap.size + 1 := by have := E2.lt; omega
    clear E2
    obtain ⟨C, hCC⟩ : ∃ C, w2.heap.size + 1 = C := ⟨_, rfl⟩
    have hBC : w2.heap.size < C := by omega
    rw [hCC] at hG5 hY hC haC
    replace hG5 := hid0 hG5
    replace hY := hid0 hY
    have hCC' := hid0 hCC
    simp only [hCC]
    clear hCC
    have hrem : l.length - σ1.i ≤ l.length := Nat.sub_le _ _
    have hPa : ¬ (w.heap.size + 1 ≤ a ∧ a ≠ C) := by omega
    go_loopw [] (fun wr => ∃ (k : Nat) (acc : List (List Lf)) (ρ : PS) (v : Value), Hid ((coL 4 0 zE zE (rL (moreP l [97, 110, 100] (simpleP l m n d) k acc ρ).1), (moreP l [97, 110, 100] (simpleP l m n d) k acc ρ).2) = (x, τ)) ∧ l.length - ρ.i ≤ k ∧ acc.length ≤ ρ.i + 1 ∧ Hid (VarB wr C [.int .i64 4, .int .i64 0, .int .i64 0, .string ⟨#[]⟩, .string ⟨#[]⟩, .int .i64 0, .int .i64 0, .string ⟨#[]⟩, .slice none 0 0, .int .i64 0, .string ⟨#[]⟩, .string ⟨#[]⟩, .int .i64 0, .int .i64 0, .string ⟨#[]⟩, .slice none 0 0, v]) ∧ Hid (GrowP wr (w.heap.size + 1) (fun b => w.heap.size + 1 ≤ b ∧ b ≠ C) 42 17 v acc.length acc.flatten) ∧ σ1.i ≤ ρ.i ∧ Env w a l m d σ ρ zCv wr) (fun wr => l.length - atOf wr a)
    case atStart => exact ⟨l.length, [y0], σ1, _, hM2, hrem, by simp, hY, hG5, Nat.le_refl _, E5⟩
    case round =>
      clear hM2 hG5 hY E5 hrem
      obtain ⟨k, acc, ρ, v, hM, hk, hnn, hY, hG, hρ, E⟩ := hrel
      have hat := E.rd.at_
      rcases Bool.eq_false_or_eq_true (isP l [97, 110, 100] ρ) with hb | hb
      · have hmore := is_more E.rd.ok E.rd.hi hb
        obtain ⟨⟨y, ρ2⟩, h2⟩ : ∃ y, (simpleP l m n d) ⟨ρ.i + 1, ρ.e⟩ = y := ⟨_, rfl⟩
        obtain ⟨k, rfl⟩ : ∃ k', k = k' + 1 := ⟨k - 1, by omega⟩
        have hM3 := hM.out
        rw [moreP_yes (k := k) (acc := acc) hb h2] at hM3
        have HM := hid0 hM3
        replace h2 := hid0 h2
        replace hb := hid0 hb
        replace hat := hid0 hat
        clear hM hM3
        obtain ⟨N, hN⟩ : ∃ N, acc.length = N := ⟨_, rfl⟩
        rw [hN] at hG hnn
        replace hN := hid0 hN
        go_wp2_with fail
        go_at_call 17
        refine (paTake_yes [97, 110, 100] E.rd hb.out).mono ?_
        rintro e9 w3 ⟨rfl, hS3⟩
        have HY3 := hid0 (hY.out.later hS3.onl haC)
        have HG3 := hid0 (hG.out.later hS3.onl hPa)
        have E3 := E.step hS3
        clear hY hG hS3
        go_wp2_with fail
        refine wp_region_last (S := fun w' => VarB w' C [.int .i64 4, .int .i64 0, .int .i64 0, .string ⟨#[]⟩, .string ⟨#[]⟩, .int .i64 0, .int .i64 0, .string ⟨#[]⟩, .slice none 0 0, .int .i64 0, .string ⟨#[]⟩, .string ⟨#[]⟩, .int .i64 0, .int .i64 0, .string ⟨#[]⟩, .slice none 0 0, v]) 7 (by kernel_rfl) (by kernel_rfl) HY3.out.drew (fun hHeld => ?_)
        simp only [List.take_succ_cons, List.take_zero, List.drop_succ_cons, List.drop_zero]
        refine wpAnyH_take (i := 0) (v := ?_) rfl (by kernel_rfl) (by kernel_rfl) (by kernel_rfl) (fun _ _ _ h => h) (Or.inl ⟨by rfl, ?_⟩) (by assumption) ?_
        rotate_left
        · (intro wx hSw; go_simp; (try with_reducible rfl))
        (try simp only [Act.put, List.setIfInBounds_toArray, List.set_cons_zero, List.set_cons_succ, List.getElem_toArray, List.getElem_cons_zero])
        refine wpAnyH_take (i := 1) (v := v) rfl (by kernel_rfl) (by kernel_rfl) (by kernel_rfl) (fun _ _ _ h => h) (Or.inl ⟨by rfl, ?_⟩) (by assumption) ?_
        · (intro wx hSw; have c16 := (show VarB wx C [.int .i64 4, .int .i64 0, .int .i64 0, .string ⟨#[]⟩, .string ⟨#[]⟩, .int .i64 0, .int .i64 0, .string ⟨#[]⟩, .slice none 0 0, .int .i64 0, .string ⟨#[]⟩, .string ⟨#[]⟩, .int .i64 0, .int .i64 0, .string ⟨#[]⟩, .slice none 0 0, v] from hSw).cell 16 rfl; go_simp; (try with_reducible rfl))
        (try simp only [Act.put, List.setIfInBounds_toArray, List.set_cons_zero, List.set_cons_succ, List.getElem_toArray, List.getElem_cons_zero, List.getElem_cons_succ])
        refine wpAnyH_take (i := 2) (v := ?_) rfl (by kernel_rfl) (by kernel_rfl) (by kernel_rfl) (fun _ _ _ h => h) (Or.inl ⟨by rfl, ?_⟩) (by assumption) ?_
        rotate_left
        · (intro wx hSw; go_simp; (try with_reducible rfl))
        (try simp only [Act.put, List.setIfInBounds_toArray, List.set_cons_zero, List.set_cons_succ, List.getElem_toArray, List.getElem_cons_zero, List.getElem_cons_succ])
        refine wpAnyH_ready (rs := [3]) (by kernel_rfl) (by simp) ?_
        refine AllReadyH.cons rfl (fun K hK => ?_) AllReadyH.nil
        go_simp
        refine (Ans.at_ h2 (HF'.out _ _ E3.drew.rd (by dsimp only; omega))).mono ?_
        rintro e9 w4 ⟨vs, hl, rfl, hA4, hS4⟩
        obtain ⟨v0, v1, v2, v3, v4, v5, v6, v7, v8, v9, v10, v11, v12, v13, v14, v15, v16, rfl⟩ := len17 hl
        clear hl
        have hX4 := HY3.out.drew.later hS4.onl haC
        have hle4 := hS4.le
        dsimp only at hle4
        have hz4 := hS4.onl.size
        have hzC : C < w3.heap.size := HY3.out.lt
        have HG4 := hid0 ((HG3.out.drew.later hS4.onl hPa).alloc (Obj.cells #[v0, v1, v2, v3, v4, v5, v6, v7, v8, v9, v10, v11, v12, v13, v14, v15, v16] 42))
        have hfar := hid0 HG3.out.far
        have HA4 := hid0 (hA4.allocP (Obj.cells #[v0, v1, v2, v3, v4, v5, v6, v7, v8, v9, v10, v11, v12, v13, v14, v15, v16] 42))
        have E4 := (E3.drew.step hS4).alloc (Obj.cells #[v0, v1, v2, v3, v4, v5, v6, v7, v8, v9, v10, v11, v12, v13, v14, v15, v16] 42)
        have hX5 := hX4.alloc (Obj.cells #[v0, v1, v2, v3, v4, v5, v6, v7, v8, v9, v10, v11, v12, v13, v14, v15, v16] 42)
        have HE4 := hid0 E4
        have hzE := E3.z
        clear hA4 hS4
        refine hK.out _ _ hX4 (fun hHeld => ?_)
        clear hK K
        (try simp only [Act.put, List.setIfInBounds_toArray, List.set_cons_zero, List.set_cons_succ, List.getElem_toArray, List.getElem_cons_zero, List.getElem_cons_succ])
        refine wpAnyH_ready (rs := [4]) (by kernel_rfl) (by simp) ?_
        refine AllReadyH.cons rfl (fun K hK => ?_) AllReadyH.nil
        go_simp
        refine hK.out _ _ hX5 (fun hHeld => ?_)
        clear hK K
        (try simp only [Act.put, List.setIfInBounds_toArray, List.set_cons_zero, List.set_cons_succ, List.getElem_toArray, List.getElem_cons_zero, List.getElem_cons_succ])
        obtain ⟨i0, hi0, hz0, hz1', hz2'⟩ := info_parts infoLC
        refine wpAnyH_ready (rs := [5]) (by kernel_rfl) (by simp) ?_
        refine AllReadyH.cons rfl (fun K hK => ?_) AllReadyH.nil
        refine wp_growP rfl _ _ _ rfl (w.heap.size + 1) (fun b => w.heap.size + 1 ≤ b ∧ b ≠ C) 42 i0 (.agg #[.int .i64 0, .int .i64 0, .int .i64 0, .string ⟨#[]⟩, .string ⟨#[]⟩, .int .i64 0, .int .i64 0, .string ⟨#[]⟩, .slice none 0 0, .int .i64 0, .string ⟨#[]⟩, .string ⟨#[]⟩, .int .i64 0, .int .i64 0, .string ⟨#[]⟩, .slice none 0 0, .slice none 0 0]) 17 232 Tryz.underlying40 hi0 hz0 hz1' hz2' rfl (by decide) v N acc.flatten rfl HG4.out w4.heap.size 1 y [v0, v1, v2, v3, v4, v5, v6, v7, v8, v9, v10, v11, v12, v13, v14, v15, v16] rfl rfl (fun j u hj => (VarB.new w4 [v0, v1, v2, v3, v4, v5, v6, v7, v8, v9, v10, v11, v12, v13, v14, v15, v16] 42).cell j hj) w3.heap.size HA4.out (fun b hb => ⟨by omega, by omega⟩) hfar.out (by simp; exact Nat.le_succ_of_le hz4) (by omega) (by unfold maxLen; omega) (by simp; have : w3.heap.size ≤ w4.heap.size := hz4; omega) ?_
        intro v6 w6 hG6 hO6 hb6 hg6
        have hX6 : VarB w6 C [.int .i64 4, .int .i64 0, .int .i64 0, .string ⟨#[]⟩, .string ⟨#[]⟩, .int .i64 0, .int .i64 0, .string ⟨#[]⟩, .slice none 0 0, .int .i64 0, .string ⟨#[]⟩, .string ⟨#[]⟩, .int .i64 0, .int .i64 0, .string ⟨#[]⟩, .slice none 0 0, v] := hX5.keep (hg6.block C (by simp; have : w3.heap.size ≤ w4.heap.size := hz4; omega) (fun e => (HG3.out.out1 e).2 rfl)) hg6.size
        have E6 : Env w a l m d σ ρ2 zCv w6 := ⟨⟨HE4.out.st.rd.above (hb6.mono (by omega)), hO6 w a HE4.out.st.onl (by omega), HE4.out.st.le⟩, HE4.out.res.keep (hb6.block _ (by omega)) hb6.size, Nat.le_trans HE4.out.z hb6.size, HE4.out.lt⟩
        refine hK.out _ _ hX6 (fun hHeld => ?_)
        clear hK K
        (try simp only [Act.put, List.setIfInBounds_toArray, List.set_cons_zero, List.set_cons_succ, List.getElem_toArray, List.getElem_cons_zero, List.getElem_cons_succ])
        refine wpAnyH_take (i := 6) (v := ?_) rfl (by kernel_rfl) (by kernel_rfl) (by kernel_rfl) (fun _ _ _ h => h) (Or.inl ⟨by rfl, ?_⟩) (by assumption) ?_
        rotate_left
        · (intro wx hSw; go_simp; (try with_reducible rfl))
        (try simp only [Act.put, List.setIfInBounds_toArray, List.set_cons_zero, List.set_cons_succ, List.getElem_toArray, List.getElem_cons_zero, List.getElem_cons_succ])
        refine wpAnyH_done (by kernel_rfl) ?_ _
        show wpList _ _ _ _ _ _
        have c6 := hX6.cell 16 rfl
        have f6 := hX6.frz 16 (by simp)
        obtain ⟨p6, cc6, rfl, -⟩ := hG6.slice
        have hX7 : VarB (w6.setCell ⟨C, 16, none⟩ (.slice p6 (N + 1) cc6)) C [.int .i64 4, .int .i64 0, .int .i64 0, .string ⟨#[]⟩, .string ⟨#[]⟩, .int .i64 0, .int .i64 0, .string ⟨#[]⟩, .slice none 0 0, .int .i64 0, .string ⟨#[]⟩, .string ⟨#[]⟩, .int .i64 0, .int .i64 0, .string ⟨#[]⟩, .slice none 0 0, .slice p6 (N + 1) cc6] := hX6.set (i := 16) _ (by simp)
        have hG7 := hid0 (hG6.puts 16 [.slice p6 (N + 1) cc6] (fun h => h.2 rfl))
        have E7 := E6.set 16 (.slice p6 (N + 1) cc6) (by omega : w.heap.size < C)
        clear hX4 hX5 E4 hX6 hG6
        go_wp2_with fail
        go_roundw
        case rel => exact ⟨k, acc ++ [y], ρ2, _, HM, by omega, by rw [List.length_append, hN.out]; simp; omega, hid0 hX7, hid0 (by rw [List.length_append, hN.out, List.flatten_append]; simp only [List.flatten_cons, List.flatten_nil, List.append_nil]; exact hG7.out), by omega, E7⟩
        case measure => rw [hat.out, E7.rd.at_]; omega
      · have hM3 := hM.out
        rw [moreP_no (k := k) (acc := acc) (one := (simpleP l m n d)) hb] at hM3
        dsimp only at hM3
        replace hb := hid0 hb
        replace hM3 := hid0 hM3
        clear hM
        go_wp2_with fail
        go_at_call 17
        refine (paTake_no [97, 110, 100] E.rd hb.out).mono ?_
        rintro e9 w3 ⟨rfl, hS3⟩
        have HY3 := hY.out.later hS3.onl haC
        have HG3 := hG.out.later hS3.onl hPa
        have E3 := E.step hS3
        have hL3 : LsAt w3 (fr (w.heap.size + 1)) (coL 4 0 zE zE (rL acc)) [.int .i64 4, .int .i64 0, .int .i64 0, .string ⟨#[]⟩, .string ⟨#[]⟩, .int .i64 0, .int .i64 0, .string ⟨#[]⟩, .slice none 0 0, .int .i64 0, .string ⟨#[]⟩, .string ⟨#[]⟩, .int .i64 0, .int .i64 0, .string ⟨#[]⟩, .slice none 0 0, v] := .co rfl rfl (.zE _ _) (.zE _ _) (HG3.leaf (fun b hb => hb.1))
        go_wp2_with (first | ((with_reducible refine wp_getB HY3 Tryz.underlying42 ?_ ?_ ?_ ?_); (rfl); (exact infoC); (rfl)) | ((with_reducible refine wp_putB E3.res hL3 ?_ ?_ ?_ ?_ ?_); (rfl); (exact infoC); (rfl); (rfl); intro w0 hV0 hw0; simp only [Act.put]) | fail)
        cases hM3.out
        exact end_blk hV0 rfl rfl _ Tryz.underlying42 rfl infoC rfl (E3.fin hL3 rfl hw0.out)
  · have hM2 := hM.out
    rw [if_neg (by simp [hb])] at hM2
    replace hM2 := hid0 hM2
    replace hb := hid0 hb
    clear hM
    go_at_call 15
    refine (paIs_at hb E1.rd).mono ?_
    rintro e w2 ⟨rfl, hS2⟩
    have hX2 := hX1.later hS2.onl haB
    have hL2 := (hL1.laterx hS2.onl han).unx
    have E2 := E1.step hS2
    go_wp2_with (first | ((with_reducible refine wp_getB hX2 Tryz.underlying42 ?_ ?_ ?_ ?_); (rfl); (exact infoC); (rfl)) | ((with_reducible refine wp_putB E2.res hL2 ?_ ?_ ?_ ?_ ?_); (rfl); (exact infoC); (rfl); (rfl); intro w0 hV0 hw0; simp only [Act.put]) | fail)
    cases hM2.out
    exact end_blk hV0 rfl rfl _ Tryz.underlying42 rfl infoC rfl (E2.fin hL2 rfl hw0.out)
end Go.Proofs.YtneebnankghhgacGreatDoor

/- The project's parser: conditions joined by or, over any contract of one: a contract of the call. Conditions: the one's contract. -/
namespace Go.Proofs.YtneebnankghhgacGreatDoor
open Go.RowKit

set_option maxRecDepth 1000000 in
set_option maxHeartbeats 16000000 in
theorem paJoinedOr {w : World} {a : Nat} {l : List Wd} {m : Int} {d n : Nat} {σ : PS} (HF : ∀ (w : World) (σ : PS), Rd w a l m d σ → l.length < n + σ.i → Calls Tryz.prog 73 #[.pointer (some ⟨a, 0, none⟩)] w (Ans w a l m d σ 17 ((bothOf l (simpleP l m n d)) σ).1 ((bothOf l (simpleP l m n d)) σ).2)) (hR : Rd w a l m d σ) (hn : l.length < n + σ.i) :
    Calls Tryz.prog 72 #[.pointer (some ⟨a, 0, none⟩), .int .i64 5, .string (txt [111, 114]), .func (.func 73) #[.pointer (some ⟨a, 0, none⟩)] #[]] w (Ans w a l m d σ 17 (joinedP l 5 [111, 114] (bothOf l (simpleP l m n d)) σ).1 (joinedP l 5 [111, 114] (bothOf l (simpleP l m n d)) σ).2) := by
  have HF' := hid0 HF
  have E0 := hR.start zCv 42
  obtain ⟨⟨x, τ⟩, hM⟩ : ∃ y, joinedP l 5 [111, 114] (bothOf l (simpleP l m n d)) σ = y := ⟨_, rfl⟩
  rw [hM]
  dsimp only
  obtain ⟨⟨y0, σ1⟩, h1⟩ : ∃ y, (bothOf l (simpleP l m n d)) σ = y := ⟨_, rfl⟩
  unfold joinedP at hM
  rw [h1] at hM
  dsimp only at hM
  have hfew := hR.few
  clear hR HF
  replace hM := hid0 hM
  replace h1 := hid0 h1
  go_enter Tryz.func72, Tryz.ntmps72
  go_wp2_with fail
  go_at_call 73
  refine (Ans.at_ h1 (HF'.out _ _ E0.rd hn)).mono ?_
  rintro e w1 ⟨us, hl, rfl, hA, hS1⟩
  obtain ⟨u0, u1, u2, u3, u4, u5, u6, u7, u8, u9, u10, u11, u12, u13, u14, u15, u16, rfl⟩ := len17 hl
  clear hl h1
  have hle1 := hS1.le
  have hwB : w.heap.size < w1.heap.size := (E0.step hS1).z
  have haB : a < w1.heap.size := Nat.lt_trans E0.lt hwB
  have han : a < w.heap.size + 1 := Nat.lt_succ_of_lt E0.lt
  have hL0 := (E0.leaf hA).allocx (Obj.cells #[.int .i64 0, .int .i64 0, .int .i64 0, .string ⟨#[]⟩, .string ⟨#[]⟩, .int .i64 0, .int .i64 0, .string ⟨#[]⟩, .slice none 0 0, .int .i64 0, .string ⟨#[]⟩, .string ⟨#[]⟩, .int .i64 0, .int .i64 0, .string ⟨#[]⟩, .slice none 0 0, .slice none 0 0] 42)
  have hX0 : VarB (w1.alloc (Obj.cells #[.int .i64 0, .int .i64 0, .int .i64 0, .string ⟨#[]⟩, .string ⟨#[]⟩, .int .i64 0, .int .i64 0, .string ⟨#[]⟩, .slice none 0 0, .int .i64 0, .string ⟨#[]⟩, .string ⟨#[]⟩, .int .i64 0, .int .i64 0, .string ⟨#[]⟩, .slice none 0 0, .slice none 0 0] 42)) w1.heap.size zCv := VarB.new w1 zCv 42
  have E10 := (E0.step hS1).alloc (Obj.cells #[.int .i64 0, .int .i64 0, .int .i64 0, .string ⟨#[]⟩, .string ⟨#[]⟩, .int .i64 0, .int .i64 0, .string ⟨#[]⟩, .slice none 0 0, .int .i64 0, .string ⟨#[]⟩, .string ⟨#[]⟩, .int .i64 0, .int .i64 0, .string ⟨#[]⟩, .slice none 0 0, .slice none 0 0] 42)
  clear hA hS1
  go_wp2_with (first | ((with_reducible refine wp_putB hX0 hL0 ?_ ?_ ?_ ?_ ?_); (rfl); (exact infoC); (rfl); (rfl); intro w11 hX1 hw11; simp only [Act.put]) | fail)
  have E1 : Env w a l m d σ σ1 zCv w11 := by rw [hw11.out]; exact E10.puts 0 _ hwB
  have hL1 : LsAt w11 (frx (w.heap.size + 1) w1.heap.size) y0 [u0, u1, u2, u3, u4, u5, u6, u7, u8, u9, u10, u11, u12, u13, u14, u15, u16] := by rw [hw11.out]; exact hL0.putsx
  clear hL0 hX0 E10 hw11
  have haX := haB
  rcases Bool.eq_false_or_eq_true (isP l [111, 114] σ1) with hb | hb
  · have hM2 := hM.out
    rw [if_pos hb] at hM2
    replace hM2 := hid0 hM2
    replace hb := hid0 hb
    clear hM
    go_at_call 15
    refine (paIs_at hb E1.rd).mono ?_
    rintro e w2 ⟨rfl, hS2⟩
    have hX2 := hX1.later hS2.onl haB
    have hL2 := hL1.laterx hS2.onl han
    have E2 := E1.step hS2
    clear hX1 hL1 E1 hS2 hb
    have hz2 := E2.z
    have hB2 := hX2.lt
    have hC : w.heap.size + 1 < w2.heap.size + 1 := by omega
    have hG2 : GrowP (w2.alloc (Obj.cells #[u0, u1, u2, u3, u4, u5, u6, u7, u8, u9, u10, u11, u12, u13, u14, u15, u16] 42)) (w.heap.size + 1) (fun b => w.heap.size + 1 ≤ b ∧ b ≠ w2.heap.size + 1) 42 17 (.slice (some ⟨w2.heap.size, 0, none⟩) 1 1) 1 ([y0].flatten) := GrowP.first (hL2.unx) (fun b (hb : w.heap.size + 1 ≤ b) hlt => ⟨hb, by omega⟩) ⟨hz2, by omega⟩ hz2
    have hY0 : VarB ((w2.alloc (Obj.cells #[u0, u1, u2, u3, u4, u5, u6, u7, u8, u9, u10, u11, u12, u13, u14, u15, u16] 42)).alloc (Obj.cells #[.int .i64 0, .int .i64 0, .int .i64 0, .string ⟨#[]⟩, .string ⟨#[]⟩, .int .i64 0, .int .i64 0, .string ⟨#[]⟩, .slice none 0 0, .int .i64 0, .string ⟨#[]⟩, .string ⟨#[]⟩, .int .i64 0, .int .i64 0, .string ⟨#[]⟩, .slice none 0 0, .slice none 0 0] 42)) (w2.heap.size + 1) zCv := by have := VarB.new (w2.alloc (Obj.cells #[u0, u1, u2, u3, u4, u5, u6, u7, u8, u9, u10, u11, u12, u13, u14, u15, u16] 42)) zCv 42; rw [World.size_alloc] at this; exact this
    have hLY : LsAt ((w2.alloc (Obj.cells #[u0, u1, u2, u3, u4, u5, u6, u7, u8, u9, u10, u11, u12, u13, u14, u15, u16] 42)).alloc (Obj.cells #[.int .i64 0, .int .i64 0, .int .i64 0, .string ⟨#[]⟩, .string ⟨#[]⟩, .int .i64 0, .int .i64 0, .string ⟨#[]⟩, .slice none 0 0, .int .i64 0, .string ⟨#[]⟩, .string ⟨#[]⟩, .int .i64 0, .int .i64 0, .string ⟨#[]⟩, .slice none 0 0, .slice none 0 0] 42)) (fr (w.heap.size + 1)) (coL 5 0 zE zE (rL [y0])) [.int .i64 5, .int .i64 0, .int .i64 0, .string ⟨#[]⟩, .string ⟨#[]⟩, .int .i64 0, .int .i64 0, .string ⟨#[]⟩, .slice none 0 0, .int .i64 0, .string ⟨#[]⟩, .string ⟨#[]⟩, .int .i64 0, .int .i64 0, .string ⟨#[]⟩, .slice none 0 0, .slice (some ⟨w2.heap.size, 0, none⟩) 1 1] := .co rfl rfl (.zE _ _) (.zE _ _) ((hG2.alloc _).leaf (fun b hb => hb.1))
    have E3 : Env w a l m d σ σ1 zCv ((w2.alloc (Obj.cells #[u0, u1, u2, u3, u4, u5, u6, u7, u8, u9, u10, u11, u12, u13, u14, u15, u16] 42)).alloc (Obj.cells #[.int .i64 0, .int .i64 0, .int .i64 0, .string ⟨#[]⟩, .string ⟨#[]⟩, .int .i64 0, .int .i64 0, .string ⟨#[]⟩, .slice none 0 0, .int .i64 0, .string ⟨#[]⟩, .string ⟨#[]⟩, .int .i64 0, .int .i64 0, .string ⟨#[]⟩, .slice none 0 0, .slice none 0 0] 42)) := (E2.alloc _).alloc _
    have hG3 := hG2.alloc (Obj.cells #[.int .i64 0, .int .i64 0, .int .i64 0, .string ⟨#[]⟩, .string ⟨#[]⟩, .int .i64 0, .int .i64 0, .string ⟨#[]⟩, .slice none 0 0, .int .i64 0, .string ⟨#[]⟩, .string ⟨#[]⟩, .int .i64 0, .int .i64 0, .string ⟨#[]⟩, .slice none 0 0, .slice none 0 0] 42)
    go_wp2_with (first | ((with_reducible refine wp_getB hX2 Tryz.underlying42 ?_ ?_ ?_ ?_); (rfl); (exact infoC); (rfl)) | ((with_reducible refine wp_putB hY0 hLY ?_ ?_ ?_ ?_ ?_); (rfl); (exact infoC); (rfl); (rfl); intro w5 hY hw5; simp only [Act.put]) | fail)
    have E5 : Env w a l m d σ σ1 zCv w5 := by rw [hw5.out]; exact E3.puts 0 _ (by omega)
    have hG5 : GrowP w5 (w.heap.size + 1) (fun b => w.heap.size + 1 ≤ b ∧ b ≠ w2.heap.size + 1) 42 17 (.slice (some ⟨w2.heap.size, 0, none⟩) 1 1) [y0].length ([y0].flatten) := by rw [hw5.out]; exact hG3.puts 0 _ (fun h => h.2 rfl)
    clear hG2 hG3 hY0 hLY E3 hw5 hX2 hL2
    have haC : a < w2.heap.size + 1 := by have := E2.lt; omega
    clear E2
    obtain ⟨C, hCC⟩ : ∃ C, w2.heap.size + 1 = C := ⟨_, rfl⟩
    have hBC : w2.heap.size < C := by omega
    rw [hCC] at hG5 hY hC haC
    replace hG5 := hid0 hG5
    replace hY := hid0 hY
    have hCC' := hid0 hCC
    simp only [hCC]
    clear hCC
    have hrem : l.length - σ1.i ≤ l.length := Nat.sub_le _ _
    have hPa : ¬ (w.heap.size + 1 ≤ a ∧ a ≠ C) := by omega
    go_loopw [] (fun wr => ∃ (k : Nat) (acc : List (List Lf)) (ρ : PS) (v : Value), Hid ((coL 5 0 zE zE (rL (moreP l [111, 114] (bothOf l (simpleP l m n d)) k acc ρ).1), (moreP l [111, 114] (bothOf l (simpleP l m n d)) k acc ρ).2) = (x, τ)) ∧ l.length - ρ.i ≤ k ∧ acc.length ≤ ρ.i + 1 ∧ Hid (VarB wr C [.int .i64 5, .int .i64 0, .int .i64 0, .string ⟨#[]⟩, .string ⟨#[]⟩, .int .i64 0, .int .i64 0, .string ⟨#[]⟩, .slice none 0 0, .int .i64 0, .string ⟨#[]⟩, .string ⟨#[]⟩, .int .i64 0, .int .i64 0, .string ⟨#[]⟩, .slice none 0 0, v]) ∧ Hid (GrowP wr (w.heap.size + 1) (fun b => w.heap.size + 1 ≤ b ∧ b ≠ C) 42 17 v acc.length acc.flatten) ∧ σ1.i ≤ ρ.i ∧ Env w a l m d σ ρ zCv wr) (fun wr => l.length - atOf wr a)
    case atStart => exact ⟨l.length, [y0], σ1, _, hM2, hrem, by simp, hY, hG5, Nat.le_refl _, E5⟩
    case round =>
      clear hM2 hG5 hY E5 hrem
      obtain ⟨k, acc, ρ, v, hM, hk, hnn, hY, hG, hρ, E⟩ := hrel
      have hat := E.rd.at_
      rcases Bool.eq_false_or_eq_true (isP l [111, 114] ρ) with hb | hb
      · have hmore := is_more E.rd.ok E.rd.hi hb
        obtain ⟨⟨y, ρ2⟩, h2⟩ : ∃ y, (bothOf l (simpleP l m n d)) ⟨ρ.i + 1, ρ.e⟩ = y := ⟨_, rfl⟩
        obtain ⟨k, rfl⟩ : ∃ k', k = k' + 1 := ⟨k - 1, by omega⟩
        have hM3 := hM.out
        rw [moreP_yes (k := k) (acc := acc) hb h2] at hM3
        have HM := hid0 hM3
        replace h2 := hid0 h2
        replace hb := hid0 hb
        replace hat := hid0 hat
        clear hM hM3
        obtain ⟨N, hN⟩ : ∃ N, acc.length = N := ⟨_, rfl⟩
        rw [hN] at hG hnn
        replace hN := hid0 hN
        go_wp2_with fail
        go_at_call 17
        refine (paTake_yes [111, 114] E.rd hb.out).mono ?_
        rintro e9 w3 ⟨rfl, hS3⟩
        have HY3 := hid0 (hY.out.later hS3.onl haC)
        have HG3 := hid0 (hG.out.later hS3.onl hPa)
        have E3 := E.step hS3
        clear hY hG hS3
        go_wp2_with fail
        refine wp_region_last (S := fun w' => VarB w' C [.int .i64 5, .int .i64 0, .int .i64 0, .string ⟨#[]⟩, .string ⟨#[]⟩, .int .i64 0, .int .i64 0, .string ⟨#[]⟩, .slice none 0 0, .int .i64 0, .string ⟨#[]⟩, .string ⟨#[]⟩, .int .i64 0, .int .i64 0, .string ⟨#[]⟩, .slice none 0 0, v]) 7 (by kernel_rfl) (by kernel_rfl) HY3.out.drew (fun hHeld => ?_)
        simp only [List.take_succ_cons, List.take_zero, List.drop_succ_cons, List.drop_zero]
        refine wpAnyH_take (i := 0) (v := ?_) rfl (by kernel_rfl) (by kernel_rfl) (by kernel_rfl) (fun _ _ _ h => h) (Or.inl ⟨by rfl, ?_⟩) (by assumption) ?_
        rotate_left
        · (intro wx hSw; go_simp; (try with_reducible rfl))
        (try simp only [Act.put, List.setIfInBounds_toArray, List.set_cons_zero, List.set_cons_succ, List.getElem_toArray, List.getElem_cons_zero])
        refine wpAnyH_take (i := 1) (v := v) rfl (by kernel_rfl) (by kernel_rfl) (by kernel_rfl) (fun _ _ _ h => h) (Or.inl ⟨by rfl, ?_⟩) (by assumption) ?_
        · (intro wx hSw; have c16 := (show VarB wx C [.int .i64 5, .int .i64 0, .int .i64 0, .string ⟨#[]⟩, .string ⟨#[]⟩, .int .i64 0, .int .i64 0, .string ⟨#[]⟩, .slice none 0 0, .int .i64 0, .string ⟨#[]⟩, .string ⟨#[]⟩, .int .i64 0, .int .i64 0, .string ⟨#[]⟩, .slice none 0 0, v] from hSw).cell 16 rfl; go_simp; (try with_reducible rfl))
        (try simp only [Act.put, List.setIfInBounds_toArray, List.set_cons_zero, List.set_cons_succ, List.getElem_toArray, List.getElem_cons_zero, List.getElem_cons_succ])
        refine wpAnyH_take (i := 2) (v := ?_) rfl (by kernel_rfl) (by kernel_rfl) (by kernel_rfl) (fun _ _ _ h => h) (Or.inl ⟨by rfl, ?_⟩) (by assumption) ?_
        rotate_left
        · (intro wx hSw; go_simp; (try with_reducible rfl))
        (try simp only [Act.put, List.setIfInBounds_toArray, List.set_cons_zero, List.set_cons_succ, List.getElem_toArray, List.getElem_cons_zero, List.getElem_cons_succ])
        refine wpAnyH_ready (rs := [3]) (by kernel_rfl) (by simp) ?_
        refine AllReadyH.cons rfl (fun K hK => ?_) AllReadyH.nil
        go_simp
        refine (Ans.at_ h2 (HF'.out _ _ E3.drew.rd (by dsimp only; omega))).mono ?_
        rintro e9 w4 ⟨vs, hl, rfl, hA4, hS4⟩
        obtain ⟨v0, v1, v2, v3, v4, v5, v6, v7, v8, v9, v10, v11, v12, v13, v14, v15, v16, rfl⟩ := len17 hl
        clear hl
        have hX4 := HY3.out.drew.later hS4.onl haC
        have hle4 := hS4.le
        dsimp only at hle4
        have hz4 := hS4.onl.size
        have hzC : C < w3.heap.size := HY3.out.lt
        have HG4 := hid0 ((HG3.out.drew.later hS4.onl hPa).alloc (Obj.cells #[v0, v1, v2, v3, v4, v5, v6, v7, v8, v9, v10, v11, v12, v13, v14, v15, v16] 42))
        have hfar := hid0 HG3.out.far
        have HA4 := hid0 (hA4.allocP (Obj.cells #[v0, v1, v2, v3, v4, v5, v6, v7, v8, v9, v10, v11, v12, v13, v14, v15, v16] 42))
        have E4 := (E3.drew.step hS4).alloc (Obj.cells #[v0, v1, v2, v3, v4, v5, v6, v7, v8, v9, v10, v11, v12, v13, v14, v15, v16] 42)
        have hX5 := hX4.alloc (Obj.cells #[v0, v1, v2, v3, v4, v5, v6, v7, v8, v9, v10, v11, v12, v13, v14, v15, v16] 42)
        have HE4 := hid0 E4
        have hzE := E3.z
        clear hA4 hS4
        refine hK.out _ _ hX4 (fun hHeld => ?_)
        clear hK K
        (try simp only [Act.put, List.setIfInBounds_toArray, List.set_cons_zero, List.set_cons_succ, List.getElem_toArray, List.getElem_cons_zero, List.getElem_cons_succ])
        refine wpAnyH_ready (rs := [4]) (by kernel_rfl) (by simp) ?_
        refine AllReadyH.cons rfl (fun K hK => ?_) AllReadyH.nil
        go_simp
        refine hK.out _ _ hX5 (fun hHeld => ?_)
        clear hK K
        (try simp only [Act.put, List.setIfInBounds_toArray, List.set_cons_zero, List.set_cons_succ, List.getElem_toArray, List.getElem_cons_zero, List.getElem_cons_succ])
        obtain ⟨i0, hi0, hz0, hz1', hz2'⟩ := info_parts infoLC
        refine wpAnyH_ready (rs := [5]) (by kernel_rfl) (by simp) ?_
        refine AllReadyH.cons rfl (fun K hK => ?_) AllReadyH.nil
        refine wp_growP rfl _ _ _ rfl (w.heap.size + 1) (fun b => w.heap.size + 1 ≤ b ∧ b ≠ C) 42 i0 (.agg #[.int .i64 0, .int .i64 0, .int .i64 0, .string ⟨#[]⟩, .string ⟨#[]⟩, .int .i64 0, .int .i64 0, .string ⟨#[]⟩, .slice none 0 0, .int .i64 0, .string ⟨#[]⟩, .string ⟨#[]⟩, .int .i64 0, .int .i64 0, .string ⟨#[]⟩, .slice none 0 0, .slice none 0 0]) 17 232 Tryz.underlying40 hi0 hz0 hz1' hz2' rfl (by decide) v N acc.flatten rfl HG4.out w4.heap.size 1 y [v0, v1, v2, v3, v4, v5, v6, v7, v8, v9, v10, v11, v12, v13, v14, v15, v16] rfl rfl (fun j u hj => (VarB.new w4 [v0, v1, v2, v3, v4, v5, v6, v7, v8, v9, v10, v11, v12, v13, v14, v15, v16] 42).cell j hj) w3.heap.size HA4.out (fun b hb => ⟨by omega, by omega⟩) hfar.out (by simp; exact Nat.le_succ_of_le hz4) (by omega) (by unfold maxLen; omega) (by simp; have : w3.heap.size ≤ w4.heap.size := hz4; omega) ?_
        intro v6 w6 hG6 hO6 hb6 hg6
        have hX6 : VarB w6 C [.int .i64 5, .int .i64 0, .int .i64 0, .string ⟨#[]⟩, .string ⟨#[]⟩, .int .i64 0, .int .i64 0, .string ⟨#[]⟩, .slice none 0 0, .int .i64 0, .string ⟨#[]⟩, .string ⟨#[]⟩, .int .i64 0, .int .i64 0, .string ⟨#[]⟩, .slice none 0 0, v] := hX5.keep (hg6.block C (by simp; have : w3.heap.size ≤ w4.heap.size := hz4; omega) (fun e => (HG3.out.out1 e).2 rfl)) hg6.size
        have E6 : Env w a l m d σ ρ2 zCv w6 := ⟨⟨HE4.out.st.rd.above (hb6.mono (by omega)), hO6 w a HE4.out.st.onl (by omega), HE4.out.st.le⟩, HE4.out.res.keep (hb6.block _ (by omega)) hb6.size, Nat.le_trans HE4.out.z hb6.size, HE4.out.lt⟩
        refine hK.out _ _ hX6 (fun hHeld => ?_)
        clear hK K
        (try simp only [Act.put, List.setIfInBounds_toArray, List.set_cons_zero, List.set_cons_succ, List.getElem_toArray, List.getElem_cons_zero, List.getElem_cons_succ])
        refine wpAnyH_take (i := 6) (v := ?_) rfl (by kernel_rfl) (by kernel_rfl) (by kernel_rfl) (fun _ _ _ h => h) (Or.inl ⟨by rfl, ?_⟩) (by assumption) ?_
        rotate_left
        · (intro wx hSw; go_simp; (try with_reducible rfl))
        (try simp only [Act.put, List.setIfInBounds_toArray, List.set_cons_zero, List.set_cons_succ, List.getElem_toArray, List.getElem_cons_zero, List.getElem_cons_succ])
        refine wpAnyH_done (by kernel_rfl) ?_ _
        show wpList _ _ _ _ _ _
        have c6 := hX6.cell 16 rfl
        have f6 := hX6.frz 16 (by simp)
        obtain ⟨p6, cc6, rfl, -⟩ := hG6.slice
        have hX7 : VarB (w6.setCell ⟨C, 16, none⟩ (.slice p6 (N + 1) cc6)) C [.int .i64 5, .int .i64 0, .int .i64 0, .string ⟨#[]⟩, .string ⟨#[]⟩, .int .i64 0, .int .i64 0, .string ⟨#[]⟩, .slice none 0 0, .int .i64 0, .string ⟨#[]⟩, .string ⟨#[]⟩, .int .i64 0, .int .i64 0, .string ⟨#[]⟩, .slice none 0 0, .slice p6 (N + 1) cc6] := hX6.set (i := 16) _ (by simp)
        have hG7 := hid0 (hG6.puts 16 [.slice p6 (N + 1) cc6] (fun h => h.2 rfl))
        have E7 := E6.set 16 (.slice p6 (N + 1) cc6) (by omega : w.heap.size < C)
        clear hX4 hX5 E4 hX6 hG6
        go_wp2_with fail
        go_roundw
        case rel => exact ⟨k, acc ++ [y], ρ2, _, HM, by omega, by rw [List.length_append, hN.out]; simp; omega, hid0 hX7, hid0 (by rw [List.length_append, hN.out, List.flatten_append]; simp only [List.flatten_cons, List.flatten_nil, List.append_nil]; exact hG7.out), by omega, E7⟩
        case measure => rw [hat.out, E7.rd.at_]; omega
      · have hM3 := hM.out
        rw [moreP_no (k := k) (acc := acc) (one := (bothOf l (simpleP l m n d))) hb] at hM3
        dsimp only at hM3
        replace hb := hid0 hb
        replace hM3 := hid0 hM3
        clear hM
        go_wp2_with fail
        go_at_call 17
        refine (paTake_no [111, 114] E.rd hb.out).mono ?_
        rintro e9 w3 ⟨rfl, hS3⟩
        have HY3 := hY.out.later hS3.onl haC
        have HG3 := hG.out.later hS3.onl hPa
        have E3 := E.step hS3
        have hL3 : LsAt w3 (fr (w.heap.size + 1)) (coL 5 0 zE zE (rL acc)) [.int .i64 5, .int .i64 0, .int .i64 0, .string ⟨#[]⟩, .string ⟨#[]⟩, .int .i64 0, .int .i64 0, .string ⟨#[]⟩, .slice none 0 0, .int .i64 0, .string ⟨#[]⟩, .string ⟨#[]⟩, .int .i64 0, .int .i64 0, .string ⟨#[]⟩, .slice none 0 0, v] := .co rfl rfl (.zE _ _) (.zE _ _) (HG3.leaf (fun b hb => hb.1))
        go_wp2_with (first | ((with_reducible refine wp_getB HY3 Tryz.underlying42 ?_ ?_ ?_ ?_); (rfl); (exact infoC); (rfl)) | ((with_reducible refine wp_putB E3.res hL3 ?_ ?_ ?_ ?_ ?_); (rfl); (exact infoC); (rfl); (rfl); intro w0 hV0 hw0; simp only [Act.put]) | fail)
        cases hM3.out
        exact end_blk hV0 rfl rfl _ Tryz.underlying42 rfl infoC rfl (E3.fin hL3 rfl hw0.out)
  · have hM2 := hM.out
    rw [if_neg (by simp [hb])] at hM2
    replace hM2 := hid0 hM2
    replace hb := hid0 hb
    clear hM
    go_at_call 15
    refine (paIs_at hb E1.rd).mono ?_
    rintro e w2 ⟨rfl, hS2⟩
    have hX2 := hX1.later hS2.onl haB
    have hL2 := (hL1.laterx hS2.onl han).unx
    have E2 := E1.step hS2
    go_wp2_with (first | ((with_reducible refine wp_getB hX2 Tryz.underlying42 ?_ ?_ ?_ ?_); (rfl); (exact infoC); (rfl)) | ((with_reducible refine wp_putB E2.res hL2 ?_ ?_ ?_ ?_ ?_); (rfl); (exact infoC); (rfl); (rfl); intro w0 hV0 hw0; simp only [Act.put]) | fail)
    cases hM2.out
    exact end_blk hV0 rfl rfl _ Tryz.underlying42 rfl infoC rfl (E2.fin hL2 rfl hw0.out)
end Go.Proofs.YtneebnankghhgacGreatDoor

/- The project's parser: a condition, however deep: contracts of the calls, by the words that are left. Conditions: none besides. -/
namespace Go.Proofs.YtneebnankghhgacGreatDoor
open Go.RowKit

set_option maxRecDepth 100000 in
set_option maxHeartbeats 4000000 in
theorem paBoth_of {w : World} {a : Nat} {l : List Wd} {m : Int} {d n : Nat} {σ : PS} (HF : ∀ (w : World) (d : Nat) (σ : PS), Rd w a l m d σ → l.length < n + σ.i → Calls Tryz.prog 83 #[.pointer (some ⟨a, 0, none⟩)] w (Ans w a l m d σ 17 (simpleP l m n d σ).1 (simpleP l m n d σ).2)) (hR : Rd w a l m d σ) (hn : l.length < n + σ.i) :
    Calls Tryz.prog 73 #[.pointer (some ⟨a, 0, none⟩)] w (Ans w a l m d σ 17 (bothOf l (simpleP l m n d) σ).1 (bothOf l (simpleP l m n d) σ).2) := by
  have E0 := hR.start zCv 42
  obtain ⟨⟨y, σ1⟩, h1⟩ : ∃ y, bothOf l (simpleP l m n d) σ = y := ⟨_, rfl⟩
  rw [h1]
  dsimp only
  replace h1 := hid0 h1
  go_enter Tryz.func73, Tryz.ntmps73
  go_wp2_with fail
  go_at_call 72
  refine (Ans.at_ h1 (paJoinedAnd (fun w σ => HF w d σ) E0.rd hn)).mono ?_
  rintro e w1 ⟨us, hl, rfl, hA, hS1⟩
  obtain ⟨u0, u1, u2, u3, u4, u5, u6, u7, u8, u9, u10, u11, u12, u13, u14, u15, u16, rfl⟩ := len17 hl
  have hL := E0.leaf hA
  have E1 := E0.step hS1
  go_wp2_with (first | ((with_reducible refine wp_putB E1.res hL ?_ ?_ ?_ ?_ ?_); (rfl); (exact infoC); (rfl); (rfl); intro w0 hV0 hw0; simp only [Act.put]) | fail)
  exact end_blk hV0 rfl rfl _ Tryz.underlying42 rfl infoC rfl (E1.fin hL rfl hw0.out)
set_option maxRecDepth 100000 in
set_option maxHeartbeats 4000000 in
theorem paCond_of {w : World} {a : Nat} {l : List Wd} {m : Int} {d n : Nat} {σ : PS} (HF : ∀ (w : World) (d : Nat) (σ : PS), Rd w a l m d σ → l.length < n + σ.i → Calls Tryz.prog 83 #[.pointer (some ⟨a, 0, none⟩)] w (Ans w a l m d σ 17 (simpleP l m n d σ).1 (simpleP l m n d σ).2)) (hR : Rd w a l m d σ) (hn : l.length < n + σ.i) :
    Calls Tryz.prog 62 #[.pointer (some ⟨a, 0, none⟩)] w (Ans w a l m d σ 17 (condOf l (simpleP l m n d) σ).1 (condOf l (simpleP l m n d) σ).2) := by
  have E0 := hR.start zCv 42
  obtain ⟨⟨y, σ1⟩, h1⟩ : ∃ y, condOf l (simpleP l m n d) σ = y := ⟨_, rfl⟩
  rw [h1]
  dsimp only
  replace h1 := hid0 h1
  go_enter Tryz.func62, Tryz.ntmps62
  go_wp2_with fail
  go_at_call 72
  refine (Ans.at_ h1 (paJoinedOr (fun w σ hR hn => paBoth_of HF hR hn) E0.rd hn)).mono ?_
  rintro e w1 ⟨us, hl, rfl, hA, hS1⟩
  obtain ⟨u0, u1, u2, u3, u4, u5, u6, u7, u8, u9, u10, u11, u12, u13, u14, u15, u16, rfl⟩ := len17 hl
  have hL := E0.leaf hA
  have E1 := E0.step hS1
  go_wp2_with (first | ((with_reducible refine wp_putB E1.res hL ?_ ?_ ?_ ?_ ?_); (rfl); (exact infoC); (rfl); (rfl); intro w0 hV0 hw0; simp only [Act.put]) | fail)
  exact end_blk hV0 rfl rfl _ Tryz.underlying42 rfl infoC rfl (E1.fin hL rfl hw0.out)
set_option maxRecDepth 1000000 in
set_option maxHeartbeats 16000000 in
theorem paSimple_all {a : Nat} {l : List Wd} {m : Int} : ∀ (n : Nat) (w : World) (d : Nat) (σ : PS), Rd w a l m d σ → l.length < n + σ.i →
    Calls Tryz.prog 83 #[.pointer (some ⟨a, 0, none⟩)] w (Ans w a l m d σ 17 (simpleP l m n d σ).1 (simpleP l m n d σ).2)
  | 0, w, d, σ, hR, hn => absurd hn (by have := hR.hi; omega)
  | n + 1, w, d, σ, hR, hn => by
    have IH := hid0 (paSimple_all (a := a) (l := l) (m := m) n)
    have E0 := hR.start zCv 42
    have dle := hR.cells.2.2.2.2.2
    obtain ⟨⟨x, τ⟩, hM⟩ : ∃ y, simpleP l m (n + 1) d σ = y := ⟨_, rfl⟩
    rw [hM]
    dsimp only
    replace hM := hid0 hM
    go_enter Tryz.func83, Tryz.ntmps83
    rcases Bool.eq_false_or_eq_true (isP l [110, 111, 116] σ) with hb | hb
    · obtain ⟨σ2, h2⟩ : ∃ y, deepP l m d ⟨σ.i + 1, σ.e⟩ = y := ⟨_, rfl⟩
      obtain ⟨⟨y, σ3⟩, h3⟩ : ∃ z, simpleP l m n (d + 1) σ2 = z := ⟨_, rfl⟩
      have hE : simpleP l m (n + 1) d σ = (coL 6 0 zE zE (rL [y]), σ3) := by simp only [simpleP, hb, h2, h3, if_true]
      replace hE := hid0 hE
      replace h2 := hid0 h2
      replace h3 := hid0 h3
      replace hb := hid0 hb
      go_wp2_with fail
      go_at_call 17
      refine (paTake_yes [110, 111, 116] E0.rd hb.out).mono ?_
      rintro e w11 ⟨rfl, hS1⟩
      have E1 := E0.step hS1
      clear hS1
      go_wp2_with fail
      go_at_call 88
      refine (Calls.mono (paDeeper_any E1.rd (by dsimp only; omega)) ?_)
      rintro e w2 ⟨rfl, hS2⟩
      rw [h2.out] at hS2
      have le2 := hS2.le
      dsimp only at le2
      have E2 := E1.step hS2
      go_wp2_with fail
      go_at_call 83
      refine (Ans.at_ h3 (IH.out _ _ _ E2.rd (by omega))).mono ?_
      rintro e w3 ⟨us, hl, rfl, hA, hS3⟩
      obtain ⟨u0, u1, u2, u3, u4, u5, u6, u7, u8, u9, u10, u11, u12, u13, u14, u15, u16, rfl⟩ := len17 hl
      clear hl
      have hz3 := hS3.onl.size
      have z2 := E2.z
      have E3 := E2.step hS3
      have hwB : w.heap.size < w3.heap.size + 1 := Nat.lt_succ_of_lt E3.z
      have hrow : LfAt (w3.alloc (Obj.cells #[u0, u1, u2, u3, u4, u5, u6, u7, u8, u9, u10, u11, u12, u13, u14, u15, u16] 42)) (fr (w.heap.size + 1)) (rL [y]) (.slice (some ⟨w3.heap.size, 0, none⟩) 1 1) := LsAt.single (E2.leaf hA) 42 (show w.heap.size + 1 ≤ w3.heap.size by omega)
      have hL00 : LsAt (w3.alloc (Obj.cells #[u0, u1, u2, u3, u4, u5, u6, u7, u8, u9, u10, u11, u12, u13, u14, u15, u16] 42)) (fr (w.heap.size + 1)) (coL 6 0 zE zE (rL [y])) [.int .i64 6, .int .i64 0, .int .i64 0, .string ⟨#[]⟩, .string ⟨#[]⟩, .int .i64 0, .int .i64 0, .string ⟨#[]⟩, .slice none 0 0, .int .i64 0, .string ⟨#[]⟩, .string ⟨#[]⟩, .int .i64 0, .int .i64 0, .string ⟨#[]⟩, .slice none 0 0, .slice (some ⟨w3.heap.size, 0, none⟩) 1 1] := .co rfl rfl (.zE _ _) (.zE _ _) hrow
      have hL0 : LsAt ((w3.alloc (Obj.cells #[u0, u1, u2, u3, u4, u5, u6, u7, u8, u9, u10, u11, u12, u13, u14, u15, u16] 42)).alloc (Obj.cells #[.int .i64 0, .int .i64 0, .int .i64 0, .string ⟨#[]⟩, .string ⟨#[]⟩, .int .i64 0, .int .i64 0, .string ⟨#[]⟩, .slice none 0 0, .int .i64 0, .string ⟨#[]⟩, .string ⟨#[]⟩, .int .i64 0, .int .i64 0, .string ⟨#[]⟩, .slice none 0 0, .slice none 0 0] 42)) (frx (w.heap.size + 1) (w3.heap.size + 1)) (coL 6 0 zE zE (rL [y])) [.int .i64 6, .int .i64 0, .int .i64 0, .string ⟨#[]⟩, .string ⟨#[]⟩, .int .i64 0, .int .i64 0, .string ⟨#[]⟩, .slice none 0 0, .int .i64 0, .string ⟨#[]⟩, .string ⟨#[]⟩, .int .i64 0, .int .i64 0, .string ⟨#[]⟩, .slice none 0 0, .slice (some ⟨w3.heap.size, 0, none⟩) 1 1] := by have := hL00.allocx (Obj.cells #[.int .i64 0, .int .i64 0, .int .i64 0, .string ⟨#[]⟩, .string ⟨#[]⟩, .int .i64 0, .int .i64 0, .string ⟨#[]⟩, .slice none 0 0, .int .i64 0, .string ⟨#[]⟩, .string ⟨#[]⟩, .int .i64 0, .int .i64 0, .string ⟨#[]⟩, .slice none 0 0, .slice none 0 0] 42); rw [World.size_alloc] at this; exact this
      have hX0 : VarB ((w3.alloc (Obj.cells #[u0, u1, u2, u3, u4, u5, u6, u7, u8, u9, u10, u11, u12, u13, u14, u15, u16] 42)).alloc (Obj.cells #[.int .i64 0, .int .i64 0, .int .i64 0, .string ⟨#[]⟩, .string ⟨#[]⟩, .int .i64 0, .int .i64 0, .string ⟨#[]⟩, .slice none 0 0, .int .i64 0, .string ⟨#[]⟩, .string ⟨#[]⟩, .int .i64 0, .int .i64 0, .string ⟨#[]⟩, .slice none 0 0, .slice none 0 0] 42)) (w3.heap.size + 1) zCv := by have := VarB.new (w3.alloc (Obj.cells #[u0, u1, u2, u3, u4, u5, u6, u7, u8, u9, u10, u11, u12, u13, u14, u15, u16] 42)) zCv 42; rw [World.size_alloc] at this; exact this
      have E10 : Env w a l m (d + 1) σ σ3 zCv ((w3.alloc (Obj.cells #[u0, u1, u2, u3, u4, u5, u6, u7, u8, u9, u10, u11, u12, u13, u14, u15, u16] 42)).alloc (Obj.cells #[.int .i64 0, .int .i64 0, .int .i64 0, .string ⟨#[]⟩, .string ⟨#[]⟩, .int .i64 0, .int .i64 0, .string ⟨#[]⟩, .slice none 0 0, .int .i64 0, .string ⟨#[]⟩, .string ⟨#[]⟩, .int .i64 0, .int .i64 0, .string ⟨#[]⟩, .slice none 0 0, .slice none 0 0] 42)) := (E3.alloc _).alloc _
      have haB : a < (w3.heap.size + 1) := by have := E0.lt; omega
      go_wp2_with (first | ((with_reducible refine wp_putB hX0 hL0 ?_ ?_ ?_ ?_ ?_); (rfl); (exact infoC); (rfl); (rfl); intro w11 hX1 hw11; simp only [Act.put]; (have E11 : Env w a l m (d + 1) σ σ3 zCv w11 := (by rw [hw11.out]; exact E10.puts 0 _ hwB)); (have cc := E11.rd.cells); (have c2 : w11.cell? ⟨a, 2, none⟩ = some (.int .i64 ((d : Int) + 1)) := cc.2.2.1); (have f2 := cc.2.2.2.1); (have d5 := cc.2.2.2.2); (have hL1 : LsAt w11 (frx (w.heap.size + 1) (w3.heap.size + 1)) (coL 6 0 zE zE (rL [y])) [.int .i64 6, .int .i64 0, .int .i64 0, .string ⟨#[]⟩, .string ⟨#[]⟩, .int .i64 0, .int .i64 0, .string ⟨#[]⟩, .slice none 0 0, .int .i64 0, .string ⟨#[]⟩, .string ⟨#[]⟩, .int .i64 0, .int .i64 0, .string ⟨#[]⟩, .slice none 0 0, .slice (some ⟨w3.heap.size, 0, none⟩) 1 1] := (by rw [hw11.out]; exact hL0.putsx)); (have E12 := E11.undeep (x := (d : Int)) rfl); (have hX2 := hX1.own (a := a) (o := 2) haB (.int .i64 (d : Int))); (have hL2 := (hL1.own (a := a) (o := 2) (Nat.lt_succ_of_lt E0.lt) (.int .i64 (d : Int))).unx)) | ((with_reducible refine wp_getB hX2 Tryz.underlying42 ?_ ?_ ?_ ?_); (rfl); (exact infoC); (rfl)) | ((with_reducible refine wp_putB E12.res hL2 ?_ ?_ ?_ ?_ ?_); (rfl); (exact infoC); (rfl); (rfl); intro w0 hV0 hw0; simp only [Act.put]) | fail)
      cases hM.out.symm.trans hE.out
      exact end_blk hV0 rfl rfl _ Tryz.underlying42 rfl infoC rfl (E12.fin hL2 rfl hw0.out)
    rcases Bool.eq_false_or_eq_true (isP l [40] σ) with hc | hc
    · obtain ⟨σ2, h2⟩ : ∃ y, deepP l m d ⟨σ.i + 1, σ.e⟩ = y := ⟨_, rfl⟩
      obtain ⟨⟨y, σ3⟩, h3⟩ : ∃ z, condOf l (simpleP l m n (d + 1)) σ2 = z := ⟨_, rfl⟩
      obtain ⟨σ4, h4⟩ : ∃ z, need1 l [41] σ3 = z := ⟨_, rfl⟩
      have hE : simpleP l m (n + 1) d σ = (y, σ4) := by simp only [simpleP, hb, hc, h2, h3, h4, if_true, if_false, Bool.false_eq_true]
      replace h4 := hid0 h4
      replace hE := hid0 hE
      replace h2 := hid0 h2
      replace h3 := hid0 h3
      replace hb := hid0 hb
      replace hc := hid0 hc
      go_wp2_with fail
      go_at_call 17
      refine (paTake_no [110, 111, 116] E0.rd hb.out).mono ?_
      rintro e w11 ⟨rfl, hS1⟩
      have E01 := E0.step hS1
      clear hS1
      go_wp2_with fail
      go_at_call 17
      refine (paTake_yes [40] E01.rd hc.out).mono ?_
      rintro e w12 ⟨rfl, hS1⟩
      have E1 := E01.step hS1
      clear hS1
      go_wp2_with fail
      go_at_call 88
      refine (Calls.mono (paDeeper_any E1.rd (by dsimp only; omega)) ?_)
      rintro e w2 ⟨rfl, hS2⟩
      rw [h2.out] at hS2
      have le2 := hS2.le
      dsimp only at le2
      have E2 := E1.step hS2
      go_wp2_with fail
      go_at_call 62
      refine (Ans.at_ h3 (paCond_of IH.out E2.rd (by omega))).mono ?_
      rintro e w3 ⟨us, hl, rfl, hA, hS3⟩
      obtain ⟨u0, u1, u2, u3, u4, u5, u6, u7, u8, u9, u10, u11, u12, u13, u14, u15, u16, rfl⟩ := len17 hl
      clear hl
      have hz3 := hS3.onl.size
      have z2 := E2.z
      have E3 := E2.step hS3
      have hwB : w.heap.size < w3.heap.size := E3.z
      have hL0 := (E2.leaf hA).allocx (Obj.cells #[.int .i64 0, .int .i64 0, .int .i64 0, .string ⟨#[]⟩, .string ⟨#[]⟩, .int .i64 0, .int .i64 0, .string ⟨#[]⟩, .slice none 0 0, .int .i64 0, .string ⟨#[]⟩, .string ⟨#[]⟩, .int .i64 0, .int .i64 0, .string ⟨#[]⟩, .slice none 0 0, .slice none 0 0] 42)
      have hX0 : VarB (w3.alloc (Obj.cells #[.int .i64 0, .int .i64 0, .int .i64 0, .string ⟨#[]⟩, .string ⟨#[]⟩, .int .i64 0, .int .i64 0, .string ⟨#[]⟩, .slice none 0 0, .int .i64 0, .string ⟨#[]⟩, .string ⟨#[]⟩, .int .i64 0, .int .i64 0, .string ⟨#[]⟩, .slice none 0 0, .slice none 0 0] 42)) w3.heap.size zCv := VarB.new w3 zCv 42
      have E10 := E3.alloc (Obj.cells #[.int .i64 0, .int .i64 0, .int .i64 0, .string ⟨#[]⟩, .string ⟨#[]⟩, .int .i64 0, .int .i64 0, .string ⟨#[]⟩, .slice none 0 0, .int .i64 0, .string ⟨#[]⟩, .string ⟨#[]⟩, .int .i64 0, .int .i64 0, .string ⟨#[]⟩, .slice none 0 0, .slice none 0 0] 42)
      have haB : a < w3.heap.size := by have := E0.lt; omega
      go_wp2_with (first | ((with_reducible refine wp_putB hX0 hL0 ?_ ?_ ?_ ?_ ?_); (rfl); (exact infoC); (rfl); (rfl); intro w11 hX1 hw11; simp only [Act.put]; (have E11 : Env w a l m (d + 1) σ σ3 zCv w11 := (by rw [hw11.out]; exact E10.puts 0 _ hwB)); (have cc := E11.rd.cells); (have c2 : w11.cell? ⟨a, 2, none⟩ = some (.int .i64 ((d : Int) + 1)) := cc.2.2.1); (have f2 := cc.2.2.2.1); (have d5 := cc.2.2.2.2)) | fail)
      have hL1 : LsAt w11 (frx (w.heap.size + 1) w3.heap.size) (y) [u0, u1, u2, u3, u4, u5, u6, u7, u8, u9, u10, u11, u12, u13, u14, u15, u16] := by rw [hw11.out]; exact hL0.putsx
      have E12 := E11.undeep (x := (d : Int)) rfl
      replace hX1 := hX1.own (o := 2) haB (.int .i64 (d : Int))
      replace hL1 := hL1.own (a := a) (o := 2) (Nat.lt_succ_of_lt E0.lt) (.int .i64 (d : Int))
      go_at_call 24
      refine (paNeed1_B h4 _ w11.heap.size (by simp) E12.rd).mono ?_
      rintro e w4 ⟨rfl, hS4⟩
      have E13 := E12.step hS4
      replace hX1 := hX1.later hS4.onl haB
      have hL2 := (hL1.laterx hS4.onl (Nat.lt_succ_of_lt E0.lt)).unx
      go_wp2_with (first | ((with_reducible refine wp_getB hX1 Tryz.underlying42 ?_ ?_ ?_ ?_); (rfl); (exact infoC); (rfl)) | ((with_reducible refine wp_putB E13.res hL2 ?_ ?_ ?_ ?_ ?_); (rfl); (exact infoC); (rfl); (rfl); intro w0 hV0 hw0; simp only [Act.put]) | fail)
      cases hM.out.symm.trans hE.out
      exact end_blk hV0 rfl rfl _ Tryz.underlying42 rfl infoC rfl (E13.fin hL2 rfl hw0.out)
    · obtain ⟨⟨y, σ3⟩, h3⟩ : ∃ z, comparedP l σ = z := ⟨_, rfl⟩
      have hE : simpleP l m (n + 1) d σ = (y, σ3) := by simp only [simpleP, hb, hc, h3, if_false, Bool.false_eq_true]
      replace hE := hid0 hE
      replace h3 := hid0 h3
      replace hb := hid0 hb
      replace hc := hid0 hc
      go_wp2_with fail
      go_at_call 17
      refine (paTake_no [110, 111, 116] E0.rd hb.out).mono ?_
      rintro e w11 ⟨rfl, hS1⟩
      have E01 := E0.step hS1
      clear hS1
      go_wp2_with fail
      go_at_call 17
      refine (paTake_no [40] E01.rd hc.out).mono ?_
      rintro e w12 ⟨rfl, hS1⟩
      have E1 := E01.step hS1
      clear hS1
      go_wp2_with fail
      go_at_call 89
      refine (Ans.at_ h3 (paCompared_any E1.rd)).mono ?_
      rintro e w3 ⟨us, hl, rfl, hA, hS3⟩
      obtain ⟨u0, u1, u2, u3, u4, u5, u6, u7, u8, u9, u10, u11, u12, u13, u14, u15, u16, rfl⟩ := len17 hl
      have hL2 := E1.leaf hA
      have E3 := E1.step hS3
      go_wp2_with (first | ((with_reducible refine wp_putB E3.res hL2 ?_ ?_ ?_ ?_ ?_); (rfl); (exact infoC); (rfl); (rfl); intro w0 hV0 hw0; simp only [Act.put]) | fail)
      cases hM.out.symm.trans hE.out
      exact end_blk hV0 rfl rfl _ Tryz.underlying42 rfl infoC rfl (E3.fin hL2 rfl hw0.out)
/-- A condition. -/
theorem paCond_any {w : World} {a : Nat} {l : List Wd} {m : Int} {d : Nat} {σ : PS} (hR : Rd w a l m d σ) :
    Calls Tryz.prog 62 #[.pointer (some ⟨a, 0, none⟩)] w (Ans w a l m d σ 17 (condP l m d σ).1 (condP l m d σ).2) :=
  paCond_of (n := l.length + 1) (paSimple_all _) hR (by omega)

set_option maxRecDepth 100000 in
set_option maxHeartbeats 2000000 in
theorem paWhere_any {w : World} {a : Nat} {l : List Wd} {m : Int}  {σ : PS} (hR : Rd w a l m 0 σ) :
    Calls Tryz.prog 43 #[.pointer (some ⟨a, 0, none⟩)] w (Ans w a l m 0 σ 17 (whereP l m σ).1 (whereP l m σ).2) := by
  have E0 := hR.start zCv 42
  obtain ⟨⟨x, τ⟩, hM⟩ : ∃ y, whereP l m σ = y := ⟨_, rfl⟩
  rw [hM]
  dsimp only
  replace hM := hid0 hM
  go_enter Tryz.func43, Tryz.ntmps43
  rcases Bool.eq_false_or_eq_true (isP l [119, 104, 101, 114, 101] σ) with h1 | h1
  · replace h1 := hid0 h1
    go_wp2_with fail
    go_at_call 17
    refine (paTake_yes [119, 104, 101, 114, 101] E0.rd h1.out).mono ?_
    rintro e w1 ⟨rfl, hS⟩
    have E1 := E0.step hS
    clear hS
    obtain ⟨⟨v, σ2⟩, h2⟩ : ∃ x, condP l m 0 (⟨σ.i + 1, σ.e⟩ : PS) = x := ⟨_, rfl⟩
    replace h2 := hid0 h2
    go_wp2_with fail
    go_at_call 62
    refine (Ans.at_ h2 (paCond_any E1.rd)).mono ?_
    rintro e w2 ⟨us, hl, rfl, hA, hS⟩
    obtain ⟨u0, u1, u2, u3, u4, u5, u6, u7, u8, u9, u10, u11, u12, u13, u14, u15, u16, rfl⟩ := len17 hl
    clear hl
    have Av := E1.leaf hA
    clear hA
    have E2 := E1.step hS
    clear hS
    go_wp2_with (first | ((with_reducible refine wp_putB E2.res Av ?_ ?_ ?_ ?_ ?_); (rfl); (exact infoC); (rfl); (rfl); intro w0 hV0 hw0) | fail)
    have hE : whereP l m σ = (v, σ2) := by simp only [whereP, h1.out, h2.out, if_true]
    cases hM.out.symm.trans hE
    exact end_blk hV0 rfl rfl _ Tryz.underlying42 rfl infoC rfl (E2.fin Av rfl hw0.out)
  · replace h1 := hid0 h1
    go_wp2_with fail
    go_at_call 17
    refine (paTake_no [119, 104, 101, 114, 101] E0.rd h1.out).mono ?_
    rintro e w1 ⟨rfl, hS⟩
    have E1 := E0.step hS
    clear hS
    have hL : LsAt w1 (fr (w.heap.size + 1)) (zC) [.int .i64 0, .int .i64 0, .int .i64 0, .string ⟨#[]⟩, .string ⟨#[]⟩, .int .i64 0, .int .i64 0, .string ⟨#[]⟩, .slice none 0 0, .int .i64 0, .string ⟨#[]⟩, .string ⟨#[]⟩, .int .i64 0, .int .i64 0, .string ⟨#[]⟩, .slice none 0 0, .slice none 0 0] := .zC _ _
    go_wp2_with (first | ((with_reducible refine wp_putB E1.res hL ?_ ?_ ?_ ?_ ?_); (rfl); (exact infoC); (rfl); (rfl); intro w0 hV0 hw0) | fail)
    have hE : whereP l m σ = (zC, σ) := by simp only [whereP, h1.out, Bool.false_eq_true, if_false]
    cases hM.out.symm.trans hE
    exact end_blk hV0 rfl rfl _ Tryz.underlying42 rfl infoC rfl (E1.fin hL rfl hw0.out)
end Go.Proofs.YtneebnankghhgacGreatDoor
