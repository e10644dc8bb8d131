/- Several of my texts laid together, each as it was: Sz. Conditions: each names its own. -/
import Derived.Test.YtneebnankghhgabSq
import Derived.RangeFuncNested
import Derived.RangeFuncBox
import Derived.RangeFuncLeaves
import Derived.Shelf.Abstract
import Derived.WalkKit
import Derived.OwnWalkIn
import Derived.TacticsInMore
import Derived.LoopNIn
import Derived.LoopIn
import Derived.Maps.AppendAt
/- Keys from one on and below another one, plainly; blocks that lie as they lay. Nothing of any program here. Conditions: each lemma names its own. -/
namespace Go.Proofs.Ytneebnankghhgab
open Go.RowKit Go.Shelf

section
variable {β : Type}
/-- Is a key from one on, and below another one (an empty one bounds nothing)? -/
def inR (frm to : Key) (x : Key × β) : Bool := !decide (x.1 < frm) && (decide (to = []) || decide (x.1 < to))
def flt (frm to : Key) (l : List (Key × β)) : List (Key × β) := l.filter (inR frm to)
theorem flt_append (frm to : Key) (l r : List (Key × β)) : flt frm to (l ++ r) = flt frm to l ++ flt frm to r := List.filter_append ..
theorem flt_low {frm to : Key} {l : List (Key × β)} (h : ∀ x ∈ l, x.1 < frm) : flt frm to l = [] := by
  unfold flt
  rw [List.filter_eq_nil_iff]
  intro x hx
  simp [inR, h x hx]
theorem flt_high {frm to : Key} {l : List (Key × β)} (h : ∀ x ∈ l, ¬ x.1 < to) (ht : to ≠ []) : flt frm to l = [] := by
  unfold flt
  rw [List.filter_eq_nil_iff]
  intro x hx
  simp [inR, h x hx, ht]
theorem flt_one {frm to : Key} {x : Key × β} (h1 : ¬ x.1 < frm) (h2 : to = [] ∨ x.1 < to) : flt frm to [x] = [x] := by
  unfold flt
  rw [List.filter_cons_of_pos]
  · rfl
  · rcases h2 with h2 | h2 <;> simp [inR, h1, h2]
theorem flt_next {frm to : Key} {l : List (Key × β)} {i : Nat} (hi : i < l.length) (h1 : ¬ (l[i]).1 < frm) (h2 : to = [] ∨ (l[i]).1 < to) : flt frm to (l.take (i + 1)) = flt frm to (l.take i) ++ [l[i]] := by
  rw [List.take_succ_eq_append_getElem hi, flt_append, flt_one h1 h2]
theorem flt_stop {frm to : Key} {l : List (Key × β)} (hs : Asc l) {i : Nat} (hi : i < l.length) (ht : to ≠ []) (h : ¬ (l[i]).1 < to) : flt frm to l = flt frm to (l.take i) := by
  conv => lhs; rw [← List.take_append_drop i l]
  rw [flt_append, flt_high (l := l.drop i) (fun x hx => ?_) ht, List.append_nil]
  obtain ⟨j, hj, e⟩ := List.mem_iff_getElem.1 hx
  rw [List.getElem_drop] at e
  intro hxt
  rcases Nat.eq_zero_or_pos j with h0 | h0
  · subst h0
    have e' : l[i] = x := by simpa using e
    exact h (by rw [e']; exact hxt)
  · have hlt : i + j < l.length := by simp at hj; omega
    have := List.pairwise_iff_getElem.1 hs i (i + j) hi hlt (by omega)
    exact h (k_trans this (by rw [e]; exact hxt))
theorem flt_first {frm to : Key} {l : List (Key × β)} : flt frm to (l.take (pl frm (l.map (·.1)))) = [] := by
  refine flt_low (fun x hx => ?_)
  obtain ⟨i, hi, e⟩ := List.mem_iff_getElem.1 hx
  rw [List.getElem_take] at e
  have h1 : i < pl frm (l.map (·.1)) := by simp at hi; omega
  have h2 : i < (l.map (·.1)).length := by simp at hi ⊢; omega
  have := pl_lt frm (l.map (·.1)) i h2 h1
  rw [List.getElem_map, e] at this
  exact this
theorem flt_pre {frm to : Key} {l : List (Key × β)} (i : Nat) : flt frm to (l.take i) <+: flt frm to l := by
  conv => rhs; rw [← List.take_append_drop i l, flt_append]
  exact List.prefix_append _ _
end

/-- The blocks of which T speaks lie as they lay. -/
structure KeepB (T : Nat → Prop) (w w' : World) : Prop where
  size : w.heap.size ≤ w'.heap.size
  block : ∀ k, T k → k < w.heap.size → w'.heap[k]? = w.heap[k]?
theorem KeepB.refl (T : Nat → Prop) (w : World) : KeepB T w w := ⟨Nat.le_refl _, fun _ _ _ => rfl⟩
theorem KeepB.trans {T : Nat → Prop} {A B C : World} (h : KeepB T A B) (k : KeepB T B C) : KeepB T A C := ⟨Nat.le_trans h.size k.size, fun j hj hl => (k.block j hj (Nat.lt_of_lt_of_le hl h.size)).trans (h.block j hj hl)⟩
theorem KeepB.of_below {T : Nat → Prop} {A B : World} (h : Below A.heap.size A B) : KeepB T A B := ⟨h.size, fun k _ hk => h.block k hk⟩
theorem KeepB.cell {T : Nat → Prop} {A B : World} (h : KeepB T A B) {b o : Nat} {v : Value} (hb : T b) (hc : A.cell? ⟨b, o, none⟩ = some v) : B.cell? ⟨b, o, none⟩ = some v :=
  (World.cell?_of_block (a := ⟨b, o, none⟩) (h.block b hb (World.block_lt_of_cell? _ _ hc))).trans hc
theorem NodeAt.keepB {β : Type} {kv : Nat} {ec : β → List Value} {P T : Nat → Prop} {w w' : World} {n b : Nat} {t : Tr β n} (h : NodeAt kv ec P w n b t) (hk : KeepB T w w') (hPT : ∀ b, P b → T b) : NodeAt kv ec P w' n b t :=
  h.keep fun b _ _ hb hc => hk.cell (hPT b hb) hc
theorem abides_drew {α : Type} {B : Nat} {J : α → World → Prop} (h : AbidesFrom B J) {s : α} {W : World} (hs : J s W) : J s W.drew := h s W W.drew none hs ⟨rfl, rfl, rfl, Nat.le_refl _, fun _ _ _ => rfl⟩ (fun r e => by cases e)
theorem abides_alloc {α : Type} {B : Nat} {J : α → World → Prop} (h : AbidesFrom B J) {s : α} {W : World} (o : Obj) (hs : J s W) : J s (W.alloc o) := h s W _ none hs (World.grownBy_alloc W o none) (fun r e => by cases e)
end Go.Proofs.Ytneebnankghhgab
