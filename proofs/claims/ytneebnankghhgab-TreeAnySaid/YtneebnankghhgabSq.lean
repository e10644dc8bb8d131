/- Several of my texts laid together, each as it was: Sq. Conditions: each names its own. -/
import Derived.Test.YtneebnankghhgabSn
import Derived.Test.YtneebnankghhgabG2
import Derived.Deep.RegionHeld3
import Derived.Deep.Heap
/- A tree that lies in memory, in the project's way: its order, how many keys, its root; what a store into it leaves. Plainly: what is told of a key. Nothing of any program here. Conditions: each lemma names its own. -/
namespace Go.Proofs.Ytneebnankghhgab
open Go.RowKit

/-- A tree's cells, and the nodes under its root, in blocks that P lets by. -/
structure TreeAt {β : Type} (kv : Nat) (ec : β → List Value) (P : Nat → Prop) (w : World) (B order : Nat) (L : List (Key × β)) : Prop where
  c0 : w.cell? ⟨B, 0, none⟩ = some (.int .i64 (order : Int))
  c1 : w.cell? ⟨B, 1, none⟩ = some (.int .i64 (L.length : Int))
  root : ∃ n b t, w.cell? ⟨B, 2, none⟩ = some (.pointer (some ⟨b, 0, none⟩)) ∧ Wf (order / 2) order n (min n 1) order none none t ∧ NodeAt kv ec P w n b t ∧ flat n t = L
  f : ∀ j, w.frozen? ⟨B, j, none⟩ = false
  lo : 3 ≤ order
  hi : order ≤ 64
  out : ¬ P B
section
variable {β : Type} {kv : Nat} {ec : β → List Value} {P : Nat → Prop} {w w' : World} {B order : Nat} {L : List (Key × β)}
theorem TreeAt.lt (h : TreeAt kv ec P w B order L) : B < w.heap.size := World.block_lt_of_cell? _ _ h.c0
theorem TreeAt.later (h : TreeAt kv ec P w B order L) (hb : Below w.heap.size w w') : TreeAt kv ec P w' B order L := by
  obtain ⟨n, b, t, h0, h1, h2, h3⟩ := h.root
  exact ⟨cell_later hb h.c0, cell_later hb h.c1, ⟨n, b, t, cell_later hb h0, h1, h2.later hb, h3⟩, fun j => (hb.frozen (p := ⟨B, j, none⟩) h.lt).trans (h.f j), h.lo, h.hi, h.out⟩
theorem TreeAt.asc (h : TreeAt kv ec P w B order L) : Asc L := by
  obtain ⟨n, b, t, _, h1, _, rfl⟩ := h.root
  exact wf_asc h1
/-- Blocks that P lets by lie as they lay behind a store into another. -/
theorem keep_store {P : Nat → Prop} {w : World} {B j : Nat} {v : Value} (hB : ¬ P B) : ∀ b o u, P b → w.cell? ⟨b, o, none⟩ = some u → (w.setCell ⟨B, j, none⟩ v).cell? ⟨b, o, none⟩ = some u := fun b o u hb hc => by
  have hne : B ≠ b := fun e => hB (e ▸ hb)
  exact (World.cell?_setCell_far w ⟨B, j, none⟩ ⟨b, o, none⟩ v hne).trans hc
theorem NodeAt.store {n b : Nat} {t : Tr β n} (h : NodeAt kv ec P w n b t) (hB : ¬ P B) (j : Nat) (v : Value) : NodeAt kv ec P (w.setCell ⟨B, j, none⟩ v) n b t := h.keep (keep_store hB)
/-- All lies as it lay, but a tree's own cells. -/
def Turn (B : Nat) (w w' : World) : Prop := w.grownBy w' (some B)
theorem Turn.of (hb : Below w.heap.size w w') : Turn B w w' := ⟨hb.os, hb.tape, hb.output, hb.size, fun k hk _ => hb.block k hk⟩
theorem Turn.trans {w1 : World} (h : Turn B w w1) (g : Turn B w1 w') : Turn B w w' := ⟨g.os.trans h.os, g.tape.trans h.tape, g.output.trans h.output, Nat.le_trans h.size g.size, fun k hk hne => (g.block k (Nat.lt_of_lt_of_le hk h.size) hne).trans (h.block k hk hne)⟩
theorem Turn.cell (h : Turn B w w') {b o : Nat} {u : Value} (hne : b ≠ B) (hc : w.cell? ⟨b, o, none⟩ = some u) : w'.cell? ⟨b, o, none⟩ = some u :=
  (World.cell?_of_block (h.block b (World.block_lt_of_cell? _ _ hc) (fun e => hne (by cases e; rfl)))).trans hc
theorem Turn.frozen (h : Turn B w w') {b o : Nat} (hne : b ≠ B) (hb : b < w.heap.size) : w'.frozen? ⟨b, o, none⟩ = w.frozen? ⟨b, o, none⟩ :=
  World.frozen?_of_block (h.block b hb (fun e => hne (by cases e; rfl)))
theorem Turn.store (w : World) (B j : Nat) (v : Value) : Turn B w (w.setCell ⟨B, j, none⟩ v) :=
  ⟨rfl, rfl, rfl, by simp, fun k _ hne => Deep.blk_setCell_other w ⟨B, j, none⟩ v k (fun e => hne (by rw [e]))⟩
end
end Go.Proofs.Ytneebnankghhgab
