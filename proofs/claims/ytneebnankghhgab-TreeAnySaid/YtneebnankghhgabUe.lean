/- Several of my texts laid together, each as it was: Ue. Conditions: each names its own. -/
import Derived.Test.YtneebnankghhgabUd
import Derived.Test.YtneebnankghhgabSsI
import Derived.Test.YtneebnankghhgabSw
/- A tree of the project's beside the document's: both lie in memory with the same keys; steps over them, plainly. Conditions: each names its own. -/
namespace Go.Proofs.Ytneebnankghhgab
open Go.RowKit

/-- A step: what to do, with which key, what it is to have. -/
structure OpR where
  k : Int
  key : Key
  n : Int
def stepA {β : Type} (v : OpR → β) (t : OpR) (L : List (Key × β)) : List (Key × β) := if t.k = 0 then insA t.key (v t) L else if t.k = 1 then delA t.key L else L
def playA {β : Type} (v : OpR → β) (l : List OpR) : List (Key × β) := l.foldl (fun L t => stepA v t L) []
theorem play_next {β : Type} {v : OpR → β} {l : List OpR} {i : Nat} {t : OpR} (h : l[i]? = some t) : playA v (l.take (i + 1)) = stepA v t (playA v (l.take i)) := by
  obtain ⟨hi, e⟩ := List.getElem?_eq_some_iff.1 h
  unfold playA
  rw [List.take_succ_eq_append_getElem hi, List.foldl_append, e]; rfl
theorem step_len {β : Type} (v : OpR → β) (t : OpR) (L : List (Key × β)) : (stepA v t L).length ≤ L.length + 1 := by
  unfold stepA
  split
  · exact insA_len L
  · split
    · exact Nat.le_succ_of_le (delA_sub t.key L).length_le
    · omega
/-- Steps whose cells are known. -/
structure OpsAt7 (w : World) (a : Option Addr) (L : List OpR) : Prop where
  cells : L ≠ [] → ∃ b off, a = some ⟨b, off, none⟩ ∧ ∀ i (h : i < L.length), w.cell? ⟨b, off + i * 3, none⟩ = some (.int .i64 L[i].k) ∧ w.cell? ⟨b, off + i * 3 + 1, none⟩ = some (.string (txt L[i].key)) ∧ w.cell? ⟨b, off + i * 3 + 2, none⟩ = some (.int .i64 L[i].n)
  len : L.length * 32 ≤ 140737488351232
theorem OpsAt7.later {w w' : World} {a : Option Addr} {L : List OpR} (h : OpsAt7 w a L) (hb : Below w.heap.size w w') : OpsAt7 w' a L := by
  refine ⟨fun hn => ?_, h.len⟩
  obtain ⟨b, off, e, hc⟩ := h.cells hn
  exact ⟨b, off, e, fun i hi => ⟨cell_later hb (hc i hi).1, cell_later hb (hc i hi).2.1, cell_later hb (hc i hi).2.2⟩⟩
theorem RefAt.turn {w w' : World} {B tb : Nat} {vk vv : Value} {L : List (Key × Int)} (h : RefAt w B vk vv L) (hT : Turn tb w w') (hlt : tb < B) : RefAt w' B vk vv L :=
  ⟨hT.cell (by omega) h.c0, hT.cell (by omega) h.c1, fun j => (hT.frozen (by omega) h.lt).trans (h.f j),
    h.rk.kept hT (.inr (fun e => by have := (h.rk.lt tb e).1; omega)), h.rv.kept hT (.inr (fun e => by have := (h.rv.lt tb e).1; omega))⟩
/-- All blocks but the two trees' own cells. -/
def Apart (tb ub : Nat) (vv : Value) (b : Nat) : Prop := b ≠ tb ∧ b ≠ ub ∧ vv.ownBlock ≠ some b
theorem TreeAt.turnR {w w' : World} {tb ub o : Nat} {vv vv' : Value} {L : List (Key × Int)} (h : TreeAt 1 eI (Apart tb ub vv) w tb o L) (hT : TurnR ub vv vv' w w') (hlt : tb < ub) (hv : ∀ j, vv.ownBlock = some j → ub < j) : TreeAt 1 eI (Apart tb ub vv') w' tb o L := by
  have hkeep : ∀ b o u, b < w.heap.size → b ≠ ub → vv.ownBlock ≠ some b → w.cell? ⟨b, o, none⟩ = some u → w'.cell? ⟨b, o, none⟩ = some u := fun b o u h1 h2 h3 hc => (World.cell?_of_block (hT.block b h1 h2 h3)).trans hc
  have htl := h.lt
  have hvt : vv.ownBlock ≠ some tb := fun e => by have := hv _ e; omega
  obtain ⟨n, b, t, r2, hw, hN, hf⟩ := h.root
  refine ⟨hkeep _ _ _ htl (by omega) hvt h.c0, hkeep _ _ _ htl (by omega) hvt h.c1, ⟨n, b, t, hkeep _ _ _ htl (by omega) hvt r2, hw, ?_, hf⟩, fun j => (World.frozen?_of_block (hT.block tb htl (by omega) hvt)).trans (h.f j), h.lo, h.hi, fun q => q.1 rfl⟩
  have h1 := hN.weak (Q := fun q => Apart tb ub vv q ∧ q < w.heap.size) (fun q hp hq => ⟨hp, hq⟩) (fun x => by simp [eI])
  have h2 := h1.keep (w' := w') (fun b o u hb hc => hkeep b o u hb.2 hb.1.2.1 hb.1.2.2 hc)
  refine h2.weak (Q := Apart tb ub vv') (fun q hp _ => ⟨hp.1.1, hp.1.2.1, fun e => ?_⟩) (fun x => by simp [eI])
  rcases hT.own with g | g
  · exact hp.1.2.2 (by rw [← g]; exact e)
  · have := g _ e
    have := hp.2
    omega
/-- Both trees, with the same keys; all below a height as it lay. -/
structure Both (w0 wr : World) (tb ub o : Nat) (L : List (Key × Int)) : Prop where
  out : ∃ vk vv, TreeAt 1 eI (Apart tb ub vv) wr tb o L ∧ RefAt wr ub vk vv L
  lt : tb < ub
  lo : w0.heap.size ≤ tb
  keep : Below w0.heap.size w0 wr
theorem Both.later {w0 w w' : World} {tb ub o : Nat} {L : List (Key × Int)} (h : Both w0 w tb ub o L) (hb : Below w.heap.size w w') : Both w0 w' tb ub o L := by
  obtain ⟨vk, vv, h1, h2⟩ := h.out
  exact ⟨⟨vk, vv, h1.later hb, h2.later hb⟩, h.lt, h.lo, h.keep.trans (hb.mono h.keep.size)⟩
theorem below_turn {w0 w w' : World} {tb : Nat} (h : Below w0.heap.size w0 w) (hT : Turn tb w w') (hlo : w0.heap.size ≤ tb) : Below w0.heap.size w0 w' :=
  h.grown hT h.size (fun k hk => by cases hk; exact hlo)
theorem both_new {w : World} {tb ub : Nat} {vv : Value} {q : Nat} (hs : vv.ownBlock = none ∨ ∀ j, vv.ownBlock = some j → j < w.heap.size) (h1 : tb < w.heap.size) (h2 : ub < w.heap.size) (hq : w.heap.size ≤ q) : Apart tb ub vv q := by
  refine ⟨by omega, by omega, fun e => ?_⟩
  rcases hs with h | h
  · rw [h] at e; cases e
  · have := h _ e; omega
end Go.Proofs.Ytneebnankghhgab
