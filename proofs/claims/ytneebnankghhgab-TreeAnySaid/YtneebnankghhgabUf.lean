/- Several of my texts laid together, each as it was: Uf. Conditions: each names its own. -/
import Derived.Test.YtneebnankghhgabUe
import Derived.Test.YtneebnankghhgabSuI
import Derived.Deep.RegionHeld3
import Derived.BigQuiet
/- A tree of the project's beside the document's, behind steps (400 at most): both answer the same. Conditions: the steps' cells are known; an order that may be. -/
namespace Go.Proofs.Ytneebnankghhgab
open Go.RowKit

/-- The project's has turned, the document's has not yet. -/
structure HalfB (w0 wr : World) (tb ub o : Nat) (L' L : List (Key × Int)) : Prop where
  out : ∃ vk vv, TreeAt 1 eI (Apart tb ub vv) wr tb o L' ∧ RefAt wr ub vk vv L
  asc : Asc L
  lt : tb < ub
  lo : w0.heap.size ≤ tb
  keep : Below w0.heap.size w0 wr
section
variable {w0 w : World} {tb ub o : Nat} {L L' : List (Key × Int)}
theorem HalfB.later {w' : World} (h : HalfB w0 w tb ub o L' L) (hb : Below w.heap.size w w') : HalfB w0 w' tb ub o L' L := by
  obtain ⟨vk, vv, h1, h2⟩ := h.out
  exact ⟨⟨vk, vv, h1.later hb, h2.later hb⟩, h.asc, h.lt, h.lo, h.keep.trans (hb.mono h.keep.size)⟩
theorem bothPut_any (h : Both w0 w tb ub o L) (hl : L.length ≤ 900) (k : Key) (x : Int) :
    Calls Try.prog 21 #[.pointer (some ⟨tb, 0, none⟩), .string (txt k), .int .i64 x] w fun e w' => e = .returned (.tuple #[ovI (getA k L), .bool (hasO (getA k L))]) ∧ HalfB w0 w' tb ub o (insA k x L) L := by
  obtain ⟨vk, vv, hT, hR⟩ := h.out
  refine Calls.mono (putIT_any _ tb o L k x w hT (by omega) (fun q hq => both_new (.inr fun j hj => (hR.rv.lt j hj).2) hT.lt hR.lt hq)) ?_
  rintro e w1 ⟨rfl, h1, hTu⟩
  exact ⟨rfl, ⟨vk, vv, h1, hR.turn hTu h.lt⟩, hT.asc, h.lt, h.lo, below_turn h.keep hTu h.lo⟩
theorem bothCut_any (h : Both w0 w tb ub o L) (hl : L.length ≤ 900) (k : Key) :
    Calls Try.prog 23 #[.pointer (some ⟨tb, 0, none⟩), .string (txt k)] w fun e w' => e = .returned (.tuple #[ovI (getA k L), .bool (hasO (getA k L))]) ∧ HalfB w0 w' tb ub o (delA k L) L := by
  obtain ⟨vk, vv, hT, hR⟩ := h.out
  refine Calls.mono (cutIT_any _ tb o L k w hT (by omega) (fun q hq => both_new (.inr fun j hj => (hR.rv.lt j hj).2) hT.lt hR.lt hq)) ?_
  rintro e w1 ⟨rfl, h1, hTu⟩
  exact ⟨rfl, ⟨vk, vv, h1, hR.turn hTu h.lt⟩, hT.asc, h.lt, h.lo, below_turn h.keep hTu h.lo⟩
theorem half_turn {w' : World} {vk vv vk' vv' : Value} (hT : TreeAt 1 eI (Apart tb ub vv) w tb o L') (hR : RefAt w ub vk vv L) (hR' : RefAt w' ub vk' vv' L') (hTu : TurnR ub vv vv' w w') (hlt : tb < ub) (hlo : w0.heap.size ≤ tb) (hk : Below w0.heap.size w0 w) : Both w0 w' tb ub o L' :=
  ⟨⟨vk', vv', hT.turnR hTu hlt (fun j hj => (hR.rv.lt j hj).1), hR'⟩, hlt, hlo, ⟨hTu.same.1.trans hk.os, hTu.same.2.1.trans hk.tape, hTu.same.2.2.trans hk.output, Nat.le_trans hk.size hTu.size, fun j hj => (hTu.block j (Nat.lt_of_lt_of_le hj hk.size) (by omega) (fun e => by have := (hR.rv.lt j e).1; omega)).trans (hk.block j hj)⟩⟩
theorem halfPut_any (k : Key) (x : Int) (h : HalfB w0 w tb ub o (insA k x L) L) (hl : L.length ≤ 900) :
    Calls Try.prog 22 #[.pointer (some ⟨ub, 0, none⟩), .string (txt k), .int .i64 x] w fun e w' => e = .returned (.tuple #[ovI (getA k L), .bool (hasO (getA k L))]) ∧ Both w0 w' tb ub o (insA k x L) := by
  obtain ⟨vk, vv, hT, hR⟩ := h.out
  refine Calls.mono (refPut_any ub vk vv L k x w hR (by omega) h.asc) ?_
  rintro e w1 ⟨rfl, vk', vv', h1, hTu⟩
  exact ⟨rfl, half_turn hT hR h1 hTu h.lt h.lo h.keep⟩
theorem halfCut_any (k : Key) (h : HalfB w0 w tb ub o (delA k L) L) (hl : L.length ≤ 900) :
    Calls Try.prog 24 #[.pointer (some ⟨ub, 0, none⟩), .string (txt k)] w fun e w' => e = .returned (.tuple #[ovI (getA k L), .bool (hasO (getA k L))]) ∧ Both w0 w' tb ub o (delA k L) := by
  obtain ⟨vk, vv, hT, hR⟩ := h.out
  refine Calls.mono (refCut_any ub vk vv L k w hR (by omega) h.asc) ?_
  rintro e w1 ⟨rfl, vk', vv', h1, hTu⟩
  exact ⟨rfl, half_turn hT hR h1 hTu h.lt h.lo h.keep⟩
theorem bothGet_any (h : Both w0 w tb ub o L) (k : Key) :
    Calls Try.prog 13 #[.pointer (some ⟨tb, 0, none⟩), .string (txt k)] w fun e w' => e = .returned (.tuple #[ovI (getA k L), .bool (hasO (getA k L))]) ∧ Both w0 w' tb ub o L := by
  obtain ⟨vk, vv, hT, hR⟩ := h.out
  refine Calls.mono (getI_any _ tb o L k w hT) ?_
  rintro e w1 ⟨rfl, hb⟩
  exact ⟨rfl, h.later hb⟩
theorem bothGetR_any (h : Both w0 w tb ub o L) (hl : L.length ≤ 900) (k : Key) :
    Calls Try.prog 25 #[.pointer (some ⟨ub, 0, none⟩), .string (txt k)] w fun e w' => e = .returned (.tuple #[ovI (getA k L), .bool (hasO (getA k L))]) ∧ w = w' := by
  obtain ⟨vk, vv, hT, hR⟩ := h.out
  exact refGet_any ub vk vv L k w hR (by omega) hT.asc
theorem bothLen_any (h : Both w0 w tb ub o L) : Calls Try.prog 26 #[.pointer (some ⟨tb, 0, none⟩)] w fun e w' => e = .returned (.int .i64 (L.length : Int)) ∧ w = w' := by
  obtain ⟨vk, vv, hT, hR⟩ := h.out
  exact lenI_any _ tb o L w hT
theorem bothLenR_any (h : Both w0 w tb ub o L) : Calls Try.prog 27 #[.pointer (some ⟨ub, 0, none⟩)] w fun e w' => e = .returned (.int .i64 (L.length : Int)) ∧ w = w' := by
  obtain ⟨vk, vv, hT, hR⟩ := h.out
  exact refLen_any ub vk vv L w hR
end
end Go.Proofs.Ytneebnankghhgab
