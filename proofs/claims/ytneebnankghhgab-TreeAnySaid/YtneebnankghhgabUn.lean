/- Several of my texts laid together, each as it was: Un. Conditions: each names its own. -/
import Derived.Test.YtneebnankghhgabUg
import Derived.Test.YtneebnankghhgabUh
import Derived.Test.YtneebnankghhgabUj
import Derived.Test.YtneebnankghhgabUk
/- TreePlays: behind any steps each answer, and the keys at last, are the document's. Conditions: the steps' cells are known. -/
namespace Go.Proofs.Ytneebnankghhgab
open Go.RowKit

/-- Both trees tell the same keys. -/
theorem bothKeys_any {w0 w : World} {tb ub o : Nat} {L : List (Key × Int)} (frm to : Key) (h : Both w0 w tb ub o L) (hl : L.length ≤ 400) :
    Calls Try.prog 12 #[.pointer (some ⟨tb, 0, none⟩), .string (txt frm), .string (txt to)] w fun e w1 => (∃ a c, e = .returned (.slice a ((flt frm to L).map (·.1)).length c) ∧ Sl 1 sk (fun b => w.heap.size ≤ b) w1 (.slice a ((flt frm to L).map (·.1)).length c) ((flt frm to L).map (·.1))) ∧ Below w.heap.size w w1 := by
  obtain ⟨vk, vv, hT, hR⟩ := h.out
  refine (keysI_any _ tb o L frm to w hT (by omega)).mono ?_
  rintro e w1 ⟨⟨v, rfl, hS⟩, hb⟩
  obtain ⟨a, n, c, rfl⟩ := hS.shape
  obtain ⟨rfl, _⟩ := hS.len
  exact ⟨⟨a, c, rfl, hS⟩, hb⟩
end Go.Proofs.Ytneebnankghhgab
