/- The project's heap: all its contracts in one import; the document's example. Conditions: none. -/
import Derived.Test.YtnneeojgakjalaaHw
import Derived.Test.YtnneeojgakjalaaHm
namespace Go.Proofs.Ytnneeojgakjalaa
open Go.RowKit
theorem awakeH_any (w : World) : Calls Try.prog 12 #[] w fun e w' => e = .returned (.bool true) ∧ Below w.heap.size w w' := awakeHeap_any w
end Go.Proofs.Ytnneeojgakjalaa
