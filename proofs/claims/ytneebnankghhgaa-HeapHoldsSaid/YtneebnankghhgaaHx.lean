/- Several of my texts laid together, each as it was: Hx. Conditions: each names its own. -/
import Derived.Test.YtneebnankghhgaaHx0
import Derived.Test.YtneebnankghhgaaHx1
import Derived.Test.YtneebnankghhgaaHx2
import Derived.Test.YtneebnankghhgaaHx3
import Derived.Test.YtneebnankghhgaaHx4
import Derived.Test.YtneebnankghhgaaHx5
import Derived.Test.YtneebnankghhgaaHw
/- The law HeapHolds: it returns true, and below the heap's end memory is as it was. Conditions: the steps' cells are known (what came in reads so); the document's example stands. -/
namespace Go.Proofs.Ytneebnankghhgaa
open Go.RowKit Go.Shelf

theorem lawHeapHolds (a : Option Addr) (c : Nat) (L : List OpT) (most : Int) (w : World) (hL : OpsAt w a L) (hm1 : -9223372036854775808 ≤ most) (hm2 : most ≤ 9223372036854775807) :
    Calls Try.prog 3 #[.slice a L.length c, .int .i64 most] w fun e w' => e = .returned (.bool true) ∧ Below w.heap.size w w' :=
  heapSkel.2.2.2.2.2.2 ⟨heapC0⟩ ⟨heapC1⟩ ⟨heapC2⟩ ⟨heapC3⟩ ⟨heapC4⟩ ⟨heapC5⟩ awakeHeap_any a c L most w hL hm1 hm2
end Go.Proofs.Ytneebnankghhgaa
