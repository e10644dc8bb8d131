/-
  No cell of these rows narrows 'for every input' (looked for: loops, veiled, ifaces, maps, wideKeys, modest, calm, conditions, laid).
  DERIVED. THE GIVEN ROWS OF THIS SEAT. 5 by the template 'for every input the law returns true; each argument reads behind the call as it read before'; 0 by the template 'total and deterministic' (their statements: YtadlelhdjakmmaaTotals.lean).
  GIVEN WITH THE SEED: the statements are not yours to turn. If you find one false, say at which input.
  Laid BY PROGRAM, IN A SANDBOX (cutbox-rows.mjs): the forced cells as the released guide's own fill.sh prints them over the translation 5dff6007c737cba4… (all of the seat's roots in one cut). By AI agents, Wed Nov 11 2026. No macro, syntax, notation, axiom, sorry.
-/
import Derived.Test.YtadlelhdjakmmaaChecked
import GoSem.Claim
import GoSem.ClaimJoined
import GoSem.ClaimMapViews
import Derived.JoinedTies
import Derived.KernelRfl
namespace Go.Proofs.Ytadlelhdjakmmaa
/- THE CELL 'sum', in the pinned program and in every row, IS THE sha256 OF THE DUMP (.gsa) THAT YtadlelhdjakmmaaProg.lean LOADS. Nothing in Lean hashes anything: it is a label: what it is worth is what the hold of that sum in a sandbox is worth. -/
noncomputable def Try.pinned : Pinned := { name := "ytadlelhdjakmmaa", sum := "5dff6007c737cba43459e7ec39c9eaf2853680511e695187f5615a89562bff50", checked := Try.checked }
namespace Rows
def none {H : Type} : Left H := { results := [], args := [] }

/-- 'belvederelaw17.GraphTells': WHATEVER THE INPUT: true; the input reads as it did. -/
def graphTellsSpec : ChangeSpec := { name := "graphTells", fn := fun _ => fun
  | [d1, d2] => { results := [.lit (.bool true)], args := [d1, d2] }
  | _ => none }
def graphTellsRow : OpenClaim := { program := "ytadlelhdjakmmaa", sum := "5dff6007c737cba43459e7ec39c9eaf2853680511e695187f5615a89562bff50", func := "belvedere/belvederelaw17.GraphTells", spec := "graphTells", unfollowed := true, recurses := true, apart := false }
def GraphTellsSaid : Prop := graphTellsRow.holds Try.pinned (OpenSpec.ofChange graphTellsSpec)

/-- ITS FALSE NEIGHBOUR: 'it returns false'. Refute it at one input. -/
def graphTellsWrong : ChangeSpec := { name := "graphTells", fn := fun _ => fun
  | [d1, d2] => { results := [.lit (.bool false)], args := [d1, d2] }
  | _ => none }
def GraphTellsWrongFalsely : Prop := graphTellsRow.holds Try.pinned (OpenSpec.ofChange graphTellsWrong)

/-- 'belvederelaw17.GraphOrders': WHATEVER THE INPUT: true; the input reads as it did. -/
def graphOrdersSpec : ChangeSpec := { name := "graphOrders", fn := fun _ => fun
  | [d] => { results := [.lit (.bool true)], args := [d] }
  | _ => none }
def graphOrdersRow : OpenClaim := { program := "ytadlelhdjakmmaa", sum := "5dff6007c737cba43459e7ec39c9eaf2853680511e695187f5615a89562bff50", func := "belvedere/belvederelaw17.GraphOrders", spec := "graphOrders", unfollowed := true, recurses := true, apart := false }
def GraphOrdersSaid : Prop := graphOrdersRow.holds Try.pinned (OpenSpec.ofChange graphOrdersSpec)

/-- ITS FALSE NEIGHBOUR: 'it returns false'. Refute it at one input. -/
def graphOrdersWrong : ChangeSpec := { name := "graphOrders", fn := fun _ => fun
  | [d] => { results := [.lit (.bool false)], args := [d] }
  | _ => none }
def GraphOrdersWrongFalsely : Prop := graphOrdersRow.holds Try.pinned (OpenSpec.ofChange graphOrdersWrong)

/-- 'belvederelaw17.GraphBelow': WHATEVER THE INPUT: true; the input reads as it did. -/
def graphBelowSpec : ChangeSpec := { name := "graphBelow", fn := fun _ => fun
  | [d1, d2] => { results := [.lit (.bool true)], args := [d1, d2] }
  | _ => none }
def graphBelowRow : OpenClaim := { program := "ytadlelhdjakmmaa", sum := "5dff6007c737cba43459e7ec39c9eaf2853680511e695187f5615a89562bff50", func := "belvedere/belvederelaw17.GraphBelow", spec := "graphBelow", unfollowed := true, recurses := true, apart := false }
def GraphBelowSaid : Prop := graphBelowRow.holds Try.pinned (OpenSpec.ofChange graphBelowSpec)

/-- ITS FALSE NEIGHBOUR: 'it returns false'. Refute it at one input. -/
def graphBelowWrong : ChangeSpec := { name := "graphBelow", fn := fun _ => fun
  | [d1, d2] => { results := [.lit (.bool false)], args := [d1, d2] }
  | _ => none }
def GraphBelowWrongFalsely : Prop := graphBelowRow.holds Try.pinned (OpenSpec.ofChange graphBelowWrong)

/-- 'belvederelaw17.GraphCycles': WHATEVER THE INPUT: true; the input reads as it did. -/
def graphCyclesSpec : ChangeSpec := { name := "graphCycles", fn := fun _ => fun
  | [d1, d2] => { results := [.lit (.bool true)], args := [d1, d2] }
  | _ => none }
def graphCyclesRow : OpenClaim := { program := "ytadlelhdjakmmaa", sum := "5dff6007c737cba43459e7ec39c9eaf2853680511e695187f5615a89562bff50", func := "belvedere/belvederelaw17.GraphCycles", spec := "graphCycles", unfollowed := true, recurses := true, apart := false }
def GraphCyclesSaid : Prop := graphCyclesRow.holds Try.pinned (OpenSpec.ofChange graphCyclesSpec)

/-- ITS FALSE NEIGHBOUR: 'it returns false'. Refute it at one input. -/
def graphCyclesWrong : ChangeSpec := { name := "graphCycles", fn := fun _ => fun
  | [d1, d2] => { results := [.lit (.bool false)], args := [d1, d2] }
  | _ => none }
def GraphCyclesWrongFalsely : Prop := graphCyclesRow.holds Try.pinned (OpenSpec.ofChange graphCyclesWrong)

/-- 'belvederelaw17.GraphNested': WHATEVER THE INPUT: true; the input reads as it did. -/
def graphNestedSpec : ChangeSpec := { name := "graphNested", fn := fun _ => fun
  | [d1, d2] => { results := [.lit (.bool true)], args := [d1, d2] }
  | _ => none }
def graphNestedRow : OpenClaim := { program := "ytadlelhdjakmmaa", sum := "5dff6007c737cba43459e7ec39c9eaf2853680511e695187f5615a89562bff50", func := "belvedere/belvederelaw17.GraphNested", spec := "graphNested", unfollowed := true, recurses := true, apart := false }
def GraphNestedSaid : Prop := graphNestedRow.holds Try.pinned (OpenSpec.ofChange graphNestedSpec)

/-- ITS FALSE NEIGHBOUR: 'it returns false'. Refute it at one input. -/
def graphNestedWrong : ChangeSpec := { name := "graphNested", fn := fun _ => fun
  | [d1, d2] => { results := [.lit (.bool false)], args := [d1, d2] }
  | _ => none }
def GraphNestedWrongFalsely : Prop := graphNestedRow.holds Try.pinned (OpenSpec.ofChange graphNestedWrong)

/- THE SECOND FORM. 'bulk': how many values and letters a reading holds, each counted each time it is reached (what is shared counts as often as it is met; a slice's spare places count too). A statement '..UptoSaid' is the law's where the arguments, and the package variables that the reading takes, are together of bulk at most 1048576: NARROWER than '..Said'. Prove '..Said' where nothing that the law and all that it calls make is longer than what came in: it says more and counts as full. Else prove '..UptoSaid'. A law counts once. -/
mutual
def uptoBulk {H : Type} : DataW H → Nat
  | .lit (.string bytes) => bytes.length + 1
  | .lit _ => 1
  | .nil => 1
  | .ptr d => uptoBulk d + 1
  | .slice elems spare => uptoBulkAll elems + uptoBulkAll spare + 1
  | .agg parts => uptoBulkAll parts + 1
  | .iface _ d => uptoBulk d + 1
  | .map entries => uptoBulkEntries entries + 1
  | .held _ => 1
def uptoBulkAll {H : Type} : List (DataW H) → Nat
  | [] => 0
  | d :: r => uptoBulk d + uptoBulkAll r
def uptoBulkEntries {H : Type} : List (Lit × DataW H) → Nat
  | [] => 0
  | x :: r => uptoBulkEntry x + uptoBulkEntries r
def uptoBulkEntry {H : Type} : Lit × DataW H → Nat
  | (.string bytes, d) => bytes.length + uptoBulk d + 1
  | (_, d) => uptoBulk d + 1
 end
def uptoSmall : (H : Type) → List (DataW H) → Bool := fun _ ds => decide (uptoBulkAll ds ≤ 1048576)
def OpenSpec.upto (s : _root_.Go.ChangeSpec) : _root_.Go.OpenSpec := { _root_.Go.OpenSpec.ofChange s with cond := some uptoSmall }

/-- 'belvederelaw17.GraphTells', WHERE WHAT IT READS IS OF BULK AT MOST 1048576: true; the input reads as it did. -/
def graphTellsUptoRow : OpenClaim := { program := "ytadlelhdjakmmaa", sum := "5dff6007c737cba43459e7ec39c9eaf2853680511e695187f5615a89562bff50", func := "belvedere/belvederelaw17.GraphTells", spec := "graphTells", unfollowed := true, recurses := true, apart := false, narrowed := true }
def GraphTellsUptoSaid : Prop := graphTellsUptoRow.holds Try.pinned (OpenSpec.upto graphTellsSpec)

/-- 'belvederelaw17.GraphOrders', WHERE WHAT IT READS IS OF BULK AT MOST 1048576: true; the input reads as it did. -/
def graphOrdersUptoRow : OpenClaim := { program := "ytadlelhdjakmmaa", sum := "5dff6007c737cba43459e7ec39c9eaf2853680511e695187f5615a89562bff50", func := "belvedere/belvederelaw17.GraphOrders", spec := "graphOrders", unfollowed := true, recurses := true, apart := false, narrowed := true }
def GraphOrdersUptoSaid : Prop := graphOrdersUptoRow.holds Try.pinned (OpenSpec.upto graphOrdersSpec)

/-- 'belvederelaw17.GraphBelow', WHERE WHAT IT READS IS OF BULK AT MOST 1048576: true; the input reads as it did. -/
def graphBelowUptoRow : OpenClaim := { program := "ytadlelhdjakmmaa", sum := "5dff6007c737cba43459e7ec39c9eaf2853680511e695187f5615a89562bff50", func := "belvedere/belvederelaw17.GraphBelow", spec := "graphBelow", unfollowed := true, recurses := true, apart := false, narrowed := true }
def GraphBelowUptoSaid : Prop := graphBelowUptoRow.holds Try.pinned (OpenSpec.upto graphBelowSpec)

/-- 'belvederelaw17.GraphCycles', WHERE WHAT IT READS IS OF BULK AT MOST 1048576: true; the input reads as it did. -/
def graphCyclesUptoRow : OpenClaim := { program := "ytadlelhdjakmmaa", sum := "5dff6007c737cba43459e7ec39c9eaf2853680511e695187f5615a89562bff50", func := "belvedere/belvederelaw17.GraphCycles", spec := "graphCycles", unfollowed := true, recurses := true, apart := false, narrowed := true }
def GraphCyclesUptoSaid : Prop := graphCyclesUptoRow.holds Try.pinned (OpenSpec.upto graphCyclesSpec)

/-- 'belvederelaw17.GraphNested', WHERE WHAT IT READS IS OF BULK AT MOST 1048576: true; the input reads as it did. -/
def graphNestedUptoRow : OpenClaim := { program := "ytadlelhdjakmmaa", sum := "5dff6007c737cba43459e7ec39c9eaf2853680511e695187f5615a89562bff50", func := "belvedere/belvederelaw17.GraphNested", spec := "graphNested", unfollowed := true, recurses := true, apart := false, narrowed := true }
def GraphNestedUptoSaid : Prop := graphNestedUptoRow.holds Try.pinned (OpenSpec.upto graphNestedSpec)

end Rows
end Go.Proofs.Ytadlelhdjakmmaa
