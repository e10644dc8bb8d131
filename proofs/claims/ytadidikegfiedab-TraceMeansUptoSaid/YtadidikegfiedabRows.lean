/-
  No cell of these rows narrows 'for every input' (looked for: loops, veiled, ifaces, maps, wideKeys, modest, calm, conditions, laid).
  DERIVED. THE GIVEN ROWS OF THIS SEAT. 3 by the template 'for every input the law returns true; each argument reads behind the call as it read before'; 0 by the template 'total and deterministic' (their statements: YtadidikegfiedabTotals.lean).
  GIVEN WITH THE SEED: the statements are not yours to turn. If you find one false, say at which input.
  Laid BY PROGRAM, IN A SANDBOX (cutbox-rows.mjs): the forced cells as the released guide's own fill.sh prints them over the translation f06d18b74b47271b… (all of the seat's roots in one cut). By AI agents, Wed Nov 11 2026. No macro, syntax, notation, axiom, sorry.
-/
import Derived.Test.YtadidikegfiedabChecked
import GoSem.Claim
import GoSem.ClaimJoined
import GoSem.ClaimMapViews
import Derived.JoinedTies
import Derived.KernelRfl
namespace Go.Proofs.Ytadidikegfiedab
/- THE CELL 'sum', in the pinned program and in every row, IS THE sha256 OF THE DUMP (.gsa) THAT YtadidikegfiedabProg.lean LOADS. Nothing in Lean hashes anything: it is a label: what it is worth is what the hold of that sum in a sandbox is worth. -/
noncomputable def Try.pinned : Pinned := { name := "ytadidikegfiedab", sum := "f06d18b74b47271b95be00fc53f7961fd0f405ade954788c8d64aaa1c828e409", checked := Try.checked }
namespace Rows
def none {H : Type} : Left H := { results := [], args := [] }

/-- 'belvederelaw16.TraceMeans': WHATEVER THE INPUT: true; the input reads as it did. -/
def traceMeansSpec : ChangeSpec := { name := "traceMeans", fn := fun _ => fun
  | [d] => { results := [.lit (.bool true)], args := [d] }
  | _ => none }
def traceMeansRow : OpenClaim := { program := "ytadidikegfiedab", sum := "f06d18b74b47271b95be00fc53f7961fd0f405ade954788c8d64aaa1c828e409", func := "belvedere/belvederelaw16.TraceMeans", spec := "traceMeans", inPlace := ["internal/bytealg.abigen_runtime_cmpstring"], unfollowed := true, recurses := true, apart := false }
def TraceMeansSaid : Prop := traceMeansRow.holds Try.pinned (OpenSpec.ofChange traceMeansSpec)

/-- ITS FALSE NEIGHBOUR: 'it returns false'. Refute it at one input. -/
def traceMeansWrong : ChangeSpec := { name := "traceMeans", fn := fun _ => fun
  | [d] => { results := [.lit (.bool false)], args := [d] }
  | _ => none }
def TraceMeansWrongFalsely : Prop := traceMeansRow.holds Try.pinned (OpenSpec.ofChange traceMeansWrong)

/-- 'belvederelaw16.TracePurges': WHATEVER THE INPUT: true; the input reads as it did. -/
def tracePurgesSpec : ChangeSpec := { name := "tracePurges", fn := fun _ => fun
  | [d1, d2, d3] => { results := [.lit (.bool true)], args := [d1, d2, d3] }
  | _ => none }
def tracePurgesRow : OpenClaim := { program := "ytadidikegfiedab", sum := "f06d18b74b47271b95be00fc53f7961fd0f405ade954788c8d64aaa1c828e409", func := "belvedere/belvederelaw16.TracePurges", spec := "tracePurges", inPlace := ["internal/bytealg.abigen_runtime_cmpstring"], unfollowed := true, recurses := true, apart := false }
def TracePurgesSaid : Prop := tracePurgesRow.holds Try.pinned (OpenSpec.ofChange tracePurgesSpec)

/-- ITS FALSE NEIGHBOUR: 'it returns false'. Refute it at one input. -/
def tracePurgesWrong : ChangeSpec := { name := "tracePurges", fn := fun _ => fun
  | [d1, d2, d3] => { results := [.lit (.bool false)], args := [d1, d2, d3] }
  | _ => none }
def TracePurgesWrongFalsely : Prop := tracePurgesRow.holds Try.pinned (OpenSpec.ofChange tracePurgesWrong)

/-- 'belvederelaw16.TraceSizes': WHATEVER THE INPUT: true; the input reads as it did. -/
def traceSizesSpec : ChangeSpec := { name := "traceSizes", fn := fun _ => fun
  | [d1, d2] => { results := [.lit (.bool true)], args := [d1, d2] }
  | _ => none }
def traceSizesRow : OpenClaim := { program := "ytadidikegfiedab", sum := "f06d18b74b47271b95be00fc53f7961fd0f405ade954788c8d64aaa1c828e409", func := "belvedere/belvederelaw16.TraceSizes", spec := "traceSizes", inPlace := ["internal/bytealg.abigen_runtime_cmpstring"], unfollowed := true, recurses := true, apart := false }
def TraceSizesSaid : Prop := traceSizesRow.holds Try.pinned (OpenSpec.ofChange traceSizesSpec)

/-- ITS FALSE NEIGHBOUR: 'it returns false'. Refute it at one input. -/
def traceSizesWrong : ChangeSpec := { name := "traceSizes", fn := fun _ => fun
  | [d1, d2] => { results := [.lit (.bool false)], args := [d1, d2] }
  | _ => none }
def TraceSizesWrongFalsely : Prop := traceSizesRow.holds Try.pinned (OpenSpec.ofChange traceSizesWrong)

/- THE SECOND FORM. 'bulk': how many values and letters a reading holds, each counted each time it is reached (what is shared counts as often as it is met; a slice's spare places count too). A statement '..UptoSaid' is the law's where the arguments, and the package variables that the reading takes, are together of bulk at most 1048576: NARROWER than '..Said'. Prove '..Said' where nothing that the law and all that it calls make is longer than what came in: it says more and counts as full. Else prove '..UptoSaid'. A law counts once. -/
mutual
def uptoBulk {H : Type} : DataW H → Nat
  | .lit (.string bytes) => bytes.length + 1
  | .lit _ => 1
  | .nil => 1
  | .ptr d => uptoBulk d + 1
  | .slice elems spare => uptoBulkAll elems + uptoBulkAll spare + 1
  | .agg parts => uptoBulkAll parts + 1
  | .iface _ d => uptoBulk d + 1
  | .map entries => uptoBulkEntries entries + 1
  | .held _ => 1
def uptoBulkAll {H : Type} : List (DataW H) → Nat
  | [] => 0
  | d :: r => uptoBulk d + uptoBulkAll r
def uptoBulkEntries {H : Type} : List (Lit × DataW H) → Nat
  | [] => 0
  | x :: r => uptoBulkEntry x + uptoBulkEntries r
def uptoBulkEntry {H : Type} : Lit × DataW H → Nat
  | (.string bytes, d) => bytes.length + uptoBulk d + 1
  | (_, d) => uptoBulk d + 1
 end
def uptoSmall : (H : Type) → List (DataW H) → Bool := fun _ ds => decide (uptoBulkAll ds ≤ 1048576)
def OpenSpec.upto (s : _root_.Go.ChangeSpec) : _root_.Go.OpenSpec := { _root_.Go.OpenSpec.ofChange s with cond := some uptoSmall }

/-- 'belvederelaw16.TraceMeans', WHERE WHAT IT READS IS OF BULK AT MOST 1048576: true; the input reads as it did. -/
def traceMeansUptoRow : OpenClaim := { program := "ytadidikegfiedab", sum := "f06d18b74b47271b95be00fc53f7961fd0f405ade954788c8d64aaa1c828e409", func := "belvedere/belvederelaw16.TraceMeans", spec := "traceMeans", inPlace := ["internal/bytealg.abigen_runtime_cmpstring"], unfollowed := true, recurses := true, apart := false, narrowed := true }
def TraceMeansUptoSaid : Prop := traceMeansUptoRow.holds Try.pinned (OpenSpec.upto traceMeansSpec)

/-- 'belvederelaw16.TracePurges', WHERE WHAT IT READS IS OF BULK AT MOST 1048576: true; the input reads as it did. -/
def tracePurgesUptoRow : OpenClaim := { program := "ytadidikegfiedab", sum := "f06d18b74b47271b95be00fc53f7961fd0f405ade954788c8d64aaa1c828e409", func := "belvedere/belvederelaw16.TracePurges", spec := "tracePurges", inPlace := ["internal/bytealg.abigen_runtime_cmpstring"], unfollowed := true, recurses := true, apart := false, narrowed := true }
def TracePurgesUptoSaid : Prop := tracePurgesUptoRow.holds Try.pinned (OpenSpec.upto tracePurgesSpec)

/-- 'belvederelaw16.TraceSizes', WHERE WHAT IT READS IS OF BULK AT MOST 1048576: true; the input reads as it did. -/
def traceSizesUptoRow : OpenClaim := { program := "ytadidikegfiedab", sum := "f06d18b74b47271b95be00fc53f7961fd0f405ade954788c8d64aaa1c828e409", func := "belvedere/belvederelaw16.TraceSizes", spec := "traceSizes", inPlace := ["internal/bytealg.abigen_runtime_cmpstring"], unfollowed := true, recurses := true, apart := false, narrowed := true }
def TraceSizesUptoSaid : Prop := traceSizesUptoRow.holds Try.pinned (OpenSpec.upto traceSizesSpec)

end Rows
end Go.Proofs.Ytadidikegfiedab
