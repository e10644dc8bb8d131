/-
  No cell of these rows narrows 'for every input' (looked for: loops, veiled, ifaces, maps, wideKeys, modest, calm, conditions, laid).
  DERIVED. THE GIVEN ROWS OF THIS SEAT. 5 by the template 'for every input the law returns true; each argument reads behind the call as it read before'; 0 by the template 'total and deterministic' (their statements: YtchifcjjojiohaaTotals.lean).
  GIVEN WITH THE SEED: the statements are not yours to turn. If you find one false, say at which input.
  Laid BY PROGRAM, IN A SANDBOX (cutbox-rows.mjs): the forced cells as the released guide's own fill.sh prints them over the translation 7d561361e115f401… (all of the seat's roots in one cut). By AI agents, Wed Nov 11 2026. No macro, syntax, notation, axiom, sorry.
-/
import Derived.Test.YtchifcjjojiohaaChecked
import GoSem.Claim
import GoSem.ClaimJoined
import GoSem.ClaimMapViews
import Derived.JoinedTies
import Derived.KernelRfl
namespace Go.Proofs.Ytchifcjjojiohaa
/- THE CELL 'sum', in the pinned program and in every row, IS THE sha256 OF THE DUMP (.gsa) THAT YtchifcjjojiohaaProg.lean LOADS. Nothing in Lean hashes anything: it is a label: what it is worth is what the hold of that sum in a sandbox is worth. -/
noncomputable def Try.pinned : Pinned := { name := "ytchifcjjojiohaa", sum := "7d561361e115f401b99838d2b64642bcc5650891bad217e84b8cd28ec9ea4a4d", checked := Try.checked }
namespace Rows
def none {H : Type} : Left H := { results := [], args := [] }

/-- 'belvederelaw02.TruthCompares': WHATEVER THE INPUT: true; the input reads as it did. -/
def truthComparesSpec : ChangeSpec := { name := "truthCompares", fn := fun _ => fun
  | [d1, d2, d3] => { results := [.lit (.bool true)], args := [d1, d2, d3] }
  | _ => none }
def truthComparesRow : OpenClaim := { program := "ytchifcjjojiohaa", sum := "7d561361e115f401b99838d2b64642bcc5650891bad217e84b8cd28ec9ea4a4d", func := "belvedere/belvederelaw02.TruthCompares", spec := "truthCompares", inPlace := ["internal/bytealg.abigen_runtime_cmpstring"], apart := false }
def TruthComparesSaid : Prop := truthComparesRow.holds Try.pinned (OpenSpec.ofChange truthComparesSpec)

/-- ITS FALSE NEIGHBOUR: 'it returns false'. Refute it at one input. -/
def truthComparesWrong : ChangeSpec := { name := "truthCompares", fn := fun _ => fun
  | [d1, d2, d3] => { results := [.lit (.bool false)], args := [d1, d2, d3] }
  | _ => none }
def TruthComparesWrongFalsely : Prop := truthComparesRow.holds Try.pinned (OpenSpec.ofChange truthComparesWrong)

/-- 'belvederelaw02.TruthTurns': WHATEVER THE INPUT: true; the input reads as it did. -/
def truthTurnsSpec : ChangeSpec := { name := "truthTurns", fn := fun _ => fun
  | [d1, d2, d3] => { results := [.lit (.bool true)], args := [d1, d2, d3] }
  | _ => none }
def truthTurnsRow : OpenClaim := { program := "ytchifcjjojiohaa", sum := "7d561361e115f401b99838d2b64642bcc5650891bad217e84b8cd28ec9ea4a4d", func := "belvedere/belvederelaw02.TruthTurns", spec := "truthTurns", inPlace := ["internal/bytealg.abigen_runtime_cmpstring"], apart := false }
def TruthTurnsSaid : Prop := truthTurnsRow.holds Try.pinned (OpenSpec.ofChange truthTurnsSpec)

/-- ITS FALSE NEIGHBOUR: 'it returns false'. Refute it at one input. -/
def truthTurnsWrong : ChangeSpec := { name := "truthTurns", fn := fun _ => fun
  | [d1, d2, d3] => { results := [.lit (.bool false)], args := [d1, d2, d3] }
  | _ => none }
def TruthTurnsWrongFalsely : Prop := truthTurnsRow.holds Try.pinned (OpenSpec.ofChange truthTurnsWrong)

/-- 'belvederelaw02.TruthJoins': WHATEVER THE INPUT: true; the input reads as it did. -/
def truthJoinsSpec : ChangeSpec := { name := "truthJoins", fn := fun _ => fun
  | [d1, d2] => { results := [.lit (.bool true)], args := [d1, d2] }
  | _ => none }
def truthJoinsRow : OpenClaim := { program := "ytchifcjjojiohaa", sum := "7d561361e115f401b99838d2b64642bcc5650891bad217e84b8cd28ec9ea4a4d", func := "belvedere/belvederelaw02.TruthJoins", spec := "truthJoins", inPlace := ["internal/bytealg.abigen_runtime_cmpstring"], apart := false }
def TruthJoinsSaid : Prop := truthJoinsRow.holds Try.pinned (OpenSpec.ofChange truthJoinsSpec)

/-- ITS FALSE NEIGHBOUR: 'it returns false'. Refute it at one input. -/
def truthJoinsWrong : ChangeSpec := { name := "truthJoins", fn := fun _ => fun
  | [d1, d2] => { results := [.lit (.bool false)], args := [d1, d2] }
  | _ => none }
def TruthJoinsWrongFalsely : Prop := truthJoinsRow.holds Try.pinned (OpenSpec.ofChange truthJoinsWrong)

/-- 'belvederelaw02.TruthDual': WHATEVER THE INPUT: true; the input reads as it did. -/
def truthDualSpec : ChangeSpec := { name := "truthDual", fn := fun _ => fun
  | [d1, d2] => { results := [.lit (.bool true)], args := [d1, d2] }
  | _ => none }
def truthDualRow : OpenClaim := { program := "ytchifcjjojiohaa", sum := "7d561361e115f401b99838d2b64642bcc5650891bad217e84b8cd28ec9ea4a4d", func := "belvedere/belvederelaw02.TruthDual", spec := "truthDual", inPlace := ["internal/bytealg.abigen_runtime_cmpstring"], apart := false }
def TruthDualSaid : Prop := truthDualRow.holds Try.pinned (OpenSpec.ofChange truthDualSpec)

/-- ITS FALSE NEIGHBOUR: 'it returns false'. Refute it at one input. -/
def truthDualWrong : ChangeSpec := { name := "truthDual", fn := fun _ => fun
  | [d1, d2] => { results := [.lit (.bool false)], args := [d1, d2] }
  | _ => none }
def TruthDualWrongFalsely : Prop := truthDualRow.holds Try.pinned (OpenSpec.ofChange truthDualWrong)

/-- 'belvederelaw02.TruthChain': WHATEVER THE INPUT: true; the input reads as it did. -/
def truthChainSpec : ChangeSpec := { name := "truthChain", fn := fun _ => fun
  | [d1, d2, d3] => { results := [.lit (.bool true)], args := [d1, d2, d3] }
  | _ => none }
def truthChainRow : OpenClaim := { program := "ytchifcjjojiohaa", sum := "7d561361e115f401b99838d2b64642bcc5650891bad217e84b8cd28ec9ea4a4d", func := "belvedere/belvederelaw02.TruthChain", spec := "truthChain", inPlace := ["internal/bytealg.abigen_runtime_cmpstring"], apart := false }
def TruthChainSaid : Prop := truthChainRow.holds Try.pinned (OpenSpec.ofChange truthChainSpec)

/-- ITS FALSE NEIGHBOUR: 'it returns false'. Refute it at one input. -/
def truthChainWrong : ChangeSpec := { name := "truthChain", fn := fun _ => fun
  | [d1, d2, d3] => { results := [.lit (.bool false)], args := [d1, d2, d3] }
  | _ => none }
def TruthChainWrongFalsely : Prop := truthChainRow.holds Try.pinned (OpenSpec.ofChange truthChainWrong)

/- THE SECOND FORM. 'bulk': how many values and letters a reading holds, each counted each time it is reached (what is shared counts as often as it is met; a slice's spare places count too). A statement '..UptoSaid' is the law's where the arguments, and the package variables that the reading takes, are together of bulk at most 1048576: NARROWER than '..Said'. Prove '..Said' where nothing that the law and all that it calls make is longer than what came in: it says more and counts as full. Else prove '..UptoSaid'. A law counts once. -/
mutual
def uptoBulk {H : Type} : DataW H → Nat
  | .lit (.string bytes) => bytes.length + 1
  | .lit _ => 1
  | .nil => 1
  | .ptr d => uptoBulk d + 1
  | .slice elems spare => uptoBulkAll elems + uptoBulkAll spare + 1
  | .agg parts => uptoBulkAll parts + 1
  | .iface _ d => uptoBulk d + 1
  | .map entries => uptoBulkEntries entries + 1
  | .held _ => 1
def uptoBulkAll {H : Type} : List (DataW H) → Nat
  | [] => 0
  | d :: r => uptoBulk d + uptoBulkAll r
def uptoBulkEntries {H : Type} : List (Lit × DataW H) → Nat
  | [] => 0
  | x :: r => uptoBulkEntry x + uptoBulkEntries r
def uptoBulkEntry {H : Type} : Lit × DataW H → Nat
  | (.string bytes, d) => bytes.length + uptoBulk d + 1
  | (_, d) => uptoBulk d + 1
 end
def uptoSmall : (H : Type) → List (DataW H) → Bool := fun _ ds => decide (uptoBulkAll ds ≤ 1048576)
def OpenSpec.upto (s : _root_.Go.ChangeSpec) : _root_.Go.OpenSpec := { _root_.Go.OpenSpec.ofChange s with cond := some uptoSmall }

/-- 'belvederelaw02.TruthCompares', WHERE WHAT IT READS IS OF BULK AT MOST 1048576: true; the input reads as it did. -/
def truthComparesUptoRow : OpenClaim := { program := "ytchifcjjojiohaa", sum := "7d561361e115f401b99838d2b64642bcc5650891bad217e84b8cd28ec9ea4a4d", func := "belvedere/belvederelaw02.TruthCompares", spec := "truthCompares", inPlace := ["internal/bytealg.abigen_runtime_cmpstring"], apart := false, narrowed := true }
def TruthComparesUptoSaid : Prop := truthComparesUptoRow.holds Try.pinned (OpenSpec.upto truthComparesSpec)

/-- 'belvederelaw02.TruthTurns', WHERE WHAT IT READS IS OF BULK AT MOST 1048576: true; the input reads as it did. -/
def truthTurnsUptoRow : OpenClaim := { program := "ytchifcjjojiohaa", sum := "7d561361e115f401b99838d2b64642bcc5650891bad217e84b8cd28ec9ea4a4d", func := "belvedere/belvederelaw02.TruthTurns", spec := "truthTurns", inPlace := ["internal/bytealg.abigen_runtime_cmpstring"], apart := false, narrowed := true }
def TruthTurnsUptoSaid : Prop := truthTurnsUptoRow.holds Try.pinned (OpenSpec.upto truthTurnsSpec)

/-- 'belvederelaw02.TruthJoins', WHERE WHAT IT READS IS OF BULK AT MOST 1048576: true; the input reads as it did. -/
def truthJoinsUptoRow : OpenClaim := { program := "ytchifcjjojiohaa", sum := "7d561361e115f401b99838d2b64642bcc5650891bad217e84b8cd28ec9ea4a4d", func := "belvedere/belvederelaw02.TruthJoins", spec := "truthJoins", inPlace := ["internal/bytealg.abigen_runtime_cmpstring"], apart := false, narrowed := true }
def TruthJoinsUptoSaid : Prop := truthJoinsUptoRow.holds Try.pinned (OpenSpec.upto truthJoinsSpec)

/-- 'belvederelaw02.TruthDual', WHERE WHAT IT READS IS OF BULK AT MOST 1048576: true; the input reads as it did. -/
def truthDualUptoRow : OpenClaim := { program := "ytchifcjjojiohaa", sum := "7d561361e115f401b99838d2b64642bcc5650891bad217e84b8cd28ec9ea4a4d", func := "belvedere/belvederelaw02.TruthDual", spec := "truthDual", inPlace := ["internal/bytealg.abigen_runtime_cmpstring"], apart := false, narrowed := true }
def TruthDualUptoSaid : Prop := truthDualUptoRow.holds Try.pinned (OpenSpec.upto truthDualSpec)

/-- 'belvederelaw02.TruthChain', WHERE WHAT IT READS IS OF BULK AT MOST 1048576: true; the input reads as it did. -/
def truthChainUptoRow : OpenClaim := { program := "ytchifcjjojiohaa", sum := "7d561361e115f401b99838d2b64642bcc5650891bad217e84b8cd28ec9ea4a4d", func := "belvedere/belvederelaw02.TruthChain", spec := "truthChain", inPlace := ["internal/bytealg.abigen_runtime_cmpstring"], apart := false, narrowed := true }
def TruthChainUptoSaid : Prop := truthChainUptoRow.holds Try.pinned (OpenSpec.upto truthChainSpec)

end Rows
end Go.Proofs.Ytchifcjjojiohaa
