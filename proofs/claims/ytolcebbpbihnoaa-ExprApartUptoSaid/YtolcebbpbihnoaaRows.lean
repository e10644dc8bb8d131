/-
  NARROWER THAN 'FOR EVERY INPUT', by the rows' own cells (each row's printed sentence says how): ExprEvals: loops · ExprHolds: loops · ExprApart: loops · ExprReads: loops · ExprNot: loops.
  DERIVED. THE GIVEN ROWS OF THIS SEAT. 5 by the template 'for every input the law returns true; each argument reads behind the call as it read before'; 0 by the template 'total and deterministic' (their statements: YtolcebbpbihnoaaTotals.lean).
  GIVEN WITH THE SEED: the statements are not yours to turn. If you find one false, say at which input.
  Laid BY PROGRAM, IN A SANDBOX (cutbox-rows.mjs): the forced cells as the released guide's own fill.sh prints them over the translation 4b3410787ae08a7d… (all of the seat's roots in one cut). By AI agents, Wed Nov 11 2026. No macro, syntax, notation, axiom, sorry.
-/
import Derived.Test.YtolcebbpbihnoaaChecked
import GoSem.Claim
import GoSem.ClaimJoined
import GoSem.ClaimMapViews
import Derived.JoinedTies
import Derived.KernelRfl
namespace Go.Proofs.Ytolcebbpbihnoaa
/- THE CELL 'sum', in the pinned program and in every row, IS THE sha256 OF THE DUMP (.gsa) THAT YtolcebbpbihnoaaProg.lean LOADS. Nothing in Lean hashes anything: it is a label: what it is worth is what the hold of that sum in a sandbox is worth. -/
noncomputable def Try.pinned : Pinned := { name := "ytolcebbpbihnoaa", sum := "4b3410787ae08a7d5e60013868e06b0db92d37e9b37ea598a01b1c5ad142fc20", checked := Try.checked }
namespace Rows
def none {H : Type} : Left H := { results := [], args := [] }

/-- 'belvederelaw11.ExprEvals': WHATEVER THE INPUT: true; the input reads as it did. -/
def exprEvalsSpec : ChangeSpec := { name := "exprEvals", fn := fun _ => fun
  | [d1, d2] => { results := [.lit (.bool true)], args := [d1, d2] }
  | _ => none }
def exprEvalsRow : OpenClaim := { program := "ytolcebbpbihnoaa", sum := "4b3410787ae08a7d5e60013868e06b0db92d37e9b37ea598a01b1c5ad142fc20", func := "belvedere/belvederelaw11.ExprEvals", spec := "exprEvals", inPlace := ["math/bits.Add64", "math/bits.Sub64", "internal/bytealg.abigen_runtime_cmpstring"], unfollowed := true, recurses := true, loops := true, apart := false }
def ExprEvalsSaid : Prop := exprEvalsRow.holds Try.pinned (OpenSpec.ofChange exprEvalsSpec)

/-- ITS FALSE NEIGHBOUR: 'it returns false'. Refute it at one input. -/
def exprEvalsWrong : ChangeSpec := { name := "exprEvals", fn := fun _ => fun
  | [d1, d2] => { results := [.lit (.bool false)], args := [d1, d2] }
  | _ => none }
def ExprEvalsWrongFalsely : Prop := exprEvalsRow.holds Try.pinned (OpenSpec.ofChange exprEvalsWrong)

/-- 'belvederelaw11.ExprHolds': WHATEVER THE INPUT: true; the input reads as it did. -/
def exprHoldsSpec : ChangeSpec := { name := "exprHolds", fn := fun _ => fun
  | [d1, d2] => { results := [.lit (.bool true)], args := [d1, d2] }
  | _ => none }
def exprHoldsRow : OpenClaim := { program := "ytolcebbpbihnoaa", sum := "4b3410787ae08a7d5e60013868e06b0db92d37e9b37ea598a01b1c5ad142fc20", func := "belvedere/belvederelaw11.ExprHolds", spec := "exprHolds", inPlace := ["math/bits.Add64", "math/bits.Sub64", "internal/bytealg.abigen_runtime_cmpstring"], unfollowed := true, recurses := true, loops := true, apart := false }
def ExprHoldsSaid : Prop := exprHoldsRow.holds Try.pinned (OpenSpec.ofChange exprHoldsSpec)

/-- ITS FALSE NEIGHBOUR: 'it returns false'. Refute it at one input. -/
def exprHoldsWrong : ChangeSpec := { name := "exprHolds", fn := fun _ => fun
  | [d1, d2] => { results := [.lit (.bool false)], args := [d1, d2] }
  | _ => none }
def ExprHoldsWrongFalsely : Prop := exprHoldsRow.holds Try.pinned (OpenSpec.ofChange exprHoldsWrong)

/-- 'belvederelaw11.ExprApart': WHATEVER THE INPUT: true; the input reads as it did. -/
def exprApartSpec : ChangeSpec := { name := "exprApart", fn := fun _ => fun
  | [d1, d2] => { results := [.lit (.bool true)], args := [d1, d2] }
  | _ => none }
def exprApartRow : OpenClaim := { program := "ytolcebbpbihnoaa", sum := "4b3410787ae08a7d5e60013868e06b0db92d37e9b37ea598a01b1c5ad142fc20", func := "belvedere/belvederelaw11.ExprApart", spec := "exprApart", inPlace := ["math/bits.Add64", "math/bits.Sub64", "internal/bytealg.abigen_runtime_cmpstring"], unfollowed := true, recurses := true, loops := true, apart := false }
def ExprApartSaid : Prop := exprApartRow.holds Try.pinned (OpenSpec.ofChange exprApartSpec)

/-- ITS FALSE NEIGHBOUR: 'it returns false'. Refute it at one input. -/
def exprApartWrong : ChangeSpec := { name := "exprApart", fn := fun _ => fun
  | [d1, d2] => { results := [.lit (.bool false)], args := [d1, d2] }
  | _ => none }
def ExprApartWrongFalsely : Prop := exprApartRow.holds Try.pinned (OpenSpec.ofChange exprApartWrong)

/-- 'belvederelaw11.ExprReads': WHATEVER THE INPUT: true; the input reads as it did. -/
def exprReadsSpec : ChangeSpec := { name := "exprReads", fn := fun _ => fun
  | [d1, d2, d3] => { results := [.lit (.bool true)], args := [d1, d2, d3] }
  | _ => none }
def exprReadsRow : OpenClaim := { program := "ytolcebbpbihnoaa", sum := "4b3410787ae08a7d5e60013868e06b0db92d37e9b37ea598a01b1c5ad142fc20", func := "belvedere/belvederelaw11.ExprReads", spec := "exprReads", inPlace := ["math/bits.Add64", "math/bits.Sub64", "internal/bytealg.abigen_runtime_cmpstring"], unfollowed := true, recurses := true, loops := true, apart := false }
def ExprReadsSaid : Prop := exprReadsRow.holds Try.pinned (OpenSpec.ofChange exprReadsSpec)

/-- ITS FALSE NEIGHBOUR: 'it returns false'. Refute it at one input. -/
def exprReadsWrong : ChangeSpec := { name := "exprReads", fn := fun _ => fun
  | [d1, d2, d3] => { results := [.lit (.bool false)], args := [d1, d2, d3] }
  | _ => none }
def ExprReadsWrongFalsely : Prop := exprReadsRow.holds Try.pinned (OpenSpec.ofChange exprReadsWrong)

/-- 'belvederelaw11.ExprNot': WHATEVER THE INPUT: true; the input reads as it did. -/
def exprNotSpec : ChangeSpec := { name := "exprNot", fn := fun _ => fun
  | [d1, d2] => { results := [.lit (.bool true)], args := [d1, d2] }
  | _ => none }
def exprNotRow : OpenClaim := { program := "ytolcebbpbihnoaa", sum := "4b3410787ae08a7d5e60013868e06b0db92d37e9b37ea598a01b1c5ad142fc20", func := "belvedere/belvederelaw11.ExprNot", spec := "exprNot", inPlace := ["math/bits.Add64", "math/bits.Sub64", "internal/bytealg.abigen_runtime_cmpstring"], unfollowed := true, recurses := true, loops := true, apart := false }
def ExprNotSaid : Prop := exprNotRow.holds Try.pinned (OpenSpec.ofChange exprNotSpec)

/-- ITS FALSE NEIGHBOUR: 'it returns false'. Refute it at one input. -/
def exprNotWrong : ChangeSpec := { name := "exprNot", fn := fun _ => fun
  | [d1, d2] => { results := [.lit (.bool false)], args := [d1, d2] }
  | _ => none }
def ExprNotWrongFalsely : Prop := exprNotRow.holds Try.pinned (OpenSpec.ofChange exprNotWrong)

/- THE SECOND FORM. 'bulk': how many values and letters a reading holds, each counted each time it is reached (what is shared counts as often as it is met; a slice's spare places count too). A statement '..UptoSaid' is the law's where the arguments, and the package variables that the reading takes, are together of bulk at most 1048576: NARROWER than '..Said'. Prove '..Said' where nothing that the law and all that it calls make is longer than what came in: it says more and counts as full. Else prove '..UptoSaid'. A law counts once. -/
mutual
def uptoBulk {H : Type} : DataW H → Nat
  | .lit (.string bytes) => bytes.length + 1
  | .lit _ => 1
  | .nil => 1
  | .ptr d => uptoBulk d + 1
  | .slice elems spare => uptoBulkAll elems + uptoBulkAll spare + 1
  | .agg parts => uptoBulkAll parts + 1
  | .iface _ d => uptoBulk d + 1
  | .map entries => uptoBulkEntries entries + 1
  | .held _ => 1
def uptoBulkAll {H : Type} : List (DataW H) → Nat
  | [] => 0
  | d :: r => uptoBulk d + uptoBulkAll r
def uptoBulkEntries {H : Type} : List (Lit × DataW H) → Nat
  | [] => 0
  | x :: r => uptoBulkEntry x + uptoBulkEntries r
def uptoBulkEntry {H : Type} : Lit × DataW H → Nat
  | (.string bytes, d) => bytes.length + uptoBulk d + 1
  | (_, d) => uptoBulk d + 1
 end
def uptoSmall : (H : Type) → List (DataW H) → Bool := fun _ ds => decide (uptoBulkAll ds ≤ 1048576)
def OpenSpec.upto (s : _root_.Go.ChangeSpec) : _root_.Go.OpenSpec := { _root_.Go.OpenSpec.ofChange s with cond := some uptoSmall }

/-- 'belvederelaw11.ExprEvals', WHERE WHAT IT READS IS OF BULK AT MOST 1048576: true; the input reads as it did. -/
def exprEvalsUptoRow : OpenClaim := { program := "ytolcebbpbihnoaa", sum := "4b3410787ae08a7d5e60013868e06b0db92d37e9b37ea598a01b1c5ad142fc20", func := "belvedere/belvederelaw11.ExprEvals", spec := "exprEvals", inPlace := ["math/bits.Add64", "math/bits.Sub64", "internal/bytealg.abigen_runtime_cmpstring"], unfollowed := true, recurses := true, loops := true, apart := false, narrowed := true }
def ExprEvalsUptoSaid : Prop := exprEvalsUptoRow.holds Try.pinned (OpenSpec.upto exprEvalsSpec)

/-- 'belvederelaw11.ExprHolds', WHERE WHAT IT READS IS OF BULK AT MOST 1048576: true; the input reads as it did. -/
def exprHoldsUptoRow : OpenClaim := { program := "ytolcebbpbihnoaa", sum := "4b3410787ae08a7d5e60013868e06b0db92d37e9b37ea598a01b1c5ad142fc20", func := "belvedere/belvederelaw11.ExprHolds", spec := "exprHolds", inPlace := ["math/bits.Add64", "math/bits.Sub64", "internal/bytealg.abigen_runtime_cmpstring"], unfollowed := true, recurses := true, loops := true, apart := false, narrowed := true }
def ExprHoldsUptoSaid : Prop := exprHoldsUptoRow.holds Try.pinned (OpenSpec.upto exprHoldsSpec)

/-- 'belvederelaw11.ExprApart', WHERE WHAT IT READS IS OF BULK AT MOST 1048576: true; the input reads as it did. -/
def exprApartUptoRow : OpenClaim := { program := "ytolcebbpbihnoaa", sum := "4b3410787ae08a7d5e60013868e06b0db92d37e9b37ea598a01b1c5ad142fc20", func := "belvedere/belvederelaw11.ExprApart", spec := "exprApart", inPlace := ["math/bits.Add64", "math/bits.Sub64", "internal/bytealg.abigen_runtime_cmpstring"], unfollowed := true, recurses := true, loops := true, apart := false, narrowed := true }
def ExprApartUptoSaid : Prop := exprApartUptoRow.holds Try.pinned (OpenSpec.upto exprApartSpec)

/-- 'belvederelaw11.ExprReads', WHERE WHAT IT READS IS OF BULK AT MOST 1048576: true; the input reads as it did. -/
def exprReadsUptoRow : OpenClaim := { program := "ytolcebbpbihnoaa", sum := "4b3410787ae08a7d5e60013868e06b0db92d37e9b37ea598a01b1c5ad142fc20", func := "belvedere/belvederelaw11.ExprReads", spec := "exprReads", inPlace := ["math/bits.Add64", "math/bits.Sub64", "internal/bytealg.abigen_runtime_cmpstring"], unfollowed := true, recurses := true, loops := true, apart := false, narrowed := true }
def ExprReadsUptoSaid : Prop := exprReadsUptoRow.holds Try.pinned (OpenSpec.upto exprReadsSpec)

/-- 'belvederelaw11.ExprNot', WHERE WHAT IT READS IS OF BULK AT MOST 1048576: true; the input reads as it did. -/
def exprNotUptoRow : OpenClaim := { program := "ytolcebbpbihnoaa", sum := "4b3410787ae08a7d5e60013868e06b0db92d37e9b37ea598a01b1c5ad142fc20", func := "belvedere/belvederelaw11.ExprNot", spec := "exprNot", inPlace := ["math/bits.Add64", "math/bits.Sub64", "internal/bytealg.abigen_runtime_cmpstring"], unfollowed := true, recurses := true, loops := true, apart := false, narrowed := true }
def ExprNotUptoSaid : Prop := exprNotUptoRow.holds Try.pinned (OpenSpec.upto exprNotSpec)

end Rows
end Go.Proofs.Ytolcebbpbihnoaa
