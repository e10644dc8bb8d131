/-
  No cell of these rows narrows 'for every input' (looked for: loops, veiled, ifaces, maps, wideKeys, modest, calm, conditions, laid).
  DERIVED. THE GIVEN ROWS OF THIS SEAT. 7 by the template 'for every input the law returns true; each argument reads behind the call as it read before'; 0 by the template 'total and deterministic' (their statements: YtblleknmofbhiaaTotals.lean).
  GIVEN WITH THE SEED: the statements are not yours to turn. If you find one false, say at which input.
  Laid BY PROGRAM, IN A SANDBOX (cutbox-rows.mjs): the forced cells as the released guide's own fill.sh prints them over the translation 430a4f35193a8662… (all of the seat's roots in one cut). By AI agents, Wed Nov 11 2026. No macro, syntax, notation, axiom, sorry.
-/
import Derived.Test.YtblleknmofbhiaaChecked
import GoSem.Claim
import GoSem.ClaimJoined
import GoSem.ClaimMapViews
import Derived.JoinedTies
import Derived.KernelRfl
namespace Go.Proofs.Ytblleknmofbhiaa
/- THE CELL 'sum', in the pinned program and in every row, IS THE sha256 OF THE DUMP (.gsa) THAT YtblleknmofbhiaaProg.lean LOADS. Nothing in Lean hashes anything: it is a label: what it is worth is what the hold of that sum in a sandbox is worth. -/
noncomputable def Try.pinned : Pinned := { name := "ytblleknmofbhiaa", sum := "430a4f35193a8662bf59d948ea442bd672e831a81d8b239ba0cebc36934da57e", checked := Try.checked }
namespace Rows
def none {H : Type} : Left H := { results := [], args := [] }

/-- 'belvederelaw03.CodeRows': WHATEVER THE INPUT: true; the input reads as it did. -/
def codeRowsSpec : ChangeSpec := { name := "codeRows", fn := fun _ => fun
  | [d] => { results := [.lit (.bool true)], args := [d] }
  | _ => none }
def codeRowsRow : OpenClaim := { program := "ytblleknmofbhiaa", sum := "430a4f35193a8662bf59d948ea442bd672e831a81d8b239ba0cebc36934da57e", func := "belvedere/belvederelaw03.CodeRows", spec := "codeRows", unfollowed := true, recurses := true, apart := false }
def CodeRowsSaid : Prop := codeRowsRow.holds Try.pinned (OpenSpec.ofChange codeRowsSpec)

/-- ITS FALSE NEIGHBOUR: 'it returns false'. Refute it at one input. -/
def codeRowsWrong : ChangeSpec := { name := "codeRows", fn := fun _ => fun
  | [d] => { results := [.lit (.bool false)], args := [d] }
  | _ => none }
def CodeRowsWrongFalsely : Prop := codeRowsRow.holds Try.pinned (OpenSpec.ofChange codeRowsWrong)

/-- 'belvederelaw03.CodeReads': WHATEVER THE INPUT: true; the input reads as it did. -/
def codeReadsSpec : ChangeSpec := { name := "codeReads", fn := fun _ => fun
  | [d] => { results := [.lit (.bool true)], args := [d] }
  | _ => none }
def codeReadsRow : OpenClaim := { program := "ytblleknmofbhiaa", sum := "430a4f35193a8662bf59d948ea442bd672e831a81d8b239ba0cebc36934da57e", func := "belvedere/belvederelaw03.CodeReads", spec := "codeReads", unfollowed := true, recurses := true, apart := false }
def CodeReadsSaid : Prop := codeReadsRow.holds Try.pinned (OpenSpec.ofChange codeReadsSpec)

/-- ITS FALSE NEIGHBOUR: 'it returns false'. Refute it at one input. -/
def codeReadsWrong : ChangeSpec := { name := "codeReads", fn := fun _ => fun
  | [d] => { results := [.lit (.bool false)], args := [d] }
  | _ => none }
def CodeReadsWrongFalsely : Prop := codeReadsRow.holds Try.pinned (OpenSpec.ofChange codeReadsWrong)

/-- 'belvederelaw03.CodeKeys': WHATEVER THE INPUT: true; the input reads as it did. -/
def codeKeysSpec : ChangeSpec := { name := "codeKeys", fn := fun _ => fun
  | [d] => { results := [.lit (.bool true)], args := [d] }
  | _ => none }
def codeKeysRow : OpenClaim := { program := "ytblleknmofbhiaa", sum := "430a4f35193a8662bf59d948ea442bd672e831a81d8b239ba0cebc36934da57e", func := "belvedere/belvederelaw03.CodeKeys", spec := "codeKeys", unfollowed := true, recurses := true, apart := false }
def CodeKeysSaid : Prop := codeKeysRow.holds Try.pinned (OpenSpec.ofChange codeKeysSpec)

/-- ITS FALSE NEIGHBOUR: 'it returns false'. Refute it at one input. -/
def codeKeysWrong : ChangeSpec := { name := "codeKeys", fn := fun _ => fun
  | [d] => { results := [.lit (.bool false)], args := [d] }
  | _ => none }
def CodeKeysWrongFalsely : Prop := codeKeysRow.holds Try.pinned (OpenSpec.ofChange codeKeysWrong)

/-- 'belvederelaw03.CodeBacks': WHATEVER THE INPUT: true; the input reads as it did. -/
def codeBacksSpec : ChangeSpec := { name := "codeBacks", fn := fun _ => fun
  | [d] => { results := [.lit (.bool true)], args := [d] }
  | _ => none }
def codeBacksRow : OpenClaim := { program := "ytblleknmofbhiaa", sum := "430a4f35193a8662bf59d948ea442bd672e831a81d8b239ba0cebc36934da57e", func := "belvedere/belvederelaw03.CodeBacks", spec := "codeBacks", unfollowed := true, recurses := true, apart := false }
def CodeBacksSaid : Prop := codeBacksRow.holds Try.pinned (OpenSpec.ofChange codeBacksSpec)

/-- ITS FALSE NEIGHBOUR: 'it returns false'. Refute it at one input. -/
def codeBacksWrong : ChangeSpec := { name := "codeBacks", fn := fun _ => fun
  | [d] => { results := [.lit (.bool false)], args := [d] }
  | _ => none }
def CodeBacksWrongFalsely : Prop := codeBacksRow.holds Try.pinned (OpenSpec.ofChange codeBacksWrong)

/-- 'belvederelaw03.CodeOrders': WHATEVER THE INPUT: true; the input reads as it did. -/
def codeOrdersSpec : ChangeSpec := { name := "codeOrders", fn := fun _ => fun
  | [d1, d2] => { results := [.lit (.bool true)], args := [d1, d2] }
  | _ => none }
def codeOrdersRow : OpenClaim := { program := "ytblleknmofbhiaa", sum := "430a4f35193a8662bf59d948ea442bd672e831a81d8b239ba0cebc36934da57e", func := "belvedere/belvederelaw03.CodeOrders", spec := "codeOrders", unfollowed := true, recurses := true, apart := false }
def CodeOrdersSaid : Prop := codeOrdersRow.holds Try.pinned (OpenSpec.ofChange codeOrdersSpec)

/-- ITS FALSE NEIGHBOUR: 'it returns false'. Refute it at one input. -/
def codeOrdersWrong : ChangeSpec := { name := "codeOrders", fn := fun _ => fun
  | [d1, d2] => { results := [.lit (.bool false)], args := [d1, d2] }
  | _ => none }
def CodeOrdersWrongFalsely : Prop := codeOrdersRow.holds Try.pinned (OpenSpec.ofChange codeOrdersWrong)

/-- 'belvederelaw03.CodeBegins': WHATEVER THE INPUT: true; the input reads as it did. -/
def codeBeginsSpec : ChangeSpec := { name := "codeBegins", fn := fun _ => fun
  | [d1, d2] => { results := [.lit (.bool true)], args := [d1, d2] }
  | _ => none }
def codeBeginsRow : OpenClaim := { program := "ytblleknmofbhiaa", sum := "430a4f35193a8662bf59d948ea442bd672e831a81d8b239ba0cebc36934da57e", func := "belvedere/belvederelaw03.CodeBegins", spec := "codeBegins", unfollowed := true, recurses := true, apart := false }
def CodeBeginsSaid : Prop := codeBeginsRow.holds Try.pinned (OpenSpec.ofChange codeBeginsSpec)

/-- ITS FALSE NEIGHBOUR: 'it returns false'. Refute it at one input. -/
def codeBeginsWrong : ChangeSpec := { name := "codeBegins", fn := fun _ => fun
  | [d1, d2] => { results := [.lit (.bool false)], args := [d1, d2] }
  | _ => none }
def CodeBeginsWrongFalsely : Prop := codeBeginsRow.holds Try.pinned (OpenSpec.ofChange codeBeginsWrong)

/-- 'belvederelaw03.CodeUnlike': WHATEVER THE INPUT: true; the input reads as it did. -/
def codeUnlikeSpec : ChangeSpec := { name := "codeUnlike", fn := fun _ => fun
  | [d1, d2, d3] => { results := [.lit (.bool true)], args := [d1, d2, d3] }
  | _ => none }
def codeUnlikeRow : OpenClaim := { program := "ytblleknmofbhiaa", sum := "430a4f35193a8662bf59d948ea442bd672e831a81d8b239ba0cebc36934da57e", func := "belvedere/belvederelaw03.CodeUnlike", spec := "codeUnlike", unfollowed := true, recurses := true, apart := false }
def CodeUnlikeSaid : Prop := codeUnlikeRow.holds Try.pinned (OpenSpec.ofChange codeUnlikeSpec)

/-- ITS FALSE NEIGHBOUR: 'it returns false'. Refute it at one input. -/
def codeUnlikeWrong : ChangeSpec := { name := "codeUnlike", fn := fun _ => fun
  | [d1, d2, d3] => { results := [.lit (.bool false)], args := [d1, d2, d3] }
  | _ => none }
def CodeUnlikeWrongFalsely : Prop := codeUnlikeRow.holds Try.pinned (OpenSpec.ofChange codeUnlikeWrong)

/- THE SECOND FORM. 'bulk': how many values and letters a reading holds, each counted each time it is reached (what is shared counts as often as it is met; a slice's spare places count too). A statement '..UptoSaid' is the law's where the arguments, and the package variables that the reading takes, are together of bulk at most 1048576: NARROWER than '..Said'. Prove '..Said' where nothing that the law and all that it calls make is longer than what came in: it says more and counts as full. Else prove '..UptoSaid'. A law counts once. -/
mutual
def uptoBulk {H : Type} : DataW H → Nat
  | .lit (.string bytes) => bytes.length + 1
  | .lit _ => 1
  | .nil => 1
  | .ptr d => uptoBulk d + 1
  | .slice elems spare => uptoBulkAll elems + uptoBulkAll spare + 1
  | .agg parts => uptoBulkAll parts + 1
  | .iface _ d => uptoBulk d + 1
  | .map entries => uptoBulkEntries entries + 1
  | .held _ => 1
def uptoBulkAll {H : Type} : List (DataW H) → Nat
  | [] => 0
  | d :: r => uptoBulk d + uptoBulkAll r
def uptoBulkEntries {H : Type} : List (Lit × DataW H) → Nat
  | [] => 0
  | x :: r => uptoBulkEntry x + uptoBulkEntries r
def uptoBulkEntry {H : Type} : Lit × DataW H → Nat
  | (.string bytes, d) => bytes.length + uptoBulk d + 1
  | (_, d) => uptoBulk d + 1
 end
def uptoSmall : (H : Type) → List (DataW H) → Bool := fun _ ds => decide (uptoBulkAll ds ≤ 1048576)
def OpenSpec.upto (s : _root_.Go.ChangeSpec) : _root_.Go.OpenSpec := { _root_.Go.OpenSpec.ofChange s with cond := some uptoSmall }

/-- 'belvederelaw03.CodeRows', WHERE WHAT IT READS IS OF BULK AT MOST 1048576: true; the input reads as it did. -/
def codeRowsUptoRow : OpenClaim := { program := "ytblleknmofbhiaa", sum := "430a4f35193a8662bf59d948ea442bd672e831a81d8b239ba0cebc36934da57e", func := "belvedere/belvederelaw03.CodeRows", spec := "codeRows", unfollowed := true, recurses := true, apart := false, narrowed := true }
def CodeRowsUptoSaid : Prop := codeRowsUptoRow.holds Try.pinned (OpenSpec.upto codeRowsSpec)

/-- 'belvederelaw03.CodeReads', WHERE WHAT IT READS IS OF BULK AT MOST 1048576: true; the input reads as it did. -/
def codeReadsUptoRow : OpenClaim := { program := "ytblleknmofbhiaa", sum := "430a4f35193a8662bf59d948ea442bd672e831a81d8b239ba0cebc36934da57e", func := "belvedere/belvederelaw03.CodeReads", spec := "codeReads", unfollowed := true, recurses := true, apart := false, narrowed := true }
def CodeReadsUptoSaid : Prop := codeReadsUptoRow.holds Try.pinned (OpenSpec.upto codeReadsSpec)

/-- 'belvederelaw03.CodeKeys', WHERE WHAT IT READS IS OF BULK AT MOST 1048576: true; the input reads as it did. -/
def codeKeysUptoRow : OpenClaim := { program := "ytblleknmofbhiaa", sum := "430a4f35193a8662bf59d948ea442bd672e831a81d8b239ba0cebc36934da57e", func := "belvedere/belvederelaw03.CodeKeys", spec := "codeKeys", unfollowed := true, recurses := true, apart := false, narrowed := true }
def CodeKeysUptoSaid : Prop := codeKeysUptoRow.holds Try.pinned (OpenSpec.upto codeKeysSpec)

/-- 'belvederelaw03.CodeBacks', WHERE WHAT IT READS IS OF BULK AT MOST 1048576: true; the input reads as it did. -/
def codeBacksUptoRow : OpenClaim := { program := "ytblleknmofbhiaa", sum := "430a4f35193a8662bf59d948ea442bd672e831a81d8b239ba0cebc36934da57e", func := "belvedere/belvederelaw03.CodeBacks", spec := "codeBacks", unfollowed := true, recurses := true, apart := false, narrowed := true }
def CodeBacksUptoSaid : Prop := codeBacksUptoRow.holds Try.pinned (OpenSpec.upto codeBacksSpec)

/-- 'belvederelaw03.CodeOrders', WHERE WHAT IT READS IS OF BULK AT MOST 1048576: true; the input reads as it did. -/
def codeOrdersUptoRow : OpenClaim := { program := "ytblleknmofbhiaa", sum := "430a4f35193a8662bf59d948ea442bd672e831a81d8b239ba0cebc36934da57e", func := "belvedere/belvederelaw03.CodeOrders", spec := "codeOrders", unfollowed := true, recurses := true, apart := false, narrowed := true }
def CodeOrdersUptoSaid : Prop := codeOrdersUptoRow.holds Try.pinned (OpenSpec.upto codeOrdersSpec)

/-- 'belvederelaw03.CodeBegins', WHERE WHAT IT READS IS OF BULK AT MOST 1048576: true; the input reads as it did. -/
def codeBeginsUptoRow : OpenClaim := { program := "ytblleknmofbhiaa", sum := "430a4f35193a8662bf59d948ea442bd672e831a81d8b239ba0cebc36934da57e", func := "belvedere/belvederelaw03.CodeBegins", spec := "codeBegins", unfollowed := true, recurses := true, apart := false, narrowed := true }
def CodeBeginsUptoSaid : Prop := codeBeginsUptoRow.holds Try.pinned (OpenSpec.upto codeBeginsSpec)

/-- 'belvederelaw03.CodeUnlike', WHERE WHAT IT READS IS OF BULK AT MOST 1048576: true; the input reads as it did. -/
def codeUnlikeUptoRow : OpenClaim := { program := "ytblleknmofbhiaa", sum := "430a4f35193a8662bf59d948ea442bd672e831a81d8b239ba0cebc36934da57e", func := "belvedere/belvederelaw03.CodeUnlike", spec := "codeUnlike", unfollowed := true, recurses := true, apart := false, narrowed := true }
def CodeUnlikeUptoSaid : Prop := codeUnlikeUptoRow.holds Try.pinned (OpenSpec.upto codeUnlikeSpec)

end Rows
end Go.Proofs.Ytblleknmofbhiaa
