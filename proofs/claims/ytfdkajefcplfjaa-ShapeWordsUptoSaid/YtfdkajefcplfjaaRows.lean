/-
  NARROWER THAN 'FOR EVERY INPUT', by the rows' own cells (each row's printed sentence says how): ShapeRefs: loops · ShapePlaces: loops · ShapeWords: loops.
  DERIVED. THE GIVEN ROWS OF THIS SEAT. 3 by the template 'for every input the law returns true; each argument reads behind the call as it read before'; 0 by the template 'total and deterministic' (their statements: YtfdkajefcplfjaaTotals.lean).
  GIVEN WITH THE SEED: the statements are not yours to turn. If you find one false, say at which input.
  Laid BY PROGRAM, IN A SANDBOX (cutbox-rows.mjs): the forced cells as the released guide's own fill.sh prints them over the translation a77be6ec8507176f… (all of the seat's roots in one cut). By AI agents, Wed Nov 11 2026. No macro, syntax, notation, axiom, sorry.
-/
import Derived.Test.YtfdkajefcplfjaaChecked
import GoSem.Claim
import GoSem.ClaimJoined
import GoSem.ClaimMapViews
import Derived.JoinedTies
import Derived.KernelRfl
namespace Go.Proofs.Ytfdkajefcplfjaa
/- THE CELL 'sum', in the pinned program and in every row, IS THE sha256 OF THE DUMP (.gsa) THAT YtfdkajefcplfjaaProg.lean LOADS. Nothing in Lean hashes anything: it is a label: what it is worth is what the hold of that sum in a sandbox is worth. -/
noncomputable def Try.pinned : Pinned := { name := "ytfdkajefcplfjaa", sum := "a77be6ec8507176fb8e132a3aecd607da4e9276f8ae2dfc4d6eda9a0a998db61", checked := Try.checked }
namespace Rows
def none {H : Type} : Left H := { results := [], args := [] }

/-- 'belvederelaw15.ShapeRefs': WHATEVER THE INPUT: true; the input reads as it did. -/
def shapeRefsSpec : ChangeSpec := { name := "shapeRefs", fn := fun _ => fun
  | [d] => { results := [.lit (.bool true)], args := [d] }
  | _ => none }
def shapeRefsRow : OpenClaim := { program := "ytfdkajefcplfjaa", sum := "a77be6ec8507176fb8e132a3aecd607da4e9276f8ae2dfc4d6eda9a0a998db61", func := "belvedere/belvederelaw15.ShapeRefs", spec := "shapeRefs", unfollowed := true, recurses := true, loops := true, apart := false }
def ShapeRefsSaid : Prop := shapeRefsRow.holds Try.pinned (OpenSpec.ofChange shapeRefsSpec)

/-- ITS FALSE NEIGHBOUR: 'it returns false'. Refute it at one input. -/
def shapeRefsWrong : ChangeSpec := { name := "shapeRefs", fn := fun _ => fun
  | [d] => { results := [.lit (.bool false)], args := [d] }
  | _ => none }
def ShapeRefsWrongFalsely : Prop := shapeRefsRow.holds Try.pinned (OpenSpec.ofChange shapeRefsWrong)

/-- 'belvederelaw15.ShapePlaces': WHATEVER THE INPUT: true; the input reads as it did. -/
def shapePlacesSpec : ChangeSpec := { name := "shapePlaces", fn := fun _ => fun
  | [d1, d2, d3] => { results := [.lit (.bool true)], args := [d1, d2, d3] }
  | _ => none }
def shapePlacesRow : OpenClaim := { program := "ytfdkajefcplfjaa", sum := "a77be6ec8507176fb8e132a3aecd607da4e9276f8ae2dfc4d6eda9a0a998db61", func := "belvedere/belvederelaw15.ShapePlaces", spec := "shapePlaces", unfollowed := true, recurses := true, loops := true, apart := false }
def ShapePlacesSaid : Prop := shapePlacesRow.holds Try.pinned (OpenSpec.ofChange shapePlacesSpec)

/-- ITS FALSE NEIGHBOUR: 'it returns false'. Refute it at one input. -/
def shapePlacesWrong : ChangeSpec := { name := "shapePlaces", fn := fun _ => fun
  | [d1, d2, d3] => { results := [.lit (.bool false)], args := [d1, d2, d3] }
  | _ => none }
def ShapePlacesWrongFalsely : Prop := shapePlacesRow.holds Try.pinned (OpenSpec.ofChange shapePlacesWrong)

/-- 'belvederelaw15.ShapeWords': WHATEVER THE INPUT: true; the input reads as it did. -/
def shapeWordsSpec : ChangeSpec := { name := "shapeWords", fn := fun _ => fun
  | [d] => { results := [.lit (.bool true)], args := [d] }
  | _ => none }
def shapeWordsRow : OpenClaim := { program := "ytfdkajefcplfjaa", sum := "a77be6ec8507176fb8e132a3aecd607da4e9276f8ae2dfc4d6eda9a0a998db61", func := "belvedere/belvederelaw15.ShapeWords", spec := "shapeWords", unfollowed := true, recurses := true, loops := true, apart := false }
def ShapeWordsSaid : Prop := shapeWordsRow.holds Try.pinned (OpenSpec.ofChange shapeWordsSpec)

/-- ITS FALSE NEIGHBOUR: 'it returns false'. Refute it at one input. -/
def shapeWordsWrong : ChangeSpec := { name := "shapeWords", fn := fun _ => fun
  | [d] => { results := [.lit (.bool false)], args := [d] }
  | _ => none }
def ShapeWordsWrongFalsely : Prop := shapeWordsRow.holds Try.pinned (OpenSpec.ofChange shapeWordsWrong)

/- THE SECOND FORM. 'bulk': how many values and letters a reading holds, each counted each time it is reached (what is shared counts as often as it is met; a slice's spare places count too). A statement '..UptoSaid' is the law's where the arguments, and the package variables that the reading takes, are together of bulk at most 1048576: NARROWER than '..Said'. Prove '..Said' where nothing that the law and all that it calls make is longer than what came in: it says more and counts as full. Else prove '..UptoSaid'. A law counts once. -/
mutual
def uptoBulk {H : Type} : DataW H → Nat
  | .lit (.string bytes) => bytes.length + 1
  | .lit _ => 1
  | .nil => 1
  | .ptr d => uptoBulk d + 1
  | .slice elems spare => uptoBulkAll elems + uptoBulkAll spare + 1
  | .agg parts => uptoBulkAll parts + 1
  | .iface _ d => uptoBulk d + 1
  | .map entries => uptoBulkEntries entries + 1
  | .held _ => 1
def uptoBulkAll {H : Type} : List (DataW H) → Nat
  | [] => 0
  | d :: r => uptoBulk d + uptoBulkAll r
def uptoBulkEntries {H : Type} : List (Lit × DataW H) → Nat
  | [] => 0
  | x :: r => uptoBulkEntry x + uptoBulkEntries r
def uptoBulkEntry {H : Type} : Lit × DataW H → Nat
  | (.string bytes, d) => bytes.length + uptoBulk d + 1
  | (_, d) => uptoBulk d + 1
 end
def uptoSmall : (H : Type) → List (DataW H) → Bool := fun _ ds => decide (uptoBulkAll ds ≤ 1048576)
def OpenSpec.upto (s : _root_.Go.ChangeSpec) : _root_.Go.OpenSpec := { _root_.Go.OpenSpec.ofChange s with cond := some uptoSmall }

/-- 'belvederelaw15.ShapeRefs', WHERE WHAT IT READS IS OF BULK AT MOST 1048576: true; the input reads as it did. -/
def shapeRefsUptoRow : OpenClaim := { program := "ytfdkajefcplfjaa", sum := "a77be6ec8507176fb8e132a3aecd607da4e9276f8ae2dfc4d6eda9a0a998db61", func := "belvedere/belvederelaw15.ShapeRefs", spec := "shapeRefs", unfollowed := true, recurses := true, loops := true, apart := false, narrowed := true }
def ShapeRefsUptoSaid : Prop := shapeRefsUptoRow.holds Try.pinned (OpenSpec.upto shapeRefsSpec)

/-- 'belvederelaw15.ShapePlaces', WHERE WHAT IT READS IS OF BULK AT MOST 1048576: true; the input reads as it did. -/
def shapePlacesUptoRow : OpenClaim := { program := "ytfdkajefcplfjaa", sum := "a77be6ec8507176fb8e132a3aecd607da4e9276f8ae2dfc4d6eda9a0a998db61", func := "belvedere/belvederelaw15.ShapePlaces", spec := "shapePlaces", unfollowed := true, recurses := true, loops := true, apart := false, narrowed := true }
def ShapePlacesUptoSaid : Prop := shapePlacesUptoRow.holds Try.pinned (OpenSpec.upto shapePlacesSpec)

/-- 'belvederelaw15.ShapeWords', WHERE WHAT IT READS IS OF BULK AT MOST 1048576: true; the input reads as it did. -/
def shapeWordsUptoRow : OpenClaim := { program := "ytfdkajefcplfjaa", sum := "a77be6ec8507176fb8e132a3aecd607da4e9276f8ae2dfc4d6eda9a0a998db61", func := "belvedere/belvederelaw15.ShapeWords", spec := "shapeWords", unfollowed := true, recurses := true, loops := true, apart := false, narrowed := true }
def ShapeWordsUptoSaid : Prop := shapeWordsUptoRow.holds Try.pinned (OpenSpec.upto shapeWordsSpec)

end Rows
end Go.Proofs.Ytfdkajefcplfjaa
