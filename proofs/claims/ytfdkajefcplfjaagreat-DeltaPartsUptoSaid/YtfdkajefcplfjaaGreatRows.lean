/-
  NARROWER THAN 'FOR EVERY INPUT', by the rows' own cells (each row's printed sentence says how): ExecLists: loops · ExecTurns: loops · ExecBags: loops · DeltaMeans: loops · DeltaNone: loops · DeltaParts: loops · DeltaUnion: loops.
  DERIVED. THE GIVEN ROWS OF THIS SEAT. 7 by the template 'for every input the law returns true; each argument reads behind the call as it read before'; 0 by the template 'total and deterministic' (their statements: YtfdkajefcplfjaaGreatTotals.lean).
  GIVEN WITH THE SEED: the statements are not yours to turn. If you find one false, say at which input.
  Laid BY PROGRAM, IN A SANDBOX (cutbox-rows.mjs): the forced cells as the released guide's own fill.sh prints them over the translation 69e94d8ee3dd8b3b… (all of the seat's roots in one cut). By AI agents, Wed Nov 11 2026. No macro, syntax, notation, axiom, sorry.
-/
import Derived.Test.YtfdkajefcplfjaaGreatChecked
import GoSem.Claim
import GoSem.ClaimJoined
import GoSem.ClaimMapViews
import Derived.JoinedTies
import Derived.KernelRfl
namespace Go.Proofs.YtfdkajefcplfjaaGreat
/- THE CELL 'sum', in the pinned program and in every row, IS THE sha256 OF THE DUMP (.gsa) THAT YtfdkajefcplfjaaGreatProg.lean LOADS. Nothing in Lean hashes anything: it is a label: what it is worth is what the hold of that sum in a sandbox is worth. -/
noncomputable def Tryz.pinned : Pinned := { name := "ytfdkajefcplfjaagreat", sum := "69e94d8ee3dd8b3b88e5dcdebb9435a991127c6c6af11bd099fe06de98c41ead", checked := Tryz.checked }
namespace Rows
def none {H : Type} : Left H := { results := [], args := [] }

/-- 'belvederelaw13.ExecLists': WHATEVER THE INPUT: true; the input reads as it did. -/
def execListsSpec : ChangeSpec := { name := "execLists", fn := fun _ => fun
  | [d1, d2, d3] => { results := [.lit (.bool true)], args := [d1, d2, d3] }
  | _ => none }
def execListsRow : OpenClaim := { program := "ytfdkajefcplfjaagreat", sum := "69e94d8ee3dd8b3b88e5dcdebb9435a991127c6c6af11bd099fe06de98c41ead", func := "belvedere/belvederelaw13.ExecLists", spec := "execLists", inPlace := ["internal/bytealg.abigen_runtime_cmpstring", "math/bits.Add64", "math/bits.Sub64"], unfollowed := true, recurses := true, loops := true, plainKeys := false, apart := false }
def ExecListsSaid : Prop := execListsRow.holds Tryz.pinned (OpenSpec.ofChange execListsSpec)

/-- ITS FALSE NEIGHBOUR: 'it returns false'. Refute it at one input. -/
def execListsWrong : ChangeSpec := { name := "execLists", fn := fun _ => fun
  | [d1, d2, d3] => { results := [.lit (.bool false)], args := [d1, d2, d3] }
  | _ => none }
def ExecListsWrongFalsely : Prop := execListsRow.holds Tryz.pinned (OpenSpec.ofChange execListsWrong)

/-- 'belvederelaw13.ExecTurns': WHATEVER THE INPUT: true; the input reads as it did. -/
def execTurnsSpec : ChangeSpec := { name := "execTurns", fn := fun _ => fun
  | [d1, d2] => { results := [.lit (.bool true)], args := [d1, d2] }
  | _ => none }
def execTurnsRow : OpenClaim := { program := "ytfdkajefcplfjaagreat", sum := "69e94d8ee3dd8b3b88e5dcdebb9435a991127c6c6af11bd099fe06de98c41ead", func := "belvedere/belvederelaw13.ExecTurns", spec := "execTurns", inPlace := ["internal/bytealg.abigen_runtime_cmpstring", "math/bits.Add64", "math/bits.Sub64"], unfollowed := true, recurses := true, loops := true, plainKeys := false, apart := false }
def ExecTurnsSaid : Prop := execTurnsRow.holds Tryz.pinned (OpenSpec.ofChange execTurnsSpec)

/-- ITS FALSE NEIGHBOUR: 'it returns false'. Refute it at one input. -/
def execTurnsWrong : ChangeSpec := { name := "execTurns", fn := fun _ => fun
  | [d1, d2] => { results := [.lit (.bool false)], args := [d1, d2] }
  | _ => none }
def ExecTurnsWrongFalsely : Prop := execTurnsRow.holds Tryz.pinned (OpenSpec.ofChange execTurnsWrong)

/-- 'belvederelaw13.ExecBags': WHATEVER THE INPUT: true; the input reads as it did. -/
def execBagsSpec : ChangeSpec := { name := "execBags", fn := fun _ => fun
  | [d1, d2] => { results := [.lit (.bool true)], args := [d1, d2] }
  | _ => none }
def execBagsRow : OpenClaim := { program := "ytfdkajefcplfjaagreat", sum := "69e94d8ee3dd8b3b88e5dcdebb9435a991127c6c6af11bd099fe06de98c41ead", func := "belvedere/belvederelaw13.ExecBags", spec := "execBags", inPlace := ["internal/bytealg.abigen_runtime_cmpstring", "math/bits.Add64", "math/bits.Sub64"], unfollowed := true, recurses := true, loops := true, plainKeys := false, apart := false }
def ExecBagsSaid : Prop := execBagsRow.holds Tryz.pinned (OpenSpec.ofChange execBagsSpec)

/-- ITS FALSE NEIGHBOUR: 'it returns false'. Refute it at one input. -/
def execBagsWrong : ChangeSpec := { name := "execBags", fn := fun _ => fun
  | [d1, d2] => { results := [.lit (.bool false)], args := [d1, d2] }
  | _ => none }
def ExecBagsWrongFalsely : Prop := execBagsRow.holds Tryz.pinned (OpenSpec.ofChange execBagsWrong)

/-- 'belvederelaw14.DeltaMeans': WHATEVER THE INPUT: true; the input reads as it did. -/
def deltaMeansSpec : ChangeSpec := { name := "deltaMeans", fn := fun _ => fun
  | [d1, d2, d3] => { results := [.lit (.bool true)], args := [d1, d2, d3] }
  | _ => none }
def deltaMeansRow : OpenClaim := { program := "ytfdkajefcplfjaagreat", sum := "69e94d8ee3dd8b3b88e5dcdebb9435a991127c6c6af11bd099fe06de98c41ead", func := "belvedere/belvederelaw14.DeltaMeans", spec := "deltaMeans", inPlace := ["internal/bytealg.abigen_runtime_cmpstring", "math/bits.Add64", "math/bits.Sub64"], unfollowed := true, recurses := true, loops := true, plainKeys := false, apart := false }
def DeltaMeansSaid : Prop := deltaMeansRow.holds Tryz.pinned (OpenSpec.ofChange deltaMeansSpec)

/-- ITS FALSE NEIGHBOUR: 'it returns false'. Refute it at one input. -/
def deltaMeansWrong : ChangeSpec := { name := "deltaMeans", fn := fun _ => fun
  | [d1, d2, d3] => { results := [.lit (.bool false)], args := [d1, d2, d3] }
  | _ => none }
def DeltaMeansWrongFalsely : Prop := deltaMeansRow.holds Tryz.pinned (OpenSpec.ofChange deltaMeansWrong)

/-- 'belvederelaw14.DeltaNone': WHATEVER THE INPUT: true; the input reads as it did. -/
def deltaNoneSpec : ChangeSpec := { name := "deltaNone", fn := fun _ => fun
  | [d1, d2, d3] => { results := [.lit (.bool true)], args := [d1, d2, d3] }
  | _ => none }
def deltaNoneRow : OpenClaim := { program := "ytfdkajefcplfjaagreat", sum := "69e94d8ee3dd8b3b88e5dcdebb9435a991127c6c6af11bd099fe06de98c41ead", func := "belvedere/belvederelaw14.DeltaNone", spec := "deltaNone", inPlace := ["internal/bytealg.abigen_runtime_cmpstring", "math/bits.Add64", "math/bits.Sub64"], unfollowed := true, recurses := true, loops := true, plainKeys := false, apart := false }
def DeltaNoneSaid : Prop := deltaNoneRow.holds Tryz.pinned (OpenSpec.ofChange deltaNoneSpec)

/-- ITS FALSE NEIGHBOUR: 'it returns false'. Refute it at one input. -/
def deltaNoneWrong : ChangeSpec := { name := "deltaNone", fn := fun _ => fun
  | [d1, d2, d3] => { results := [.lit (.bool false)], args := [d1, d2, d3] }
  | _ => none }
def DeltaNoneWrongFalsely : Prop := deltaNoneRow.holds Tryz.pinned (OpenSpec.ofChange deltaNoneWrong)

/-- 'belvederelaw14.DeltaParts': WHATEVER THE INPUT: true; the input reads as it did. -/
def deltaPartsSpec : ChangeSpec := { name := "deltaParts", fn := fun _ => fun
  | [d1, d2, d3] => { results := [.lit (.bool true)], args := [d1, d2, d3] }
  | _ => none }
def deltaPartsRow : OpenClaim := { program := "ytfdkajefcplfjaagreat", sum := "69e94d8ee3dd8b3b88e5dcdebb9435a991127c6c6af11bd099fe06de98c41ead", func := "belvedere/belvederelaw14.DeltaParts", spec := "deltaParts", inPlace := ["internal/bytealg.abigen_runtime_cmpstring", "math/bits.Add64", "math/bits.Sub64"], unfollowed := true, recurses := true, loops := true, plainKeys := false, apart := false }
def DeltaPartsSaid : Prop := deltaPartsRow.holds Tryz.pinned (OpenSpec.ofChange deltaPartsSpec)

/-- ITS FALSE NEIGHBOUR: 'it returns false'. Refute it at one input. -/
def deltaPartsWrong : ChangeSpec := { name := "deltaParts", fn := fun _ => fun
  | [d1, d2, d3] => { results := [.lit (.bool false)], args := [d1, d2, d3] }
  | _ => none }
def DeltaPartsWrongFalsely : Prop := deltaPartsRow.holds Tryz.pinned (OpenSpec.ofChange deltaPartsWrong)

/-- 'belvederelaw14.DeltaUnion': WHATEVER THE INPUT: true; the input reads as it did. -/
def deltaUnionSpec : ChangeSpec := { name := "deltaUnion", fn := fun _ => fun
  | [d1, d2, d3] => { results := [.lit (.bool true)], args := [d1, d2, d3] }
  | _ => none }
def deltaUnionRow : OpenClaim := { program := "ytfdkajefcplfjaagreat", sum := "69e94d8ee3dd8b3b88e5dcdebb9435a991127c6c6af11bd099fe06de98c41ead", func := "belvedere/belvederelaw14.DeltaUnion", spec := "deltaUnion", inPlace := ["internal/bytealg.abigen_runtime_cmpstring", "math/bits.Add64", "math/bits.Sub64"], unfollowed := true, recurses := true, loops := true, plainKeys := false, apart := false }
def DeltaUnionSaid : Prop := deltaUnionRow.holds Tryz.pinned (OpenSpec.ofChange deltaUnionSpec)

/-- ITS FALSE NEIGHBOUR: 'it returns false'. Refute it at one input. -/
def deltaUnionWrong : ChangeSpec := { name := "deltaUnion", fn := fun _ => fun
  | [d1, d2, d3] => { results := [.lit (.bool false)], args := [d1, d2, d3] }
  | _ => none }
def DeltaUnionWrongFalsely : Prop := deltaUnionRow.holds Tryz.pinned (OpenSpec.ofChange deltaUnionWrong)

/- THE SECOND FORM. 'bulk': how many values and letters a reading holds, each counted each time it is reached (what is shared counts as often as it is met; a slice's spare places count too). A statement '..UptoSaid' is the law's where the arguments, and the package variables that the reading takes, are together of bulk at most 1048576: NARROWER than '..Said'. Prove '..Said' where nothing that the law and all that it calls make is longer than what came in: it says more and counts as full. Else prove '..UptoSaid'. A law counts once. -/
mutual
def uptoBulk {H : Type} : DataW H → Nat
  | .lit (.string bytes) => bytes.length + 1
  | .lit _ => 1
  | .nil => 1
  | .ptr d => uptoBulk d + 1
  | .slice elems spare => uptoBulkAll elems + uptoBulkAll spare + 1
  | .agg parts => uptoBulkAll parts + 1
  | .iface _ d => uptoBulk d + 1
  | .map entries => uptoBulkEntries entries + 1
  | .held _ => 1
def uptoBulkAll {H : Type} : List (DataW H) → Nat
  | [] => 0
  | d :: r => uptoBulk d + uptoBulkAll r
def uptoBulkEntries {H : Type} : List (Lit × DataW H) → Nat
  | [] => 0
  | x :: r => uptoBulkEntry x + uptoBulkEntries r
def uptoBulkEntry {H : Type} : Lit × DataW H → Nat
  | (.string bytes, d) => bytes.length + uptoBulk d + 1
  | (_, d) => uptoBulk d + 1
 end
def uptoSmall : (H : Type) → List (DataW H) → Bool := fun _ ds => decide (uptoBulkAll ds ≤ 1048576)
def OpenSpec.upto (s : _root_.Go.ChangeSpec) : _root_.Go.OpenSpec := { _root_.Go.OpenSpec.ofChange s with cond := some uptoSmall }

/-- 'belvederelaw13.ExecLists', WHERE WHAT IT READS IS OF BULK AT MOST 1048576: true; the input reads as it did. -/
def execListsUptoRow : OpenClaim := { program := "ytfdkajefcplfjaagreat", sum := "69e94d8ee3dd8b3b88e5dcdebb9435a991127c6c6af11bd099fe06de98c41ead", func := "belvedere/belvederelaw13.ExecLists", spec := "execLists", inPlace := ["internal/bytealg.abigen_runtime_cmpstring", "math/bits.Add64", "math/bits.Sub64"], unfollowed := true, recurses := true, loops := true, plainKeys := false, apart := false, narrowed := true }
def ExecListsUptoSaid : Prop := execListsUptoRow.holds Tryz.pinned (OpenSpec.upto execListsSpec)

/-- 'belvederelaw13.ExecTurns', WHERE WHAT IT READS IS OF BULK AT MOST 1048576: true; the input reads as it did. -/
def execTurnsUptoRow : OpenClaim := { program := "ytfdkajefcplfjaagreat", sum := "69e94d8ee3dd8b3b88e5dcdebb9435a991127c6c6af11bd099fe06de98c41ead", func := "belvedere/belvederelaw13.ExecTurns", spec := "execTurns", inPlace := ["internal/bytealg.abigen_runtime_cmpstring", "math/bits.Add64", "math/bits.Sub64"], unfollowed := true, recurses := true, loops := true, plainKeys := false, apart := false, narrowed := true }
def ExecTurnsUptoSaid : Prop := execTurnsUptoRow.holds Tryz.pinned (OpenSpec.upto execTurnsSpec)

/-- 'belvederelaw13.ExecBags', WHERE WHAT IT READS IS OF BULK AT MOST 1048576: true; the input reads as it did. -/
def execBagsUptoRow : OpenClaim := { program := "ytfdkajefcplfjaagreat", sum := "69e94d8ee3dd8b3b88e5dcdebb9435a991127c6c6af11bd099fe06de98c41ead", func := "belvedere/belvederelaw13.ExecBags", spec := "execBags", inPlace := ["internal/bytealg.abigen_runtime_cmpstring", "math/bits.Add64", "math/bits.Sub64"], unfollowed := true, recurses := true, loops := true, plainKeys := false, apart := false, narrowed := true }
def ExecBagsUptoSaid : Prop := execBagsUptoRow.holds Tryz.pinned (OpenSpec.upto execBagsSpec)

/-- 'belvederelaw14.DeltaMeans', WHERE WHAT IT READS IS OF BULK AT MOST 1048576: true; the input reads as it did. -/
def deltaMeansUptoRow : OpenClaim := { program := "ytfdkajefcplfjaagreat", sum := "69e94d8ee3dd8b3b88e5dcdebb9435a991127c6c6af11bd099fe06de98c41ead", func := "belvedere/belvederelaw14.DeltaMeans", spec := "deltaMeans", inPlace := ["internal/bytealg.abigen_runtime_cmpstring", "math/bits.Add64", "math/bits.Sub64"], unfollowed := true, recurses := true, loops := true, plainKeys := false, apart := false, narrowed := true }
def DeltaMeansUptoSaid : Prop := deltaMeansUptoRow.holds Tryz.pinned (OpenSpec.upto deltaMeansSpec)

/-- 'belvederelaw14.DeltaNone', WHERE WHAT IT READS IS OF BULK AT MOST 1048576: true; the input reads as it did. -/
def deltaNoneUptoRow : OpenClaim := { program := "ytfdkajefcplfjaagreat", sum := "69e94d8ee3dd8b3b88e5dcdebb9435a991127c6c6af11bd099fe06de98c41ead", func := "belvedere/belvederelaw14.DeltaNone", spec := "deltaNone", inPlace := ["internal/bytealg.abigen_runtime_cmpstring", "math/bits.Add64", "math/bits.Sub64"], unfollowed := true, recurses := true, loops := true, plainKeys := false, apart := false, narrowed := true }
def DeltaNoneUptoSaid : Prop := deltaNoneUptoRow.holds Tryz.pinned (OpenSpec.upto deltaNoneSpec)

/-- 'belvederelaw14.DeltaParts', WHERE WHAT IT READS IS OF BULK AT MOST 1048576: true; the input reads as it did. -/
def deltaPartsUptoRow : OpenClaim := { program := "ytfdkajefcplfjaagreat", sum := "69e94d8ee3dd8b3b88e5dcdebb9435a991127c6c6af11bd099fe06de98c41ead", func := "belvedere/belvederelaw14.DeltaParts", spec := "deltaParts", inPlace := ["internal/bytealg.abigen_runtime_cmpstring", "math/bits.Add64", "math/bits.Sub64"], unfollowed := true, recurses := true, loops := true, plainKeys := false, apart := false, narrowed := true }
def DeltaPartsUptoSaid : Prop := deltaPartsUptoRow.holds Tryz.pinned (OpenSpec.upto deltaPartsSpec)

/-- 'belvederelaw14.DeltaUnion', WHERE WHAT IT READS IS OF BULK AT MOST 1048576: true; the input reads as it did. -/
def deltaUnionUptoRow : OpenClaim := { program := "ytfdkajefcplfjaagreat", sum := "69e94d8ee3dd8b3b88e5dcdebb9435a991127c6c6af11bd099fe06de98c41ead", func := "belvedere/belvederelaw14.DeltaUnion", spec := "deltaUnion", inPlace := ["internal/bytealg.abigen_runtime_cmpstring", "math/bits.Add64", "math/bits.Sub64"], unfollowed := true, recurses := true, loops := true, plainKeys := false, apart := false, narrowed := true }
def DeltaUnionUptoSaid : Prop := deltaUnionUptoRow.holds Tryz.pinned (OpenSpec.upto deltaUnionSpec)

end Rows
end Go.Proofs.YtfdkajefcplfjaaGreat
