/- Several of my texts laid together, each as it was: Xb, Xm, Xc, Xd, PT. Conditions: each names its own. -/
import Derived.Test.YtadidikegfiedaaB2
import Derived.Test.YtadidikegfiedaaB3
import Derived.Test.YtadidikegfiedaaB1
import Derived.Maps.Views
import Derived.StringKeys
import Derived.Lib.MinMax
import Derived.Carry
import Derived.MapKept
import Derived.Test.YtadidikegfiedaaShelf
/- What a plan costs and whether it may be, plainly. Nothing of any program here. Conditions: each lemma names its own. -/
namespace Go.Proofs.Ytadidikegfiedaa
open Go.RowKit

def timesM (a b : Int) : Int := min (a * b) maxMany
theorem timesM_in {a b : Int} (ha : 0 ≤ a) (hb : 0 ≤ b) : 0 ≤ timesM a b ∧ timesM a b ≤ maxMany := by
  have := Int.mul_nonneg ha hb
  unfold timesM maxMany
  omega
def sizeN (l : List Nx) (s : List UInt8) : Int := match findN l s with
  | some x => sizeB (x.E.map pr)
  | none => 0
theorem sizeN_in (l : List Nx) (s : List UInt8) : 0 ≤ sizeN l s ∧ sizeN l s ≤ maxMany := by
  unfold sizeN
  split
  · exact size_in _
  · unfold maxMany; omega
def costF (l : List Nx) (fs : List ByteArray) : Int := fs.foldl (fun n s => timesM n (sizeN l s.data.toList)) 1
theorem costF_snoc (l : List Nx) (fs : List ByteArray) (s : ByteArray) : costF l (fs ++ [s]) = timesM (costF l fs) (sizeN l s.data.toList) := by unfold costF; rw [List.foldl_append]; rfl
theorem costF_in' (l : List Nx) : ∀ (fs : List ByteArray) (n : Int), 0 ≤ n ∧ n ≤ maxMany → 0 ≤ fs.foldl (fun n s => timesM n (sizeN l s.data.toList)) n ∧ fs.foldl (fun n s => timesM n (sizeN l s.data.toList)) n ≤ maxMany
  | [], _, h => h
  | _ :: fs, _, h => costF_in' l fs _ (timesM_in h.1 (sizeN_in l _).1)
theorem costF_in (l : List Nx) (fs : List ByteArray) : 0 ≤ costF l fs ∧ costF l fs ≤ maxMany := costF_in' l fs 1 (by unfold maxMany; omega)
def costP (l : List Nx) (ps : List Px) : Int := ps.foldl (fun n p => addMany n (costF l p.fs)) 0
theorem costP_snoc (l : List Nx) (ps : List Px) (p : Px) : costP l (ps ++ [p]) = addMany (costP l ps) (costF l p.fs) := by unfold costP; rw [List.foldl_append]; rfl
theorem costP_in' (l : List Nx) : ∀ (ps : List Px) (n : Int), 0 ≤ n ∧ n ≤ maxMany → 0 ≤ ps.foldl (fun n p => addMany n (costF l p.fs)) n ∧ ps.foldl (fun n p => addMany n (costF l p.fs)) n ≤ maxMany
  | [], _, h => h
  | _ :: ps, _, h => costP_in' l ps _ (addMany_in h (costF_in l _).1)
theorem costP_in (l : List Nx) (ps : List Px) : 0 ≤ costP l ps ∧ costP l ps ≤ maxMany := costP_in' l ps 0 (by unfold maxMany; omega)

/-! ### Whether a plan may be -/
def inN (x a b : Int) : Bool := decide (a ≤ x) && decide (x ≤ b)
def insideB (l : List Int) (w : Int) : Bool := l.all (fun x => inN x 0 (w - 1))
def groupedB (p : Px) : Bool := decide (0 < p.gs.length) || p.os.any (fun o => o.g != 0)
def sumW (l : List Int) : Int := l.foldl (· + ·) 0
def acrossB (p : Px) : Bool := inN p.fs.length 1 3 && decide (p.ws.length = p.fs.length) && p.ws.all (fun x => inN x 1 8)
def Cx.kind : Cx → Int
  | .mk k _ _ _ _ _ => k
def Cx.at : Cx → Int
  | .mk _ a _ _ _ _ => a
def listsB (p : Px) (w : Int) : Bool := inN p.os.length 1 8 && decide (p.gs.length ≤ 4) && insideB p.gs w && insideB (rise (asT p.wh)) w && p.os.all (fun o => inN o.g 0 6 && insideB (rise (rdC o.e)) w)
def settledB (p : Px) : Bool := p.os.all (fun o => o.g != 0 || (decide (o.e.kind = 1) && p.gs.contains o.e.at))
def partB (p : Px) : Bool := acrossB p && listsB p (sumW p.ws) && (!groupedB p || settledB p)
def planB (ps : List Px) : Bool := inN ps.length 1 4 && ps.all (fun p => partB p && decide (p.os.length = (ps.head?.map (fun q => q.os.length)).getD 0))
/-! ### Whether it is ready -/
def okN (x : Pair) : Bool := decide (0 < x.2) && decide (x.2 ≤ maxMany)
def risesC : List Pair → Bool
  | x :: y :: L => decide (rowsV x.1 y.1 < 0) && risesC (y :: L)
  | _ => true
def plainB (L : List Pair) : Bool := L.all okN && risesC L
def fitsM (l : List Nx) (s : List UInt8) (w : Int) : Int := match findN l s with
  | none => 5
  | some x => if plainB (x.E.map pr) = true ∧ x.E.all (fun e => decide ((e.r.length : Int) = w)) = true then 0 else 1
def readyF (l : List Nx) : List ByteArray → List Int → Int
  | s :: fs, w :: ws => if fitsM l s.data.toList w = 0 then readyF l fs ws else fitsM l s.data.toList w
  | _, _ => 0
def readyL (l : List Nx) : List Px → Int
  | [] => 0
  | p :: ps => if readyF l p.fs p.ws = 0 then readyL l ps else readyF l p.fs p.ws
def readyM (l : List Nx) (ps : List Px) : Int := if planB ps = true then readyL l ps else 1
end Go.Proofs.Ytadidikegfiedaa

/- A map from texts that a call has made: its entries as a plain function; what a look-up tells, what a store makes of it. Nothing of any program here. Conditions: each lemma names its own. -/
namespace Go.Proofs.Ytadidikegfiedaa
open Go.RowKit

/-- A value is kept as itself. -/
def heldR (v : Value) : Option (DataW Value × List MemPlace) := some (.held v, [])
def entryD (o : Option Value) (z : DataW Value) : DataW Value := match o with
  | some v => .held v
  | none => z
/-- Block b is a map of at most n entries; what stands at a text is f's answer. -/
structure MapS (P : Program) (k : TypeId) (w : World) (b n : Nat) (f : List UInt8 → Option Value) : Prop where
  out : ∃ D : DataW Value, w.ownsMap P k heldR b n D ∧ Maps.IsMap D ∧ ∀ s z, D.atKey (.string s) z = entryD (f s) z
theorem MapS.made (P : Program) (k : TypeId) (w : World) : MapS P k (w.alloc (.map #[] 0)) w.heap.size 0 (fun _ => none) :=
  ⟨.map [], World.ownsMap_made w P k heldR, Maps.isMap_empty, fun _ _ => rfl⟩
theorem MapS.later {P : Program} {k : TypeId} {w w' : World} {b n : Nat} {f : List UInt8 → Option Value} (h : MapS P k w b n f) (hb : Below w.heap.size w w') : MapS P k w' b n f := by
  obtain ⟨D, h1, h2, h3⟩ := h.out
  exact ⟨D, h1.kept (row := none) ⟨hb.os, hb.tape, hb.output, hb.size, fun i hi _ => hb.block i hi⟩ (by simp), h2, h3⟩
theorem MapS.lt {P : Program} {k : TypeId} {w : World} {b n : Nat} {f : List UInt8 → Option Value} (h : MapS P k w b n f) : b < w.heap.size := by
  obtain ⟨D, h1, _⟩ := h.out
  exact h1.lt
theorem MapS.look {P : Program} {k t e : TypeId} {w : World} {b n : Nat} {f : List UInt8 → Option Value} {z : Value} (c : Bool) (h : MapS P k w b n f) (hk : P.underlying k = some .string) (ht : P.underlying t = some (.map k e)) (hz : (zeroValue e).run P w = .ok z w) {s : ByteArray} (hs : s.size ≤ maxLen) :
    (Instr.lookup t (.map (some b)) (.string s) c).run P w = .ok (if c then .tuple #[(f s.data.toList).getD z, .bool (f s.data.toList).isSome] else (f s.data.toList).getD z) w := by
  obtain ⟨D, ⟨es, clock, hb, F, _, rfl⟩, _, hat⟩ := h.out
  rcases Maps.fit_look c (Maps.string_keyed hk) ht hz hb F (Go.WideMaps.keyOf_string_mk hk hs) with ⟨hrun, _, hz'⟩ | ⟨e0, y, _, _, hrun, hR, hy, _⟩
  · have hn : f s.data.toList = none := by
      cases hf : f s.data.toList with
      | none => rfl
      | some v =>
        have h1 := hat s.data.toList .nil
        rw [hz', hf] at h1
        cases h1
    rw [hrun, hn]
    cases c <;> rfl
  · cases hR
    have h1 := hat s.data.toList .nil
    rw [hy] at h1
    have hn : f s.data.toList = some e0.val := by
      cases hf : f s.data.toList with
      | none => rw [hf] at h1; cases h1
      | some v => rw [hf] at h1; cases h1; rfl
    rw [hrun, hn]
    cases c <;> rfl
theorem MapS.put {P : Program} {k t e : TypeId} {w : World} {b n : Nat} {f : List UInt8 → Option Value} (h : MapS P k w b n f) (hk : P.underlying k = some .string) (ht : P.underlying t = some (.map k e)) (hn : n < maxLen) {s : ByteArray} (hs : s.size ≤ maxLen) (v : Value) :
    ∃ w', (Instr.mapUpdate t (.map (some b)) (.string s) v).run P w = .ok () w' ∧ MapS P k w' b (n + 1) (fun x => if x = s.data.toList then some v else f x) ∧ w.grownBy w' (some b) := by
  obtain ⟨D, h1, h2, h3⟩ := h.out
  obtain ⟨w', hrun, hown, hg⟩ := h1.update (Maps.string_keyed hk) ht hn (Go.WideMaps.keyOf_string_mk hk hs) (val := v) (d := .held v) (ps := []) rfl
  refine ⟨w', hrun, ⟨_, hown, h2.put _ _, fun x z => ?_⟩, hg⟩
  by_cases hx : x = s.data.toList
  · subst hx
    rw [Maps.atKey_put_same h2 (show WideAt.IsKeyLit (.string s.data.toList) from trivial), if_pos rfl]; rfl
  · rw [Maps.atKey_put_other (fun e => hx (by cases e; rfl)), if_neg hx]
    exact h3 x z
end Go.Proofs.Ytadidikegfiedaa

/- The project's size, and what is there by names: contracts of the calls, in whatever memory. Conditions: the rows' and the names' cells are known (what came in reads so). -/
namespace Go.Proofs.Ytadidikegfiedaa
open Go.RowKit

theorem size_step {E : List Elem} {i : Nat} (h : i < E.length) : sizeB ((E.map pr).take (i + 1)) = addMany (sizeB ((E.map pr).take i)) (max E[i].n 0) := by
  rw [List.take_succ_eq_append_getElem (by simpa using h), size_snoc]
  simp [pr]
theorem run_makeMapI {P : Program} {t k e : TypeId} (h : P.underlying t = some (.map k e)) (kd : IntKind) (n : Int) (w : World) : (Instr.makeMap t (some (.int kd n))).run P w = .ok (.map (some w.heap.size)) (w.alloc (.map #[] 0)) := by
  simp [Instr.makeMap, run_underlying h, asInt, asIntOf, Result.andThen]
/-- The names that are there, in a map. -/
structure ThereAt (w : World) (b : Nat) (l : List Nx) : Prop where
  out : ∃ n, MapS Try.prog 9 w b n (fun s => (findN l s).map Nx.val) ∧ n ≤ l.length
theorem ThereAt.later {w w' : World} {b : Nat} {l : List Nx} (h : ThereAt w b l) (hb : Below w.heap.size w w') : ThereAt w' b l := by
  obtain ⟨n, h1, h2⟩ := h.out
  exact ⟨n, h1.later hb, h2⟩
theorem ThereAt.lt {w : World} {b : Nat} {l : List Nx} (h : ThereAt w b l) : b < w.heap.size := by
  obtain ⟨n, h1, h2⟩ := h.out
  exact h1.lt
def srcOf (l : List Nx) (s : List UInt8) : Value := match findN l s with
  | some x => x.val
  | none => noSrc
theorem find_met {l : List Nx} {x y : Nx} (h : findN l x.s.data.toList = some y) : (fun s => (findN (l ++ [x]) s).map Nx.val) = fun s => (findN l s).map Nx.val := by
  funext s
  rw [findN_snoc]
  cases hs : findN l s with
  | some z => rfl
  | none =>
    have : x.s.data.toList ≠ s := fun e => by rw [e, hs] at h; cases h
    simp [this]
theorem find_new {l : List Nx} {x : Nx} (h : findN l x.s.data.toList = none) : (fun s => (findN (l ++ [x]) s).map Nx.val) = fun s => if s = x.s.data.toList then some x.val else (findN l s).map Nx.val := by
  funext s
  rw [findN_snoc]
  by_cases e : s = x.s.data.toList
  · subst e; rw [h]; simp
  · rw [if_neg e]
    cases hs : findN l s with
    | some z => rfl
    | none => simp [Ne.symm e]

structure SThere (w0 : World) (vb m : Nat) (x : Nx) (w : World) : Prop where
  v : VarB w vb [.string x.s, .slice x.a x.E.length x.c]
  e : ElemsI w0 x.a x.c x.E
  b : Below w0.heap.size w0 w
  ge : w0.heap.size ≤ m ∧ vb ≠ m
theorem SThere.below {w0 : World} {vb m : Nat} {x : Nx} {w w' : World} (h : SThere w0 vb m x w) (hb : Below w.heap.size w w') : SThere w0 vb m x w' :=
  ⟨h.v.below hb, h.e, below_through hb h.b.size h.b, h.ge⟩
theorem SThere.grown {w0 : World} {vb m : Nat} {x : Nx} {w w' : World} (h : SThere w0 vb m x w) (hg : w.grownBy w' (some m)) : SThere w0 vb m x w' :=
  ⟨h.v.keep (hg.block _ h.v.lt (fun e => h.ge.2 (by cases e; rfl))) hg.size, h.e, h.b.grown hg h.b.size (fun k hk => by cases hk; exact h.ge.1), h.ge⟩
end Go.Proofs.Ytadidikegfiedaa

/- What a plan costs: contracts of the calls, in whatever memory. Conditions: the parts' and the names' cells are known (what came in reads so). -/
namespace Go.Proofs.Ytadidikegfiedaa
open Go.RowKit

def Px.val (p : Px) : Value := .agg p.cells.toArray
theorem srcOf_is (l : List Nx) (s : List UInt8) : ∃ a m c, srcOf l s = .agg #[.slice a m c, .int .i64 (sizeN l s)] := by
  unfold srcOf sizeN
  cases findN l s with
  | none => exact ⟨_, _, _, rfl⟩
  | some x => exact ⟨_, _, _, rfl⟩
end Go.Proofs.Ytadidikegfiedaa

/- A part, and rows, that came in, opened: where they lie. Nothing of any program here but the types. Conditions: they hold at most 1048576 values and letters. -/
namespace Go.Proofs.Ytadidikegfiedaa
open Go.ChangeShapes Go.WideShapes Go.ChangeAt Go.RowKit Go.Joins Go.Deep

section
variable {H : Type} {enc : TypeId × Value → H} {w : World} {base : Nat} {sp : Nat → Bool} {held : Bool}
set_option maxRecDepth 1000000 in
theorem open_manyT {r : Reach} {b0 : Nat} {v : Value} {d : DataW H} {p : List MemPlace} (hv : Value.okWide Try.prog w r b0 25 v) (h : DataW.Trod enc Try.prog w base sp held 25 v d p) (hw : ∀ n ∈ d.weights Try.prog 25, n ≤ reachBytes) (hb : Rows.uptoBulk d ≤ 1048576) :
    ∃ (a : Option Addr) (E : List Elem) (c : Nat), v = .slice a E.length c ∧ ElemsI w a c E := by
  obtain ⟨a0, len, cap, rfl⟩ := okWide_slice Try.underlying25 hv
  obtain ⟨fuel, hf⟩ := h
  obtain ⟨a, E, c, hcs, hE⟩ := open_elems (x := (d, p)) hb hf hw
  simp [Value.cells] at hcs
  obtain ⟨rfl, rfl, rfl⟩ := hcs
  exact ⟨a0, E, cap, rfl, hE⟩
end
end Go.Proofs.Ytadidikegfiedaa
