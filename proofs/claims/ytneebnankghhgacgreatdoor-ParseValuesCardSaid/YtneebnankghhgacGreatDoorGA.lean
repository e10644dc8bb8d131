/- Several of my texts laid together, each as it was: Ga, Gb, Gc, Gd, Ge, Gf, Gg, Gh, Gi. Conditions: each names its own. -/
import Derived.Test.YtneebnankghhgacGreatDoorPB
import Derived.Maps.AppendAt
import Derived.Deep.MidRow
import Derived.IntWalk
import Derived.Deep.RegionHeld3
/- A command's words as a statement, plainly: what is read, and the first fault, rule by rule. Nothing of any program here: definitions and lemmas on lists. Conditions: each lemma names its own. -/
namespace Go.Proofs.YtneebnankghhgacGreatDoor
open Go.RowKit

/-- What stands in a struct, one after the other: something plain, or a row of n of them, all laid end to end. -/
inductive Lf where
  | v (x : Value)
  | s (n : Nat) (ls : List Lf)
/-- How far was read, and the first fault. -/
structure PS where
  i : Nat
  e : Nat
def wdP (l : List Wd) (σ : PS) : Wd := l.getD σ.i noW
def faultP (l : List Wd) (c : Nat) (σ : PS) : PS := ⟨l.length - 1, if σ.e = 0 then c else σ.e⟩
def isW (x : Wd) (s : List UInt8) : Bool := (decide (x.k = 1) || decide (x.k = 4)) && x.s == s
def isP (l : List Wd) (s : List UInt8) (σ : PS) : Bool := isW (wdP l σ) s
def takeP (l : List Wd) (s : List UInt8) (σ : PS) : Bool × PS := if isP l s σ then (true, ⟨σ.i + 1, σ.e⟩) else (false, σ)
def need1 (l : List Wd) (s : List UInt8) (σ : PS) : PS := if isP l s σ then ⟨σ.i + 1, σ.e⟩ else faultP l 4 σ
def needP (l : List Wd) (ss : List (List UInt8)) (σ : PS) : PS := ss.foldl (fun σ s => need1 l s σ) σ
def endP (l : List Wd) (σ : PS) : PS := if (wdP l σ).k = 5 then σ else faultP l 4 σ
def nameP (l : List Wd) (σ : PS) : List UInt8 × PS := if (wdP l σ).k = 1 ∧ nameB (wdP l σ).s = true then ((wdP l σ).s, ⟨σ.i + 1, σ.e⟩) else ([], faultP l 4 σ)
def deepP (l : List Wd) (m : Int) (d : Nat) (σ : PS) : PS := if m ≤ (d : Int) then faultP l 19 σ else σ
def withinP (l : List Wd) (n most : Nat) (σ : PS) : PS := if most < n then faultP l 3 σ else σ
/-- What stands behind words sep, as long as they come. -/
def moreP {α : Type} (l : List Wd) (sep : List UInt8) (one : PS → α × PS) : Nat → List α → PS → List α × PS
  | 0, acc, σ => (acc, σ)
  | k + 1, acc, σ => if isP l sep σ then moreP l sep one k (acc ++ [(one ⟨σ.i + 1, σ.e⟩).1]) (one ⟨σ.i + 1, σ.e⟩).2 else (acc, σ)
def listP {α : Type} (l : List Wd) (one : PS → α × PS) (σ : PS) : List α × PS := moreP l [44] one l.length [(one σ).1] (one σ).2
def iL (n : Nat) : Lf := .v (.int .i64 (n : Int))
def sL (s : List UInt8) : Lf := .v (.string (txt s))
def nL : Lf := .s 0 []
/-- A row of structs. -/
def rL (ls : List (List Lf)) : Lf := .s ls.length ls.flatten
def zV : List Lf := [iL 0, iL 0, sL []]
def exL (k : Nat) (t n : List UInt8) (v : List Lf) (args : Lf) : List Lf := iL k :: sL t :: sL n :: (v ++ [args])
def zE : List Lf := exL 0 [] [] zV nL
def coL (k op : Nat) (a b : List Lf) (args : Lf) : List Lf := iL k :: iL op :: (a ++ b ++ [args])
def zC : List Lf := coL 0 0 zE zE nL

/-! ### Values, columns, expressions -/
def valuedP (l : List Wd) (σ : PS) : Bool := decide ((wdP l σ).k = 2) || decide ((wdP l σ).k = 3) || isP l [110, 117, 108, 108] σ || isP l [116, 114, 117, 101] σ || isP l [102, 97, 108, 115, 101] σ || (isP l [45] σ && decide ((wdP l ⟨σ.i + 1, σ.e⟩).k = 2))
def textP (l : List Wd) (σ : PS) : List Lf × PS := if 64 < (wdP l σ).s.length then (zV, faultP l 3 σ) else ([iL 3, iL 0, sL (wdP l σ).s], ⟨σ.i + 1, σ.e⟩)
def numP (l : List Wd) (minus : Bool) (σ : PS) : List Lf × PS := if (wdP l σ).k ≠ 2 ∨ ((wdP l σ).n = 9223372036854775808 ∧ minus = false) then (zV, faultP l 4 σ) else ([iL 1, .v (.int .i64 (if minus then -((wdP l σ).n : Int) else ((wdP l σ).n : Int))), sL []], ⟨σ.i + 1, σ.e⟩)
def numberP (l : List Wd) (σ : PS) : List Lf × PS := numP l (takeP l [45] σ).1 (takeP l [45] σ).2
def valueP (l : List Wd) (σ : PS) : List Lf × PS :=
  if isP l [110, 117, 108, 108] σ then (zV, ⟨σ.i + 1, σ.e⟩) else if isP l [116, 114, 117, 101] σ then ([iL 2, iL 1, sL []], ⟨σ.i + 1, σ.e⟩) else if isP l [102, 97, 108, 115, 101] σ then ([iL 2, iL 0, sL []], ⟨σ.i + 1, σ.e⟩) else if (wdP l σ).k = 3 then textP l σ else numberP l σ
def columnP (l : List Wd) (σ : PS) : List Lf × PS :=
  if isP l [46] (nameP l σ).2 then (exL 1 (nameP l σ).1 (nameP l ⟨(nameP l σ).2.i + 1, (nameP l σ).2.e⟩).1 zV nL, (nameP l ⟨(nameP l σ).2.i + 1, (nameP l σ).2.e⟩).2) else (exL 1 [] (nameP l σ).1 zV nL, (nameP l σ).2)
def operandP (l : List Wd) (σ : PS) : List Lf × PS := if valuedP l σ then (exL 2 [] [] (valueP l σ).1 nL, (valueP l σ).2) else columnP l σ
def opTwo (k : Nat) (a b : List Lf) : List Lf := exL k [] [] zV (rL [a, b])
def mulP (l : List Wd) (fac : PS → List Lf × PS) : Nat → List Lf → PS → List Lf × PS
  | 0, e, σ => (e, σ)
  | k + 1, e, σ => if isP l [42] σ then mulP l fac k (opTwo 5 e (fac ⟨σ.i + 1, σ.e⟩).1) (fac ⟨σ.i + 1, σ.e⟩).2 else (e, σ)
def termP (l : List Wd) (fac : PS → List Lf × PS) (σ : PS) : List Lf × PS := mulP l fac l.length (fac σ).1 (fac σ).2
def addP (l : List Wd) (fac : PS → List Lf × PS) : Nat → List Lf → PS → List Lf × PS
  | 0, e, σ => (e, σ)
  | k + 1, e, σ => if isP l [43] σ then addP l fac k (opTwo 3 e (termP l fac ⟨σ.i + 1, σ.e⟩).1) (termP l fac ⟨σ.i + 1, σ.e⟩).2
    else if isP l [45] σ then addP l fac k (opTwo 4 e (termP l fac ⟨σ.i + 1, σ.e⟩).1) (termP l fac ⟨σ.i + 1, σ.e⟩).2 else (e, σ)
def exprOf (l : List Wd) (fac : PS → List Lf × PS) (σ : PS) : List Lf × PS := addP l fac l.length (termP l fac σ).1 (termP l fac σ).2
/-- A factor: n brackets or opposites at most, at depth d. -/
def factorP (l : List Wd) (m : Int) : Nat → Nat → PS → List Lf × PS
  | 0, _, σ => (zE, σ)
  | n + 1, d, σ => if valuedP l σ then operandP l σ
    else if isP l [40] σ then ((exprOf l (factorP l m n (d + 1)) (deepP l m d ⟨σ.i + 1, σ.e⟩)).1, need1 l [41] (exprOf l (factorP l m n (d + 1)) (deepP l m d ⟨σ.i + 1, σ.e⟩)).2)
    else if isP l [45] σ then (exL 6 [] [] zV (rL [(factorP l m n (d + 1) (deepP l m d ⟨σ.i + 1, σ.e⟩)).1]), (factorP l m n (d + 1) (deepP l m d ⟨σ.i + 1, σ.e⟩)).2)
    else operandP l σ
def exprP (l : List Wd) (m : Int) (d : Nat) (σ : PS) : List Lf × PS := exprOf l (factorP l m (l.length + 1) d) σ

/-! ### Conditions -/
def opP (l : List Wd) (σ : PS) : Nat × PS :=
  if isP l [61] σ then (1, ⟨σ.i + 1, σ.e⟩) else if isP l [60, 62] σ then (2, ⟨σ.i + 1, σ.e⟩) else if isP l [60] σ then (3, ⟨σ.i + 1, σ.e⟩) else if isP l [60, 61] σ then (4, ⟨σ.i + 1, σ.e⟩) else if isP l [62] σ then (5, ⟨σ.i + 1, σ.e⟩) else if isP l [62, 61] σ then (6, ⟨σ.i + 1, σ.e⟩) else (0, faultP l 4 σ)
/-- Behind an operand a. -/
def compP (l : List Wd) (a : List Lf) (σ : PS) : List Lf × PS :=
  if isP l [105, 115] σ then (if isP l [110, 111, 116] ⟨σ.i + 1, σ.e⟩ then (coL 3 0 a zE nL, need1 l [110, 117, 108, 108] ⟨σ.i + 2, σ.e⟩) else (coL 2 0 a zE nL, need1 l [110, 117, 108, 108] ⟨σ.i + 1, σ.e⟩))
  else (coL 1 (opP l σ).1 a (operandP l (opP l σ).2).1 nL, (operandP l (opP l σ).2).2)
def comparedP (l : List Wd) (σ : PS) : List Lf × PS := compP l (operandP l σ).1 (operandP l σ).2
def joinedP (l : List Wd) (kind : Nat) (sep : List UInt8) (one : PS → List Lf × PS) (σ : PS) : List Lf × PS :=
  if isP l sep (one σ).2 then (coL kind 0 zE zE (rL (moreP l sep one l.length [(one σ).1] (one σ).2).1), (moreP l sep one l.length [(one σ).1] (one σ).2).2) else one σ
def bothOf (l : List Wd) (simple : PS → List Lf × PS) : PS → List Lf × PS := joinedP l 4 [97, 110, 100] simple
def condOf (l : List Wd) (simple : PS → List Lf × PS) : PS → List Lf × PS := joinedP l 5 [111, 114] (bothOf l simple)
def simpleP (l : List Wd) (m : Int) : Nat → Nat → PS → List Lf × PS
  | 0, _, σ => (zC, σ)
  | n + 1, d, σ => if isP l [110, 111, 116] σ then (coL 6 0 zE zE (rL [(simpleP l m n (d + 1) (deepP l m d ⟨σ.i + 1, σ.e⟩)).1]), (simpleP l m n (d + 1) (deepP l m d ⟨σ.i + 1, σ.e⟩)).2)
    else if isP l [40] σ then ((condOf l (simpleP l m n (d + 1)) (deepP l m d ⟨σ.i + 1, σ.e⟩)).1, need1 l [41] (condOf l (simpleP l m n (d + 1)) (deepP l m d ⟨σ.i + 1, σ.e⟩)).2)
    else comparedP l σ
def condP (l : List Wd) (m : Int) (d : Nat) (σ : PS) : List Lf × PS := condOf l (simpleP l m (l.length + 1) d) σ
def whereP (l : List Wd) (m : Int) (σ : PS) : List Lf × PS := if isP l [119, 104, 101, 114, 101] σ then condP l m 0 ⟨σ.i + 1, σ.e⟩ else (zC, σ)

/-! ### Queries -/
def itL (agg : Nat) (e : List Lf) (nm : List UInt8) : List Lf := iL agg :: (e ++ [sL nm])
def countP (l : List Wd) (m : Int) (σ : PS) : (Nat × List Lf) × PS :=
  if isP l [42] (need1 l [40] σ) then ((1, zE), need1 l [41] ⟨(need1 l [40] σ).i + 1, (need1 l [40] σ).e⟩) else ((2, (exprP l m 0 (need1 l [40] σ)).1), need1 l [41] (exprP l m 0 (need1 l [40] σ)).2)
def aggP (l : List Wd) (m : Int) (kind : Nat) (σ : PS) : (Nat × List Lf) × PS := ((kind, (exprP l m 0 (need1 l [40] σ)).1), need1 l [41] (exprP l m 0 (need1 l [40] σ)).2)
def toldP (l : List Wd) (m : Int) (σ : PS) : (Nat × List Lf) × PS :=
  if isP l [99, 111, 117, 110, 116] σ then countP l m ⟨σ.i + 1, σ.e⟩ else if isP l [115, 117, 109] σ then aggP l m 3 ⟨σ.i + 1, σ.e⟩ else if isP l [109, 105, 110] σ then aggP l m 4 ⟨σ.i + 1, σ.e⟩ else if isP l [109, 97, 120] σ then aggP l m 5 ⟨σ.i + 1, σ.e⟩ else ((0, (exprP l m 0 σ).1), (exprP l m 0 σ).2)
def asP (l : List Wd) (els : List UInt8) (σ : PS) : List UInt8 × PS := if isP l [97, 115] σ then nameP l ⟨σ.i + 1, σ.e⟩ else (els, σ)
def itemP (l : List Wd) (m : Int) (σ : PS) : List Lf × PS := (itL (toldP l m σ).1.1 (toldP l m σ).1.2 (asP l [] (toldP l m σ).2).1, (asP l [] (toldP l m σ).2).2)
def sourceP (l : List Wd) (σ : PS) : List Lf × PS := ([sL (nameP l σ).1, sL (asP l (nameP l σ).1 (nameP l σ).2).1], (asP l (nameP l σ).1 (nameP l σ).2).2)
def groupP (l : List Wd) (σ : PS) : List (List Lf) × PS := if isP l [103, 114, 111, 117, 112] σ then listP l (columnP l) (need1 l [98, 121] ⟨σ.i + 1, σ.e⟩) else ([], σ)
def seL (dis : Bool) (items from_ : List (List Lf)) (wh : List Lf) (gr : List (List Lf)) : List Lf := .v (.bool dis) :: rL items :: rL from_ :: (wh ++ [rL gr])
def selectP (l : List Wd) (m : Int) (σ : PS) : List Lf × PS :=
  let a := takeP l [100, 105, 115, 116, 105, 110, 99, 116] (need1 l [115, 101, 108, 101, 99, 116] σ)
  let b := listP l (itemP l m) a.2
  let c := listP l (sourceP l) (need1 l [102, 114, 111, 109] b.2)
  let d := whereP l m c.2
  let g := groupP l d.2
  (seL a.1 b.1 c.1 d.1 g.1, withinP l g.1.length 4 (withinP l c.1.length 3 (withinP l b.1.length 8 g.2)))
def unionP (l : List Wd) (m : Int) : Nat → List (List Lf) → PS → List (List Lf) × PS
  | 0, acc, σ => (acc, σ)
  | k + 1, acc, σ => if isP l [117, 110, 105, 111, 110] σ then unionP l m k (acc ++ [(selectP l m (need1 l [97, 108, 108] ⟨σ.i + 1, σ.e⟩)).1]) (selectP l m (need1 l [97, 108, 108] ⟨σ.i + 1, σ.e⟩)).2 else (acc, σ)
def queryP (l : List Wd) (m : Int) (σ : PS) : List (List Lf) × PS :=
  let a := unionP l m l.length [(selectP l m σ).1] (selectP l m σ).2
  (a.1, withinP l a.1.length 4 a.2)

/-! ### Statements -/
structure SM where
  k : Nat
  nam : List UInt8
  cols : List (List Lf)
  keys : List (List Lf)
  parts : List (List Lf)
  mode : Nat
  rows : List (List Lf)
  sets : List (List Lf)
  wh : List Lf
  n : Nat
def zS : SM := ⟨0, [], [], [], [], 0, [], [], zC, 0⟩
def stL (x : SM) : List Lf := iL x.k :: sL x.nam :: rL x.cols :: rL x.keys :: rL x.parts :: iL x.mode :: rL x.rows :: rL x.sets :: (x.wh ++ [iL x.n])
def modeP (l : List Wd) (σ : PS) : Nat × PS := if isP l [102, 97, 115, 116] σ then (1, ⟨σ.i + 1, σ.e⟩) else if isP l [99, 111, 109, 112, 108, 101, 116, 101] σ then (2, ⟨σ.i + 1, σ.e⟩) else if isP l [102, 111, 114, 99, 101] σ then (3, ⟨σ.i + 1, σ.e⟩) else (0, σ)
def keyP (l : List Wd) (σ : PS) : List (List Lf) × PS :=
  let a := listP l (fun σ => ([sL (nameP l σ).1], (nameP l σ).2)) (need1 l [40] (need1 l [107, 101, 121] σ))
  (a.1, need1 l [41] a.2)
def typeP (l : List Wd) (σ : PS) : Nat × PS := if isP l [105, 110, 116] σ then (1, ⟨σ.i + 1, σ.e⟩) else if isP l [98, 111, 111, 108] σ then (2, ⟨σ.i + 1, σ.e⟩) else if isP l [116, 101, 120, 116] σ then (3, ⟨σ.i + 1, σ.e⟩) else (0, faultP l 4 σ)
def mustP (l : List Wd) (σ : PS) : Bool × PS := if isP l [110, 111, 116] σ then (true, need1 l [110, 117, 108, 108] ⟨σ.i + 1, σ.e⟩) else (false, σ)
def colP (l : List Wd) (σ : PS) : List Lf × PS :=
  let a := nameP l σ
  let b := typeP l a.2
  let c := mustP l b.2
  ([sL a.1, iL b.1, .v (.bool c.1)], c.2)
def colsP (l : List Wd) : Nat → List (List Lf) → PS → (List (List Lf) × List (List Lf)) × PS
  | 0, acc, σ => ((acc, []), σ)
  | k + 1, acc, σ => if isP l [112, 114, 105, 109, 97, 114, 121] σ then ((acc, (keyP l ⟨σ.i + 1, σ.e⟩).1), (keyP l ⟨σ.i + 1, σ.e⟩).2)
    else if isP l [44] (colP l σ).2 then colsP l k (acc ++ [(colP l σ).1]) ⟨(colP l σ).2.i + 1, (colP l σ).2.e⟩ else ((acc ++ [(colP l σ).1], []), (colP l σ).2)
def emptyP (l : List Wd) (n : Nat) (σ : PS) : PS := if n = 0 then faultP l 4 σ else σ
def tableP (l : List Wd) (σ : PS) : SM × PS :=
  let a := nameP l σ
  let b := colsP l l.length [] (need1 l [40] a.2)
  ({ zS with k := 2, nam := a.1, cols := b.1.1, keys := b.1.2 }, emptyP l b.1.1.length (withinP l (max b.1.1.length b.1.2.length) 8 (need1 l [41] b.2)))
def viewP (l : List Wd) (m : Int) (σ : PS) : SM × PS :=
  let a := nameP l σ
  let b := modeP l (need1 l [114, 101, 102, 114, 101, 115, 104] a.2)
  let c := queryP l m (need1 l [97, 115] (emptyP l b.1 b.2))
  ({ zS with k := 6, nam := a.1, mode := b.1, parts := c.1 }, c.2)
def namedP (l : List Wd) (k : Nat) (σ : PS) : SM × PS := ({ zS with k := k, nam := (nameP l σ).1 }, (nameP l σ).2)
def createP (l : List Wd) (m : Int) (σ : PS) : SM × PS :=
  if isP l [116, 97, 98, 108, 101] σ then tableP l ⟨σ.i + 1, σ.e⟩ else if isP l [108, 111, 103] σ then namedP l 4 (need1 l [111, 110] ⟨σ.i + 1, σ.e⟩) else viewP l m (need1 l [118, 105, 101, 119] σ)
def dropP (l : List Wd) (σ : PS) : SM × PS :=
  if isP l [116, 97, 98, 108, 101] σ then namedP l 3 ⟨σ.i + 1, σ.e⟩ else if isP l [108, 111, 103] σ then namedP l 5 (need1 l [111, 110] ⟨σ.i + 1, σ.e⟩) else namedP l 7 (need1 l [118, 105, 101, 119] σ)
def tupleP (l : List Wd) (σ : PS) : List (List Lf) × PS :=
  let a := listP l (valueP l) (need1 l [40] σ)
  (a.1, withinP l a.1.length 8 (need1 l [41] a.2))
def tup1P (l : List Wd) (σ : PS) : List Lf × PS := ([rL (tupleP l σ).1], (tupleP l σ).2)
def insertP (l : List Wd) (σ : PS) : SM × PS :=
  let a := nameP l (need1 l [105, 110, 116, 111] σ)
  let b := listP l (tup1P l) (need1 l [118, 97, 108, 117, 101, 115] a.2)
  ({ zS with k := 8, nam := a.1, rows := b.1 }, withinP l b.1.length 16 b.2)
def deleteP (l : List Wd) (m : Int) (σ : PS) : SM × PS :=
  let a := nameP l (need1 l [102, 114, 111, 109] σ)
  let b := whereP l m a.2
  ({ zS with k := 9, nam := a.1, wh := b.1 }, b.2)
def setP (l : List Wd) (m : Int) (σ : PS) : List Lf × PS :=
  let a := nameP l σ
  let b := exprP l m 0 (need1 l [61] a.2)
  (sL a.1 :: b.1, b.2)
def updateP (l : List Wd) (m : Int) (σ : PS) : SM × PS :=
  let a := nameP l σ
  let b := listP l (setP l m) (need1 l [115, 101, 116] a.2)
  let c := whereP l m (withinP l b.1.length 8 b.2)
  ({ zS with k := 10, nam := a.1, sets := b.1, wh := c.1 }, c.2)
def refreshP (l : List Wd) (σ : PS) : SM × PS :=
  let a := nameP l σ
  let b := modeP l a.2
  let c := takeP l [110, 101, 115, 116, 101, 100] b.2
  ({ zS with k := if c.1 then 16 else 11, nam := a.1, mode := b.1 }, c.2)
def choiceP (l : List Wd) (none one : List UInt8) (σ : PS) : Nat × PS := if isP l none σ then (0, ⟨σ.i + 1, σ.e⟩) else (1, need1 l one σ)
def settingP (l : List Wd) (σ : PS) : SM × PS :=
  if isP l [114, 101, 119, 114, 105, 116, 101] σ then ({ zS with k := 13, n := (choiceP l [111, 102, 102] [111, 110] ⟨σ.i + 1, σ.e⟩).1 }, (choiceP l [111, 102, 102] [111, 110] ⟨σ.i + 1, σ.e⟩).2)
  else ({ zS with k := 14, n := (choiceP l [101, 110, 102, 111, 114, 99, 101, 100] [116, 111, 108, 101, 114, 97, 116, 101, 100] (need1 l [112, 111, 108, 105, 99, 121] σ)).1 }, (choiceP l [101, 110, 102, 111, 114, 99, 101, 100] [116, 111, 108, 101, 114, 97, 116, 101, 100] (need1 l [112, 111, 108, 105, 99, 121] σ)).2)
def stmtP (l : List Wd) (m : Int) (σ : PS) : SM × PS :=
  if isP l [115, 101, 108, 101, 99, 116] σ then ({ zS with k := 1, parts := (queryP l m σ).1 }, (queryP l m σ).2)
  else if isP l [99, 114, 101, 97, 116, 101] σ then createP l m ⟨σ.i + 1, σ.e⟩
  else if isP l [100, 114, 111, 112] σ then dropP l ⟨σ.i + 1, σ.e⟩
  else if isP l [105, 110, 115, 101, 114, 116] σ then insertP l ⟨σ.i + 1, σ.e⟩
  else if isP l [100, 101, 108, 101, 116, 101] σ then deleteP l m ⟨σ.i + 1, σ.e⟩
  else if isP l [117, 112, 100, 97, 116, 101] σ then updateP l m ⟨σ.i + 1, σ.e⟩
  else if isP l [114, 101, 102, 114, 101, 115, 104] σ then refreshP l ⟨σ.i + 1, σ.e⟩
  else if isP l [112, 117, 114, 103, 101] σ then namedP l 12 (need1 l [111, 110] (need1 l [108, 111, 103] ⟨σ.i + 1, σ.e⟩))
  else if isP l [115, 101, 116] σ then settingP l ⟨σ.i + 1, σ.e⟩
  else if isP l [115, 104, 111, 119] σ then namedP l 15 ⟨σ.i + 1, σ.e⟩
  else (zS, faultP l 4 σ)
/-- The statement that words are, or the first fault. -/
def readP (l : List Wd) (m : Int) : SM × Nat :=
  let a := stmtP l m ⟨0, 0⟩
  let b := endP l a.2
  if b.e = 0 then (a.1, 0) else (zS, b.e)
end Go.Proofs.YtneebnankghhgacGreatDoor

/- What the parser makes, as it lies in memory: rows of structs that hold rows of structs, each in a block of its own; a row that grows by appending. Conditions: each lemma names its own. -/
namespace Go.Proofs.YtneebnankghhgacGreatDoor
open Go.RowKit

/-- Of what was there, all but block a is as it was. -/
abbrev Onl (a : Nat) (w w' : World) : Prop := w.grownBy w' (some a)
theorem Onl.refl (a : Nat) (w : World) : Onl a w w := ⟨rfl, rfl, rfl, Nat.le_refl _, fun _ _ _ => rfl⟩
theorem Onl.trans {a : Nat} {x y z : World} (h : Onl a x y) (k : Onl a y z) : Onl a x z :=
  ⟨k.os.trans h.os, k.tape.trans h.tape, k.output.trans h.output, Nat.le_trans h.size k.size, fun i hi hn => (k.block i (Nat.lt_of_lt_of_le hi h.size) hn).trans (h.block i hi hn)⟩
theorem Onl.alloc {a : Nat} {x y : World} (h : Onl a x y) (o : Obj) : Onl a x (y.alloc o) := h.trans (World.grownBy_alloc y o _)
theorem Onl.drew {a : Nat} {x y : World} (h : Onl a x y) : Onl a x y.drew := ⟨h.os, h.tape, h.output, h.size, h.block⟩
theorem Onl.own {a o : Nat} {x y : World} (h : Onl a x y) (u : Value) : Onl a x (y.setCell ⟨a, o, none⟩ u) :=
  h.trans ⟨rfl, rfl, rfl, by simp, fun k _ hk => Below.heap_setCell _ _ _ _ (fun e => hk (by rw [e]))⟩
/-- A store into a block that is new. -/
theorem Onl.set {a b o : Nat} {x y : World} (h : Onl a x y) (u : Value) (hb : x.heap.size ≤ b) : Onl a x (y.setCell ⟨b, o, none⟩ u) :=
  ⟨h.os, h.tape, h.output, by simpa using h.size, fun k hk hn => (Below.heap_setCell _ _ _ _ (by show k ≠ b; omega)).trans (h.block k hk hn)⟩
theorem Onl.below {a : Nat} {x y : World} (h : Onl a x y) (ha : a ≤ x.heap.size) : Below a x y :=
  ⟨h.os, h.tape, h.output, h.size, fun k hk => h.block k (by omega) (by simp; omega)⟩
theorem Onl.of_below {a : Nat} {x y : World} (h : Below x.heap.size x y) : Onl a x y := ⟨h.os, h.tape, h.output, h.size, fun k hk _ => h.block k hk⟩
/-- An append to a row that is new. -/
theorem Onl.grown {a : Nat} {x y z : World} {row : Option Nat} (h : Onl a x y) (g : y.grownBy z row) (hr : ∀ k, row = some k → x.heap.size ≤ k) : Onl a x z :=
  ⟨g.os.trans h.os, g.tape.trans h.tape, g.output.trans h.output, Nat.le_trans h.size g.size, fun k hk hn => (g.block k (Nat.lt_of_lt_of_le hk h.size) (fun e => by have := hr k e.symm; omega)).trans (h.block k hk hn)⟩
theorem Onl.cell {a : Nat} {x y : World} (h : Onl a x y) {b o : Nat} {v : Value} (hb : b ≠ a) (hc : x.cell? ⟨b, o, none⟩ = some v) : y.cell? ⟨b, o, none⟩ = some v :=
  World.grownBy.cell h hc (by simpa using hb)
theorem Onl.frz {a : Nat} {x y : World} (h : Onl a x y) {b o : Nat} (hb : b ≠ a) (hl : b < x.heap.size) : y.frozen? ⟨b, o, none⟩ = x.frozen? ⟨b, o, none⟩ :=
  World.frozen?_of_block (h.block b hl (by simpa using hb))

/-- A leaf as it lies in memory: what it is, its blocks all such as P says. -/
inductive LfAt (w : World) (P : Nat → Prop) : Lf → Value → Prop
  | v (x : Value) (h1 : x.oneCell' = true) : LfAt w P (.v x) x
  | s (n : Nat) (ls : List Lf) (us : List Value) (p : Option Addr) (c : Nat) (hl : us.length = ls.length) (hn : ls ≠ [] → n ≠ 0) (hn2 : n ≤ c)
      (hs : ∀ (i : Nat) (x : Lf) (u : Value), ls[i]? = some x → us[i]? = some u → LfAt w P x u)
      (hc : ls ≠ [] → ∃ b o, p = some ⟨b, o, none⟩ ∧ P b ∧ b < w.heap.size ∧ ∀ (i : Nat) (u : Value), us[i]? = some u → w.cell? ⟨b, o + i, none⟩ = some u) : LfAt w P (.s n ls) (.slice p n c)
theorem LfAt.keep {w w' : World} {P Q : Nat → Prop} (hP : ∀ b, P b → b < w.heap.size → Q b ∧ w'.heap[b]? = w.heap[b]?) (hsz : w.heap.size ≤ w'.heap.size) {x : Lf} {u : Value} (h : LfAt w P x u) : LfAt w' Q x u := by
  induction h with
  | v x h1 => exact .v x h1
  | s n ls us p c hl hn hn2 hs hc ih =>
    refine .s n ls us p c hl hn hn2 ih (fun hne => ?_)
    obtain ⟨b, o, e, hb, hlt, hcell⟩ := hc hne
    obtain ⟨hq, hblk⟩ := hP b hb hlt
    exact ⟨b, o, e, hq, by omega, fun i u hu => (World.cell?_of_block (a := ⟨b, o + i, none⟩) hblk).trans (hcell i u hu)⟩
theorem LfAt.one {w : World} {P : Nat → Prop} {x : Lf} {u : Value} (h : LfAt w P x u) : u.oneCell' = true := by
  cases h with
  | v x h1 => exact h1
  | s => rfl
theorem LfAt.nil (w : World) (P : Nat → Prop) : LfAt w P nL (.slice none 0 0) := .s 0 [] [] none 0 rfl (by simp) (Nat.le_refl _) (by simp) (by simp)
theorem LfAt.i (w : World) (P : Nat → Prop) (n : Nat) : LfAt w P (iL n) (.int .i64 (n : Int)) := .v _ rfl
theorem LfAt.t (w : World) (P : Nat → Prop) (l : List UInt8) : LfAt w P (sL l) (.string (txt l)) := .v _ rfl
/-- Leaves one behind the other. -/
structure LsAt (w : World) (P : Nat → Prop) (xs : List Lf) (us : List Value) : Prop where
  len : us.length = xs.length
  out : ∀ (i : Nat) (x : Lf) (u : Value), xs[i]? = some x → us[i]? = some u → LfAt w P x u
theorem LsAt.nil (w : World) (P : Nat → Prop) : LsAt w P [] [] := ⟨rfl, by simp⟩
theorem LsAt.cons {w : World} {P : Nat → Prop} {x : Lf} {u : Value} {xs : List Lf} {us : List Value} (h : LfAt w P x u) (k : LsAt w P xs us) : LsAt w P (x :: xs) (u :: us) := by
  refine ⟨by simp [k.len], fun i y v hy hv => ?_⟩
  cases i with
  | zero => simp at hy hv; subst hy hv; exact h
  | succ i => simp at hy hv; exact k.out i y v hy hv
theorem LsAt.app {w : World} {P : Nat → Prop} {xs ys : List Lf} {us vs : List Value} (h : LsAt w P xs us) (k : LsAt w P ys vs) : LsAt w P (xs ++ ys) (us ++ vs) := by
  refine ⟨by simp [h.len, k.len], fun i y v hy hv => ?_⟩
  have hl := h.len
  rcases Nat.lt_or_ge i xs.length with hi | hi
  · rw [List.getElem?_append_left hi] at hy
    rw [List.getElem?_append_left (by omega)] at hv
    exact h.out i y v hy hv
  · rw [List.getElem?_append_right hi] at hy
    rw [List.getElem?_append_right (by omega), hl] at hv
    exact k.out _ y v hy hv
theorem LsAt.keep {w w' : World} {P Q : Nat → Prop} {xs : List Lf} {us : List Value} (h : LsAt w P xs us) (hP : ∀ b, P b → b < w.heap.size → Q b ∧ w'.heap[b]? = w.heap[b]?) (hsz : w.heap.size ≤ w'.heap.size) : LsAt w' Q xs us :=
  ⟨h.len, fun i x u hx hu => (h.out i x u hx hu).keep hP hsz⟩
theorem LsAt.one {w : World} {P : Nat → Prop} {xs : List Lf} {us : List Value} (h : LsAt w P xs us) : ∀ u ∈ us, u.oneCell' = true := by
  intro u hu
  obtain ⟨i, hi, rfl⟩ := List.mem_iff_getElem.1 hu
  exact (h.out i (xs[i]'(by rw [← h.len]; exact hi)) us[i] (List.getElem?_eq_getElem _) (List.getElem?_eq_getElem hi)).one
/-- Blocks from n on. -/
def fr (n : Nat) : Nat → Prop := fun b => n ≤ b
theorem LfAt.later {a n k : Nat} {w w' : World} {x : Lf} {u : Value} (h : LfAt w (fr n) x u) (ho : Onl a w w') (ha : a < n) (hk : k ≤ n) : LfAt w' (fr k) x u :=
  h.keep (fun b (hb : n ≤ b) hlt => ⟨show k ≤ b by omega, ho.block b hlt (by simp; omega)⟩) ho.size
theorem LsAt.later {a n k : Nat} {w w' : World} {xs : List Lf} {us : List Value} (h : LsAt w (fr n) xs us) (ho : Onl a w w') (ha : a < n) (hk : k ≤ n) : LsAt w' (fr k) xs us :=
  ⟨h.len, fun i x u hx hu => (h.out i x u hx hu).later ho ha hk⟩
/-- A row of structs that lies in a new block whole. -/
theorem LfAt.row {w : World} {P : Nat → Prop} {n c b : Nat} {ls : List Lf} {us : List Value} (h : LsAt w P ls us) (hn : n ≠ 0) (hc : n ≤ c) (hP : P b) (hb : b < w.heap.size) (hcell : ∀ (i : Nat) (u : Value), us[i]? = some u → w.cell? ⟨b, i, none⟩ = some u) : LfAt w P (.s n ls) (.slice (some ⟨b, 0, none⟩) n c) :=
  .s n ls us _ c h.len (fun _ => hn) hc h.out (fun _ => ⟨b, 0, rfl, hP, hb, fun i u hu => by rw [Nat.zero_add]; exact hcell i u hu⟩)

/-! ### A row that grows -/
/-- A row of n structs of k leaves each, in a block of its own from base on; what its leaves hold lies elsewhere. -/
structure GrR (w : World) (base : Nat) (ty : TypeId) (k : Nat) (v : Value) (n : Nat) (xs : List Lf) (us : List Value) : Prop where
  own : w.ownsRow base ty k v n us
  at_ : LsAt w (fun b => base ≤ b ∧ some b ≠ v.ownBlock) xs us
def GrowR (w : World) (base : Nat) (ty : TypeId) (k : Nat) (v : Value) (n : Nat) (xs : List Lf) : Prop := ∃ us, GrR w base ty k v n xs us
theorem GrowR.later {a base : Nat} {ty : TypeId} {k : Nat} {v : Value} {n : Nat} {xs : List Lf} {w w' : World} (h : GrowR w base ty k v n xs) (ho : Onl a w w') (ha : a < base) : GrowR w' base ty k v n xs := by
  obtain ⟨us, h1, h2⟩ := h
  refine ⟨us, h1.kept ho ?_, h2.keep (fun b hb hlt => ⟨hb, ho.block b hlt (by simp; omega)⟩) ho.size⟩
  cases hv : v.ownBlock with
  | none => exact .inl rfl
  | some g => exact .inr (by have := (h1.lt g hv).1; simp; omega)
theorem GrowR.nil (w : World) (base : Nat) (ty : TypeId) (k : Nat) : GrowR w base ty k (.slice none 0 0) 0 [] := ⟨[], World.ownsRow_nil _ _ _ _, LsAt.nil _ _⟩
/-- As a leaf. -/
theorem GrowR.leaf {base : Nat} {ty : TypeId} {k : Nat} {v : Value} {n : Nat} {xs : List Lf} {w : World} (h : GrowR w base ty k v n xs) : LfAt w (fr base) (.s n xs) v := by
  obtain ⟨us, h1, h2⟩ := h
  have h0 := h1
  have hlx := h2.len
  have hlu := h1.1
  rcases h1.2 with ⟨rfl, hn⟩ | ⟨g, cap, cur, rfl, hg, hh, hnc, hcm, hsz, htake⟩
  · subst hn
    obtain rfl : us = [] := List.length_eq_zero_iff.1 (by omega)
    obtain rfl : xs = [] := List.length_eq_zero_iff.1 (by simpa using hlx.symm)
    exact LfAt.nil w _
  · refine .s n xs us _ cap hlx (fun hne hn0 => hne (List.length_eq_zero_iff.1 ?_)) hnc (fun i x u hx hu => (h2.out i x u hx hu).keep (fun b hb hlt => ⟨hb.1, rfl⟩) (Nat.le_refl _)) (fun _ => ⟨g, 0, rfl, hg, (Array.getElem?_eq_some_iff.1 hh).1, fun i u hu => ?_⟩)
    · subst hn0; omega
    · have h := h0.cells (g := g) rfl i u hu
      have e : (⟨g, 0, none⟩ : Addr).add i = ⟨g, 0 + i, none⟩ := by rw [WideShapes.add_plain]
      rw [← e]; exact h
/-- A row that was written down whole, in a block of its own. -/
theorem GrowR.made {base : Nat} {ty : TypeId} {k n : Nat} {xs : List Lf} {us : List Value} {w : World} {g : Nat} (hh : w.heap[g]? = some (.cells us.toArray ty (0, 0))) (hg : base ≤ g) (hlen : us.length = n * k) (hn : n ≤ maxLen) (hat : LsAt w (fun b => base ≤ b ∧ b ≠ g) xs us) :
    GrowR w base ty k (.slice (some ⟨g, 0, none⟩) n n) n xs :=
  ⟨us, ⟨hlen, .inr ⟨g, n, us.toArray, rfl, hg, hh, Nat.le_refl _, hn, by simpa using hlen, by simp [← hlen]⟩⟩, hat.keep (fun b hb hlt => ⟨⟨hb.1, by simpa [Value.ownBlock] using hb.2⟩, rfl⟩) (Nat.le_refl _)⟩

/-- An append of one struct, laid in a block of its own first. -/
theorem wp_grow {P : Program} {w : World} {ops : Array Oper} {rest : List Oper} {o : Oper} {a : Act} {Q : Exit → Act → World → Prop} (hgd : o.guard = none) (s x : Operand) (t : TypeId)
    (ho : o.op = .call { callee := .builtin .append, args := #[s, x], argTypes := #[t, t] })
    (base : Nat) (ty : TypeId) (i : TypeInfo) (z : Value) (k bytes : Nat) (ht : P.underlying t = some (.slice ty)) (hi : P.info? ty = some i) (hz : i.zero = some z)
    (hsize : i.size = k) (hby : i.bytes = bytes) (hzs : z.cells.size = k) (hsz : 0 < k)
    (v : Value) (n : Nat) (xs : List Lf) (hs : a.eval s = v) (hown : GrowR w base ty k v n xs)
    (B c : Nat) (ys : List Lf) (us : List Value) (hx : a.eval x = .slice (some ⟨B, 0, none⟩) 1 c) (hl : us.length = k) (hnews : ∀ (j : Nat) (u : Value), us[j]? = some u → w.cell? ⟨B, j, none⟩ = some u)
    (lo : Nat) (hys : LsAt w (fr lo) ys us) (hlo : base ≤ lo) (hfar : ∀ g, v.ownBlock = some g → g < lo)
    (hbytes : (n + 1) * bytes ≤ 140737488355328) (h63 : n + 1 ≤ maxLen) (hbase : base ≤ w.heap.size)
    (h : ∀ v' w', GrowR w' base ty k v' (n + 1) (xs ++ ys) → (∀ y : World, (∀ a, Onl a y w → y.heap.size ≤ base → Onl a y w')) → Below base w w' → (∀ g, v'.ownBlock = some g → g < w'.heap.size) → wpList P ops Q rest (a.put o.dst v') w') :
    wpList P ops Q (o :: rest) a w := by
  obtain ⟨olds, h1, h2⟩ := hown
  refine wpList_append_own_at w hgd s x t ho base ty i z k bytes ht hi hz hsize hby hzs hsz v n olds hs h1 ⟨B, 0, none⟩ 1 c us hx (by omega) (fun j u hj => ?_) hys.one h63 hbytes hbase ?_
  · rw [WideShapes.add_plain, Nat.zero_add]; exact hnews j u hj
  · intro v' w' hown' hg _ hblk
    refine h v' w' ⟨olds ++ us, hown', ?_⟩ (fun y a ho hy => ho.grown hg (fun k hk => by have := (h1.lt k hk).1; omega)) ((Below.refl _ _).grown hg hbase (fun k hk => (h1.lt k hk).1)) (fun g hgg => (hown'.lt g hgg).2)
    have hne : ∀ b, b < w.heap.size → some b ≠ v.ownBlock → some b ≠ v'.ownBlock := fun b hb hn => by
      rcases hblk with e | e
      · rw [e]; exact hn
      · rw [e]; simp; omega
    refine (h2.keep (fun b hb hlt => ⟨⟨hb.1, hne b hlt hb.2⟩, hg.block b hlt hb.2⟩) hg.size).app (hys.keep (fun b (hb : lo ≤ b) hlt => ?_) hg.size)
    have hn : some b ≠ v.ownBlock := fun e => by have := hfar b e.symm; omega
    exact ⟨⟨by omega, hne b hlt hn⟩, hg.block b hlt hn⟩

/-! ### The reader -/
/-- Words as a lexer makes them: the last one alone is the end, and no number is past 2^63. -/
structure WsOk (l : List Wd) : Prop where
  ne : l ≠ []
  end_ : ∀ i, (h : i < l.length) → (l[i].k = 5 ↔ i + 1 = l.length)
  num : ∀ x ∈ l, x.n ≤ 9223372036854775808
  few : l.length ≤ 513
  len : ∀ x ∈ l, x.s.length ≤ maxLen
/-- The reader at block a: its words elsewhere; at depth d. -/
structure RdC (w : World) (a : Nat) (l : List Wd) (m : Int) (d : Nat) (σ : PS) (b o c : Nat) : Prop where
  c0 : w.cell? ⟨a, 0, none⟩ = some (.slice (some ⟨b, o, none⟩) l.length c)
  c1 : w.cell? ⟨a, 1, none⟩ = some (.int .i64 (σ.i : Nat))
  c2 : w.cell? ⟨a, 2, none⟩ = some (.int .i64 (d : Nat))
  c3 : w.cell? ⟨a, 3, none⟩ = some (.int .i64 m)
  c4 : w.cell? ⟨a, 4, none⟩ = some (.int .i64 (σ.e : Nat))
  f1 : w.frozen? ⟨a, 1, none⟩ = false
  f2 : w.frozen? ⟨a, 2, none⟩ = false
  f4 : w.frozen? ⟨a, 4, none⟩ = false
  lt : b < a
  ws : WdAt w (some ⟨b, o, none⟩) l
  ok : WsOk l
  hi : σ.i < l.length
  he : σ.e < 20
  hd : d ≤ σ.i
  hm : -9223372036854775808 ≤ m ∧ m ≤ 9223372036854775807
  cap : l.length ≤ c
structure Rd (w : World) (a : Nat) (l : List Wd) (m : Int) (d : Nat) (σ : PS) : Prop where
  out : ∃ b o c, RdC w a l m d σ b o c
theorem RdC.ne {w : World} {a : Nat} {l : List Wd} {m : Int} {d : Nat} {σ : PS} {b o c : Nat} (h : RdC w a l m d σ b o c) : b ≠ a := by have := h.lt; omega
theorem Rd.lt {w : World} {a : Nat} {l : List Wd} {m : Int} {d : Nat} {σ : PS} (h : Rd w a l m d σ) : a < w.heap.size := by
  obtain ⟨b, o, c, h⟩ := h.out
  exact World.block_lt_of_cell? w ⟨a, 0, none⟩ h.c0
theorem Rd.hi {w : World} {a : Nat} {l : List Wd} {m : Int} {d : Nat} {σ : PS} (h : Rd w a l m d σ) : σ.i < l.length := by
  obtain ⟨b, o, c, h⟩ := h.out
  exact h.hi
theorem Rd.ok {w : World} {a : Nat} {l : List Wd} {m : Int} {d : Nat} {σ : PS} (h : Rd w a l m d σ) : WsOk l := by
  obtain ⟨b, o, c, h⟩ := h.out
  exact h.ok
theorem Rd.few {w : World} {a : Nat} {l : List Wd} {m : Int} {d : Nat} {σ : PS} (h : Rd w a l m d σ) : l.length ≤ 513 := h.ok.few
theorem WdAt.kept {w w' : World} {b o : Nat} {ws : List Wd} (h : WdAt w (some ⟨b, o, none⟩) ws) (hb : w'.heap[b]? = w.heap[b]?) : WdAt w' (some ⟨b, o, none⟩) ws := fun hne => by
  obtain ⟨b', o', e, hc⟩ := h hne
  cases e
  refine ⟨b, o, rfl, fun i hi => ?_⟩
  obtain ⟨h0, h1, h2, h3⟩ := hc i hi
  exact ⟨(World.cell?_of_block (a := ⟨b, _, none⟩) hb).trans h0, (World.cell?_of_block (a := ⟨b, _, none⟩) hb).trans h1, (World.cell?_of_block (a := ⟨b, _, none⟩) hb).trans h2, (World.cell?_of_block (a := ⟨b, _, none⟩) hb).trans h3⟩
theorem RdC.later {w w' : World} {a : Nat} {l : List Wd} {m : Int} {d : Nat} {σ : PS} {b o c : Nat} (h : RdC w a l m d σ b o c) (hb : ∀ k, k ≤ a → w'.heap[k]? = w.heap[k]?) : RdC w' a l m d σ b o c := by
  have hA := hb a (Nat.le_refl _)
  exact ⟨(World.cell?_of_block (a := ⟨a, _, none⟩) hA).trans h.c0, (World.cell?_of_block (a := ⟨a, _, none⟩) hA).trans h.c1, (World.cell?_of_block (a := ⟨a, _, none⟩) hA).trans h.c2, (World.cell?_of_block (a := ⟨a, _, none⟩) hA).trans h.c3, (World.cell?_of_block (a := ⟨a, _, none⟩) hA).trans h.c4, (World.frozen?_of_block (a := ⟨a, _, none⟩) hA).trans h.f1, (World.frozen?_of_block (a := ⟨a, _, none⟩) hA).trans h.f2, (World.frozen?_of_block (a := ⟨a, _, none⟩) hA).trans h.f4, h.lt, h.ws.kept (hb b (Nat.le_of_lt h.lt)), h.ok, h.hi, h.he, h.hd, h.hm, h.cap⟩
theorem Rd.later {w w' : World} {a : Nat} {l : List Wd} {m : Int} {d : Nat} {σ : PS} (h : Rd w a l m d σ) (hb : Below w.heap.size w w') : Rd w' a l m d σ := by
  obtain ⟨b, o, c, h⟩ := h.out
  have ha : a < w.heap.size := World.block_lt_of_cell? w ⟨a, 0, none⟩ h.c0
  exact ⟨b, o, c, h.later (fun k hk => hb.block k (by omega))⟩
theorem Rd.above {w w' : World} {a : Nat} {l : List Wd} {m : Int} {d : Nat} {σ : PS} (h : Rd w a l m d σ) (hb : Below (a + 1) w w') : Rd w' a l m d σ := by
  obtain ⟨b, o, c, h⟩ := h.out
  exact ⟨b, o, c, h.later (fun k hk => hb.block k (by omega))⟩
theorem RdC.setI {w : World} {a : Nat} {l : List Wd} {m : Int} {d : Nat} {σ : PS} {b o c : Nat} (h : RdC w a l m d σ b o c) (i : Nat) {x : Int} (hx : x = (i : Int)) (hi : i < l.length) (hd : d ≤ i) : RdC (w.setCell ⟨a, 1, none⟩ (.int .i64 x)) a l m d ⟨i, σ.e⟩ b o c := by
  subst hx
  exact ⟨(World.cell?_setCell_other _ _ _ _ (by simp)).trans h.c0, World.cell?_setCell_same _ _ _ h.c1, (World.cell?_setCell_other _ _ _ _ (by simp)).trans h.c2, (World.cell?_setCell_other _ _ _ _ (by simp)).trans h.c3, (World.cell?_setCell_other _ _ _ _ (by simp)).trans h.c4,
    (World.frozen?_setCell _ _ _ _).trans h.f1, (World.frozen?_setCell _ _ _ _).trans h.f2, (World.frozen?_setCell _ _ _ _).trans h.f4, h.lt, h.ws.kept (Below.heap_setCell _ _ _ _ h.ne), h.ok, hi, h.he, hd, h.hm, h.cap⟩
theorem RdC.setD {w : World} {a : Nat} {l : List Wd} {m : Int} {d : Nat} {σ : PS} {b o c : Nat} (h : RdC w a l m d σ b o c) (k : Nat) {x : Int} (hx : x = (k : Int)) (hd : k ≤ σ.i) : RdC (w.setCell ⟨a, 2, none⟩ (.int .i64 x)) a l m k σ b o c := by
  subst hx
  exact ⟨(World.cell?_setCell_other _ _ _ _ (by simp)).trans h.c0, (World.cell?_setCell_other _ _ _ _ (by simp)).trans h.c1, World.cell?_setCell_same _ _ _ h.c2, (World.cell?_setCell_other _ _ _ _ (by simp)).trans h.c3, (World.cell?_setCell_other _ _ _ _ (by simp)).trans h.c4,
    (World.frozen?_setCell _ _ _ _).trans h.f1, (World.frozen?_setCell _ _ _ _).trans h.f2, (World.frozen?_setCell _ _ _ _).trans h.f4, h.lt, h.ws.kept (Below.heap_setCell _ _ _ _ h.ne), h.ok, h.hi, h.he, hd, h.hm, h.cap⟩
theorem RdC.setE {w : World} {a : Nat} {l : List Wd} {m : Int} {d : Nat} {σ : PS} {b o c : Nat} (h : RdC w a l m d σ b o c) (e : Nat) {x : Int} (hx : x = (e : Int)) (he : e < 20) : RdC (w.setCell ⟨a, 4, none⟩ (.int .i64 x)) a l m d ⟨σ.i, e⟩ b o c := by
  subst hx
  exact ⟨(World.cell?_setCell_other _ _ _ _ (by simp)).trans h.c0, (World.cell?_setCell_other _ _ _ _ (by simp)).trans h.c1, (World.cell?_setCell_other _ _ _ _ (by simp)).trans h.c2, (World.cell?_setCell_other _ _ _ _ (by simp)).trans h.c3, World.cell?_setCell_same _ _ _ h.c4,
    (World.frozen?_setCell _ _ _ _).trans h.f1, (World.frozen?_setCell _ _ _ _).trans h.f2, (World.frozen?_setCell _ _ _ _).trans h.f4, h.lt, h.ws.kept (Below.heap_setCell _ _ _ _ h.ne), h.ok, h.hi, he, h.hd, h.hm, h.cap⟩
/-- What a step of the reader leaves behind. -/
structure Step (w : World) (a : Nat) (l : List Wd) (m : Int) (d : Nat) (σ σ' : PS) (w' : World) : Prop where
  rd : Rd w' a l m d σ'
  onl : Onl a w w'
  le : σ.i ≤ σ'.i
theorem Step.trans {w w1 w2 : World} {a : Nat} {l : List Wd} {m : Int} {d d' : Nat} {σ σ1 σ2 : PS} (h : Step w a l m d σ σ1 w1) (k : Step w1 a l m d' σ1 σ2 w2) : Step w a l m d' σ σ2 w2 := ⟨k.rd, h.onl.trans k.onl, Nat.le_trans h.le k.le⟩
theorem Step.refl {w : World} {a : Nat} {l : List Wd} {m : Int} {d : Nat} {σ : PS} (h : Rd w a l m d σ) : Step w a l m d σ σ w := ⟨h, Onl.refl _ _, Nat.le_refl _⟩
theorem Step.below {w w1 w2 : World} {a : Nat} {l : List Wd} {m : Int} {d : Nat} {σ σ1 : PS} (h : Step w a l m d σ σ1 w1) (hb : Below w1.heap.size w1 w2) : Step w a l m d σ σ1 w2 := ⟨h.rd.later hb, h.onl.trans (Onl.of_below hb), h.le⟩
theorem Step.alloc {w w1 : World} {a : Nat} {l : List Wd} {m : Int} {d : Nat} {σ σ1 : PS} (h : Step w a l m d σ σ1 w1) (o : Obj) : Step w a l m d σ σ1 (w1.alloc o) := h.below ((Below.refl _ _).alloc (Nat.le_refl _) o)
end Go.Proofs.YtneebnankghhgacGreatDoor

/- The project's parser: what its reader does by itself: the word that comes, whether it is this one, going past it, a fault: contracts of the calls, in whatever memory that holds a reader. Conditions: each names its own. -/
namespace Go.Proofs.YtneebnankghhgacGreatDoor
open Go.RowKit

set_option maxHeartbeats 1000000 in
theorem paWord_any {w : World} {a : Nat} {l : List Wd} {m : Int} {d : Nat} {σ : PS} {k n p : Nat} {s : List UInt8} (hR : Rd w a l m d σ) (hW : wdP l σ = ⟨k, s, n, p⟩) :
    Calls Tryz.prog 28 #[.pointer (some ⟨a, 0, none⟩)] w fun e w' => e = .returned (.agg #[.int .i64 (k : Nat), .string (txt s), .int .u64 (n : Nat), .int .i64 (p : Nat)]) ∧ Below w.heap.size w w' := by
  obtain ⟨b, o, c, h⟩ := hR.out
  have hx : wdP l σ = l[σ.i]'h.hi := by unfold wdP; rw [List.getD_eq_getElem?_getD, List.getElem?_eq_getElem h.hi]; rfl
  obtain ⟨b', o', e', hc⟩ := h.ws h.ok.ne
  cases e'
  obtain ⟨k0, k1, k2, k3⟩ := hc σ.i h.hi
  have hlen := h.ok.few
  have hlt : (σ.i : Int) < (l.length : Int) := by have := h.hi; omega
  have hcap := h.cap
  have c0 := h.c0
  have c1 := h.c1
  have hy : l[σ.i]'h.hi = ⟨k, s, n, p⟩ := hx.symm.trans hW
  rw [hy] at k0 k1 k2 k3
  dsimp only at k0 k1 k2 k3
  have hB0 : Below w.heap.size w (w.alloc (Obj.cells #[.int .i64 0, .string ⟨#[]⟩, .int .u64 0, .int .i64 0] 64)) := (Below.refl _ _).alloc (Nat.le_refl _) _
  replace k0 := cell_later hB0 k0
  replace k1 := cell_later hB0 k1
  replace k2 := cell_later hB0 k2
  replace k3 := cell_later hB0 k3
  replace c0 := cell_later hB0 c0
  replace c1 := cell_later hB0 c1
  obtain ⟨i, hi⟩ : ∃ i, σ.i = i := ⟨_, rfl⟩
  rw [hi] at k0 k1 k2 k3 c1 hlt
  clear hx hy hW hc h hR hi
  go_enter Tryz.func28, Tryz.ntmps28
  go_wp2
  go_region
  go_wp2
  go_returns
  exact ⟨rfl, ((Below.refl _ _).alloc (Nat.le_refl _) _).drew⟩

/-- What a word's own fields say of what it is. -/
theorem isW_yes1 {x : Wd} {s : List UInt8} (h : x.k = 1) : isW x s = (x.s == s) := by simp [isW, h]
theorem isW_yes4 {x : Wd} {s : List UInt8} (h : x.k = 4) : isW x s = (x.s == s) := by simp [isW, h]
theorem isW_no {x : Wd} {s : List UInt8} (h1 : x.k ≠ 1) (h4 : x.k ≠ 4) : isW x s = false := by simp [isW, h1, h4]

set_option maxHeartbeats 1000000 in
theorem paIs_any {w : World} {a : Nat} {l : List Wd} {m : Int} {d : Nat} {σ : PS} (s : List UInt8) (hR : Rd w a l m d σ) :
    Calls Tryz.prog 15 #[.pointer (some ⟨a, 0, none⟩), .string (txt s)] w fun e w' => e = .returned (.bool (isP l s σ)) ∧ Below w.heap.size w w' := by
  unfold isP
  obtain ⟨⟨k, t, n, p⟩, hx⟩ : ∃ x, wdP l σ = x := ⟨_, rfl⟩
  have CW := paWord_any hR hx
  rw [hx]
  have tt := txt_toList t
  have ts := txt_toList s
  clear hR hx
  have hB := fun w1 (hb : Below w.heap.size w w1) (o : Obj) => Below.alloc hb hb.size o
  have HBB := hid0 hB
  clear hB
  by_cases h1 : k = 1
  · have hI := hid0 (isW_yes1 (x := ⟨k, t, n, p⟩) (s := s) h1)
    have hk1 : ((k : Int) == 1) = true := by rw [beq_iff_eq]; omega
    clear h1
    go_enter Tryz.func15, Tryz.ntmps15
    go_wp2_with (first | (go_at_call 28; refine CW.mono ?_; rintro e w1 ⟨rfl, hb⟩) | fail)
    go_ret
    exact ⟨ret_bool (by rw [hI.out]), HBB.out _ (by assumption) _⟩
  · by_cases h4 : k = 4
    · have hI := hid0 (isW_yes4 (x := ⟨k, t, n, p⟩) (s := s) h4)
      have hk1 : ((k : Int) == 1) = false := by rw [beq_eq_false_iff_ne]; omega
      have hk4 : ((k : Int) == 4) = true := by rw [beq_iff_eq]; omega
      clear h1 h4
      go_enter Tryz.func15, Tryz.ntmps15
      go_wp2_with (first | (go_at_call 28; refine CW.mono ?_; rintro e w1 ⟨rfl, hb⟩) | fail)
      go_ret
      exact ⟨ret_bool (by rw [hI.out]), HBB.out _ (by assumption) _⟩
    · have hI := hid0 (isW_no (x := ⟨k, t, n, p⟩) (s := s) h1 h4)
      have hk1 : ((k : Int) == 1) = false := by rw [beq_eq_false_iff_ne]; omega
      have hk4 : ((k : Int) == 4) = false := by rw [beq_eq_false_iff_ne]; omega
      clear h1 h4
      go_enter Tryz.func15, Tryz.ntmps15
      go_wp2_with (first | (go_at_call 28; refine CW.mono ?_; rintro e w1 ⟨rfl, hb⟩) | fail)
      go_ret
      exact ⟨ret_bool (by rw [hI.out]), HBB.out _ (by assumption) _⟩
theorem wd_more {l : List Wd} {σ : PS} (ok : WsOk l) (hi : σ.i < l.length) (h : (wdP l σ).k ≠ 5) : σ.i + 1 < l.length := by
  have e : wdP l σ = l[σ.i]'hi := by unfold wdP; rw [List.getD_eq_getElem?_getD, List.getElem?_eq_getElem hi]; rfl
  have := ok.end_ σ.i hi
  rw [← e] at this
  rcases Nat.lt_or_ge (σ.i + 1) l.length with h1 | h1
  · exact h1
  · exact absurd (this.2 (by omega)) h
theorem is_more {l : List Wd} {s : List UInt8} {σ : PS} (ok : WsOk l) (hi : σ.i < l.length) (h : isP l s σ = true) : σ.i + 1 < l.length := by
  refine wd_more ok hi (fun e => ?_)
  unfold isP isW at h
  rw [e] at h
  simp at h

set_option maxHeartbeats 1000000 in
theorem paTake_no {w : World} {a : Nat} {l : List Wd} {m : Int} {d : Nat} {σ : PS} (s : List UInt8) (hR : Rd w a l m d σ) (hb : isP l s σ = false) :
    Calls Tryz.prog 17 #[.pointer (some ⟨a, 0, none⟩), .string (txt s)] w fun e w' => e = .returned (.bool false) ∧ Step w a l m d σ σ w' := by
  have CI := paIs_any s hR
  rw [hb] at CI
  clear hb
  go_enter Tryz.func17, Tryz.ntmps17
  go_wp2_with (first | (go_at_call 15; refine CI.mono ?_; rintro e w1 ⟨rfl, hb⟩) | fail)
  go_ret
  exact ⟨rfl, (Step.refl hR).below hb⟩
set_option maxHeartbeats 1000000 in
theorem paTake_yes {w : World} {a : Nat} {l : List Wd} {m : Int} {d : Nat} {σ : PS} (s : List UInt8) (hR : Rd w a l m d σ) (hb : isP l s σ = true) :
    Calls Tryz.prog 17 #[.pointer (some ⟨a, 0, none⟩), .string (txt s)] w fun e w' => e = .returned (.bool true) ∧ Step w a l m d σ ⟨σ.i + 1, σ.e⟩ w' := by
  have CI := paIs_any s hR
  have hi := is_more hR.ok hR.hi hb
  have haw := hR.lt
  rw [hb] at CI
  obtain ⟨b, o, c, h⟩ := hR.out
  have H := hid0 h
  have hlen := h.ok.few
  clear hb hR h
  go_enter Tryz.func17, Tryz.ntmps17
  go_wp2_with (first | (go_at_call 15; refine CI.mono ?_; rintro e w1 ⟨rfl, hb⟩; have h1 := H.out.later (fun k hk => hb.block k (Nat.lt_of_le_of_lt hk haw)); have c1 := h1.c1; have f1 := h1.f1) | fail)
  go_ret
  exact ⟨rfl, ⟨b, o, c, h1.setI (σ.i + 1) (by omega) hi (by have := h1.hd; omega)⟩, (Onl.of_below hb).own _, by simp⟩

set_option maxHeartbeats 1000000 in
theorem paFault_any {w : World} {a : Nat} {l : List Wd} {m : Int} {d : Nat} {σ : PS} (k : Nat) (x : Int) (hR : Rd w a l m d σ) (hk : 0 < k ∧ k < 20 ∧ x = (k : Int)) :
    Calls Tryz.prog 27 #[.pointer (some ⟨a, 0, none⟩), .int .i64 x] w fun e w' => e = .returned (.tuple #[]) ∧ Step w a l m d σ (faultP l k σ) w' := by
  obtain ⟨hk0, hk2, rfl⟩ := hk
  obtain ⟨b, o, c, h⟩ := hR.out
  have hlen := h.ok.few
  have hi := h.hi
  have hd := h.hd
  by_cases h0 : σ.e = 0
  · have e : faultP l k σ = ⟨l.length - 1, k⟩ := by unfold faultP; rw [if_pos h0]
    rw [e]
    have h4 := h.setE k rfl hk2
    have H4 := hid0 h4
    have c4 := h.c4
    have f4 := h.f4
    rw [h0] at c4
    have d0 := h4.c0
    have d1 := h4.c1
    have g1 := h4.f1
    clear h4 h hR h0 e
    go_enter Tryz.func27, Tryz.ntmps27
    go_wp2
    go_end0
    exact ⟨rfl, ⟨b, o, c, H4.out.setI (l.length - 1) (by omega) (by omega) (by omega)⟩, ((Onl.refl _ _).own _).own _, by simp; omega⟩
  · have e : faultP l k σ = ⟨l.length - 1, σ.e⟩ := by unfold faultP; rw [if_neg h0]
    rw [e]
    have H := hid0 h
    have c4 := h.c4
    have c0 := h.c0
    have c1 := h.c1
    have f1 := h.f1
    have h00 : ((σ.e : Int) == 0) = false := by rw [beq_eq_false_iff_ne]; omega
    clear h hR h0 e
    go_enter Tryz.func27, Tryz.ntmps27
    go_wp2
    go_end0
    exact ⟨rfl, ⟨b, o, c, H.out.setI (l.length - 1) (by omega) (by omega) (by omega)⟩, (Onl.refl _ _).own _, by simp; omega⟩

set_option maxRecDepth 100000 in
set_option maxHeartbeats 1000000 in
theorem paEnd_any {w : World} {a : Nat} {l : List Wd} {m : Int} {d : Nat} {σ : PS} (hR : Rd w a l m d σ) :
    Calls Tryz.prog 12 #[.pointer (some ⟨a, 0, none⟩)] w fun e w' => e = .returned (.tuple #[]) ∧ Step w a l m d σ (endP l σ) w' := by
  obtain ⟨⟨k, t, n, p⟩, hx⟩ : ∃ x, wdP l σ = x := ⟨_, rfl⟩
  have CW := paWord_any hR hx
  have HR := hid0 hR
  unfold endP
  rw [hx]
  dsimp only
  clear hx hR
  by_cases h5 : k = 5
  · rw [if_pos h5]
    subst h5
    have fl : ∀ W : World, (Instr.field 64 (.agg #[.int .i64 5, .string (txt t), .int .u64 (n : Int), .int .i64 (p : Int)]) 0).run Tryz.prog W = .ok (.int .i64 5) W := fun W => rfl
    go_enter Tryz.func12, Tryz.ntmps12
    go_wp2_with (first | (go_at_call 28; refine CW.mono ?_; rintro e w1 ⟨rfl, hb⟩) | fail)
    go_end0
    exact ⟨rfl, (Step.refl HR.out).below hb⟩
  · rw [if_neg h5]
    have hk : ((k : Int) != 5) = true := by rw [bne_iff_ne]; omega
    have fl : ∀ W : World, (Instr.field 64 (.agg #[.int .i64 (k : Int), .string (txt t), .int .u64 (n : Int), .int .i64 (p : Int)]) 0).run Tryz.prog W = .ok (.int .i64 (k : Int)) W := fun W => rfl
    clear h5
    go_enter Tryz.func12, Tryz.ntmps12
    go_wp2_with (first
      | (go_at_call 28; refine CW.mono ?_; rintro e w1 ⟨rfl, hb⟩; have hS := (Step.refl HR.out).below hb)
      | (go_at_call 27; refine (paFault_any 4 4 hS.rd (by decide)).mono ?_; rintro e w2 ⟨rfl, hS2⟩)
      | fail)
    go_end0
    exact ⟨rfl, hS.trans hS2⟩

set_option maxHeartbeats 1000000 in
theorem paWithin_any {w : World} {a : Nat} {l : List Wd} {m : Int} {d : Nat} {σ : PS} (n most : Nat) (x : Int) (hR : Rd w a l m d σ) (hx : x = (most : Int)) :
    Calls Tryz.prog 38 #[.pointer (some ⟨a, 0, none⟩), .int .i64 (n : Int), .int .i64 x] w fun e w' => e = .returned (.tuple #[]) ∧ Step w a l m d σ (withinP l n most σ) w' := by
  subst hx
  unfold withinP
  by_cases h : most < n
  · rw [if_pos h]
    have hk : decide (most < n) = true := by simpa using h
    clear h
    go_enter Tryz.func38, Tryz.ntmps38
    go_wp2_with (first
      | (go_at_call 27; refine (paFault_any 3 3 hR (by decide)).mono ?_; rintro e w2 ⟨rfl, hS2⟩)
      | fail)
    go_end0
    exact ⟨rfl, hS2⟩
  · rw [if_neg h]
    have hk : decide (most < n) = false := by simpa using h
    go_enter Tryz.func38, Tryz.ntmps38
    go_wp2
    go_end0
    exact ⟨rfl, Step.refl hR⟩

set_option maxHeartbeats 1000000 in
theorem paDeeper_any {w : World} {a : Nat} {l : List Wd} {m : Int} {d : Nat} {σ : PS} (hR : Rd w a l m d σ) (hd : d < σ.i) :
    Calls Tryz.prog 88 #[.pointer (some ⟨a, 0, none⟩)] w fun e w' => e = .returned (.tuple #[]) ∧ Step w a l m (d + 1) σ (deepP l m d σ) w' := by
  obtain ⟨b, o, c, h⟩ := hR.out
  have hlen := h.ok.few
  have hi := h.hi
  have HR := hid0 hR
  have H := hid0 h
  have hm := h.hm
  have c2 := h.c2
  have c3 := h.c3
  have f2 := h.f2
  unfold deepP
  clear h hR
  by_cases hx : m ≤ (d : Int)
  · rw [if_pos hx]
    have HD := hid0 ((Onl.refl a w).drew)
    go_enter Tryz.func88, Tryz.ntmps88
    go_wp2
    go_region
    go_wp2_with (first
      | (go_at_call 27; refine (paFault_any 19 19 (HR.out.later (Below.drew (Below.refl _ _))) (by decide)).mono ?_; rintro e w2 ⟨rfl, hS2⟩; obtain ⟨b', o', c', h2⟩ := hS2.rd.out; have e2 := h2.c2; have g2 := h2.f2)
      | fail)
    go_end0
    exact ⟨rfl, ⟨b', o', c', h2.setD (d + 1) (by omega) (by have := hS2.le; omega)⟩, (HD.out.trans hS2.onl).own _, hS2.le⟩
  · rw [if_neg hx]
    have HD := hid0 ((Onl.refl a w).drew)
    have H2 := hid0 (H.out.later (w' := w.drew) (fun k _ => rfl))
    go_enter Tryz.func88, Tryz.ntmps88
    go_wp2
    go_region
    go_wp2
    go_end0
    exact ⟨rfl, ⟨b, o, c, H2.out.setD (d + 1) (by omega) (by omega)⟩, HD.out.own _, Nat.le_refl _⟩

set_option maxHeartbeats 1000000 in
theorem paName_any {w : World} {a : Nat} {l : List Wd} {m : Int} {d : Nat} {σ : PS} (hR : Rd w a l m d σ) :
    Calls Tryz.prog 25 #[.pointer (some ⟨a, 0, none⟩)] w fun e w' => e = .returned (.string (txt (nameP l σ).1)) ∧ Step w a l m d σ (nameP l σ).2 w' := by
  obtain ⟨⟨k, t, n, p⟩, hx⟩ : ∃ x, wdP l σ = x := ⟨_, rfl⟩
  have CW := paWord_any hR hx
  have HR := hid0 hR
  have hlen := hR.ok.few
  have htl : t.length ≤ maxLen := by
    have e : wdP l σ = l[σ.i]'hR.hi := by unfold wdP; rw [List.getD_eq_getElem?_getD, List.getElem?_eq_getElem hR.hi]; rfl
    have := hR.ok.len _ (List.getElem_mem hR.hi)
    rw [← e, hx] at this
    exact this
  have CN := fun W => lxIsName_any t W htl
  unfold nameP
  rw [hx]
  dsimp only
  have hmore := fun h => wd_more hR.ok hR.hi (show (wdP l σ).k ≠ 5 from h)
  rw [hx] at hmore
  have HM := hid0 hmore
  clear hx hR hmore
  by_cases h1 : k = 1
  · subst h1
    cases hn : nameB t with
    | true =>
      rw [if_pos ⟨rfl, rfl⟩]
      have hi := HM.out (by simp)
      rw [hn] at CN
      clear hn
      go_enter Tryz.func25, Tryz.ntmps25
      go_wp2_with (first
        | (go_at_call 28; refine CW.mono ?_; rintro e w1 ⟨rfl, hb⟩; have hS := ((Step.refl HR.out).below hb).alloc (Obj.cells #[.int .i64 1, .string (txt t), .int .u64 (n : Int), .int .i64 (p : Int)] 64); obtain ⟨b', o', c', h2⟩ := hS.rd.out; have e1 := h2.c1; have g1 := h2.f1; have hal := h2.ne; have haw := HR.out.lt; have hbs := hb.size)
        | (go_at_call 47; refine (CN _).mono ?_; rintro e w2 ⟨rfl, rfl⟩)
        | fail)
      go_ret
      exact ⟨rfl, ⟨b', o', c', h2.setI (σ.i + 1) (by omega) hi (by have := h2.hd; omega)⟩, hS.onl.own _, by simp⟩
    | false =>
      rw [if_neg (by simp)]
      rw [hn] at CN
      clear hn
      go_enter Tryz.func25, Tryz.ntmps25
      go_wp2_with (first
        | (go_at_call 28; refine CW.mono ?_; rintro e w1 ⟨rfl, hb⟩; have hSS := fun o => ((Step.refl HR.out).below hb).alloc o)
        | (go_at_call 47; refine (CN _).mono ?_; rintro e w2 ⟨rfl, rfl⟩)
        | (go_at_call 27; go_loud (refine (paFault_any 4 4 (hSS _).rd (by decide)).mono ?_; rintro e w2 ⟨rfl, hS2⟩))
        | fail)
      go_ret
      exact ⟨rfl, (hSS _).trans hS2⟩
  · have hk1 : ((k : Int) != 1) = true := by rw [bne_iff_ne]; omega
    rw [if_neg (fun h => h1 h.1)]
    clear h1
    go_enter Tryz.func25, Tryz.ntmps25
    go_wp2_with (first
      | (go_at_call 28; refine CW.mono ?_; rintro e w1 ⟨rfl, hb⟩; have hSS := fun o => ((Step.refl HR.out).below hb).alloc o)
      | (go_at_call 27; refine (paFault_any 4 4 (hSS _).rd (by decide)).mono ?_; rintro e w2 ⟨rfl, hS2⟩)
      | fail)
    go_ret
    exact ⟨rfl, (hSS _).trans hS2⟩
end Go.Proofs.YtneebnankghhgacGreatDoor

/- The project's parser: words that must come, one behind the other; values, columns, operands: contracts of the calls, in whatever memory that holds a reader. Conditions: each names its own. -/
namespace Go.Proofs.YtneebnankghhgacGreatDoor
open Go.RowKit

theorem needP_take {l : List Wd} {ss : List (List UInt8)} {σ : PS} {k : Nat} (h : k < ss.length) : needP l (ss.take (k + 1)) σ = need1 l ss[k] (needP l (ss.take k) σ) := by
  unfold needP
  rw [List.take_succ_eq_append_getElem h, List.foldl_append]; rfl
set_option maxHeartbeats 2000000 in
theorem paNeed_any {w : World} {a : Nat} {l : List Wd} {m : Int} {d : Nat} {σ : PS} (ss : List (List UInt8)) (B n : Nat) (hR : Rd w a l m d σ) (hB : B ≠ a) (hn : n = ss.length) (hlen : ss.length ≤ 100)
    (hss : ∀ i (h : i < ss.length), w.cell? ⟨B, i, none⟩ = some (.string (txt ss[i]))) :
    Calls Tryz.prog 24 #[.pointer (some ⟨a, 0, none⟩), .slice (some ⟨B, 0, none⟩) n n] w fun e w' => e = .returned (.tuple #[]) ∧ Step w a l m d σ (needP l ss σ) w' := by
  subst hn
  have HSS := hid0 hss
  have HR := hid0 hR
  clear hss hR
  go_enter Tryz.func24, Tryz.ntmps24
  go_wp2
  go_loopw [8] (fun kv wr => ∃ (k : Nat) (τ : PS), k ≤ ss.length ∧ kv = .int .i64 k ∧ Hid (needP l (ss.take k) σ = τ) ∧ Step w a l m d σ τ wr) (fun kv _ => ss.length - (intOf kv).toNat)
  case atStart => exact ⟨0, σ, Nat.zero_le _, rfl, hid0 rfl, Step.refl HR.out⟩
  case round =>
    obtain ⟨k, τ, hk, rfl, hE, hS⟩ := hrel
    by_cases hlt : k < ss.length
    · have hkk : decide (k < ss.length) = true := by simpa using hlt
      have hc := hS.onl.cell hB (HSS.out k hlt)
      have hE2 := needP_take (l := l) (σ := σ) hlt
      rw [hE.out] at hE2
      have HE2 := hid0 hE2
      clear hE2 hE
      obtain ⟨s, hs⟩ : ∃ s, ss[k] = s := ⟨_, rfl⟩
      rw [hs] at hc HE2
      have hlt' : (k : Int) < (ss.length : Int) := by omega
      clear hs
      cases hb : isP l s τ with
      | true =>
        have CT := paTake_yes s hS.rd hb
        have HN := hid0 (show need1 l s τ = ⟨τ.i + 1, τ.e⟩ by unfold need1; rw [if_pos hb])
        clear hb
        go_wp2_with (first | (go_at_call 17; refine CT.mono ?_; rintro e w1 ⟨rfl, hS1⟩) | fail)
        go_roundw
        case rel => exact ⟨k + 1, _, by omega, by go_num, hid0 (HE2.out.trans HN.out), hS.trans hS1⟩
        case measure => simp [intOf]; omega
      | false =>
        have CT := paTake_no s hS.rd hb
        have HN := hid0 (show need1 l s τ = faultP l 4 τ by unfold need1; rw [if_neg (by simp [hb])])
        clear hb
        go_wp2_with (first
          | (go_at_call 17; refine CT.mono ?_; rintro e w1 ⟨rfl, hS1⟩)
          | (go_at_call 27; refine (paFault_any 4 4 hS1.rd (by decide)).mono ?_; rintro e w2 ⟨rfl, hS2⟩)
          | fail)
        go_roundw
        case rel => exact ⟨k + 1, _, by omega, by go_num, hid0 (HE2.out.trans HN.out), (hS.trans hS1).trans hS2⟩
        case measure => simp [intOf]; omega
    · obtain rfl : k = ss.length := by omega
      have hE2 := hE.out
      rw [List.take_length] at hE2
      have HE2 := hid0 hE2
      clear hE2 hE hlt
      go_wp2
      go_end0
      exact ⟨rfl, by rw [HE2.out]; exact hS⟩
/-- One word that must come, behind the row of it that the call builds. -/
theorem paNeed1 {w : World} {a : Nat} {l : List Wd} {m : Int} {d : Nat} {σ : PS} (s : List UInt8) (ty : TypeId) (hR : Rd w a l m d σ) :
    Calls Tryz.prog 24 #[.pointer (some ⟨a, 0, none⟩), .slice (some ⟨w.heap.size, 0, none⟩) 1 1] (w.alloc (.cells #[.string (txt s)] ty)) fun e w' => e = .returned (.tuple #[]) ∧ Step w a l m d σ (need1 l s σ) w' := by
  have ha := hR.lt
  refine (paNeed_any [s] w.heap.size 1 ((Step.refl hR).alloc _).rd (by omega) rfl (by simp) (fun i hi => ?_)).mono fun e w' ⟨he, hS⟩ => ⟨he, ((Step.refl hR).alloc _).trans hS⟩
  obtain rfl : i = 0 := by simpa using hi
  go_cell
theorem paNeed2 {w : World} {a : Nat} {l : List Wd} {m : Int} {d : Nat} {σ : PS} (s t : List UInt8) (ty : TypeId) (hR : Rd w a l m d σ) :
    Calls Tryz.prog 24 #[.pointer (some ⟨a, 0, none⟩), .slice (some ⟨w.heap.size, 0, none⟩) 2 2] (w.alloc (.cells #[.string (txt s), .string (txt t)] ty)) fun e w' => e = .returned (.tuple #[]) ∧ Step w a l m d σ (need1 l t (need1 l s σ)) w' := by
  have ha := hR.lt
  refine (paNeed_any [s, t] w.heap.size 2 ((Step.refl hR).alloc _).rd (by omega) rfl (by simp) (fun i hi => ?_)).mono fun e w' ⟨he, hS⟩ => ⟨he, ((Step.refl hR).alloc _).trans hS⟩
  match i, hi with
  | 0, _ => go_cell
  | 1, _ => go_cell
end Go.Proofs.YtneebnankghhgacGreatDoor

/- What a call of the parser lays: a variable's or result's block, whole structs stored and loaded; what a call answers with a struct. Conditions: each names its own. -/
namespace Go.Proofs.YtneebnankghhgacGreatDoor
open Go.RowKit

theorem heap_setCells (b : Nat) : ∀ (vs : List Value) (o : Nat) (w : World) (k : Nat), k ≠ b → (w.setCells b o vs).heap[k]? = w.heap[k]?
  | [], _, _, _, _ => rfl
  | v :: r, o, w, k, h => by
    rw [World.setCells, heap_setCells b r _ _ k h]
    exact Below.heap_setCell w ⟨b, o, none⟩ v k h
theorem size_setCells (b : Nat) : ∀ (vs : List Value) (o : Nat) (w : World), (w.setCells b o vs).heap.size = w.heap.size
  | [], _, _ => rfl
  | v :: r, o, w => by rw [World.setCells, size_setCells b r]; simp
theorem grown_setCells (b : Nat) : ∀ (vs : List Value) (o : Nat) (w : World), w.grownBy (w.setCells b o vs) (some b)
  | [], _, w => Onl.refl b w
  | v :: r, o, w => by
    rw [World.setCells]
    exact ((Onl.refl b w).own v).trans (grown_setCells b r (o + 1) _)
theorem Onl.puts {a b : Nat} {x y : World} (h : Onl a x y) (o : Nat) (vs : List Value) (hb : x.heap.size ≤ b) : Onl a x (y.setCells b o vs) :=
  h.grown (grown_setCells b vs o y) (fun k hk => by cases hk; exact hb)
theorem Step.puts {w w1 : World} {a b : Nat} {l : List Wd} {m : Int} {d : Nat} {σ σ1 : PS} (h : Step w a l m d σ σ1 w1) (o : Nat) (vs : List Value) (hb : w.heap.size ≤ b) (ha : a < w.heap.size) : Step w a l m d σ σ1 (w1.setCells b o vs) :=
  ⟨h.rd.above ⟨(grown_setCells b vs o w1).os, (grown_setCells b vs o w1).tape, (grown_setCells b vs o w1).output, (grown_setCells b vs o w1).size, fun k hk => heap_setCells b vs o w1 k (by omega)⟩, h.onl.puts o vs hb, h.le⟩
theorem Step.set {w w1 : World} {a b o : Nat} {l : List Wd} {m : Int} {d : Nat} {σ σ1 : PS} (h : Step w a l m d σ σ1 w1) (u : Value) (hb : w.heap.size ≤ b) (ha : a < w.heap.size) : Step w a l m d σ σ1 (w1.setCell ⟨b, o, none⟩ u) := h.puts o [u] hb ha
theorem Step.drew {w w1 : World} {a : Nat} {l : List Wd} {m : Int} {d : Nat} {σ σ1 : PS} (h : Step w a l m d σ σ1 w1) : Step w a l m d σ σ1 w1.drew := h.below (Below.drew (Below.refl _ _))
theorem LsAt.puts {w : World} {n B o : Nat} {xs : List Lf} {us vs : List Value} (h : LsAt w (fr n) xs us) (hB : B < n) : LsAt (w.setCells B o vs) (fr n) xs us :=
  h.keep (fun b (hb : n ≤ b) _ => ⟨hb, heap_setCells B vs o w b (by omega)⟩) (Nat.le_of_eq (size_setCells B vs o w).symm)
theorem LsAt.lower {w : World} {n k : Nat} {xs : List Lf} {us : List Value} (h : LsAt w (fr n) xs us) (hk : k ≤ n) : LsAt w (fr k) xs us := h.keep (fun b (hb : n ≤ b) _ => ⟨show k ≤ b by omega, rfl⟩) (Nat.le_refl _)
theorem LsAt.alloc {w : World} {n : Nat} {xs : List Lf} {us : List Value} (h : LsAt w (fr n) xs us) (o : Obj) : LsAt (w.alloc o) (fr n) xs us := h.keep (fun b hb hlt => ⟨hb, Below.heap_alloc w o b hlt⟩) (by simp)
theorem LsAt.drew {w : World} {P : Nat → Prop} {xs : List Lf} {us : List Value} (h : LsAt w P xs us) : LsAt w.drew P xs us := h.keep (fun _ hb _ => ⟨hb, rfl⟩) (Nat.le_refl _)

/-- A struct's block: what lies in it, and that it may be written. -/
structure VarB (w : World) (B : Nat) (us : List Value) : Prop where
  at_ : w.rangeAt B 0 us
  there : w.there B 0 us.length
  lt : B < w.heap.size
theorem VarB.new (w : World) (us : List Value) (ty : TypeId) : VarB (w.alloc (.cells us.toArray ty)) w.heap.size us := by
  have hc : ∀ j, (w.alloc (.cells us.toArray ty)).cell? ⟨w.heap.size, 0 + j, none⟩ = us[j]? := fun j => by
    rw [cell_of_row _ _ _ us.toArray ty (0, 0) (heap_alloc_new w _)]; simp
  refine ⟨fun j v hv => (hc j).trans hv, fun j hj => ⟨by rw [hc j, List.getElem?_eq_getElem hj]; rfl, World.frozen?_alloc_at _ _ _ _ rfl⟩, by simp⟩
theorem VarB.keep {w w' : World} {B : Nat} {us : List Value} (h : VarB w B us) (hb : w'.heap[B]? = w.heap[B]?) (hs : w.heap.size ≤ w'.heap.size) : VarB w' B us :=
  ⟨fun j v hv => (World.cell?_of_block (a := ⟨B, 0 + j, none⟩) hb).trans (h.at_ j v hv), fun j hj => ⟨by rw [World.cell?_of_block (a := ⟨B, 0 + j, none⟩) hb]; exact (h.there j hj).1, (World.frozen?_of_block (a := ⟨B, 0 + j, none⟩) hb).trans (h.there j hj).2⟩, Nat.lt_of_lt_of_le h.lt hs⟩
theorem VarB.later {a : Nat} {w w' : World} {B : Nat} {us : List Value} (h : VarB w B us) (ho : Onl a w w') (hB : a < B) : VarB w' B us := h.keep (ho.block B h.lt (by simp; omega)) ho.size
theorem VarB.alloc {w : World} {B : Nat} {us : List Value} (h : VarB w B us) (o : Obj) : VarB (w.alloc o) B us := h.keep (Below.heap_alloc w o B h.lt) (by simp)
theorem VarB.drew {w : World} {B : Nat} {us : List Value} (h : VarB w B us) : VarB w.drew B us := h.keep rfl (Nat.le_refl _)
theorem VarB.puts {w : World} {B : Nat} {us : List Value} (h : VarB w B us) (vs : List Value) (hl : vs.length = us.length) : VarB (w.setCells B 0 vs) B vs :=
  ⟨World.rangeAt_setCells_same w B 0 vs (by rw [hl]; exact h.there), World.there_setCells (by rw [hl]; exact h.there) B 0 vs, by rw [size_setCells]; exact h.lt⟩
theorem VarB.other {w : World} {B b o : Nat} {us : List Value} (h : VarB w B us) (vs : List Value) (hb : B ≠ b) : VarB (w.setCells b o vs) B us := h.keep (heap_setCells b vs o w B hb) (Nat.le_of_eq (size_setCells b vs o w).symm)
theorem VarB.set {w : World} {B i : Nat} {us : List Value} (h : VarB w B us) (u : Value) (hi : i < us.length) : VarB (w.setCell ⟨B, i, none⟩ u) B (us.set i u) := by
  refine ⟨fun j v hv => ?_, fun j hj => ⟨?_, ?_⟩, by simpa using h.lt⟩
  · rw [List.getElem?_set] at hv
    by_cases e : i = j
    · subst e
      simp [hi] at hv
      subst hv
      rw [Nat.zero_add]
      obtain ⟨u0, hu0⟩ := Option.isSome_iff_exists.1 (h.there i hi).1
      rw [Nat.zero_add] at hu0
      exact World.cell?_setCell_same _ _ _ hu0
    · rw [if_neg e] at hv
      rw [World.cell?_setCell_other _ _ _ _ (by simp)]
      exact h.at_ j v hv
  · exact World.isSome_setCells B [u] i w _ (h.there j (by simpa using hj)).1
  · rw [World.frozen?_setCell]; exact (h.there j (by simpa using hj)).2
theorem VarB.cell {w : World} {B : Nat} {us : List Value} (h : VarB w B us) (i : Nat) {u : Value} (hu : us[i]? = some u) : w.cell? ⟨B, i, none⟩ = some u := by
  have := h.at_ i u hu
  rwa [Nat.zero_add] at this
theorem VarB.frz {w : World} {B : Nat} {us : List Value} (h : VarB w B us) (i : Nat) (hi : i < us.length) : w.frozen? ⟨B, i, none⟩ = false := by
  have := (h.there i hi).2
  rwa [Nat.zero_add] at this

/-- A whole struct goes into its block. -/
theorem wp_putB {P : Program} {ops : Array Oper} {rest : List Oper} {a : Act} {w : World} {Q : Exit → Act → World → Prop} {B : Nat} {us vs : List Value} {R : Nat → Prop} {xs : List Lf} {ty tt : TypeId} {x y : Operand} {pos : String} {af : Array Edge} (hV : VarB w B us) (hL : LsAt w R xs vs) (hl : vs.length = us.length)
    (hi : (P.info? ty).map (·.size) = some us.length) (hx : a.eval x = .pointer (some ⟨B, 0, none⟩)) (hy : a.eval y = .agg vs.toArray)
    (h : ∀ w', VarB w' B vs → Hid (w' = w.setCells B 0 vs) → wpList P ops Q rest (a.put none undef) w') : wpList P ops Q (⟨none, .store ty x y, tt, pos, af, none⟩ :: rest) a w :=
  wpList_store_mid rfl ty x y rfl B 0 vs.toArray hx hy (by simpa [hl] using hV.there) (by simpa [hl] using hi) (all_oneCell_toArray hL.one) (h _ (hV.puts vs hl) (hid0 rfl))
/-- A whole struct is read. -/
theorem wp_getB {P : Program} {ops : Array Oper} {rest : List Oper} {a : Act} {w : World} {Q : Exit → Act → World → Prop} {B : Nat} {us : List Value} {dst : Option Nat} {ty tt : TypeId} {x : Operand} {pos : String} {af : Array Edge} (hV : VarB w B us) {d : TypeDesc} (hu : P.underlying ty = some d) (hd : d.isRow = true) (hi : (P.info? ty).map (·.size) = some us.length)
    (hx : a.eval x = .pointer (some ⟨B, 0, none⟩)) (h : wpList P ops Q rest (a.put dst (.agg us.toArray)) w) : wpList P ops Q (⟨dst, .load ty x, tt, pos, af, none⟩ :: rest) a w :=
  wpList_load_mid rfl ty x rfl B 0 hx us d hV.at_ hu hd hi h
/-- So the walk takes a whole struct's store, and its load. -/
theorem VarB.st {P : Program} {w : World} {B : Nat} {us : List Value} (hV : VarB w B us) (ty : TypeId) {Q : Nat → Prop} {xs : List Lf} {vs : List Value} (hL : LsAt w Q xs vs) (hl : vs.length = us.length) (hi : (P.info? ty).map (·.size) = some us.length) :
    (Instr.storeAt ty (.pointer (some ⟨B, 0, none⟩)) (.agg vs.toArray)).run P w = .ok () (w.setCells B 0 vs) :=
  run_storeAt_mid w B 0 ty vs.toArray (by simpa [hl] using hV.there) (by simpa [hl] using hi) (all_oneCell_toArray hL.one)
theorem VarB.ld {P : Program} {w : World} {B : Nat} {us : List Value} (hV : VarB w B us) (ty : TypeId) (d : TypeDesc) (hu : P.underlying ty = some d) (hd : d.isRow = true) (hi : (P.info? ty).map (·.size) = some us.length) :
    (Instr.loadAt ty (.pointer (some ⟨B, 0, none⟩))).run P w = .ok (.agg us.toArray) w :=
  run_loadAt_mid w B 0 ty us d hV.at_ hu hd hi
/-- A call ends whose result lies in a block of its own. -/
theorem end_blk {P : Program} {f : Func} {Q : Ending → World → Prop} {a : Act} {w : World} {B t : Nat} {ty : TypeId} {us : List Value} (hV : VarB w B us) (hf : f.results = #[.cell t ty]) (ht : a.tmps.getD t undef = .pointer (some ⟨B, 0, none⟩)) (d : TypeDesc) (hu : P.underlying ty = some d) (hd : d.isRow = true) (hi : (P.info? ty).map (·.size) = some us.length)
    (hde : a.defers = []) (hQ : Q (.returned (.agg us.toArray)) w) : bodyPost P f Q .ret a w := by
  refine bodyPost_ret (v := .agg us.toArray) ?_ hde hQ
  have hl := run_loadVar_mid (P := P) w B 0 ty us d hV.at_ hu hd hi
  have ht2 : a.tmps[t]?.getD undef = .pointer (some ⟨B, 0, none⟩) := by simpa using ht
  simp [results, hf, ht2, asAddr, hl]

/-- What a call answers that tells a struct of k leaves. -/
def Ans (w : World) (a : Nat) (l : List Wd) (m : Int) (d : Nat) (σ : PS) (k : Nat) (xs : List Lf) (σ' : PS) (e : Ending) (w' : World) : Prop :=
  ∃ us, us.length = k ∧ e = .returned (.agg us.toArray) ∧ LsAt w' (fr w.heap.size) xs us ∧ Step w a l m d σ σ' w'
theorem len3 {us : List Value} (h : us.length = 3) : ∃ u0 u1 u2, us = [u0, u1, u2] := by
  match us, h with
  | [u0, u1, u2], _ => exact ⟨_, _, _, rfl⟩
theorem len7 {us : List Value} (h : us.length = 7) : ∃ u0 u1 u2 u3 u4 u5 u6, us = [u0, u1, u2, u3, u4, u5, u6] := by
  match us, h with
  | [u0, u1, u2, u3, u4, u5, u6], _ => exact ⟨_, _, _, _, _, _, _, rfl⟩
theorem LfAt.lit (w : World) (P : Nat → Prop) {n : Nat} {x : Int} (hx : x = (n : Int)) : LfAt w P (iL n) (.int .i64 x) := by subst hx; exact .i w P n
theorem LfAt.str (w : World) (P : Nat → Prop) (l : List UInt8) {s : ByteArray} (hs : s = txt l) : LfAt w P (sL l) (.string s) := by subst hs; exact .t w P l
theorem LsAt.zV (w : World) (P : Nat → Prop) : LsAt w P zV [.int .i64 0, .int .i64 0, .string ⟨#[]⟩] := .cons (.lit _ _ rfl) (.cons (.lit _ _ rfl) (.cons (.str _ _ [] rfl) (.nil _ _)))
theorem LsAt.ex {w : World} {P : Nat → Prop} {k : Nat} {x : Int} {t n : List UInt8} {s1 s2 : ByteArray} {v : List Lf} {args : Lf} {u3 u4 u5 u6 : Value} (hx : x = (k : Int)) (h1 : s1 = txt t) (h2 : s2 = txt n) (hv : LsAt w P v [u3, u4, u5]) (ha : LfAt w P args u6) :
    LsAt w P (exL k t n v args) [.int .i64 x, .string s1, .string s2, u3, u4, u5, u6] := .cons (.lit _ _ hx) (.cons (.str _ _ _ h1) (.cons (.str _ _ _ h2) (hv.app (.cons ha (.nil _ _)))))
theorem LsAt.zE (w : World) (P : Nat → Prop) : LsAt w P zE [.int .i64 0, .string ⟨#[]⟩, .string ⟨#[]⟩, .int .i64 0, .int .i64 0, .string ⟨#[]⟩, .slice none 0 0] := .ex rfl rfl rfl (.zV _ _) (.nil _ _)
theorem LsAt.co {w : World} {P : Nat → Prop} {k op : Nat} {x y : Int} {a b : List Lf} {args : Lf} {us vs : List Value} {u : Value} (hx : x = (k : Int)) (hy : y = (op : Int)) (h1 : LsAt w P a us) (h2 : LsAt w P b vs) (ha : LfAt w P args u) :
    LsAt w P (coL k op a b args) (.int .i64 x :: .int .i64 y :: (us ++ vs ++ [u])) := .cons (.lit _ _ hx) (.cons (.lit _ _ hy) ((h1.app h2).app (.cons ha (.nil _ _))))
theorem paName_at {w : World} {a : Nat} {l : List Wd} {m : Int} {d : Nat} {σ σ' : PS} {s : List UInt8} (h : Hid (nameP l σ = (s, σ'))) (hR : Rd w a l m d σ) :
    Calls Tryz.prog 25 #[.pointer (some ⟨a, 0, none⟩)] w fun e w' => e = .returned (.string (txt s)) ∧ Step w a l m d σ σ' w' := by
  have := paName_any hR
  rw [h.out] at this
  exact this
/-- In a call whose result lies in the block behind w: how far it is. -/
structure Env (w : World) (a : Nat) (l : List Wd) (m : Int) (d : Nat) (σ σ' : PS) (us : List Value) (w' : World) : Prop where
  st : Step w a l m d σ σ' w'
  res : VarB w' w.heap.size us
  z : w.heap.size + 1 ≤ w'.heap.size
  lt : a < w.heap.size
theorem Rd.start {w : World} {a : Nat} {l : List Wd} {m : Int} {d : Nat} {σ : PS} (h : Rd w a l m d σ) (us : List Value) (ty : TypeId) : Env w a l m d σ σ us (w.alloc (.cells us.toArray ty)) := ⟨(Step.refl h).alloc _, VarB.new w us ty, by simp, h.lt⟩
section
variable {w w1 w2 : World} {a : Nat} {l : List Wd} {m : Int} {d d' : Nat} {σ σ1 σ2 : PS} {us vs : List Value} {xs : List Lf}
theorem Env.step (E : Env w a l m d σ σ1 us w1) (h : Step w1 a l m d' σ1 σ2 w2) : Env w a l m d' σ σ2 us w2 := ⟨E.st.trans h, E.res.later h.onl E.lt, Nat.le_trans E.z h.onl.size, E.lt⟩
theorem Env.alloc (E : Env w a l m d σ σ1 us w1) (o : Obj) : Env w a l m d σ σ1 us (w1.alloc o) := ⟨E.st.alloc o, E.res.alloc o, by have := E.z; simp; omega, E.lt⟩
theorem Env.drew (E : Env w a l m d σ σ1 us w1) : Env w a l m d σ σ1 us w1.drew := ⟨E.st.drew, E.res.drew, E.z, E.lt⟩
theorem Env.rd (E : Env w a l m d σ σ1 us w1) : Rd w1 a l m d σ1 := E.st.rd
theorem Env.puts (E : Env w a l m d σ σ1 us w1) {B : Nat} (o : Nat) (vs : List Value) (hB : w.heap.size < B) : Env w a l m d σ σ1 us (w1.setCells B o vs) := ⟨E.st.puts o vs (Nat.le_of_lt hB) E.lt, E.res.other vs (by omega), by rw [size_setCells]; exact E.z, E.lt⟩
theorem Env.set (E : Env w a l m d σ σ1 us w1) {B : Nat} (o : Nat) (u : Value) (hB : w.heap.size < B) : Env w a l m d σ σ1 us (w1.setCell ⟨B, o, none⟩ u) := E.puts o [u] hB
/-- Leaves that a call told. -/
theorem Env.leaf (E : Env w a l m d σ σ1 us w1) (h : LsAt w2 (fr w1.heap.size) xs vs) : LsAt w2 (fr (w.heap.size + 1)) xs vs := h.lower E.z
theorem Env.keep (E : Env w a l m d σ σ1 us w1) (h : LsAt w1 (fr (w.heap.size + 1)) xs vs) (hS : Step w1 a l m d' σ1 σ2 w2) : LsAt w2 (fr (w.heap.size + 1)) xs vs := h.later hS.onl (Nat.lt_succ_of_lt E.lt) (Nat.le_refl _)
theorem Env.fin (E : Env w a l m d σ σ1 us w1) (hL : LsAt w1 (fr (w.heap.size + 1)) xs vs) {k : Nat} (hl : vs.length = k) (h2 : w2 = w1.setCells w.heap.size 0 vs) : Ans w a l m d σ k xs σ1 (.returned (.agg vs.toArray)) w2 := by
  subst h2
  exact ⟨vs, hl, rfl, (hL.puts (Nat.lt_succ_self _)).lower (Nat.le_succ _), E.st.puts 0 vs (Nat.le_refl _) E.lt⟩
end
end Go.Proofs.YtneebnankghhgacGreatDoor

/- The project's parser: a column, a text, a number, a value: contracts of the calls, in whatever memory that holds a reader. Conditions: each names its own. -/
namespace Go.Proofs.YtneebnankghhgacGreatDoor
open Go.RowKit

def zVv : List Value := [.int .i64 0, .int .i64 0, .string ⟨#[]⟩]
theorem infoV : (Tryz.prog.info? 28).map (·.size) = some zVv.length := by kernel_rfl
def zEv : List Value := [.int .i64 0, .string ⟨#[]⟩, .string ⟨#[]⟩, .int .i64 0, .int .i64 0, .string ⟨#[]⟩, .slice none 0 0]
theorem infoE : (Tryz.prog.info? 39).map (·.size) = some zEv.length := by kernel_rfl
def zCv : List Value := [.int .i64 0, .int .i64 0, .int .i64 0, .string ⟨#[]⟩, .string ⟨#[]⟩, .int .i64 0, .int .i64 0, .string ⟨#[]⟩, .slice none 0 0, .int .i64 0, .string ⟨#[]⟩, .string ⟨#[]⟩, .int .i64 0, .int .i64 0, .string ⟨#[]⟩, .slice none 0 0, .slice none 0 0]
theorem infoC : (Tryz.prog.info? 42).map (·.size) = some zCv.length := by kernel_rfl
def zIv : List Value := [.int .i64 0, .int .i64 0, .string ⟨#[]⟩, .string ⟨#[]⟩, .int .i64 0, .int .i64 0, .string ⟨#[]⟩, .slice none 0 0, .string ⟨#[]⟩]
theorem infoI : (Tryz.prog.info? 95).map (·.size) = some zIv.length := by kernel_rfl
def zSov : List Value := [.string ⟨#[]⟩, .string ⟨#[]⟩]
theorem infoSo : (Tryz.prog.info? 99).map (·.size) = some zSov.length := by kernel_rfl
def zSelv : List Value := [.bool false, .slice none 0 0, .slice none 0 0, .int .i64 0, .int .i64 0, .int .i64 0, .string ⟨#[]⟩, .string ⟨#[]⟩, .int .i64 0, .int .i64 0, .string ⟨#[]⟩, .slice none 0 0, .int .i64 0, .string ⟨#[]⟩, .string ⟨#[]⟩, .int .i64 0, .int .i64 0, .string ⟨#[]⟩, .slice none 0 0, .slice none 0 0, .slice none 0 0]
theorem infoSel : (Tryz.prog.info? 52).map (·.size) = some zSelv.length := by kernel_rfl
def zStv : List Value := [.int .i64 0, .string ⟨#[]⟩, .slice none 0 0, .slice none 0 0, .slice none 0 0, .int .i64 0, .slice none 0 0, .slice none 0 0, .int .i64 0, .int .i64 0, .int .i64 0, .string ⟨#[]⟩, .string ⟨#[]⟩, .int .i64 0, .int .i64 0, .string ⟨#[]⟩, .slice none 0 0, .int .i64 0, .string ⟨#[]⟩, .string ⟨#[]⟩, .int .i64 0, .int .i64 0, .string ⟨#[]⟩, .slice none 0 0, .slice none 0 0, .int .i64 0]
theorem infoSt : (Tryz.prog.info? 44).map (·.size) = some zStv.length := by kernel_rfl
def zColv : List Value := [.string ⟨#[]⟩, .int .i64 0, .bool false]
theorem infoCol : (Tryz.prog.info? 105).map (·.size) = some zColv.length := by kernel_rfl
def zSetv : List Value := [.string ⟨#[]⟩, .int .i64 0, .string ⟨#[]⟩, .string ⟨#[]⟩, .int .i64 0, .int .i64 0, .string ⟨#[]⟩, .slice none 0 0]
theorem infoSet : (Tryz.prog.info? 84).map (·.size) = some zSetv.length := by kernel_rfl
theorem paNeed1_at {w : World} {a : Nat} {l : List Wd} {m : Int} {d : Nat} {σ σ' : PS} {s : List UInt8} (h : Hid (need1 l s σ = σ')) (ty : TypeId) (hR : Rd w a l m d σ) :
    Calls Tryz.prog 24 #[.pointer (some ⟨a, 0, none⟩), .slice (some ⟨w.heap.size, 0, none⟩) 1 1] (w.alloc (.cells #[.string (txt s)] ty)) fun e w' => e = .returned (.tuple #[]) ∧ Step w a l m d σ σ' w' := by
  have := paNeed1 s ty hR
  rw [h.out] at this
  exact this
theorem paIs_at {w : World} {a : Nat} {l : List Wd} {m : Int} {d : Nat} {σ : PS} {s : List UInt8} {b : Bool} (h : Hid (isP l s σ = b)) (hR : Rd w a l m d σ) :
    Calls Tryz.prog 15 #[.pointer (some ⟨a, 0, none⟩), .string (txt s)] w fun e w' => e = .returned (.bool b) ∧ Step w a l m d σ σ w' := by
  have := paIs_any s hR
  rw [h.out] at this
  exact this.mono fun e w' ⟨he, hb⟩ => ⟨he, (Step.refl hR).below hb⟩
theorem Ans.at_ {P : Program} {f : Nat} {args : Array Value} {w : World} {a : Nat} {l : List Wd} {m : Int} {d k : Nat} {σ σ' : PS} {x : List Lf} {r : List Lf × PS} (h : Hid (r = (x, σ'))) (hC : Calls P f args w (Ans w a l m d σ k r.1 r.2)) : Calls P f args w (Ans w a l m d σ k x σ') := by
  have := h.out
  subst this
  exact hC
set_option maxRecDepth 100000 in
set_option maxHeartbeats 2000000 in
theorem paColumn_any {w : World} {a : Nat} {l : List Wd} {m : Int} {d : Nat} {σ : PS} (hR : Rd w a l m d σ) :
    Calls Tryz.prog 57 #[.pointer (some ⟨a, 0, none⟩)] w (Ans w a l m d σ 7 (columnP l σ).1 (columnP l σ).2) := by
  have E0 := hR.start zEv 39
  obtain ⟨⟨x, τ⟩, hM⟩ : ∃ y, columnP l σ = y := ⟨_, rfl⟩
  rw [hM]
  dsimp only
  replace hM := hid0 hM
  go_enter Tryz.func57, Tryz.ntmps57
  obtain ⟨⟨s, σ1⟩, h1⟩ : ∃ x, nameP l σ = x := ⟨_, rfl⟩
  replace h1 := hid0 h1
  go_wp2_with fail
  go_at_call 25
  refine (paName_at h1 E0.rd).mono ?_
  rintro e w1 ⟨rfl, hS⟩
  have E1 := E0.step hS
  clear hS
  rcases Bool.eq_false_or_eq_true (isP l [46] σ1) with h2 | h2
  · replace h2 := hid0 h2
    go_wp2_with fail
    go_at_call 17
    refine (paTake_yes [46] E1.rd h2.out).mono ?_
    rintro e w2 ⟨rfl, hS⟩
    have E2 := E1.step hS
    clear hS
    obtain ⟨⟨t, σ3⟩, h3⟩ : ∃ x, nameP l (⟨σ1.i + 1, σ1.e⟩ : PS) = x := ⟨_, rfl⟩
    replace h3 := hid0 h3
    go_wp2_with fail
    go_at_call 25
    refine (paName_at h3 E2.rd).mono ?_
    rintro e w3 ⟨rfl, hS⟩
    have E3 := E2.step hS
    clear hS
    have hL : LsAt w3 (fr (w.heap.size + 1)) (exL 1 s t zV nL) [.int .i64 1, .string (txt s), .string (txt t), .int .i64 0, .int .i64 0, .string ⟨#[]⟩, .slice none 0 0] := .ex rfl rfl rfl (.zV _ _) (.nil _ _)
    go_wp2_with (first | ((with_reducible refine wp_putB E3.res hL ?_ infoE ?_ ?_ ?_); (rfl); (rfl); (rfl); intro w0 hV0 hw0) | fail)
    have hE : columnP l σ = (exL 1 s t zV nL, σ3) := by simp only [columnP, h1.out, h2.out, h3.out, if_true]
    cases hM.out.symm.trans hE
    exact end_blk hV0 rfl rfl _ Tryz.underlying39 rfl infoE rfl (E3.fin hL rfl hw0.out)
  · replace h2 := hid0 h2
    go_wp2_with fail
    go_at_call 17
    refine (paTake_no [46] E1.rd h2.out).mono ?_
    rintro e w2 ⟨rfl, hS⟩
    have E2 := E1.step hS
    clear hS
    have hL : LsAt w2 (fr (w.heap.size + 1)) (exL 1 [] s zV nL) [.int .i64 1, .string ⟨#[]⟩, .string (txt s), .int .i64 0, .int .i64 0, .string ⟨#[]⟩, .slice none 0 0] := .ex rfl rfl rfl (.zV _ _) (.nil _ _)
    go_wp2_with (first | ((with_reducible refine wp_putB E2.res hL ?_ infoE ?_ ?_ ?_); (rfl); (rfl); (rfl); intro w0 hV0 hw0) | fail)
    have hE : columnP l σ = (exL 1 [] s zV nL, σ1) := by simp only [columnP, h1.out, h2.out, Bool.false_eq_true, if_false]
    cases hM.out.symm.trans hE
    exact end_blk hV0 rfl rfl _ Tryz.underlying39 rfl infoE rfl (E2.fin hL rfl hw0.out)

/-- The word that comes, behind a call that told it. -/
theorem Step.more {w w1 : World} {a : Nat} {l : List Wd} {m : Int} {d : Nat} {σ σ1 : PS} (h : Step w a l m d σ σ1 w1) (hi : σ1.i + 1 < l.length) {x : Int} (hx : x = (σ1.i : Int) + 1) : Step w a l m d σ ⟨σ1.i + 1, σ1.e⟩ (w1.setCell ⟨a, 1, none⟩ (.int .i64 x)) := by
  obtain ⟨b, o, c, h1⟩ := h.rd.out
  exact ⟨⟨b, o, c, h1.setI (σ1.i + 1) (by omega) hi (by have := h1.hd; omega)⟩, h.onl.own _, by have := h.le; simp; omega⟩
theorem Env.more {w w1 : World} {a : Nat} {l : List Wd} {m : Int} {d : Nat} {σ σ1 : PS} {us : List Value} (E : Env w a l m d σ σ1 us w1) (hi : σ1.i + 1 < l.length) {x : Int} (hx : x = (σ1.i : Int) + 1) : Env w a l m d σ ⟨σ1.i + 1, σ1.e⟩ us (w1.setCell ⟨a, 1, none⟩ (.int .i64 x)) :=
  ⟨E.st.more hi hx, E.res.other (b := a) (o := 1) [.int .i64 x] (by have := E.lt; omega), by simpa using E.z, E.lt⟩
theorem LsAt.txV (w : World) (P : Nat → Prop) (t : List UInt8) : LsAt w P [iL 3, iL 0, sL t] [.int .i64 3, .int .i64 0, .string (txt t)] := .cons (.lit _ _ rfl) (.cons (.lit _ _ rfl) (.cons (.str _ _ _ rfl) (.nil _ _)))
theorem LsAt.inV (w : World) (P : Nat → Prop) (n : Int) : LsAt w P [iL 1, .v (.int .i64 n), sL []] [.int .i64 1, .int .i64 n, .string ⟨#[]⟩] := .cons (.lit _ _ rfl) (.cons (.v _ rfl) (.cons (.str _ _ [] rfl) (.nil _ _)))
theorem negc (n : Nat) (h : n ≤ 9223372036854775808) : wrap64 (IntKind.u64.wrap (-(n : Int))) = -(n : Int) := by
  have e : IntKind.u64.wrap (-(n : Int)) = (-(n : Int)) % 18446744073709551616 := by simp [IntKind.wrap, IntKind.signed, IntKind.bits]
  rw [e]
  unfold wrap64
  omega
theorem LsAt.ngV (w : World) (P : Nat → Prop) (n : Nat) (h : n ≤ 9223372036854775808) {x : Int} (hx : x = wrap64 (IntKind.u64.wrap (-(n : Int)))) : LsAt w P [iL 1, .v (.int .i64 (-(n : Int))), sL []] [.int .i64 1, .int .i64 x, .string ⟨#[]⟩] := by
  rw [hx, negc n h]; exact LsAt.inV w P (-(n : Int))
/-- What the walk wants of the reader to go past a word. -/
theorem Rd.cells {w : World} {a : Nat} {l : List Wd} {m : Int} {d : Nat} {σ : PS} (h : Rd w a l m d σ) : w.cell? ⟨a, 1, none⟩ = some (.int .i64 (σ.i : Nat)) ∧ w.frozen? ⟨a, 1, none⟩ = false ∧ w.cell? ⟨a, 2, none⟩ = some (.int .i64 (d : Nat)) ∧ w.frozen? ⟨a, 2, none⟩ = false ∧ (σ.i : Int) ≤ 513 ∧ d ≤ σ.i := by
  obtain ⟨b, o, c, h1⟩ := h.out
  exact ⟨h1.c1, h1.f1, h1.c2, h1.f2, by have := h1.hi; have := h1.ok.few; omega, h1.hd⟩

set_option maxRecDepth 100000 in
set_option maxHeartbeats 2000000 in
theorem paText_any {w : World} {a : Nat} {l : List Wd} {m : Int} {d : Nat} {σ : PS} (hR : Rd w a l m d σ) (h3 : (wdP l σ).k = 3) :
    Calls Tryz.prog 70 #[.pointer (some ⟨a, 0, none⟩)] w (Ans w a l m d σ 3 (textP l σ).1 (textP l σ).2) := by
  have E0 := hR.start zVv 28
  have hmore := wd_more hR.ok hR.hi (by rw [h3]; decide)
  have HM := hid0 hmore
  clear hmore
  obtain ⟨⟨k, t, n, p⟩, hx⟩ : ∃ x, wdP l σ = x := ⟨_, rfl⟩
  unfold textP
  rw [hx]
  dsimp only
  replace hx := hid0 hx
  clear h3
  have hts : (txt t).size = t.length := txt_size t
  by_cases hl : 64 < t.length
  · rw [if_pos hl]
    dsimp only
    go_enter Tryz.func70, Tryz.ntmps70
    go_wp2_with fail
    go_at_call 28
    refine (paWord_any E0.rd hx.out).mono ?_
    rintro e w1 ⟨rfl, hb⟩
    have E1 := (E0.step ((Step.refl E0.rd).below hb)).alloc (Obj.cells #[.int .i64 (k : Int), .string (txt t), .int .u64 (n : Int), .int .i64 (p : Int)] 64)
    go_wp2_with fail
    go_at_call 27
    refine (paFault_any 3 3 E1.rd (by decide)).mono ?_
    rintro e w2 ⟨rfl, hS⟩
    have E2 := E1.step hS
    have hL := LsAt.zV w2 (fr (w.heap.size + 1))
    go_wp2_with (first | ((with_reducible refine wp_putB E2.res hL ?_ infoV ?_ ?_ ?_); (rfl); (rfl); (rfl); intro w0 hV0 hw0) | fail)
    exact end_blk hV0 rfl rfl _ Tryz.underlying28 rfl infoV rfl (E2.fin hL rfl hw0.out)
  · rw [if_neg hl]
    dsimp only
    go_enter Tryz.func70, Tryz.ntmps70
    go_wp2_with fail
    go_at_call 28
    refine (paWord_any E0.rd hx.out).mono ?_
    rintro e w1 ⟨rfl, hb⟩
    have E1 := E0.step ((Step.refl E0.rd).below hb)
    obtain ⟨c1, f1, -, -, hi5, -⟩ := E1.rd.cells
    have haw := Nat.lt_of_lt_of_le E0.rd.lt hb.size
    have E2 := (E1.more HM.out rfl).alloc (Obj.cells #[.int .i64 (k : Int), .string (txt t), .int .u64 (n : Int), .int .i64 (p : Int)] 64)
    have hL := fun W P => LsAt.txV W P t
    go_wp2_with (first | ((with_reducible refine wp_putB E2.res (hL _ (fr (w.heap.size + 1))) ?_ infoV ?_ ?_ ?_); (rfl); (rfl); (rfl); intro w0 hV0 hw0) | fail)
    exact end_blk hV0 rfl rfl _ Tryz.underlying28 rfl infoV rfl (E2.fin (hL _ _) rfl hw0.out)

set_option maxRecDepth 100000 in
set_option maxHeartbeats 4000000 in
theorem paNumber_any {w : World} {a : Nat} {l : List Wd} {m : Int} {d : Nat} {σ : PS} (hR : Rd w a l m d σ) :
    Calls Tryz.prog 71 #[.pointer (some ⟨a, 0, none⟩)] w (Ans w a l m d σ 3 (numberP l σ).1 (numberP l σ).2) := by
  have E0 := hR.start zVv 28
  obtain ⟨⟨x, τ⟩, hM⟩ : ∃ y, numberP l σ = y := ⟨_, rfl⟩
  rw [hM]
  dsimp only
  replace hM := hid0 hM
  go_enter Tryz.func71, Tryz.ntmps71
  go_wp2_with fail
  go_at_call 17
  rcases Bool.eq_false_or_eq_true (isP l [45] σ) with hb | hb
  · refine (paTake_yes [45] E0.rd hb).mono ?_
    rintro e w1 ⟨rfl, hS⟩
    have E1 := E0.step hS
    have hM2 : numberP l σ = numP l true ⟨σ.i + 1, σ.e⟩ := by simp only [numberP, takeP, hb, if_true]
    have HN := hid0 (hM2.symm.trans hM.out)
    clear hb hS hM2 hM
    obtain ⟨σ1, hσ⟩ : ∃ y, (⟨σ.i + 1, σ.e⟩ : PS) = y := ⟨_, rfl⟩
    rw [hσ] at E1 HN
    clear hσ
    obtain ⟨⟨k, t, n, p⟩, hx⟩ : ∃ x, wdP l σ1 = x := ⟨_, rfl⟩
    have hN := HN.out
    unfold numP at hN
    rw [hx] at hN
    dsimp only at hN
    have hn63 : n ≤ 9223372036854775808 := by
      have e : wdP l σ1 = l[σ1.i]'E1.rd.hi := by unfold wdP; rw [List.getD_eq_getElem?_getD, List.getElem?_eq_getElem E1.rd.hi]; rfl
      have := E1.rd.ok.num _ (List.getElem_mem E1.rd.hi)
      rw [← e, hx] at this
      exact this
    have HX := hid0 hx
    by_cases hk : k = 2
    · subst hk
      have hmore := wd_more E1.rd.ok E1.rd.hi (by rw [hx]; simp)
      have HMO := hid0 hmore
      clear hmore hx HN
      by_cases h63 : n = 9223372036854775808
      · subst h63
        rw [if_neg (by simp)] at hN
        have HN := hid0 hN
        clear hN hn63
        go_wp2_with fail
        go_at_call 28
        refine (paWord_any E1.rd HX.out).mono ?_
        rintro e w2 ⟨rfl, hb⟩
        have E2 := E1.step ((Step.refl E1.rd).below hb)
        obtain ⟨c1, f1, -, -, hi5, -⟩ := E2.rd.cells
        have haw := Nat.lt_of_lt_of_le E1.rd.lt hb.size
        have E3 := (E2.more HMO.out rfl).alloc (Obj.cells #[.int .i64 2, .string (txt t), .int .u64 9223372036854775808, .int .i64 (p : Int)] 64)
        have hL := fun W P => LsAt.ngV W P 9223372036854775808 (Nat.le_refl _) (x := wrap64 (IntKind.u64.wrap (-9223372036854775808))) rfl
        go_wp2_with (first | ((with_reducible refine wp_putB E3.res (hL _ (fr (w.heap.size + 1))) ?_ infoV ?_ ?_ ?_); (rfl); (rfl); (rfl); intro w0 hV0 hw0) | fail)
        cases HN.out
        exact end_blk hV0 rfl rfl _ Tryz.underlying28 rfl infoV rfl (E3.fin (hL _ _) rfl hw0.out)
      · rw [if_neg (by simp [h63])] at hN
        have HN := hid0 hN
        have hne : ((n : Int) == 9223372036854775808) = false := by rw [beq_eq_false_iff_ne]; omega
        have hlt : n < 9223372036854775808 := by omega
        clear hN hn63 h63
        go_wp2_with fail
        go_at_call 28
        refine (paWord_any E1.rd HX.out).mono ?_
        rintro e w2 ⟨rfl, hb⟩
        have E2 := E1.step ((Step.refl E1.rd).below hb)
        obtain ⟨c1, f1, -, -, hi5, -⟩ := E2.rd.cells
        have haw := Nat.lt_of_lt_of_le E1.rd.lt hb.size
        have E3 := (E2.more HMO.out rfl).alloc (Obj.cells #[.int .i64 2, .string (txt t), .int .u64 (n : Int), .int .i64 (p : Int)] 64)
        have hL := fun W P => LsAt.ngV W P n (Nat.le_of_lt hlt) (x := wrap64 (IntKind.u64.wrap (-(n : Int)))) rfl
        go_wp2_with (first | ((with_reducible refine wp_putB E3.res (hL _ (fr (w.heap.size + 1))) ?_ infoV ?_ ?_ ?_); (rfl); (rfl); (rfl); intro w0 hV0 hw0) | fail)
        cases HN.out
        exact end_blk hV0 rfl rfl _ Tryz.underlying28 rfl infoV rfl (E3.fin (hL _ _) rfl hw0.out)
    · rw [if_pos (.inl hk)] at hN
      have HN := hid0 hN
      have hk2 : ((k : Int) != 2) = true := by rw [bne_iff_ne]; omega
      clear hN hk hx hn63
      go_wp2_with fail
      go_at_call 28
      refine (paWord_any E1.rd HX.out).mono ?_
      rintro e w2 ⟨rfl, hb⟩
      have E2 := (E1.step ((Step.refl E1.rd).below hb)).alloc (Obj.cells #[.int .i64 (k : Int), .string (txt t), .int .u64 (n : Int), .int .i64 (p : Int)] 64)
      go_wp2_with fail
      go_at_call 27
      refine (paFault_any 4 4 E2.rd (by decide)).mono ?_
      rintro e w3 ⟨rfl, hS⟩
      have E3 := E2.step hS
      have hL := LsAt.zV w3 (fr (w.heap.size + 1))
      go_wp2_with (first | ((with_reducible refine wp_putB E3.res hL ?_ infoV ?_ ?_ ?_); (rfl); (rfl); (rfl); intro w0 hV0 hw0) | fail)
      cases HN.out
      exact end_blk hV0 rfl rfl _ Tryz.underlying28 rfl infoV rfl (E3.fin hL rfl hw0.out)
  · refine (paTake_no [45] E0.rd hb).mono ?_
    rintro e w1 ⟨rfl, hS⟩
    have E1 := E0.step hS
    have hM2 : numberP l σ = numP l false σ := by simp only [numberP, takeP, hb, if_false, Bool.false_eq_true]
    have HN := hid0 (hM2.symm.trans hM.out)
    clear hb hS hM2 hM
    obtain ⟨σ1, hσ⟩ : ∃ y, σ = y := ⟨_, rfl⟩
    replace E1 : Env w a l m d σ σ1 zVv w1 := by rw [← hσ]; exact E1
    rw [hσ] at HN
    clear hσ
    obtain ⟨⟨k, t, n, p⟩, hx⟩ : ∃ x, wdP l σ1 = x := ⟨_, rfl⟩
    have hN := HN.out
    unfold numP at hN
    rw [hx] at hN
    dsimp only at hN
    have hn63 : n ≤ 9223372036854775808 := by
      have e : wdP l σ1 = l[σ1.i]'E1.rd.hi := by unfold wdP; rw [List.getD_eq_getElem?_getD, List.getElem?_eq_getElem E1.rd.hi]; rfl
      have := E1.rd.ok.num _ (List.getElem_mem E1.rd.hi)
      rw [← e, hx] at this
      exact this
    have HX := hid0 hx
    by_cases hk : k = 2
    · subst hk
      have hmore := wd_more E1.rd.ok E1.rd.hi (by rw [hx]; simp)
      have HMO := hid0 hmore
      clear hmore hx HN
      by_cases h63 : n = 9223372036854775808
      · subst h63
        rw [if_pos (.inr ⟨rfl, rfl⟩)] at hN
        have HN := hid0 hN
        clear hN hn63
        go_wp2_with fail
        go_at_call 28
        refine (paWord_any E1.rd HX.out).mono ?_
        rintro e w2 ⟨rfl, hb⟩
        have E2 := E1.step ((Step.refl E1.rd).below hb)
        replace E2 := E2.alloc (Obj.cells #[.int .i64 2, .string (txt t), .int .u64 9223372036854775808, .int .i64 (p : Int)] 64)
        go_wp2_with fail
        go_at_call 27
        refine (paFault_any 4 4 E2.rd (by decide)).mono ?_
        rintro e w3 ⟨rfl, hS⟩
        have E3 := E2.step hS
        have hL := LsAt.zV w3 (fr (w.heap.size + 1))
        go_wp2_with (first | ((with_reducible refine wp_putB E3.res hL ?_ infoV ?_ ?_ ?_); (rfl); (rfl); (rfl); intro w0 hV0 hw0) | fail)
        cases HN.out
        exact end_blk hV0 rfl rfl _ Tryz.underlying28 rfl infoV rfl (E3.fin hL rfl hw0.out)
      · rw [if_neg (by simp [h63])] at hN
        have HN := hid0 hN
        have hne : ((n : Int) == 9223372036854775808) = false := by rw [beq_eq_false_iff_ne]; omega
        have hlt : n < 9223372036854775808 := by omega
        clear hN hn63 h63
        go_wp2_with fail
        go_at_call 28
        refine (paWord_any E1.rd HX.out).mono ?_
        rintro e w2 ⟨rfl, hb⟩
        have E2 := E1.step ((Step.refl E1.rd).below hb)
        obtain ⟨c1, f1, -, -, hi5, -⟩ := E2.rd.cells
        have haw := Nat.lt_of_lt_of_le E1.rd.lt hb.size
        have E3 := (E2.more HMO.out rfl).alloc (Obj.cells #[.int .i64 2, .string (txt t), .int .u64 (n : Int), .int .i64 (p : Int)] 64)
        have hL := fun W P => LsAt.inV W P (n : Int)
        go_wp2_with (first | ((with_reducible refine wp_putB E3.res (hL _ (fr (w.heap.size + 1))) ?_ infoV ?_ ?_ ?_); (rfl); (rfl); (rfl); intro w0 hV0 hw0) | fail)
        cases HN.out
        exact end_blk hV0 rfl rfl _ Tryz.underlying28 rfl infoV rfl (E3.fin (hL _ _) rfl hw0.out)
    · rw [if_pos (.inl hk)] at hN
      have HN := hid0 hN
      have hk2 : ((k : Int) != 2) = true := by rw [bne_iff_ne]; omega
      clear hN hk hx hn63
      go_wp2_with fail
      go_at_call 28
      refine (paWord_any E1.rd HX.out).mono ?_
      rintro e w2 ⟨rfl, hb⟩
      have E2 := (E1.step ((Step.refl E1.rd).below hb)).alloc (Obj.cells #[.int .i64 (k : Int), .string (txt t), .int .u64 (n : Int), .int .i64 (p : Int)] 64)
      go_wp2_with fail
      go_at_call 27
      refine (paFault_any 4 4 E2.rd (by decide)).mono ?_
      rintro e w3 ⟨rfl, hS⟩
      have E3 := E2.step hS
      have hL := LsAt.zV w3 (fr (w.heap.size + 1))
      go_wp2_with (first | ((with_reducible refine wp_putB E3.res hL ?_ infoV ?_ ?_ ?_); (rfl); (rfl); (rfl); intro w0 hV0 hw0) | fail)
      cases HN.out
      exact end_blk hV0 rfl rfl _ Tryz.underlying28 rfl infoV rfl (E3.fin hL rfl hw0.out)
end Go.Proofs.YtneebnankghhgacGreatDoor

/- The project's parser: whether a value begins here: a contract of the call, in whatever memory that holds a reader. Conditions: none besides. -/
namespace Go.Proofs.YtneebnankghhgacGreatDoor
open Go.RowKit

theorem paIs_b {w : World} {a : Nat} {l : List Wd} {m : Int} {d : Nat} {σ : PS} {s : List UInt8} {b : Bool} (h : Hid (isP l s σ = b)) (hR : Rd w a l m d σ) :
    Calls Tryz.prog 15 #[.pointer (some ⟨a, 0, none⟩), .string (txt s)] w fun e w' => e = .returned (.bool b) ∧ Below w.heap.size w w' := by
  have := paIs_any s hR
  rw [h.out] at this
  exact this

set_option maxRecDepth 100000 in
set_option maxHeartbeats 8000000 in
theorem paValued_any {w : World} {a : Nat} {l : List Wd} {m : Int} {d : Nat} {σ : PS} (hR : Rd w a l m d σ) :
    Calls Tryz.prog 90 #[.pointer (some ⟨a, 0, none⟩)] w fun e w' => e = .returned (.bool (valuedP l σ)) ∧ Step w a l m d σ σ w' := by
  obtain ⟨⟨k, t, n, p⟩, hx⟩ : ∃ x, wdP l σ = x := ⟨_, rfl⟩
  have CW := paWord_any hR hx
  have HR := hid0 hR
  obtain ⟨v, hv⟩ : ∃ y, valuedP l σ = y := ⟨_, rfl⟩
  rw [hv]
  have hvd := hv
  unfold valuedP at hvd
  rw [hx] at hvd
  dsimp only at hvd
  by_cases h2 : k = 2
  · subst h2
    have HV := hid0 (show v = true by rw [← hvd]; rfl)
    have fl : ∀ W : World, (Instr.field 64 (.agg #[.int .i64 2, .string (txt t), .int .u64 (n : Int), .int .i64 (p : Int)]) 0).run Tryz.prog W = .ok (.int .i64 2) W := fun W => rfl
    clear hv hvd hx hR
    go_enter Tryz.func90, Tryz.ntmps90
    go_wp2_with (first | (go_at_call 28; refine CW.mono ?_; rintro e w1 ⟨rfl, hb⟩) | fail)
    go_ret
    exact ⟨ret_bool HV.out.symm, (Step.refl HR.out).below hb⟩
  by_cases h3 : k = 3
  · subst h3
    have HV := hid0 (show v = true by rw [← hvd]; rfl)
    have fl : ∀ W : World, (Instr.field 64 (.agg #[.int .i64 3, .string (txt t), .int .u64 (n : Int), .int .i64 (p : Int)]) 0).run Tryz.prog W = .ok (.int .i64 3) W := fun W => rfl
    clear hv hvd hx hR h2
    go_enter Tryz.func90, Tryz.ntmps90
    go_wp2_with (first | (go_at_call 28; refine CW.mono ?_; rintro e w1 ⟨rfl, hb⟩) | fail)
    go_ret
    exact ⟨ret_bool HV.out.symm, (Step.refl HR.out).below hb⟩
  rw [decide_eq_false h2, decide_eq_false h3, Bool.false_or, Bool.false_or] at hvd
  have k2f : ((k : Int) == 2) = false := by rw [beq_eq_false_iff_ne]; omega
  have k3f : ((k : Int) == 3) = false := by rw [beq_eq_false_iff_ne]; omega
  have fl : ∀ W : World, (Instr.field 64 (.agg #[.int .i64 (k : Int), .string (txt t), .int .u64 (n : Int), .int .i64 (p : Int)]) 0).run Tryz.prog W = .ok (.int .i64 (k : Int)) W := fun W => rfl
  have HVD := hid0 hvd
  have HK5 := hid0 (fun h : k ≠ 5 => wd_more hR.ok hR.hi (show (wdP l σ).k ≠ 5 by rw [hx]; exact h))
  have HIM := hid0 (fun s (h : isP l s σ = true) => is_more (s := s) hR.ok hR.hi h)
  clear hv hvd hx hR h2 h3
  go_enter Tryz.func90, Tryz.ntmps90
  go_wp2_with (first | (go_at_call 28; refine CW.mono ?_; rintro e w1 ⟨rfl, hb⟩) | fail)
  have hB1 := Below.drew hb
  have HR1 := hid0 (HR.out.later hB1)
  clear CW
  rcases Bool.eq_false_or_eq_true (isP l [110, 117, 108, 108] σ) with h1 | h1
  · have HV := hid0 (show v = true by rw [← HVD.out, h1]; rfl)
    have Hn := hid0 h1
    clear h1 HVD
    refine wp_region_held_drew (S := fun w' => Below w.heap.size w w') (by kernel_rfl) hB1 (fun hHeld => ?_)
    refine wpAnyH_take (i := 0) (v := ?_) rfl (by kernel_rfl) (by kernel_rfl) (by kernel_rfl) (fun _ _ _ h => h) (Or.inl ⟨by rfl, ?_⟩) (by assumption) ?_
    rotate_left
    · (intro wx hSw; (try dsimp only at hSw); go_split_ands; go_simp; (try with_reducible rfl); (try omega))
    (try simp only [Act.put, List.setIfInBounds_toArray, List.set_cons_zero, List.set_cons_succ, List.getElem_toArray, List.getElem_cons_zero])
    refine wpAnyH_ready (rs := [1]) (by kernel_rfl) (by simp) ?_
    refine AllReadyH.cons rfl (fun K hK => ?_) AllReadyH.nil
    go_simp
    refine (paIs_b Hn HR1.out).mono ?_
    rintro e w2 ⟨rfl, hb2⟩; (have hB2 := hB1.trans (hb2.mono hB1.size)); (have HR2 := hid0 (HR1.out.later hb2))
    refine hK.out _ _ hB2 (fun hHeld => ?_)
    clear hK K
    (try simp only [Act.put, List.setIfInBounds_toArray, List.set_cons_zero, List.set_cons_succ, List.getElem_toArray, List.getElem_cons_zero, List.getElem_cons_succ])
    refine wpAnyH_take (i := 2) (v := .bool true) rfl (by kernel_rfl) (by kernel_rfl) (by kernel_rfl) (fun _ _ _ h => h) (Or.inl ⟨by rfl, ?_⟩) (by assumption) ?_
    · (intro wx hSw; (try dsimp only at hSw); go_split_ands; go_simp; (try with_reducible rfl); (try omega))
    (try simp only [Act.put, List.setIfInBounds_toArray, List.set_cons_zero, List.set_cons_succ, List.getElem_toArray, List.getElem_cons_zero, List.getElem_cons_succ])
    refine wpAnyH_take (i := 3) (v := undef) rfl (by kernel_rfl) (by kernel_rfl) (by kernel_rfl) (fun _ _ _ h => h) (Or.inr ⟨by rfl, rfl⟩) (by assumption) ?_
    (try simp only [Act.put, List.setIfInBounds_toArray, List.set_cons_zero, List.set_cons_succ, List.getElem_toArray, List.getElem_cons_zero, List.getElem_cons_succ])
    refine wpAnyH_take (i := 4) (v := undef) rfl (by kernel_rfl) (by kernel_rfl) (by kernel_rfl) (fun _ _ _ h => h) (Or.inr ⟨by rfl, rfl⟩) (by assumption) ?_
    (try simp only [Act.put, List.setIfInBounds_toArray, List.set_cons_zero, List.set_cons_succ, List.getElem_toArray, List.getElem_cons_zero, List.getElem_cons_succ])
    refine wpAnyH_take (i := 5) (v := .bool true) rfl (by kernel_rfl) (by kernel_rfl) (by kernel_rfl) (fun _ _ _ h => h) (Or.inl ⟨by rfl, ?_⟩) (by assumption) ?_
    · (intro wx hSw; (try dsimp only at hSw); go_split_ands; go_simp; (try with_reducible rfl); (try omega))
    (try simp only [Act.put, List.setIfInBounds_toArray, List.set_cons_zero, List.set_cons_succ, List.getElem_toArray, List.getElem_cons_zero, List.getElem_cons_succ])
    refine wpAnyH_take (i := 6) (v := .bool true) rfl (by kernel_rfl) (by kernel_rfl) (by kernel_rfl) (fun _ _ _ h => h) (Or.inl ⟨by rfl, ?_⟩) (by assumption) ?_
    · (intro wx hSw; (try dsimp only at hSw); go_split_ands; go_simp; (try with_reducible rfl); (try omega))
    (try simp only [Act.put, List.setIfInBounds_toArray, List.set_cons_zero, List.set_cons_succ, List.getElem_toArray, List.getElem_cons_zero, List.getElem_cons_succ])
    refine wpAnyH_take (i := 7) (v := undef) rfl (by kernel_rfl) (by kernel_rfl) (by kernel_rfl) (fun _ _ _ h => h) (Or.inr ⟨by rfl, rfl⟩) (by assumption) ?_
    (try simp only [Act.put, List.setIfInBounds_toArray, List.set_cons_zero, List.set_cons_succ, List.getElem_toArray, List.getElem_cons_zero, List.getElem_cons_succ])
    refine wpAnyH_take (i := 8) (v := undef) rfl (by kernel_rfl) (by kernel_rfl) (by kernel_rfl) (fun _ _ _ h => h) (Or.inr ⟨by rfl, rfl⟩) (by assumption) ?_
    (try simp only [Act.put, List.setIfInBounds_toArray, List.set_cons_zero, List.set_cons_succ, List.getElem_toArray, List.getElem_cons_zero, List.getElem_cons_succ])
    refine wpAnyH_take (i := 9) (v := .bool true) rfl (by kernel_rfl) (by kernel_rfl) (by kernel_rfl) (fun _ _ _ h => h) (Or.inl ⟨by rfl, ?_⟩) (by assumption) ?_
    · (intro wx hSw; (try dsimp only at hSw); go_split_ands; go_simp; (try with_reducible rfl); (try omega))
    (try simp only [Act.put, List.setIfInBounds_toArray, List.set_cons_zero, List.set_cons_succ, List.getElem_toArray, List.getElem_cons_zero, List.getElem_cons_succ])
    refine wpAnyH_take (i := 10) (v := .bool true) rfl (by kernel_rfl) (by kernel_rfl) (by kernel_rfl) (fun _ _ _ h => h) (Or.inl ⟨by rfl, ?_⟩) (by assumption) ?_
    · (intro wx hSw; (try dsimp only at hSw); go_split_ands; go_simp; (try with_reducible rfl); (try omega))
    (try simp only [Act.put, List.setIfInBounds_toArray, List.set_cons_zero, List.set_cons_succ, List.getElem_toArray, List.getElem_cons_zero, List.getElem_cons_succ])
    refine wpAnyH_take (i := 11) (v := undef) rfl (by kernel_rfl) (by kernel_rfl) (by kernel_rfl) (fun _ _ _ h => h) (Or.inr ⟨by rfl, rfl⟩) (by assumption) ?_
    (try simp only [Act.put, List.setIfInBounds_toArray, List.set_cons_zero, List.set_cons_succ, List.getElem_toArray, List.getElem_cons_zero, List.getElem_cons_succ])
    refine wpAnyH_take (i := 12) (v := undef) rfl (by kernel_rfl) (by kernel_rfl) (by kernel_rfl) (fun _ _ _ h => h) (Or.inr ⟨by rfl, rfl⟩) (by assumption) ?_
    (try simp only [Act.put, List.setIfInBounds_toArray, List.set_cons_zero, List.set_cons_succ, List.getElem_toArray, List.getElem_cons_zero, List.getElem_cons_succ])
    refine wpAnyH_take (i := 13) (v := undef) rfl (by kernel_rfl) (by kernel_rfl) (by kernel_rfl) (fun _ _ _ h => h) (Or.inr ⟨by rfl, rfl⟩) (by assumption) ?_
    (try simp only [Act.put, List.setIfInBounds_toArray, List.set_cons_zero, List.set_cons_succ, List.getElem_toArray, List.getElem_cons_zero, List.getElem_cons_succ])
    refine wpAnyH_take (i := 14) (v := undef) rfl (by kernel_rfl) (by kernel_rfl) (by kernel_rfl) (fun _ _ _ h => h) (Or.inr ⟨by rfl, rfl⟩) (by assumption) ?_
    (try simp only [Act.put, List.setIfInBounds_toArray, List.set_cons_zero, List.set_cons_succ, List.getElem_toArray, List.getElem_cons_zero, List.getElem_cons_succ])
    refine wpAnyH_take (i := 15) (v := undef) rfl (by kernel_rfl) (by kernel_rfl) (by kernel_rfl) (fun _ _ _ h => h) (Or.inr ⟨by rfl, rfl⟩) (by assumption) ?_
    (try simp only [Act.put, List.setIfInBounds_toArray, List.set_cons_zero, List.set_cons_succ, List.getElem_toArray, List.getElem_cons_zero, List.getElem_cons_succ])
    refine wpAnyH_take (i := 16) (v := undef) rfl (by kernel_rfl) (by kernel_rfl) (by kernel_rfl) (fun _ _ _ h => h) (Or.inr ⟨by rfl, rfl⟩) (by assumption) ?_
    (try simp only [Act.put, List.setIfInBounds_toArray, List.set_cons_zero, List.set_cons_succ, List.getElem_toArray, List.getElem_cons_zero, List.getElem_cons_succ])
    refine wpAnyH_take (i := 17) (v := undef) rfl (by kernel_rfl) (by kernel_rfl) (by kernel_rfl) (fun _ _ _ h => h) (Or.inr ⟨by rfl, rfl⟩) (by assumption) ?_
    (try simp only [Act.put, List.setIfInBounds_toArray, List.set_cons_zero, List.set_cons_succ, List.getElem_toArray, List.getElem_cons_zero, List.getElem_cons_succ])
    refine wpAnyH_take (i := 18) (v := undef) rfl (by kernel_rfl) (by kernel_rfl) (by kernel_rfl) (fun _ _ _ h => h) (Or.inr ⟨by rfl, rfl⟩) (by assumption) ?_
    (try simp only [Act.put, List.setIfInBounds_toArray, List.set_cons_zero, List.set_cons_succ, List.getElem_toArray, List.getElem_cons_zero, List.getElem_cons_succ])
    refine wpAnyH_take (i := 19) (v := undef) rfl (by kernel_rfl) (by kernel_rfl) (by kernel_rfl) (fun _ _ _ h => h) (Or.inr ⟨by rfl, rfl⟩) (by assumption) ?_
    (try simp only [Act.put, List.setIfInBounds_toArray, List.set_cons_zero, List.set_cons_succ, List.getElem_toArray, List.getElem_cons_zero, List.getElem_cons_succ])
    refine wpAnyH_take (i := 20) (v := undef) rfl (by kernel_rfl) (by kernel_rfl) (by kernel_rfl) (fun _ _ _ h => h) (Or.inr ⟨by rfl, rfl⟩) (by assumption) ?_
    (try simp only [Act.put, List.setIfInBounds_toArray, List.set_cons_zero, List.set_cons_succ, List.getElem_toArray, List.getElem_cons_zero, List.getElem_cons_succ])
    refine wpAnyH_take (i := 21) (v := undef) rfl (by kernel_rfl) (by kernel_rfl) (by kernel_rfl) (fun _ _ _ h => h) (Or.inr ⟨by rfl, rfl⟩) (by assumption) ?_
    (try simp only [Act.put, List.setIfInBounds_toArray, List.set_cons_zero, List.set_cons_succ, List.getElem_toArray, List.getElem_cons_zero, List.getElem_cons_succ])
    refine wpAnyH_take (i := 22) (v := undef) rfl (by kernel_rfl) (by kernel_rfl) (by kernel_rfl) (fun _ _ _ h => h) (Or.inr ⟨by rfl, rfl⟩) (by assumption) ?_
    (try simp only [Act.put, List.setIfInBounds_toArray, List.set_cons_zero, List.set_cons_succ, List.getElem_toArray, List.getElem_cons_zero, List.getElem_cons_succ])
    refine wpAnyH_take (i := 23) (v := undef) rfl (by kernel_rfl) (by kernel_rfl) (by kernel_rfl) (fun _ _ _ h => h) (Or.inr ⟨by rfl, rfl⟩) (by assumption) ?_
    (try simp only [Act.put, List.setIfInBounds_toArray, List.set_cons_zero, List.set_cons_succ, List.getElem_toArray, List.getElem_cons_zero, List.getElem_cons_succ])
    refine wpAnyH_take (i := 24) (v := undef) rfl (by kernel_rfl) (by kernel_rfl) (by kernel_rfl) (fun _ _ _ h => h) (Or.inr ⟨by rfl, rfl⟩) (by assumption) ?_
    (try simp only [Act.put, List.setIfInBounds_toArray, List.set_cons_zero, List.set_cons_succ, List.getElem_toArray, List.getElem_cons_zero, List.getElem_cons_succ])
    refine wpAnyH_take (i := 25) (v := undef) rfl (by kernel_rfl) (by kernel_rfl) (by kernel_rfl) (fun _ _ _ h => h) (Or.inr ⟨by rfl, rfl⟩) (by assumption) ?_
    (try simp only [Act.put, List.setIfInBounds_toArray, List.set_cons_zero, List.set_cons_succ, List.getElem_toArray, List.getElem_cons_zero, List.getElem_cons_succ])
    refine wpAnyH_take (i := 26) (v := undef) rfl (by kernel_rfl) (by kernel_rfl) (by kernel_rfl) (fun _ _ _ h => h) (Or.inr ⟨by rfl, rfl⟩) (by assumption) ?_
    (try simp only [Act.put, List.setIfInBounds_toArray, List.set_cons_zero, List.set_cons_succ, List.getElem_toArray, List.getElem_cons_zero, List.getElem_cons_succ])
    refine wpAnyH_take (i := 27) (v := undef) rfl (by kernel_rfl) (by kernel_rfl) (by kernel_rfl) (fun _ _ _ h => h) (Or.inr ⟨by rfl, rfl⟩) (by assumption) ?_
    (try simp only [Act.put, List.setIfInBounds_toArray, List.set_cons_zero, List.set_cons_succ, List.getElem_toArray, List.getElem_cons_zero, List.getElem_cons_succ])
    refine wpAnyH_take (i := 28) (v := .bool true) rfl (by kernel_rfl) (by kernel_rfl) (by kernel_rfl) (fun _ _ _ h => h) (Or.inl ⟨by rfl, ?_⟩) (by assumption) ?_
    · (intro wx hSw; (try dsimp only at hSw); go_split_ands; go_simp; (try with_reducible rfl); (try omega))
    (try simp only [Act.put, List.setIfInBounds_toArray, List.set_cons_zero, List.set_cons_succ, List.getElem_toArray, List.getElem_cons_zero, List.getElem_cons_succ])
    refine wpAnyH_take (i := 29) (v := ?_) rfl (by kernel_rfl) (by kernel_rfl) (by kernel_rfl) (fun _ _ _ h => h) (Or.inl ⟨by rfl, ?_⟩) (by assumption) ?_
    rotate_left
    · (intro wx hSw; (try dsimp only at hSw); go_split_ands; go_simp; (try with_reducible rfl); (try omega))
    (try simp only [Act.put, List.setIfInBounds_toArray, List.set_cons_zero, List.set_cons_succ, List.getElem_toArray, List.getElem_cons_zero, List.getElem_cons_succ])
    refine wpAnyH_done (by kernel_rfl) ?_ _
    go_wp2_with fail
    go_ret
    exact ⟨ret_bool HV.out.symm, (Step.refl HR.out).below hB2⟩
  rcases Bool.eq_false_or_eq_true (isP l [116, 114, 117, 101] σ) with h2 | h2
  · have HV := hid0 (show v = true by rw [← HVD.out, h1, h2]; rfl)
    have Hn := hid0 h1
    have Ht := hid0 h2
    clear h1 h2 HVD
    refine wp_region_held_drew (S := fun w' => Below w.heap.size w w') (by kernel_rfl) hB1 (fun hHeld => ?_)
    refine wpAnyH_take (i := 0) (v := ?_) rfl (by kernel_rfl) (by kernel_rfl) (by kernel_rfl) (fun _ _ _ h => h) (Or.inl ⟨by rfl, ?_⟩) (by assumption) ?_
    rotate_left
    · (intro wx hSw; (try dsimp only at hSw); go_split_ands; go_simp; (try with_reducible rfl); (try omega))
    (try simp only [Act.put, List.setIfInBounds_toArray, List.set_cons_zero, List.set_cons_succ, List.getElem_toArray, List.getElem_cons_zero])
    refine wpAnyH_ready (rs := [1]) (by kernel_rfl) (by simp) ?_
    refine AllReadyH.cons rfl (fun K hK => ?_) AllReadyH.nil
    go_simp
    refine (paIs_b Hn HR1.out).mono ?_
    rintro e w2 ⟨rfl, hb2⟩; (have hB2 := hB1.trans (hb2.mono hB1.size)); (have HR2 := hid0 (HR1.out.later hb2))
    refine hK.out _ _ hB2 (fun hHeld => ?_)
    clear hK K
    (try simp only [Act.put, List.setIfInBounds_toArray, List.set_cons_zero, List.set_cons_succ, List.getElem_toArray, List.getElem_cons_zero, List.getElem_cons_succ])
    refine wpAnyH_take (i := 2) (v := .bool false) rfl (by kernel_rfl) (by kernel_rfl) (by kernel_rfl) (fun _ _ _ h => h) (Or.inl ⟨by rfl, ?_⟩) (by assumption) ?_
    · (intro wx hSw; (try dsimp only at hSw); go_split_ands; go_simp; (try with_reducible rfl); (try omega))
    (try simp only [Act.put, List.setIfInBounds_toArray, List.set_cons_zero, List.set_cons_succ, List.getElem_toArray, List.getElem_cons_zero, List.getElem_cons_succ])
    refine wpAnyH_take (i := 3) (v := ?_) rfl (by kernel_rfl) (by kernel_rfl) (by kernel_rfl) (fun _ _ _ h => h) (Or.inl ⟨by rfl, ?_⟩) (by assumption) ?_
    rotate_left
    · (intro wx hSw; (try dsimp only at hSw); go_split_ands; go_simp; (try with_reducible rfl); (try omega))
    (try simp only [Act.put, List.setIfInBounds_toArray, List.set_cons_zero, List.set_cons_succ, List.getElem_toArray, List.getElem_cons_zero, List.getElem_cons_succ])
    refine wpAnyH_ready (rs := [4]) (by kernel_rfl) (by simp) ?_
    refine AllReadyH.cons rfl (fun K hK => ?_) AllReadyH.nil
    go_simp
    refine (paIs_b Ht HR2.out).mono ?_
    rintro e w3 ⟨rfl, hb3⟩; (have hB3 := hB2.trans (hb3.mono hB2.size)); (have HR3 := hid0 (HR2.out.later hb3))
    refine hK.out _ _ hB3 (fun hHeld => ?_)
    clear hK K
    (try simp only [Act.put, List.setIfInBounds_toArray, List.set_cons_zero, List.set_cons_succ, List.getElem_toArray, List.getElem_cons_zero, List.getElem_cons_succ])
    refine wpAnyH_take (i := 5) (v := .bool true) rfl (by kernel_rfl) (by kernel_rfl) (by kernel_rfl) (fun _ _ _ h => h) (Or.inl ⟨by rfl, ?_⟩) (by assumption) ?_
    · (intro wx hSw; (try dsimp only at hSw); go_split_ands; go_simp; (try with_reducible rfl); (try omega))
    (try simp only [Act.put, List.setIfInBounds_toArray, List.set_cons_zero, List.set_cons_succ, List.getElem_toArray, List.getElem_cons_zero, List.getElem_cons_succ])
    refine wpAnyH_take (i := 6) (v := .bool true) rfl (by kernel_rfl) (by kernel_rfl) (by kernel_rfl) (fun _ _ _ h => h) (Or.inl ⟨by rfl, ?_⟩) (by assumption) ?_
    · (intro wx hSw; (try dsimp only at hSw); go_split_ands; go_simp; (try with_reducible rfl); (try omega))
    (try simp only [Act.put, List.setIfInBounds_toArray, List.set_cons_zero, List.set_cons_succ, List.getElem_toArray, List.getElem_cons_zero, List.getElem_cons_succ])
    refine wpAnyH_take (i := 7) (v := undef) rfl (by kernel_rfl) (by kernel_rfl) (by kernel_rfl) (fun _ _ _ h => h) (Or.inr ⟨by rfl, rfl⟩) (by assumption) ?_
    (try simp only [Act.put, List.setIfInBounds_toArray, List.set_cons_zero, List.set_cons_succ, List.getElem_toArray, List.getElem_cons_zero, List.getElem_cons_succ])
    refine wpAnyH_take (i := 8) (v := undef) rfl (by kernel_rfl) (by kernel_rfl) (by kernel_rfl) (fun _ _ _ h => h) (Or.inr ⟨by rfl, rfl⟩) (by assumption) ?_
    (try simp only [Act.put, List.setIfInBounds_toArray, List.set_cons_zero, List.set_cons_succ, List.getElem_toArray, List.getElem_cons_zero, List.getElem_cons_succ])
    refine wpAnyH_take (i := 9) (v := .bool true) rfl (by kernel_rfl) (by kernel_rfl) (by kernel_rfl) (fun _ _ _ h => h) (Or.inl ⟨by rfl, ?_⟩) (by assumption) ?_
    · (intro wx hSw; (try dsimp only at hSw); go_split_ands; go_simp; (try with_reducible rfl); (try omega))
    (try simp only [Act.put, List.setIfInBounds_toArray, List.set_cons_zero, List.set_cons_succ, List.getElem_toArray, List.getElem_cons_zero, List.getElem_cons_succ])
    refine wpAnyH_take (i := 10) (v := .bool true) rfl (by kernel_rfl) (by kernel_rfl) (by kernel_rfl) (fun _ _ _ h => h) (Or.inl ⟨by rfl, ?_⟩) (by assumption) ?_
    · (intro wx hSw; (try dsimp only at hSw); go_split_ands; go_simp; (try with_reducible rfl); (try omega))
    (try simp only [Act.put, List.setIfInBounds_toArray, List.set_cons_zero, List.set_cons_succ, List.getElem_toArray, List.getElem_cons_zero, List.getElem_cons_succ])
    refine wpAnyH_take (i := 11) (v := undef) rfl (by kernel_rfl) (by kernel_rfl) (by kernel_rfl) (fun _ _ _ h => h) (Or.inr ⟨by rfl, rfl⟩) (by assumption) ?_
    (try simp only [Act.put, List.setIfInBounds_toArray, List.set_cons_zero, List.set_cons_succ, List.getElem_toArray, List.getElem_cons_zero, List.getElem_cons_succ])
    refine wpAnyH_take (i := 12) (v := undef) rfl (by kernel_rfl) (by kernel_rfl) (by kernel_rfl) (fun _ _ _ h => h) (Or.inr ⟨by rfl, rfl⟩) (by assumption) ?_
    (try simp only [Act.put, List.setIfInBounds_toArray, List.set_cons_zero, List.set_cons_succ, List.getElem_toArray, List.getElem_cons_zero, List.getElem_cons_succ])
    refine wpAnyH_take (i := 13) (v := undef) rfl (by kernel_rfl) (by kernel_rfl) (by kernel_rfl) (fun _ _ _ h => h) (Or.inr ⟨by rfl, rfl⟩) (by assumption) ?_
    (try simp only [Act.put, List.setIfInBounds_toArray, List.set_cons_zero, List.set_cons_succ, List.getElem_toArray, List.getElem_cons_zero, List.getElem_cons_succ])
    refine wpAnyH_take (i := 14) (v := undef) rfl (by kernel_rfl) (by kernel_rfl) (by kernel_rfl) (fun _ _ _ h => h) (Or.inr ⟨by rfl, rfl⟩) (by assumption) ?_
    (try simp only [Act.put, List.setIfInBounds_toArray, List.set_cons_zero, List.set_cons_succ, List.getElem_toArray, List.getElem_cons_zero, List.getElem_cons_succ])
    refine wpAnyH_take (i := 15) (v := undef) rfl (by kernel_rfl) (by kernel_rfl) (by kernel_rfl) (fun _ _ _ h => h) (Or.inr ⟨by rfl, rfl⟩) (by assumption) ?_
    (try simp only [Act.put, List.setIfInBounds_toArray, List.set_cons_zero, List.set_cons_succ, List.getElem_toArray, List.getElem_cons_zero, List.getElem_cons_succ])
    refine wpAnyH_take (i := 16) (v := undef) rfl (by kernel_rfl) (by kernel_rfl) (by kernel_rfl) (fun _ _ _ h => h) (Or.inr ⟨by rfl, rfl⟩) (by assumption) ?_
    (try simp only [Act.put, List.setIfInBounds_toArray, List.set_cons_zero, List.set_cons_succ, List.getElem_toArray, List.getElem_cons_zero, List.getElem_cons_succ])
    refine wpAnyH_take (i := 17) (v := undef) rfl (by kernel_rfl) (by kernel_rfl) (by kernel_rfl) (fun _ _ _ h => h) (Or.inr ⟨by rfl, rfl⟩) (by assumption) ?_
    (try simp only [Act.put, List.setIfInBounds_toArray, List.set_cons_zero, List.set_cons_succ, List.getElem_toArray, List.getElem_cons_zero, List.getElem_cons_succ])
    refine wpAnyH_take (i := 18) (v := undef) rfl (by kernel_rfl) (by kernel_rfl) (by kernel_rfl) (fun _ _ _ h => h) (Or.inr ⟨by rfl, rfl⟩) (by assumption) ?_
    (try simp only [Act.put, List.setIfInBounds_toArray, List.set_cons_zero, List.set_cons_succ, List.getElem_toArray, List.getElem_cons_zero, List.getElem_cons_succ])
    refine wpAnyH_take (i := 19) (v := undef) rfl (by kernel_rfl) (by kernel_rfl) (by kernel_rfl) (fun _ _ _ h => h) (Or.inr ⟨by rfl, rfl⟩) (by assumption) ?_
    (try simp only [Act.put, List.setIfInBounds_toArray, List.set_cons_zero, List.set_cons_succ, List.getElem_toArray, List.getElem_cons_zero, List.getElem_cons_succ])
    refine wpAnyH_take (i := 20) (v := undef) rfl (by kernel_rfl) (by kernel_rfl) (by kernel_rfl) (fun _ _ _ h => h) (Or.inr ⟨by rfl, rfl⟩) (by assumption) ?_
    (try simp only [Act.put, List.setIfInBounds_toArray, List.set_cons_zero, List.set_cons_succ, List.getElem_toArray, List.getElem_cons_zero, List.getElem_cons_succ])
    refine wpAnyH_take (i := 21) (v := undef) rfl (by kernel_rfl) (by kernel_rfl) (by kernel_rfl) (fun _ _ _ h => h) (Or.inr ⟨by rfl, rfl⟩) (by assumption) ?_
    (try simp only [Act.put, List.setIfInBounds_toArray, List.set_cons_zero, List.set_cons_succ, List.getElem_toArray, List.getElem_cons_zero, List.getElem_cons_succ])
    refine wpAnyH_take (i := 22) (v := undef) rfl (by kernel_rfl) (by kernel_rfl) (by kernel_rfl) (fun _ _ _ h => h) (Or.inr ⟨by rfl, rfl⟩) (by assumption) ?_
    (try simp only [Act.put, List.setIfInBounds_toArray, List.set_cons_zero, List.set_cons_succ, List.getElem_toArray, List.getElem_cons_zero, List.getElem_cons_succ])
    refine wpAnyH_take (i := 23) (v := undef) rfl (by kernel_rfl) (by kernel_rfl) (by kernel_rfl) (fun _ _ _ h => h) (Or.inr ⟨by rfl, rfl⟩) (by assumption) ?_
    (try simp only [Act.put, List.setIfInBounds_toArray, List.set_cons_zero, List.set_cons_succ, List.getElem_toArray, List.getElem_cons_zero, List.getElem_cons_succ])
    refine wpAnyH_take (i := 24) (v := undef) rfl (by kernel_rfl) (by kernel_rfl) (by kernel_rfl) (fun _ _ _ h => h) (Or.inr ⟨by rfl, rfl⟩) (by assumption) ?_
    (try simp only [Act.put, List.setIfInBounds_toArray, List.set_cons_zero, List.set_cons_succ, List.getElem_toArray, List.getElem_cons_zero, List.getElem_cons_succ])
    refine wpAnyH_take (i := 25) (v := undef) rfl (by kernel_rfl) (by kernel_rfl) (by kernel_rfl) (fun _ _ _ h => h) (Or.inr ⟨by rfl, rfl⟩) (by assumption) ?_
    (try simp only [Act.put, List.setIfInBounds_toArray, List.set_cons_zero, List.set_cons_succ, List.getElem_toArray, List.getElem_cons_zero, List.getElem_cons_succ])
    refine wpAnyH_take (i := 26) (v := undef) rfl (by kernel_rfl) (by kernel_rfl) (by kernel_rfl) (fun _ _ _ h => h) (Or.inr ⟨by rfl, rfl⟩) (by assumption) ?_
    (try simp only [Act.put, List.setIfInBounds_toArray, List.set_cons_zero, List.set_cons_succ, List.getElem_toArray, List.getElem_cons_zero, List.getElem_cons_succ])
    refine wpAnyH_take (i := 27) (v := undef) rfl (by kernel_rfl) (by kernel_rfl) (by kernel_rfl) (fun _ _ _ h => h) (Or.inr ⟨by rfl, rfl⟩) (by assumption) ?_
    (try simp only [Act.put, List.setIfInBounds_toArray, List.set_cons_zero, List.set_cons_succ, List.getElem_toArray, List.getElem_cons_zero, List.getElem_cons_succ])
    refine wpAnyH_take (i := 28) (v := .bool true) rfl (by kernel_rfl) (by kernel_rfl) (by kernel_rfl) (fun _ _ _ h => h) (Or.inl ⟨by rfl, ?_⟩) (by assumption) ?_
    · (intro wx hSw; (try dsimp only at hSw); go_split_ands; go_simp; (try with_reducible rfl); (try omega))
    (try simp only [Act.put, List.setIfInBounds_toArray, List.set_cons_zero, List.set_cons_succ, List.getElem_toArray, List.getElem_cons_zero, List.getElem_cons_succ])
    refine wpAnyH_take (i := 29) (v := ?_) rfl (by kernel_rfl) (by kernel_rfl) (by kernel_rfl) (fun _ _ _ h => h) (Or.inl ⟨by rfl, ?_⟩) (by assumption) ?_
    rotate_left
    · (intro wx hSw; (try dsimp only at hSw); go_split_ands; go_simp; (try with_reducible rfl); (try omega))
    (try simp only [Act.put, List.setIfInBounds_toArray, List.set_cons_zero, List.set_cons_succ, List.getElem_toArray, List.getElem_cons_zero, List.getElem_cons_succ])
    refine wpAnyH_done (by kernel_rfl) ?_ _
    go_wp2_with fail
    go_ret
    exact ⟨ret_bool HV.out.symm, (Step.refl HR.out).below hB3⟩
  rcases Bool.eq_false_or_eq_true (isP l [102, 97, 108, 115, 101] σ) with h3 | h3
  · have HV := hid0 (show v = true by rw [← HVD.out, h1, h2, h3]; rfl)
    have Hn := hid0 h1
    have Ht := hid0 h2
    have Hf := hid0 h3
    clear h1 h2 h3 HVD
    refine wp_region_held_drew (S := fun w' => Below w.heap.size w w') (by kernel_rfl) hB1 (fun hHeld => ?_)
    refine wpAnyH_take (i := 0) (v := ?_) rfl (by kernel_rfl) (by kernel_rfl) (by kernel_rfl) (fun _ _ _ h => h) (Or.inl ⟨by rfl, ?_⟩) (by assumption) ?_
    rotate_left
    · (intro wx hSw; (try dsimp only at hSw); go_split_ands; go_simp; (try with_reducible rfl); (try omega))
    (try simp only [Act.put, List.setIfInBounds_toArray, List.set_cons_zero, List.set_cons_succ, List.getElem_toArray, List.getElem_cons_zero])
    refine wpAnyH_ready (rs := [1]) (by kernel_rfl) (by simp) ?_
    refine AllReadyH.cons rfl (fun K hK => ?_) AllReadyH.nil
    go_simp
    refine (paIs_b Hn HR1.out).mono ?_
    rintro e w2 ⟨rfl, hb2⟩; (have hB2 := hB1.trans (hb2.mono hB1.size)); (have HR2 := hid0 (HR1.out.later hb2))
    refine hK.out _ _ hB2 (fun hHeld => ?_)
    clear hK K
    (try simp only [Act.put, List.setIfInBounds_toArray, List.set_cons_zero, List.set_cons_succ, List.getElem_toArray, List.getElem_cons_zero, List.getElem_cons_succ])
    refine wpAnyH_take (i := 2) (v := .bool false) rfl (by kernel_rfl) (by kernel_rfl) (by kernel_rfl) (fun _ _ _ h => h) (Or.inl ⟨by rfl, ?_⟩) (by assumption) ?_
    · (intro wx hSw; (try dsimp only at hSw); go_split_ands; go_simp; (try with_reducible rfl); (try omega))
    (try simp only [Act.put, List.setIfInBounds_toArray, List.set_cons_zero, List.set_cons_succ, List.getElem_toArray, List.getElem_cons_zero, List.getElem_cons_succ])
    refine wpAnyH_take (i := 3) (v := ?_) rfl (by kernel_rfl) (by kernel_rfl) (by kernel_rfl) (fun _ _ _ h => h) (Or.inl ⟨by rfl, ?_⟩) (by assumption) ?_
    rotate_left
    · (intro wx hSw; (try dsimp only at hSw); go_split_ands; go_simp; (try with_reducible rfl); (try omega))
    (try simp only [Act.put, List.setIfInBounds_toArray, List.set_cons_zero, List.set_cons_succ, List.getElem_toArray, List.getElem_cons_zero, List.getElem_cons_succ])
    refine wpAnyH_ready (rs := [4]) (by kernel_rfl) (by simp) ?_
    refine AllReadyH.cons rfl (fun K hK => ?_) AllReadyH.nil
    go_simp
    refine (paIs_b Ht HR2.out).mono ?_
    rintro e w3 ⟨rfl, hb3⟩; (have hB3 := hB2.trans (hb3.mono hB2.size)); (have HR3 := hid0 (HR2.out.later hb3))
    refine hK.out _ _ hB3 (fun hHeld => ?_)
    clear hK K
    (try simp only [Act.put, List.setIfInBounds_toArray, List.set_cons_zero, List.set_cons_succ, List.getElem_toArray, List.getElem_cons_zero, List.getElem_cons_succ])
    refine wpAnyH_take (i := 5) (v := .bool false) rfl (by kernel_rfl) (by kernel_rfl) (by kernel_rfl) (fun _ _ _ h => h) (Or.inl ⟨by rfl, ?_⟩) (by assumption) ?_
    · (intro wx hSw; (try dsimp only at hSw); go_split_ands; go_simp; (try with_reducible rfl); (try omega))
    (try simp only [Act.put, List.setIfInBounds_toArray, List.set_cons_zero, List.set_cons_succ, List.getElem_toArray, List.getElem_cons_zero, List.getElem_cons_succ])
    refine wpAnyH_take (i := 6) (v := .bool false) rfl (by kernel_rfl) (by kernel_rfl) (by kernel_rfl) (fun _ _ _ h => h) (Or.inl ⟨by rfl, ?_⟩) (by assumption) ?_
    · (intro wx hSw; (try dsimp only at hSw); go_split_ands; go_simp; (try with_reducible rfl); (try omega))
    (try simp only [Act.put, List.setIfInBounds_toArray, List.set_cons_zero, List.set_cons_succ, List.getElem_toArray, List.getElem_cons_zero, List.getElem_cons_succ])
    refine wpAnyH_take (i := 7) (v := ?_) rfl (by kernel_rfl) (by kernel_rfl) (by kernel_rfl) (fun _ _ _ h => h) (Or.inl ⟨by rfl, ?_⟩) (by assumption) ?_
    rotate_left
    · (intro wx hSw; (try dsimp only at hSw); go_split_ands; go_simp; (try with_reducible rfl); (try omega))
    (try simp only [Act.put, List.setIfInBounds_toArray, List.set_cons_zero, List.set_cons_succ, List.getElem_toArray, List.getElem_cons_zero, List.getElem_cons_succ])
    refine wpAnyH_ready (rs := [8]) (by kernel_rfl) (by simp) ?_
    refine AllReadyH.cons rfl (fun K hK => ?_) AllReadyH.nil
    go_simp
    refine (paIs_b Hf HR3.out).mono ?_
    rintro e w4 ⟨rfl, hb4⟩; (have hB4 := hB3.trans (hb4.mono hB3.size)); (have HR4 := hid0 (HR3.out.later hb4))
    refine hK.out _ _ hB4 (fun hHeld => ?_)
    clear hK K
    (try simp only [Act.put, List.setIfInBounds_toArray, List.set_cons_zero, List.set_cons_succ, List.getElem_toArray, List.getElem_cons_zero, List.getElem_cons_succ])
    refine wpAnyH_take (i := 9) (v := .bool true) rfl (by kernel_rfl) (by kernel_rfl) (by kernel_rfl) (fun _ _ _ h => h) (Or.inl ⟨by rfl, ?_⟩) (by assumption) ?_
    · (intro wx hSw; (try dsimp only at hSw); go_split_ands; go_simp; (try with_reducible rfl); (try omega))
    (try simp only [Act.put, List.setIfInBounds_toArray, List.set_cons_zero, List.set_cons_succ, List.getElem_toArray, List.getElem_cons_zero, List.getElem_cons_succ])
    refine wpAnyH_take (i := 10) (v := .bool true) rfl (by kernel_rfl) (by kernel_rfl) (by kernel_rfl) (fun _ _ _ h => h) (Or.inl ⟨by rfl, ?_⟩) (by assumption) ?_
    · (intro wx hSw; (try dsimp only at hSw); go_split_ands; go_simp; (try with_reducible rfl); (try omega))
    (try simp only [Act.put, List.setIfInBounds_toArray, List.set_cons_zero, List.set_cons_succ, List.getElem_toArray, List.getElem_cons_zero, List.getElem_cons_succ])
    refine wpAnyH_take (i := 11) (v := undef) rfl (by kernel_rfl) (by kernel_rfl) (by kernel_rfl) (fun _ _ _ h => h) (Or.inr ⟨by rfl, rfl⟩) (by assumption) ?_
    (try simp only [Act.put, List.setIfInBounds_toArray, List.set_cons_zero, List.set_cons_succ, List.getElem_toArray, List.getElem_cons_zero, List.getElem_cons_succ])
    refine wpAnyH_take (i := 12) (v := undef) rfl (by kernel_rfl) (by kernel_rfl) (by kernel_rfl) (fun _ _ _ h => h) (Or.inr ⟨by rfl, rfl⟩) (by assumption) ?_
    (try simp only [Act.put, List.setIfInBounds_toArray, List.set_cons_zero, List.set_cons_succ, List.getElem_toArray, List.getElem_cons_zero, List.getElem_cons_succ])
    refine wpAnyH_take (i := 13) (v := undef) rfl (by kernel_rfl) (by kernel_rfl) (by kernel_rfl) (fun _ _ _ h => h) (Or.inr ⟨by rfl, rfl⟩) (by assumption) ?_
    (try simp only [Act.put, List.setIfInBounds_toArray, List.set_cons_zero, List.set_cons_succ, List.getElem_toArray, List.getElem_cons_zero, List.getElem_cons_succ])
    refine wpAnyH_take (i := 14) (v := undef) rfl (by kernel_rfl) (by kernel_rfl) (by kernel_rfl) (fun _ _ _ h => h) (Or.inr ⟨by rfl, rfl⟩) (by assumption) ?_
    (try simp only [Act.put, List.setIfInBounds_toArray, List.set_cons_zero, List.set_cons_succ, List.getElem_toArray, List.getElem_cons_zero, List.getElem_cons_succ])
    refine wpAnyH_take (i := 15) (v := undef) rfl (by kernel_rfl) (by kernel_rfl) (by kernel_rfl) (fun _ _ _ h => h) (Or.inr ⟨by rfl, rfl⟩) (by assumption) ?_
    (try simp only [Act.put, List.setIfInBounds_toArray, List.set_cons_zero, List.set_cons_succ, List.getElem_toArray, List.getElem_cons_zero, List.getElem_cons_succ])
    refine wpAnyH_take (i := 16) (v := undef) rfl (by kernel_rfl) (by kernel_rfl) (by kernel_rfl) (fun _ _ _ h => h) (Or.inr ⟨by rfl, rfl⟩) (by assumption) ?_
    (try simp only [Act.put, List.setIfInBounds_toArray, List.set_cons_zero, List.set_cons_succ, List.getElem_toArray, List.getElem_cons_zero, List.getElem_cons_succ])
    refine wpAnyH_take (i := 17) (v := undef) rfl (by kernel_rfl) (by kernel_rfl) (by kernel_rfl) (fun _ _ _ h => h) (Or.inr ⟨by rfl, rfl⟩) (by assumption) ?_
    (try simp only [Act.put, List.setIfInBounds_toArray, List.set_cons_zero, List.set_cons_succ, List.getElem_toArray, List.getElem_cons_zero, List.getElem_cons_succ])
    refine wpAnyH_take (i := 18) (v := undef) rfl (by kernel_rfl) (by kernel_rfl) (by kernel_rfl) (fun _ _ _ h => h) (Or.inr ⟨by rfl, rfl⟩) (by assumption) ?_
    (try simp only [Act.put, List.setIfInBounds_toArray, List.set_cons_zero, List.set_cons_succ, List.getElem_toArray, List.getElem_cons_zero, List.getElem_cons_succ])
    refine wpAnyH_take (i := 19) (v := undef) rfl (by kernel_rfl) (by kernel_rfl) (by kernel_rfl) (fun _ _ _ h => h) (Or.inr ⟨by rfl, rfl⟩) (by assumption) ?_
    (try simp only [Act.put, List.setIfInBounds_toArray, List.set_cons_zero, List.set_cons_succ, List.getElem_toArray, List.getElem_cons_zero, List.getElem_cons_succ])
    refine wpAnyH_take (i := 20) (v := undef) rfl (by kernel_rfl) (by kernel_rfl) (by kernel_rfl) (fun _ _ _ h => h) (Or.inr ⟨by rfl, rfl⟩) (by assumption) ?_
    (try simp only [Act.put, List.setIfInBounds_toArray, List.set_cons_zero, List.set_cons_succ, List.getElem_toArray, List.getElem_cons_zero, List.getElem_cons_succ])
    refine wpAnyH_take (i := 21) (v := undef) rfl (by kernel_rfl) (by kernel_rfl) (by kernel_rfl) (fun _ _ _ h => h) (Or.inr ⟨by rfl, rfl⟩) (by assumption) ?_
    (try simp only [Act.put, List.setIfInBounds_toArray, List.set_cons_zero, List.set_cons_succ, List.getElem_toArray, List.getElem_cons_zero, List.getElem_cons_succ])
    refine wpAnyH_take (i := 22) (v := undef) rfl (by kernel_rfl) (by kernel_rfl) (by kernel_rfl) (fun _ _ _ h => h) (Or.inr ⟨by rfl, rfl⟩) (by assumption) ?_
    (try simp only [Act.put, List.setIfInBounds_toArray, List.set_cons_zero, List.set_cons_succ, List.getElem_toArray, List.getElem_cons_zero, List.getElem_cons_succ])
    refine wpAnyH_take (i := 23) (v := undef) rfl (by kernel_rfl) (by kernel_rfl) (by kernel_rfl) (fun _ _ _ h => h) (Or.inr ⟨by rfl, rfl⟩) (by assumption) ?_
    (try simp only [Act.put, List.setIfInBounds_toArray, List.set_cons_zero, List.set_cons_succ, List.getElem_toArray, List.getElem_cons_zero, List.getElem_cons_succ])
    refine wpAnyH_take (i := 24) (v := undef) rfl (by kernel_rfl) (by kernel_rfl) (by kernel_rfl) (fun _ _ _ h => h) (Or.inr ⟨by rfl, rfl⟩) (by assumption) ?_
    (try simp only [Act.put, List.setIfInBounds_toArray, List.set_cons_zero, List.set_cons_succ, List.getElem_toArray, List.getElem_cons_zero, List.getElem_cons_succ])
    refine wpAnyH_take (i := 25) (v := undef) rfl (by kernel_rfl) (by kernel_rfl) (by kernel_rfl) (fun _ _ _ h => h) (Or.inr ⟨by rfl, rfl⟩) (by assumption) ?_
    (try simp only [Act.put, List.setIfInBounds_toArray, List.set_cons_zero, List.set_cons_succ, List.getElem_toArray, List.getElem_cons_zero, List.getElem_cons_succ])
    refine wpAnyH_take (i := 26) (v := undef) rfl (by kernel_rfl) (by kernel_rfl) (by kernel_rfl) (fun _ _ _ h => h) (Or.inr ⟨by rfl, rfl⟩) (by assumption) ?_
    (try simp only [Act.put, List.setIfInBounds_toArray, List.set_cons_zero, List.set_cons_succ, List.getElem_toArray, List.getElem_cons_zero, List.getElem_cons_succ])
    refine wpAnyH_take (i := 27) (v := undef) rfl (by kernel_rfl) (by kernel_rfl) (by kernel_rfl) (fun _ _ _ h => h) (Or.inr ⟨by rfl, rfl⟩) (by assumption) ?_
    (try simp only [Act.put, List.setIfInBounds_toArray, List.set_cons_zero, List.set_cons_succ, List.getElem_toArray, List.getElem_cons_zero, List.getElem_cons_succ])
    refine wpAnyH_take (i := 28) (v := .bool true) rfl (by kernel_rfl) (by kernel_rfl) (by kernel_rfl) (fun _ _ _ h => h) (Or.inl ⟨by rfl, ?_⟩) (by assumption) ?_
    · (intro wx hSw; (try dsimp only at hSw); go_split_ands; go_simp; (try with_reducible rfl); (try omega))
    (try simp only [Act.put, List.setIfInBounds_toArray, List.set_cons_zero, List.set_cons_succ, List.getElem_toArray, List.getElem_cons_zero, List.getElem_cons_succ])
    refine wpAnyH_take (i := 29) (v := ?_) rfl (by kernel_rfl) (by kernel_rfl) (by kernel_rfl) (fun _ _ _ h => h) (Or.inl ⟨by rfl, ?_⟩) (by assumption) ?_
    rotate_left
    · (intro wx hSw; (try dsimp only at hSw); go_split_ands; go_simp; (try with_reducible rfl); (try omega))
    (try simp only [Act.put, List.setIfInBounds_toArray, List.set_cons_zero, List.set_cons_succ, List.getElem_toArray, List.getElem_cons_zero, List.getElem_cons_succ])
    refine wpAnyH_done (by kernel_rfl) ?_ _
    go_wp2_with fail
    go_ret
    exact ⟨ret_bool HV.out.symm, (Step.refl HR.out).below hB4⟩
  have Hn := hid0 h1
  have Ht := hid0 h2
  have Hf := hid0 h3
  rcases Bool.eq_false_or_eq_true (isP l [45] σ) with h4 | h4
  · have Hd := hid0 h4
    have hmore := HIM.out _ h4
    obtain ⟨b, o, c, h⟩ := HR1.out.out
    obtain ⟨b', o', e', hc⟩ := h.ws h.ok.ne
    cases e'
    obtain ⟨k_1, -, -, -⟩ := hc (σ.i + 1) hmore
    have hlen := h.ok.few
    have c0_1 := h.c0
    have c1_1 := h.c1
    have hy : wdP l ⟨σ.i + 1, σ.e⟩ = l[σ.i + 1]'hmore := by unfold wdP; rw [List.getD_eq_getElem?_getD, List.getElem?_eq_getElem hmore]; rfl
    have HV0 := HVD.out
    rw [h1, h2, h3, h4, hy] at HV0
    obtain ⟨k2, hk2⟩ : ∃ x, (l[σ.i + 1]'hmore).k = x := ⟨_, rfl⟩
    rw [hk2] at HV0 k_1
    obtain ⟨i, hi⟩ : ∃ x, σ.i = x := ⟨_, rfl⟩
    rw [hi] at k_1 c1_1
    have hi1 : (i : Int) + 1 < (l.length : Int) := by omega
    have hi0 : 0 ≤ (i : Int) + 1 := by omega
    have hi2 : IntKind.i64.wrap ((i : Int) + 1) = ((i + 1 : Nat) : Int) := by rw [IntWalk.i64_in _ (by omega)]; omega
    clear h hc hk2 hi hy hmore HVD HIM HK5 h1 h2 h3 h4
    by_cases hz : k2 = 2
    · subst hz
      have HV := hid0 (show v = true by rw [← HV0]; rfl)
      clear HV0
      refine wp_region_held_drew (S := fun w' => Below w.heap.size w w' ∧ w'.cell? ⟨a, 0, none⟩ = some (.slice (some ⟨b, o, none⟩) l.length c) ∧ w'.cell? ⟨a, 1, none⟩ = some (.int .i64 (i : Int)) ∧ w'.cell? ⟨b, o + (i + 1) * 4, none⟩ = some (.int .i64 2)) (by kernel_rfl) ⟨hB1, c0_1, c1_1, k_1⟩ (fun hHeld => ?_)
      refine wpAnyH_take (i := 0) (v := ?_) rfl (by kernel_rfl) (by kernel_rfl) (by kernel_rfl) (fun _ _ _ h => h) (Or.inl ⟨by rfl, ?_⟩) (by assumption) ?_
      rotate_left
      · (intro wx hSw; (try dsimp only at hSw); go_split_ands; go_simp; (try with_reducible rfl); (try omega))
      (try simp only [Act.put, List.setIfInBounds_toArray, List.set_cons_zero, List.set_cons_succ, List.getElem_toArray, List.getElem_cons_zero])
      refine wpAnyH_ready (rs := [1]) (by kernel_rfl) (by simp) ?_
      refine AllReadyH.cons rfl (fun K hK => ?_) AllReadyH.nil
      go_simp
      refine (paIs_b Hn HR1.out).mono ?_
      rintro e w2 ⟨rfl, hb2⟩; (have hB2 := hB1.trans (hb2.mono hB1.size)); (have HR2 := hid0 (HR1.out.later hb2)); (have c0_2 := cell_later hb2 c0_1); (have c1_2 := cell_later hb2 c1_1); (have k_2 := cell_later hb2 k_1)
      refine hK.out _ _ ⟨hB2, cell_later hb2 c0_1, cell_later hb2 c1_1, cell_later hb2 k_1⟩ (fun hHeld => ?_)
      clear hK K
      (try simp only [Act.put, List.setIfInBounds_toArray, List.set_cons_zero, List.set_cons_succ, List.getElem_toArray, List.getElem_cons_zero, List.getElem_cons_succ])
      refine wpAnyH_take (i := 2) (v := .bool false) rfl (by kernel_rfl) (by kernel_rfl) (by kernel_rfl) (fun _ _ _ h => h) (Or.inl ⟨by rfl, ?_⟩) (by assumption) ?_
      · (intro wx hSw; (try dsimp only at hSw); go_split_ands; go_simp; (try with_reducible rfl); (try omega))
      (try simp only [Act.put, List.setIfInBounds_toArray, List.set_cons_zero, List.set_cons_succ, List.getElem_toArray, List.getElem_cons_zero, List.getElem_cons_succ])
      refine wpAnyH_take (i := 3) (v := ?_) rfl (by kernel_rfl) (by kernel_rfl) (by kernel_rfl) (fun _ _ _ h => h) (Or.inl ⟨by rfl, ?_⟩) (by assumption) ?_
      rotate_left
      · (intro wx hSw; (try dsimp only at hSw); go_split_ands; go_simp; (try with_reducible rfl); (try omega))
      (try simp only [Act.put, List.setIfInBounds_toArray, List.set_cons_zero, List.set_cons_succ, List.getElem_toArray, List.getElem_cons_zero, List.getElem_cons_succ])
      refine wpAnyH_ready (rs := [4]) (by kernel_rfl) (by simp) ?_
      refine AllReadyH.cons rfl (fun K hK => ?_) AllReadyH.nil
      go_simp
      refine (paIs_b Ht HR2.out).mono ?_
      rintro e w3 ⟨rfl, hb3⟩; (have hB3 := hB2.trans (hb3.mono hB2.size)); (have HR3 := hid0 (HR2.out.later hb3)); (have c0_3 := cell_later hb3 c0_2); (have c1_3 := cell_later hb3 c1_2); (have k_3 := cell_later hb3 k_2)
      refine hK.out _ _ ⟨hB3, cell_later hb3 c0_2, cell_later hb3 c1_2, cell_later hb3 k_2⟩ (fun hHeld => ?_)
      clear hK K
      (try simp only [Act.put, List.setIfInBounds_toArray, List.set_cons_zero, List.set_cons_succ, List.getElem_toArray, List.getElem_cons_zero, List.getElem_cons_succ])
      refine wpAnyH_take (i := 5) (v := .bool false) rfl (by kernel_rfl) (by kernel_rfl) (by kernel_rfl) (fun _ _ _ h => h) (Or.inl ⟨by rfl, ?_⟩) (by assumption) ?_
      · (intro wx hSw; (try dsimp only at hSw); go_split_ands; go_simp; (try with_reducible rfl); (try omega))
      (try simp only [Act.put, List.setIfInBounds_toArray, List.set_cons_zero, List.set_cons_succ, List.getElem_toArray, List.getElem_cons_zero, List.getElem_cons_succ])
      refine wpAnyH_take (i := 6) (v := .bool false) rfl (by kernel_rfl) (by kernel_rfl) (by kernel_rfl) (fun _ _ _ h => h) (Or.inl ⟨by rfl, ?_⟩) (by assumption) ?_
      · (intro wx hSw; (try dsimp only at hSw); go_split_ands; go_simp; (try with_reducible rfl); (try omega))
      (try simp only [Act.put, List.setIfInBounds_toArray, List.set_cons_zero, List.set_cons_succ, List.getElem_toArray, List.getElem_cons_zero, List.getElem_cons_succ])
      refine wpAnyH_take (i := 7) (v := ?_) rfl (by kernel_rfl) (by kernel_rfl) (by kernel_rfl) (fun _ _ _ h => h) (Or.inl ⟨by rfl, ?_⟩) (by assumption) ?_
      rotate_left
      · (intro wx hSw; (try dsimp only at hSw); go_split_ands; go_simp; (try with_reducible rfl); (try omega))
      (try simp only [Act.put, List.setIfInBounds_toArray, List.set_cons_zero, List.set_cons_succ, List.getElem_toArray, List.getElem_cons_zero, List.getElem_cons_succ])
      refine wpAnyH_ready (rs := [8]) (by kernel_rfl) (by simp) ?_
      refine AllReadyH.cons rfl (fun K hK => ?_) AllReadyH.nil
      go_simp
      refine (paIs_b Hf HR3.out).mono ?_
      rintro e w4 ⟨rfl, hb4⟩; (have hB4 := hB3.trans (hb4.mono hB3.size)); (have HR4 := hid0 (HR3.out.later hb4)); (have c0_4 := cell_later hb4 c0_3); (have c1_4 := cell_later hb4 c1_3); (have k_4 := cell_later hb4 k_3)
      refine hK.out _ _ ⟨hB4, cell_later hb4 c0_3, cell_later hb4 c1_3, cell_later hb4 k_3⟩ (fun hHeld => ?_)
      clear hK K
      (try simp only [Act.put, List.setIfInBounds_toArray, List.set_cons_zero, List.set_cons_succ, List.getElem_toArray, List.getElem_cons_zero, List.getElem_cons_succ])
      refine wpAnyH_take (i := 9) (v := .bool false) rfl (by kernel_rfl) (by kernel_rfl) (by kernel_rfl) (fun _ _ _ h => h) (Or.inl ⟨by rfl, ?_⟩) (by assumption) ?_
      · (intro wx hSw; (try dsimp only at hSw); go_split_ands; go_simp; (try with_reducible rfl); (try omega))
      (try simp only [Act.put, List.setIfInBounds_toArray, List.set_cons_zero, List.set_cons_succ, List.getElem_toArray, List.getElem_cons_zero, List.getElem_cons_succ])
      refine wpAnyH_take (i := 10) (v := .bool false) rfl (by kernel_rfl) (by kernel_rfl) (by kernel_rfl) (fun _ _ _ h => h) (Or.inl ⟨by rfl, ?_⟩) (by assumption) ?_
      · (intro wx hSw; (try dsimp only at hSw); go_split_ands; go_simp; (try with_reducible rfl); (try omega))
      (try simp only [Act.put, List.setIfInBounds_toArray, List.set_cons_zero, List.set_cons_succ, List.getElem_toArray, List.getElem_cons_zero, List.getElem_cons_succ])
      refine wpAnyH_take (i := 11) (v := ?_) rfl (by kernel_rfl) (by kernel_rfl) (by kernel_rfl) (fun _ _ _ h => h) (Or.inl ⟨by rfl, ?_⟩) (by assumption) ?_
      rotate_left
      · (intro wx hSw; (try dsimp only at hSw); go_split_ands; go_simp; (try with_reducible rfl); (try omega))
      (try simp only [Act.put, List.setIfInBounds_toArray, List.set_cons_zero, List.set_cons_succ, List.getElem_toArray, List.getElem_cons_zero, List.getElem_cons_succ])
      refine wpAnyH_ready (rs := [12]) (by kernel_rfl) (by simp) ?_
      refine AllReadyH.cons rfl (fun K hK => ?_) AllReadyH.nil
      go_simp
      refine (paIs_b Hd HR4.out).mono ?_
      rintro e w5 ⟨rfl, hb5⟩; (have hB5 := hB4.trans (hb5.mono hB4.size)); (have HR5 := hid0 (HR4.out.later hb5)); (have c0_5 := cell_later hb5 c0_4); (have c1_5 := cell_later hb5 c1_4); (have k_5 := cell_later hb5 k_4)
      refine hK.out _ _ ⟨hB5, cell_later hb5 c0_4, cell_later hb5 c1_4, cell_later hb5 k_4⟩ (fun hHeld => ?_)
      clear hK K
      (try simp only [Act.put, List.setIfInBounds_toArray, List.set_cons_zero, List.set_cons_succ, List.getElem_toArray, List.getElem_cons_zero, List.getElem_cons_succ])
      refine wpAnyH_take (i := 13) (v := .bool true) rfl (by kernel_rfl) (by kernel_rfl) (by kernel_rfl) (fun _ _ _ h => h) (Or.inl ⟨by rfl, ?_⟩) (by assumption) ?_
      · (intro wx hSw; (try dsimp only at hSw); go_split_ands; go_simp; (try with_reducible rfl); (try omega))
      (try simp only [Act.put, List.setIfInBounds_toArray, List.set_cons_zero, List.set_cons_succ, List.getElem_toArray, List.getElem_cons_zero, List.getElem_cons_succ])
      refine wpAnyH_take (i := 14) (v := ?_) rfl (by kernel_rfl) (by kernel_rfl) (by kernel_rfl) (fun _ _ _ h => h) (Or.inl ⟨by rfl, ?_⟩) (by assumption) ?_
      rotate_left
      · (intro wx hSw; (try dsimp only at hSw); go_split_ands; go_simp; (try with_reducible rfl); (try omega))
      (try simp only [Act.put, List.setIfInBounds_toArray, List.set_cons_zero, List.set_cons_succ, List.getElem_toArray, List.getElem_cons_zero, List.getElem_cons_succ])
      refine wpAnyH_take (i := 15) (v := ?_) rfl (by kernel_rfl) (by kernel_rfl) (by kernel_rfl) (fun _ _ _ h => h) (Or.inl ⟨by rfl, ?_⟩) (by assumption) ?_
      rotate_left
      · (intro wx hSw; (try dsimp only at hSw); go_split_ands; go_simp; (try with_reducible rfl); (try omega))
      (try simp only [Act.put, List.setIfInBounds_toArray, List.set_cons_zero, List.set_cons_succ, List.getElem_toArray, List.getElem_cons_zero, List.getElem_cons_succ])
      refine wpAnyH_take (i := 16) (v := ?_) rfl (by kernel_rfl) (by kernel_rfl) (by kernel_rfl) (fun _ _ _ h => h) (Or.inl ⟨by rfl, ?_⟩) (by assumption) ?_
      rotate_left
      · (intro wx hSw; (try dsimp only at hSw); go_split_ands; go_simp; (try with_reducible rfl); (try omega))
      (try simp only [Act.put, List.setIfInBounds_toArray, List.set_cons_zero, List.set_cons_succ, List.getElem_toArray, List.getElem_cons_zero, List.getElem_cons_succ])
      refine wpAnyH_take (i := 17) (v := ?_) rfl (by kernel_rfl) (by kernel_rfl) (by kernel_rfl) (fun _ _ _ h => h) (Or.inl ⟨by rfl, ?_⟩) (by assumption) ?_
      rotate_left
      · (intro wx hSw; (try dsimp only at hSw); go_split_ands; go_simp; (try with_reducible rfl); (try omega))
      (try simp only [Act.put, List.setIfInBounds_toArray, List.set_cons_zero, List.set_cons_succ, List.getElem_toArray, List.getElem_cons_zero, List.getElem_cons_succ])
      refine wpAnyH_take (i := 18) (v := ?_) rfl (by kernel_rfl) (by kernel_rfl) (by kernel_rfl) (fun _ _ _ h => h) (Or.inl ⟨by rfl, ?_⟩) (by assumption) ?_
      rotate_left
      · (intro wx hSw; (try dsimp only at hSw); go_split_ands; go_simp; (try with_reducible rfl); (try omega))
      (try simp only [Act.put, List.setIfInBounds_toArray, List.set_cons_zero, List.set_cons_succ, List.getElem_toArray, List.getElem_cons_zero, List.getElem_cons_succ])
      refine wpAnyH_take (i := 19) (v := ?_) rfl (by kernel_rfl) (by kernel_rfl) (by kernel_rfl) (fun _ _ _ h => h) (Or.inl ⟨by rfl, ?_⟩) (by assumption) ?_
      rotate_left
      · (intro wx hSw; (try dsimp only at hSw); go_split_ands; go_simp; (try with_reducible rfl); (try omega))
      (try simp only [Act.put, List.setIfInBounds_toArray, List.set_cons_zero, List.set_cons_succ, List.getElem_toArray, List.getElem_cons_zero, List.getElem_cons_succ])
      refine wpAnyH_take (i := 20) (v := ?_) rfl (by kernel_rfl) (by kernel_rfl) (by kernel_rfl) (fun _ _ _ h => h) (Or.inl ⟨by rfl, ?_⟩) (by assumption) ?_
      rotate_left
      · (intro wx hSw; (try dsimp only at hSw); go_split_ands; go_simp; (try with_reducible rfl); (try omega))
      (try simp only [Act.put, List.setIfInBounds_toArray, List.set_cons_zero, List.set_cons_succ, List.getElem_toArray, List.getElem_cons_zero, List.getElem_cons_succ])
      refine wpAnyH_take (i := 21) (v := ?_) rfl (by kernel_rfl) (by kernel_rfl) (by kernel_rfl) (fun _ _ _ h => h) (Or.inl ⟨by rfl, ?_⟩) (by assumption) ?_
      rotate_left
      · (intro wx hSw; (try dsimp only at hSw); go_split_ands; go_simp; (try with_reducible rfl); (try omega))
      (try simp only [Act.put, List.setIfInBounds_toArray, List.set_cons_zero, List.set_cons_succ, List.getElem_toArray, List.getElem_cons_zero, List.getElem_cons_succ])
      refine wpAnyH_take (i := 22) (v := ?_) rfl (by kernel_rfl) (by kernel_rfl) (by kernel_rfl) (fun _ _ _ h => h) (Or.inl ⟨by rfl, ?_⟩) (by assumption) ?_
      rotate_left
      · (intro wx hSw; (try dsimp only at hSw); go_split_ands; go_simp; (try with_reducible rfl); (try omega))
      (try simp only [Act.put, List.setIfInBounds_toArray, List.set_cons_zero, List.set_cons_succ, List.getElem_toArray, List.getElem_cons_zero, List.getElem_cons_succ])
      refine wpAnyH_take (i := 23) (v := ?_) rfl (by kernel_rfl) (by kernel_rfl) (by kernel_rfl) (fun _ _ _ h => h) (Or.inl ⟨by rfl, ?_⟩) (by assumption) ?_
      rotate_left
      · (intro wx hSw; (try dsimp only at hSw); go_split_ands; go_simp; (try with_reducible rfl); (try omega))
      (try simp only [Act.put, List.setIfInBounds_toArray, List.set_cons_zero, List.set_cons_succ, List.getElem_toArray, List.getElem_cons_zero, List.getElem_cons_succ])
      refine wpAnyH_take (i := 24) (v := ?_) rfl (by kernel_rfl) (by kernel_rfl) (by kernel_rfl) (fun _ _ _ h => h) (Or.inl ⟨by rfl, ?_⟩) (by assumption) ?_
      rotate_left
      · (intro wx hSw; (try dsimp only at hSw); go_split_ands; go_simp; (try with_reducible rfl); (try omega))
      (try simp only [Act.put, List.setIfInBounds_toArray, List.set_cons_zero, List.set_cons_succ, List.getElem_toArray, List.getElem_cons_zero, List.getElem_cons_succ])
      refine wpAnyH_take (i := 25) (v := ?_) rfl (by kernel_rfl) (by kernel_rfl) (by kernel_rfl) (fun _ _ _ h => h) (Or.inl ⟨by rfl, ?_⟩) (by assumption) ?_
      rotate_left
      · (intro wx hSw; (try dsimp only at hSw); go_split_ands; go_simp; (try with_reducible rfl); (try omega))
      (try simp only [Act.put, List.setIfInBounds_toArray, List.set_cons_zero, List.set_cons_succ, List.getElem_toArray, List.getElem_cons_zero, List.getElem_cons_succ])
      refine wpAnyH_take (i := 26) (v := .bool true) rfl (by kernel_rfl) (by kernel_rfl) (by kernel_rfl) (fun _ _ _ h => h) (Or.inl ⟨by rfl, ?_⟩) (by assumption) ?_
      · (intro wx hSw; (try dsimp only at hSw); go_split_ands; go_simp; (try with_reducible rfl); (try omega))
      (try simp only [Act.put, List.setIfInBounds_toArray, List.set_cons_zero, List.set_cons_succ, List.getElem_toArray, List.getElem_cons_zero, List.getElem_cons_succ])
      refine wpAnyH_take (i := 27) (v := .bool true) rfl (by kernel_rfl) (by kernel_rfl) (by kernel_rfl) (fun _ _ _ h => h) (Or.inl ⟨by rfl, ?_⟩) (by assumption) ?_
      · (intro wx hSw; (try dsimp only at hSw); go_split_ands; go_simp; (try with_reducible rfl); (try omega))
      (try simp only [Act.put, List.setIfInBounds_toArray, List.set_cons_zero, List.set_cons_succ, List.getElem_toArray, List.getElem_cons_zero, List.getElem_cons_succ])
      refine wpAnyH_take (i := 28) (v := .bool true) rfl (by kernel_rfl) (by kernel_rfl) (by kernel_rfl) (fun _ _ _ h => h) (Or.inl ⟨by rfl, ?_⟩) (by assumption) ?_
      · (intro wx hSw; (try dsimp only at hSw); go_split_ands; go_simp; (try with_reducible rfl); (try omega))
      (try simp only [Act.put, List.setIfInBounds_toArray, List.set_cons_zero, List.set_cons_succ, List.getElem_toArray, List.getElem_cons_zero, List.getElem_cons_succ])
      refine wpAnyH_take (i := 29) (v := ?_) rfl (by kernel_rfl) (by kernel_rfl) (by kernel_rfl) (fun _ _ _ h => h) (Or.inl ⟨by rfl, ?_⟩) (by assumption) ?_
      rotate_left
      · (intro wx hSw; (try dsimp only at hSw); go_split_ands; go_simp; (try with_reducible rfl); (try omega))
      (try simp only [Act.put, List.setIfInBounds_toArray, List.set_cons_zero, List.set_cons_succ, List.getElem_toArray, List.getElem_cons_zero, List.getElem_cons_succ])
      refine wpAnyH_done (by kernel_rfl) ?_ _
      go_wp2_with fail
      go_ret
      exact ⟨ret_bool HV.out.symm, (Step.refl HR.out).below hB5⟩
    · have HV := hid0 (show v = false by rw [← HV0, decide_eq_false hz]; rfl)
      have hzf : ((k2 : Int) == 2) = false := by rw [beq_eq_false_iff_ne]; omega
      clear HV0 hz
      refine wp_region_held_drew (S := fun w' => Below w.heap.size w w' ∧ w'.cell? ⟨a, 0, none⟩ = some (.slice (some ⟨b, o, none⟩) l.length c) ∧ w'.cell? ⟨a, 1, none⟩ = some (.int .i64 (i : Int)) ∧ w'.cell? ⟨b, o + (i + 1) * 4, none⟩ = some (.int .i64 (k2 : Int))) (by kernel_rfl) ⟨hB1, c0_1, c1_1, k_1⟩ (fun hHeld => ?_)
      refine wpAnyH_take (i := 0) (v := ?_) rfl (by kernel_rfl) (by kernel_rfl) (by kernel_rfl) (fun _ _ _ h => h) (Or.inl ⟨by rfl, ?_⟩) (by assumption) ?_
      rotate_left
      · (intro wx hSw; (try dsimp only at hSw); go_split_ands; go_simp; (try with_reducible rfl); (try omega))
      (try simp only [Act.put, List.setIfInBounds_toArray, List.set_cons_zero, List.set_cons_succ, List.getElem_toArray, List.getElem_cons_zero])
      refine wpAnyH_ready (rs := [1]) (by kernel_rfl) (by simp) ?_
      refine AllReadyH.cons rfl (fun K hK => ?_) AllReadyH.nil
      go_simp
      refine (paIs_b Hn HR1.out).mono ?_
      rintro e w2 ⟨rfl, hb2⟩; (have hB2 := hB1.trans (hb2.mono hB1.size)); (have HR2 := hid0 (HR1.out.later hb2)); (have c0_2 := cell_later hb2 c0_1); (have c1_2 := cell_later hb2 c1_1); (have k_2 := cell_later hb2 k_1)
      refine hK.out _ _ ⟨hB2, cell_later hb2 c0_1, cell_later hb2 c1_1, cell_later hb2 k_1⟩ (fun hHeld => ?_)
      clear hK K
      (try simp only [Act.put, List.setIfInBounds_toArray, List.set_cons_zero, List.set_cons_succ, List.getElem_toArray, List.getElem_cons_zero, List.getElem_cons_succ])
      refine wpAnyH_take (i := 2) (v := .bool false) rfl (by kernel_rfl) (by kernel_rfl) (by kernel_rfl) (fun _ _ _ h => h) (Or.inl ⟨by rfl, ?_⟩) (by assumption) ?_
      · (intro wx hSw; (try dsimp only at hSw); go_split_ands; go_simp; (try with_reducible rfl); (try omega))
      (try simp only [Act.put, List.setIfInBounds_toArray, List.set_cons_zero, List.set_cons_succ, List.getElem_toArray, List.getElem_cons_zero, List.getElem_cons_succ])
      refine wpAnyH_take (i := 3) (v := ?_) rfl (by kernel_rfl) (by kernel_rfl) (by kernel_rfl) (fun _ _ _ h => h) (Or.inl ⟨by rfl, ?_⟩) (by assumption) ?_
      rotate_left
      · (intro wx hSw; (try dsimp only at hSw); go_split_ands; go_simp; (try with_reducible rfl); (try omega))
      (try simp only [Act.put, List.setIfInBounds_toArray, List.set_cons_zero, List.set_cons_succ, List.getElem_toArray, List.getElem_cons_zero, List.getElem_cons_succ])
      refine wpAnyH_ready (rs := [4]) (by kernel_rfl) (by simp) ?_
      refine AllReadyH.cons rfl (fun K hK => ?_) AllReadyH.nil
      go_simp
      refine (paIs_b Ht HR2.out).mono ?_
      rintro e w3 ⟨rfl, hb3⟩; (have hB3 := hB2.trans (hb3.mono hB2.size)); (have HR3 := hid0 (HR2.out.later hb3)); (have c0_3 := cell_later hb3 c0_2); (have c1_3 := cell_later hb3 c1_2); (have k_3 := cell_later hb3 k_2)
      refine hK.out _ _ ⟨hB3, cell_later hb3 c0_2, cell_later hb3 c1_2, cell_later hb3 k_2⟩ (fun hHeld => ?_)
      clear hK K
      (try simp only [Act.put, List.setIfInBounds_toArray, List.set_cons_zero, List.set_cons_succ, List.getElem_toArray, List.getElem_cons_zero, List.getElem_cons_succ])
      refine wpAnyH_take (i := 5) (v := .bool false) rfl (by kernel_rfl) (by kernel_rfl) (by kernel_rfl) (fun _ _ _ h => h) (Or.inl ⟨by rfl, ?_⟩) (by assumption) ?_
      · (intro wx hSw; (try dsimp only at hSw); go_split_ands; go_simp; (try with_reducible rfl); (try omega))
      (try simp only [Act.put, List.setIfInBounds_toArray, List.set_cons_zero, List.set_cons_succ, List.getElem_toArray, List.getElem_cons_zero, List.getElem_cons_succ])
      refine wpAnyH_take (i := 6) (v := .bool false) rfl (by kernel_rfl) (by kernel_rfl) (by kernel_rfl) (fun _ _ _ h => h) (Or.inl ⟨by rfl, ?_⟩) (by assumption) ?_
      · (intro wx hSw; (try dsimp only at hSw); go_split_ands; go_simp; (try with_reducible rfl); (try omega))
      (try simp only [Act.put, List.setIfInBounds_toArray, List.set_cons_zero, List.set_cons_succ, List.getElem_toArray, List.getElem_cons_zero, List.getElem_cons_succ])
      refine wpAnyH_take (i := 7) (v := ?_) rfl (by kernel_rfl) (by kernel_rfl) (by kernel_rfl) (fun _ _ _ h => h) (Or.inl ⟨by rfl, ?_⟩) (by assumption) ?_
      rotate_left
      · (intro wx hSw; (try dsimp only at hSw); go_split_ands; go_simp; (try with_reducible rfl); (try omega))
      (try simp only [Act.put, List.setIfInBounds_toArray, List.set_cons_zero, List.set_cons_succ, List.getElem_toArray, List.getElem_cons_zero, List.getElem_cons_succ])
      refine wpAnyH_ready (rs := [8]) (by kernel_rfl) (by simp) ?_
      refine AllReadyH.cons rfl (fun K hK => ?_) AllReadyH.nil
      go_simp
      refine (paIs_b Hf HR3.out).mono ?_
      rintro e w4 ⟨rfl, hb4⟩; (have hB4 := hB3.trans (hb4.mono hB3.size)); (have HR4 := hid0 (HR3.out.later hb4)); (have c0_4 := cell_later hb4 c0_3); (have c1_4 := cell_later hb4 c1_3); (have k_4 := cell_later hb4 k_3)
      refine hK.out _ _ ⟨hB4, cell_later hb4 c0_3, cell_later hb4 c1_3, cell_later hb4 k_3⟩ (fun hHeld => ?_)
      clear hK K
      (try simp only [Act.put, List.setIfInBounds_toArray, List.set_cons_zero, List.set_cons_succ, List.getElem_toArray, List.getElem_cons_zero, List.getElem_cons_succ])
      refine wpAnyH_take (i := 9) (v := .bool false) rfl (by kernel_rfl) (by kernel_rfl) (by kernel_rfl) (fun _ _ _ h => h) (Or.inl ⟨by rfl, ?_⟩) (by assumption) ?_
      · (intro wx hSw; (try dsimp only at hSw); go_split_ands; go_simp; (try with_reducible rfl); (try omega))
      (try simp only [Act.put, List.setIfInBounds_toArray, List.set_cons_zero, List.set_cons_succ, List.getElem_toArray, List.getElem_cons_zero, List.getElem_cons_succ])
      refine wpAnyH_take (i := 10) (v := .bool false) rfl (by kernel_rfl) (by kernel_rfl) (by kernel_rfl) (fun _ _ _ h => h) (Or.inl ⟨by rfl, ?_⟩) (by assumption) ?_
      · (intro wx hSw; (try dsimp only at hSw); go_split_ands; go_simp; (try with_reducible rfl); (try omega))
      (try simp only [Act.put, List.setIfInBounds_toArray, List.set_cons_zero, List.set_cons_succ, List.getElem_toArray, List.getElem_cons_zero, List.getElem_cons_succ])
      refine wpAnyH_take (i := 11) (v := ?_) rfl (by kernel_rfl) (by kernel_rfl) (by kernel_rfl) (fun _ _ _ h => h) (Or.inl ⟨by rfl, ?_⟩) (by assumption) ?_
      rotate_left
      · (intro wx hSw; (try dsimp only at hSw); go_split_ands; go_simp; (try with_reducible rfl); (try omega))
      (try simp only [Act.put, List.setIfInBounds_toArray, List.set_cons_zero, List.set_cons_succ, List.getElem_toArray, List.getElem_cons_zero, List.getElem_cons_succ])
      refine wpAnyH_ready (rs := [12]) (by kernel_rfl) (by simp) ?_
      refine AllReadyH.cons rfl (fun K hK => ?_) AllReadyH.nil
      go_simp
      refine (paIs_b Hd HR4.out).mono ?_
      rintro e w5 ⟨rfl, hb5⟩; (have hB5 := hB4.trans (hb5.mono hB4.size)); (have HR5 := hid0 (HR4.out.later hb5)); (have c0_5 := cell_later hb5 c0_4); (have c1_5 := cell_later hb5 c1_4); (have k_5 := cell_later hb5 k_4)
      refine hK.out _ _ ⟨hB5, cell_later hb5 c0_4, cell_later hb5 c1_4, cell_later hb5 k_4⟩ (fun hHeld => ?_)
      clear hK K
      (try simp only [Act.put, List.setIfInBounds_toArray, List.set_cons_zero, List.set_cons_succ, List.getElem_toArray, List.getElem_cons_zero, List.getElem_cons_succ])
      refine wpAnyH_take (i := 13) (v := .bool true) rfl (by kernel_rfl) (by kernel_rfl) (by kernel_rfl) (fun _ _ _ h => h) (Or.inl ⟨by rfl, ?_⟩) (by assumption) ?_
      · (intro wx hSw; (try dsimp only at hSw); go_split_ands; go_simp; (try with_reducible rfl); (try omega))
      (try simp only [Act.put, List.setIfInBounds_toArray, List.set_cons_zero, List.set_cons_succ, List.getElem_toArray, List.getElem_cons_zero, List.getElem_cons_succ])
      refine wpAnyH_take (i := 14) (v := ?_) rfl (by kernel_rfl) (by kernel_rfl) (by kernel_rfl) (fun _ _ _ h => h) (Or.inl ⟨by rfl, ?_⟩) (by assumption) ?_
      rotate_left
      · (intro wx hSw; (try dsimp only at hSw); go_split_ands; go_simp; (try with_reducible rfl); (try omega))
      (try simp only [Act.put, List.setIfInBounds_toArray, List.set_cons_zero, List.set_cons_succ, List.getElem_toArray, List.getElem_cons_zero, List.getElem_cons_succ])
      refine wpAnyH_take (i := 15) (v := ?_) rfl (by kernel_rfl) (by kernel_rfl) (by kernel_rfl) (fun _ _ _ h => h) (Or.inl ⟨by rfl, ?_⟩) (by assumption) ?_
      rotate_left
      · (intro wx hSw; (try dsimp only at hSw); go_split_ands; go_simp; (try with_reducible rfl); (try omega))
      (try simp only [Act.put, List.setIfInBounds_toArray, List.set_cons_zero, List.set_cons_succ, List.getElem_toArray, List.getElem_cons_zero, List.getElem_cons_succ])
      refine wpAnyH_take (i := 16) (v := ?_) rfl (by kernel_rfl) (by kernel_rfl) (by kernel_rfl) (fun _ _ _ h => h) (Or.inl ⟨by rfl, ?_⟩) (by assumption) ?_
      rotate_left
      · (intro wx hSw; (try dsimp only at hSw); go_split_ands; go_simp; (try with_reducible rfl); (try omega))
      (try simp only [Act.put, List.setIfInBounds_toArray, List.set_cons_zero, List.set_cons_succ, List.getElem_toArray, List.getElem_cons_zero, List.getElem_cons_succ])
      refine wpAnyH_take (i := 17) (v := ?_) rfl (by kernel_rfl) (by kernel_rfl) (by kernel_rfl) (fun _ _ _ h => h) (Or.inl ⟨by rfl, ?_⟩) (by assumption) ?_
      rotate_left
      · (intro wx hSw; (try dsimp only at hSw); go_split_ands; go_simp; (try with_reducible rfl); (try omega))
      (try simp only [Act.put, List.setIfInBounds_toArray, List.set_cons_zero, List.set_cons_succ, List.getElem_toArray, List.getElem_cons_zero, List.getElem_cons_succ])
      refine wpAnyH_take (i := 18) (v := ?_) rfl (by kernel_rfl) (by kernel_rfl) (by kernel_rfl) (fun _ _ _ h => h) (Or.inl ⟨by rfl, ?_⟩) (by assumption) ?_
      rotate_left
      · (intro wx hSw; (try dsimp only at hSw); go_split_ands; go_simp; (try with_reducible rfl); (try omega))
      (try simp only [Act.put, List.setIfInBounds_toArray, List.set_cons_zero, List.set_cons_succ, List.getElem_toArray, List.getElem_cons_zero, List.getElem_cons_succ])
      refine wpAnyH_take (i := 19) (v := ?_) rfl (by kernel_rfl) (by kernel_rfl) (by kernel_rfl) (fun _ _ _ h => h) (Or.inl ⟨by rfl, ?_⟩) (by assumption) ?_
      rotate_left
      · (intro wx hSw; (try dsimp only at hSw); go_split_ands; go_simp; (try with_reducible rfl); (try omega))
      (try simp only [Act.put, List.setIfInBounds_toArray, List.set_cons_zero, List.set_cons_succ, List.getElem_toArray, List.getElem_cons_zero, List.getElem_cons_succ])
      refine wpAnyH_take (i := 20) (v := ?_) rfl (by kernel_rfl) (by kernel_rfl) (by kernel_rfl) (fun _ _ _ h => h) (Or.inl ⟨by rfl, ?_⟩) (by assumption) ?_
      rotate_left
      · (intro wx hSw; (try dsimp only at hSw); go_split_ands; go_simp; (try with_reducible rfl); (try omega))
      (try simp only [Act.put, List.setIfInBounds_toArray, List.set_cons_zero, List.set_cons_succ, List.getElem_toArray, List.getElem_cons_zero, List.getElem_cons_succ])
      refine wpAnyH_take (i := 21) (v := ?_) rfl (by kernel_rfl) (by kernel_rfl) (by kernel_rfl) (fun _ _ _ h => h) (Or.inl ⟨by rfl, ?_⟩) (by assumption) ?_
      rotate_left
      · (intro wx hSw; (try dsimp only at hSw); go_split_ands; go_simp; (try with_reducible rfl); (try omega))
      (try simp only [Act.put, List.setIfInBounds_toArray, List.set_cons_zero, List.set_cons_succ, List.getElem_toArray, List.getElem_cons_zero, List.getElem_cons_succ])
      refine wpAnyH_take (i := 22) (v := ?_) rfl (by kernel_rfl) (by kernel_rfl) (by kernel_rfl) (fun _ _ _ h => h) (Or.inl ⟨by rfl, ?_⟩) (by assumption) ?_
      rotate_left
      · (intro wx hSw; (try dsimp only at hSw); go_split_ands; go_simp; (try with_reducible rfl); (try omega))
      (try simp only [Act.put, List.setIfInBounds_toArray, List.set_cons_zero, List.set_cons_succ, List.getElem_toArray, List.getElem_cons_zero, List.getElem_cons_succ])
      refine wpAnyH_take (i := 23) (v := ?_) rfl (by kernel_rfl) (by kernel_rfl) (by kernel_rfl) (fun _ _ _ h => h) (Or.inl ⟨by rfl, ?_⟩) (by assumption) ?_
      rotate_left
      · (intro wx hSw; (try dsimp only at hSw); go_split_ands; go_simp; (try with_reducible rfl); (try omega))
      (try simp only [Act.put, List.setIfInBounds_toArray, List.set_cons_zero, List.set_cons_succ, List.getElem_toArray, List.getElem_cons_zero, List.getElem_cons_succ])
      refine wpAnyH_take (i := 24) (v := ?_) rfl (by kernel_rfl) (by kernel_rfl) (by kernel_rfl) (fun _ _ _ h => h) (Or.inl ⟨by rfl, ?_⟩) (by assumption) ?_
      rotate_left
      · (intro wx hSw; (try dsimp only at hSw); go_split_ands; go_simp; (try with_reducible rfl); (try omega))
      (try simp only [Act.put, List.setIfInBounds_toArray, List.set_cons_zero, List.set_cons_succ, List.getElem_toArray, List.getElem_cons_zero, List.getElem_cons_succ])
      refine wpAnyH_take (i := 25) (v := ?_) rfl (by kernel_rfl) (by kernel_rfl) (by kernel_rfl) (fun _ _ _ h => h) (Or.inl ⟨by rfl, ?_⟩) (by assumption) ?_
      rotate_left
      · (intro wx hSw; (try dsimp only at hSw); go_split_ands; go_simp; (try with_reducible rfl); (try omega))
      (try simp only [Act.put, List.setIfInBounds_toArray, List.set_cons_zero, List.set_cons_succ, List.getElem_toArray, List.getElem_cons_zero, List.getElem_cons_succ])
      refine wpAnyH_take (i := 26) (v := .bool false) rfl (by kernel_rfl) (by kernel_rfl) (by kernel_rfl) (fun _ _ _ h => h) (Or.inl ⟨by rfl, ?_⟩) (by assumption) ?_
      · (intro wx hSw; (try dsimp only at hSw); go_split_ands; go_simp; (try with_reducible rfl); (try omega))
      (try simp only [Act.put, List.setIfInBounds_toArray, List.set_cons_zero, List.set_cons_succ, List.getElem_toArray, List.getElem_cons_zero, List.getElem_cons_succ])
      refine wpAnyH_take (i := 27) (v := .bool false) rfl (by kernel_rfl) (by kernel_rfl) (by kernel_rfl) (fun _ _ _ h => h) (Or.inl ⟨by rfl, ?_⟩) (by assumption) ?_
      · (intro wx hSw; (try dsimp only at hSw); go_split_ands; go_simp; (try with_reducible rfl); (try omega))
      (try simp only [Act.put, List.setIfInBounds_toArray, List.set_cons_zero, List.set_cons_succ, List.getElem_toArray, List.getElem_cons_zero, List.getElem_cons_succ])
      refine wpAnyH_take (i := 28) (v := .bool false) rfl (by kernel_rfl) (by kernel_rfl) (by kernel_rfl) (fun _ _ _ h => h) (Or.inl ⟨by rfl, ?_⟩) (by assumption) ?_
      · (intro wx hSw; (try dsimp only at hSw); go_split_ands; go_simp; (try with_reducible rfl); (try omega))
      (try simp only [Act.put, List.setIfInBounds_toArray, List.set_cons_zero, List.set_cons_succ, List.getElem_toArray, List.getElem_cons_zero, List.getElem_cons_succ])
      refine wpAnyH_take (i := 29) (v := ?_) rfl (by kernel_rfl) (by kernel_rfl) (by kernel_rfl) (fun _ _ _ h => h) (Or.inl ⟨by rfl, ?_⟩) (by assumption) ?_
      rotate_left
      · (intro wx hSw; (try dsimp only at hSw); go_split_ands; go_simp; (try with_reducible rfl); (try omega))
      (try simp only [Act.put, List.setIfInBounds_toArray, List.set_cons_zero, List.set_cons_succ, List.getElem_toArray, List.getElem_cons_zero, List.getElem_cons_succ])
      refine wpAnyH_done (by kernel_rfl) ?_ _
      go_wp2_with fail
      go_ret
      exact ⟨ret_bool HV.out.symm, (Step.refl HR.out).below hB5⟩
  · have Hd := hid0 h4
    have HV := hid0 (show v = false by rw [← HVD.out, h1, h2, h3, h4]; rfl)
    clear h1 h2 h3 h4 HVD
    refine wp_region_held_drew (S := fun w' => Below w.heap.size w w') (by kernel_rfl) hB1 (fun hHeld => ?_)
    refine wpAnyH_take (i := 0) (v := ?_) rfl (by kernel_rfl) (by kernel_rfl) (by kernel_rfl) (fun _ _ _ h => h) (Or.inl ⟨by rfl, ?_⟩) (by assumption) ?_
    rotate_left
    · (intro wx hSw; (try dsimp only at hSw); go_split_ands; go_simp; (try with_reducible rfl); (try omega))
    (try simp only [Act.put, List.setIfInBounds_toArray, List.set_cons_zero, List.set_cons_succ, List.getElem_toArray, List.getElem_cons_zero])
    refine wpAnyH_ready (rs := [1]) (by kernel_rfl) (by simp) ?_
    refine AllReadyH.cons rfl (fun K hK => ?_) AllReadyH.nil
    go_simp
    refine (paIs_b Hn HR1.out).mono ?_
    rintro e w2 ⟨rfl, hb2⟩; (have hB2 := hB1.trans (hb2.mono hB1.size)); (have HR2 := hid0 (HR1.out.later hb2))
    refine hK.out _ _ hB2 (fun hHeld => ?_)
    clear hK K
    (try simp only [Act.put, List.setIfInBounds_toArray, List.set_cons_zero, List.set_cons_succ, List.getElem_toArray, List.getElem_cons_zero, List.getElem_cons_succ])
    refine wpAnyH_take (i := 2) (v := .bool false) rfl (by kernel_rfl) (by kernel_rfl) (by kernel_rfl) (fun _ _ _ h => h) (Or.inl ⟨by rfl, ?_⟩) (by assumption) ?_
    · (intro wx hSw; (try dsimp only at hSw); go_split_ands; go_simp; (try with_reducible rfl); (try omega))
    (try simp only [Act.put, List.setIfInBounds_toArray, List.set_cons_zero, List.set_cons_succ, List.getElem_toArray, List.getElem_cons_zero, List.getElem_cons_succ])
    refine wpAnyH_take (i := 3) (v := ?_) rfl (by kernel_rfl) (by kernel_rfl) (by kernel_rfl) (fun _ _ _ h => h) (Or.inl ⟨by rfl, ?_⟩) (by assumption) ?_
    rotate_left
    · (intro wx hSw; (try dsimp only at hSw); go_split_ands; go_simp; (try with_reducible rfl); (try omega))
    (try simp only [Act.put, List.setIfInBounds_toArray, List.set_cons_zero, List.set_cons_succ, List.getElem_toArray, List.getElem_cons_zero, List.getElem_cons_succ])
    refine wpAnyH_ready (rs := [4]) (by kernel_rfl) (by simp) ?_
    refine AllReadyH.cons rfl (fun K hK => ?_) AllReadyH.nil
    go_simp
    refine (paIs_b Ht HR2.out).mono ?_
    rintro e w3 ⟨rfl, hb3⟩; (have hB3 := hB2.trans (hb3.mono hB2.size)); (have HR3 := hid0 (HR2.out.later hb3))
    refine hK.out _ _ hB3 (fun hHeld => ?_)
    clear hK K
    (try simp only [Act.put, List.setIfInBounds_toArray, List.set_cons_zero, List.set_cons_succ, List.getElem_toArray, List.getElem_cons_zero, List.getElem_cons_succ])
    refine wpAnyH_take (i := 5) (v := .bool false) rfl (by kernel_rfl) (by kernel_rfl) (by kernel_rfl) (fun _ _ _ h => h) (Or.inl ⟨by rfl, ?_⟩) (by assumption) ?_
    · (intro wx hSw; (try dsimp only at hSw); go_split_ands; go_simp; (try with_reducible rfl); (try omega))
    (try simp only [Act.put, List.setIfInBounds_toArray, List.set_cons_zero, List.set_cons_succ, List.getElem_toArray, List.getElem_cons_zero, List.getElem_cons_succ])
    refine wpAnyH_take (i := 6) (v := .bool false) rfl (by kernel_rfl) (by kernel_rfl) (by kernel_rfl) (fun _ _ _ h => h) (Or.inl ⟨by rfl, ?_⟩) (by assumption) ?_
    · (intro wx hSw; (try dsimp only at hSw); go_split_ands; go_simp; (try with_reducible rfl); (try omega))
    (try simp only [Act.put, List.setIfInBounds_toArray, List.set_cons_zero, List.set_cons_succ, List.getElem_toArray, List.getElem_cons_zero, List.getElem_cons_succ])
    refine wpAnyH_take (i := 7) (v := ?_) rfl (by kernel_rfl) (by kernel_rfl) (by kernel_rfl) (fun _ _ _ h => h) (Or.inl ⟨by rfl, ?_⟩) (by assumption) ?_
    rotate_left
    · (intro wx hSw; (try dsimp only at hSw); go_split_ands; go_simp; (try with_reducible rfl); (try omega))
    (try simp only [Act.put, List.setIfInBounds_toArray, List.set_cons_zero, List.set_cons_succ, List.getElem_toArray, List.getElem_cons_zero, List.getElem_cons_succ])
    refine wpAnyH_ready (rs := [8]) (by kernel_rfl) (by simp) ?_
    refine AllReadyH.cons rfl (fun K hK => ?_) AllReadyH.nil
    go_simp
    refine (paIs_b Hf HR3.out).mono ?_
    rintro e w4 ⟨rfl, hb4⟩; (have hB4 := hB3.trans (hb4.mono hB3.size)); (have HR4 := hid0 (HR3.out.later hb4))
    refine hK.out _ _ hB4 (fun hHeld => ?_)
    clear hK K
    (try simp only [Act.put, List.setIfInBounds_toArray, List.set_cons_zero, List.set_cons_succ, List.getElem_toArray, List.getElem_cons_zero, List.getElem_cons_succ])
    refine wpAnyH_take (i := 9) (v := .bool false) rfl (by kernel_rfl) (by kernel_rfl) (by kernel_rfl) (fun _ _ _ h => h) (Or.inl ⟨by rfl, ?_⟩) (by assumption) ?_
    · (intro wx hSw; (try dsimp only at hSw); go_split_ands; go_simp; (try with_reducible rfl); (try omega))
    (try simp only [Act.put, List.setIfInBounds_toArray, List.set_cons_zero, List.set_cons_succ, List.getElem_toArray, List.getElem_cons_zero, List.getElem_cons_succ])
    refine wpAnyH_take (i := 10) (v := .bool false) rfl (by kernel_rfl) (by kernel_rfl) (by kernel_rfl) (fun _ _ _ h => h) (Or.inl ⟨by rfl, ?_⟩) (by assumption) ?_
    · (intro wx hSw; (try dsimp only at hSw); go_split_ands; go_simp; (try with_reducible rfl); (try omega))
    (try simp only [Act.put, List.setIfInBounds_toArray, List.set_cons_zero, List.set_cons_succ, List.getElem_toArray, List.getElem_cons_zero, List.getElem_cons_succ])
    refine wpAnyH_take (i := 11) (v := ?_) rfl (by kernel_rfl) (by kernel_rfl) (by kernel_rfl) (fun _ _ _ h => h) (Or.inl ⟨by rfl, ?_⟩) (by assumption) ?_
    rotate_left
    · (intro wx hSw; (try dsimp only at hSw); go_split_ands; go_simp; (try with_reducible rfl); (try omega))
    (try simp only [Act.put, List.setIfInBounds_toArray, List.set_cons_zero, List.set_cons_succ, List.getElem_toArray, List.getElem_cons_zero, List.getElem_cons_succ])
    refine wpAnyH_ready (rs := [12]) (by kernel_rfl) (by simp) ?_
    refine AllReadyH.cons rfl (fun K hK => ?_) AllReadyH.nil
    go_simp
    refine (paIs_b Hd HR4.out).mono ?_
    rintro e w5 ⟨rfl, hb5⟩; (have hB5 := hB4.trans (hb5.mono hB4.size)); (have HR5 := hid0 (HR4.out.later hb5))
    refine hK.out _ _ hB5 (fun hHeld => ?_)
    clear hK K
    (try simp only [Act.put, List.setIfInBounds_toArray, List.set_cons_zero, List.set_cons_succ, List.getElem_toArray, List.getElem_cons_zero, List.getElem_cons_succ])
    refine wpAnyH_take (i := 13) (v := .bool false) rfl (by kernel_rfl) (by kernel_rfl) (by kernel_rfl) (fun _ _ _ h => h) (Or.inl ⟨by rfl, ?_⟩) (by assumption) ?_
    · (intro wx hSw; (try dsimp only at hSw); go_split_ands; go_simp; (try with_reducible rfl); (try omega))
    (try simp only [Act.put, List.setIfInBounds_toArray, List.set_cons_zero, List.set_cons_succ, List.getElem_toArray, List.getElem_cons_zero, List.getElem_cons_succ])
    refine wpAnyH_take (i := 14) (v := undef) rfl (by kernel_rfl) (by kernel_rfl) (by kernel_rfl) (fun _ _ _ h => h) (Or.inr ⟨by rfl, rfl⟩) (by assumption) ?_
    (try simp only [Act.put, List.setIfInBounds_toArray, List.set_cons_zero, List.set_cons_succ, List.getElem_toArray, List.getElem_cons_zero, List.getElem_cons_succ])
    refine wpAnyH_take (i := 15) (v := undef) rfl (by kernel_rfl) (by kernel_rfl) (by kernel_rfl) (fun _ _ _ h => h) (Or.inr ⟨by rfl, rfl⟩) (by assumption) ?_
    (try simp only [Act.put, List.setIfInBounds_toArray, List.set_cons_zero, List.set_cons_succ, List.getElem_toArray, List.getElem_cons_zero, List.getElem_cons_succ])
    refine wpAnyH_take (i := 16) (v := undef) rfl (by kernel_rfl) (by kernel_rfl) (by kernel_rfl) (fun _ _ _ h => h) (Or.inr ⟨by rfl, rfl⟩) (by assumption) ?_
    (try simp only [Act.put, List.setIfInBounds_toArray, List.set_cons_zero, List.set_cons_succ, List.getElem_toArray, List.getElem_cons_zero, List.getElem_cons_succ])
    refine wpAnyH_take (i := 17) (v := undef) rfl (by kernel_rfl) (by kernel_rfl) (by kernel_rfl) (fun _ _ _ h => h) (Or.inr ⟨by rfl, rfl⟩) (by assumption) ?_
    (try simp only [Act.put, List.setIfInBounds_toArray, List.set_cons_zero, List.set_cons_succ, List.getElem_toArray, List.getElem_cons_zero, List.getElem_cons_succ])
    refine wpAnyH_take (i := 18) (v := undef) rfl (by kernel_rfl) (by kernel_rfl) (by kernel_rfl) (fun _ _ _ h => h) (Or.inr ⟨by rfl, rfl⟩) (by assumption) ?_
    (try simp only [Act.put, List.setIfInBounds_toArray, List.set_cons_zero, List.set_cons_succ, List.getElem_toArray, List.getElem_cons_zero, List.getElem_cons_succ])
    refine wpAnyH_take (i := 19) (v := undef) rfl (by kernel_rfl) (by kernel_rfl) (by kernel_rfl) (fun _ _ _ h => h) (Or.inr ⟨by rfl, rfl⟩) (by assumption) ?_
    (try simp only [Act.put, List.setIfInBounds_toArray, List.set_cons_zero, List.set_cons_succ, List.getElem_toArray, List.getElem_cons_zero, List.getElem_cons_succ])
    refine wpAnyH_take (i := 20) (v := undef) rfl (by kernel_rfl) (by kernel_rfl) (by kernel_rfl) (fun _ _ _ h => h) (Or.inr ⟨by rfl, rfl⟩) (by assumption) ?_
    (try simp only [Act.put, List.setIfInBounds_toArray, List.set_cons_zero, List.set_cons_succ, List.getElem_toArray, List.getElem_cons_zero, List.getElem_cons_succ])
    refine wpAnyH_take (i := 21) (v := undef) rfl (by kernel_rfl) (by kernel_rfl) (by kernel_rfl) (fun _ _ _ h => h) (Or.inr ⟨by rfl, rfl⟩) (by assumption) ?_
    (try simp only [Act.put, List.setIfInBounds_toArray, List.set_cons_zero, List.set_cons_succ, List.getElem_toArray, List.getElem_cons_zero, List.getElem_cons_succ])
    refine wpAnyH_take (i := 22) (v := undef) rfl (by kernel_rfl) (by kernel_rfl) (by kernel_rfl) (fun _ _ _ h => h) (Or.inr ⟨by rfl, rfl⟩) (by assumption) ?_
    (try simp only [Act.put, List.setIfInBounds_toArray, List.set_cons_zero, List.set_cons_succ, List.getElem_toArray, List.getElem_cons_zero, List.getElem_cons_succ])
    refine wpAnyH_take (i := 23) (v := undef) rfl (by kernel_rfl) (by kernel_rfl) (by kernel_rfl) (fun _ _ _ h => h) (Or.inr ⟨by rfl, rfl⟩) (by assumption) ?_
    (try simp only [Act.put, List.setIfInBounds_toArray, List.set_cons_zero, List.set_cons_succ, List.getElem_toArray, List.getElem_cons_zero, List.getElem_cons_succ])
    refine wpAnyH_take (i := 24) (v := undef) rfl (by kernel_rfl) (by kernel_rfl) (by kernel_rfl) (fun _ _ _ h => h) (Or.inr ⟨by rfl, rfl⟩) (by assumption) ?_
    (try simp only [Act.put, List.setIfInBounds_toArray, List.set_cons_zero, List.set_cons_succ, List.getElem_toArray, List.getElem_cons_zero, List.getElem_cons_succ])
    refine wpAnyH_take (i := 25) (v := undef) rfl (by kernel_rfl) (by kernel_rfl) (by kernel_rfl) (fun _ _ _ h => h) (Or.inr ⟨by rfl, rfl⟩) (by assumption) ?_
    (try simp only [Act.put, List.setIfInBounds_toArray, List.set_cons_zero, List.set_cons_succ, List.getElem_toArray, List.getElem_cons_zero, List.getElem_cons_succ])
    refine wpAnyH_take (i := 26) (v := undef) rfl (by kernel_rfl) (by kernel_rfl) (by kernel_rfl) (fun _ _ _ h => h) (Or.inr ⟨by rfl, rfl⟩) (by assumption) ?_
    (try simp only [Act.put, List.setIfInBounds_toArray, List.set_cons_zero, List.set_cons_succ, List.getElem_toArray, List.getElem_cons_zero, List.getElem_cons_succ])
    refine wpAnyH_take (i := 27) (v := .bool false) rfl (by kernel_rfl) (by kernel_rfl) (by kernel_rfl) (fun _ _ _ h => h) (Or.inl ⟨by rfl, ?_⟩) (by assumption) ?_
    · (intro wx hSw; (try dsimp only at hSw); go_split_ands; go_simp; (try with_reducible rfl); (try omega))
    (try simp only [Act.put, List.setIfInBounds_toArray, List.set_cons_zero, List.set_cons_succ, List.getElem_toArray, List.getElem_cons_zero, List.getElem_cons_succ])
    refine wpAnyH_take (i := 28) (v := .bool false) rfl (by kernel_rfl) (by kernel_rfl) (by kernel_rfl) (fun _ _ _ h => h) (Or.inl ⟨by rfl, ?_⟩) (by assumption) ?_
    · (intro wx hSw; (try dsimp only at hSw); go_split_ands; go_simp; (try with_reducible rfl); (try omega))
    (try simp only [Act.put, List.setIfInBounds_toArray, List.set_cons_zero, List.set_cons_succ, List.getElem_toArray, List.getElem_cons_zero, List.getElem_cons_succ])
    refine wpAnyH_take (i := 29) (v := ?_) rfl (by kernel_rfl) (by kernel_rfl) (by kernel_rfl) (fun _ _ _ h => h) (Or.inl ⟨by rfl, ?_⟩) (by assumption) ?_
    rotate_left
    · (intro wx hSw; (try dsimp only at hSw); go_split_ands; go_simp; (try with_reducible rfl); (try omega))
    (try simp only [Act.put, List.setIfInBounds_toArray, List.set_cons_zero, List.set_cons_succ, List.getElem_toArray, List.getElem_cons_zero, List.getElem_cons_succ])
    refine wpAnyH_done (by kernel_rfl) ?_ _
    go_wp2_with fail
    go_ret
    exact ⟨ret_bool HV.out.symm, (Step.refl HR.out).below hB5⟩
end Go.Proofs.YtneebnankghhgacGreatDoor

/- The project's parser: a value, an operand: contracts of the calls, in whatever memory that holds a reader. Conditions: none besides. -/
namespace Go.Proofs.YtneebnankghhgacGreatDoor
open Go.RowKit

theorem paValued_at {w : World} {a : Nat} {l : List Wd} {m : Int} {d : Nat} {σ : PS} {b : Bool} (h : Hid (valuedP l σ = b)) (hR : Rd w a l m d σ) :
    Calls Tryz.prog 90 #[.pointer (some ⟨a, 0, none⟩)] w fun e w' => e = .returned (.bool b) ∧ Step w a l m d σ σ w' := by
  have := paValued_any hR
  rw [h.out] at this
  exact this

set_option maxRecDepth 100000 in
set_option maxHeartbeats 2000000 in
theorem paValue_any {w : World} {a : Nat} {l : List Wd} {m : Int} {d : Nat} {σ : PS} (hR : Rd w a l m d σ) :
    Calls Tryz.prog 61 #[.pointer (some ⟨a, 0, none⟩)] w (Ans w a l m d σ 3 (valueP l σ).1 (valueP l σ).2) := by
  have E0 := hR.start zVv 28
  obtain ⟨⟨x, τ⟩, hM⟩ : ∃ y, valueP l σ = y := ⟨_, rfl⟩
  rw [hM]
  dsimp only
  replace hM := hid0 hM
  go_enter Tryz.func61, Tryz.ntmps61
  rcases Bool.eq_false_or_eq_true (isP l [110, 117, 108, 108] σ) with h1 | h1
  · replace h1 := hid0 h1
    go_wp2_with fail
    go_at_call 17
    refine (paTake_yes [110, 117, 108, 108] E0.rd h1.out).mono ?_
    rintro e w1 ⟨rfl, hS⟩
    have E1 := E0.step hS
    clear hS
    have hL : LsAt w1 (fr (w.heap.size + 1)) (zV) [.int .i64 0, .int .i64 0, .string ⟨#[]⟩] := .zV _ _
    go_wp2_with (first | ((with_reducible refine wp_putB E1.res hL ?_ infoV ?_ ?_ ?_); (rfl); (rfl); (rfl); intro w0 hV0 hw0) | fail)
    have hE : valueP l σ = (zV, (⟨σ.i + 1, σ.e⟩ : PS)) := by simp only [valueP, h1.out, if_true]
    cases hM.out.symm.trans hE
    exact end_blk hV0 rfl rfl _ Tryz.underlying28 rfl infoV rfl (E1.fin hL rfl hw0.out)
  · replace h1 := hid0 h1
    go_wp2_with fail
    go_at_call 17
    refine (paTake_no [110, 117, 108, 108] E0.rd h1.out).mono ?_
    rintro e w1 ⟨rfl, hS⟩
    have E1 := E0.step hS
    clear hS
    rcases Bool.eq_false_or_eq_true (isP l [116, 114, 117, 101] σ) with h3 | h3
    · replace h3 := hid0 h3
      go_wp2_with fail
      go_at_call 17
      refine (paTake_yes [116, 114, 117, 101] E1.rd h3.out).mono ?_
      rintro e w2 ⟨rfl, hS⟩
      have E2 := E1.step hS
      clear hS
      have hL : LsAt w2 (fr (w.heap.size + 1)) ([iL 2, iL 1, sL []]) [.int .i64 2, .int .i64 1, .string ⟨#[]⟩] := .cons (.lit _ _ rfl) (.cons (.lit _ _ rfl) (.cons (.str _ _ [] rfl) (.nil _ _)))
      go_wp2_with (first | ((with_reducible refine wp_putB E2.res hL ?_ infoV ?_ ?_ ?_); (rfl); (rfl); (rfl); intro w0 hV0 hw0) | fail)
      have hE : valueP l σ = ([iL 2, iL 1, sL []], (⟨σ.i + 1, σ.e⟩ : PS)) := by simp only [valueP, h1.out, h3.out, Bool.false_eq_true, if_false, if_true]
      cases hM.out.symm.trans hE
      exact end_blk hV0 rfl rfl _ Tryz.underlying28 rfl infoV rfl (E2.fin hL rfl hw0.out)
    · replace h3 := hid0 h3
      go_wp2_with fail
      go_at_call 17
      refine (paTake_no [116, 114, 117, 101] E1.rd h3.out).mono ?_
      rintro e w2 ⟨rfl, hS⟩
      have E2 := E1.step hS
      clear hS
      rcases Bool.eq_false_or_eq_true (isP l [102, 97, 108, 115, 101] σ) with h5 | h5
      · replace h5 := hid0 h5
        go_wp2_with fail
        go_at_call 17
        refine (paTake_yes [102, 97, 108, 115, 101] E2.rd h5.out).mono ?_
        rintro e w3 ⟨rfl, hS⟩
        have E3 := E2.step hS
        clear hS
        have hL : LsAt w3 (fr (w.heap.size + 1)) ([iL 2, iL 0, sL []]) [.int .i64 2, .int .i64 0, .string ⟨#[]⟩] := .cons (.lit _ _ rfl) (.cons (.lit _ _ rfl) (.cons (.str _ _ [] rfl) (.nil _ _)))
        go_wp2_with (first | ((with_reducible refine wp_putB E3.res hL ?_ infoV ?_ ?_ ?_); (rfl); (rfl); (rfl); intro w0 hV0 hw0) | fail)
        have hE : valueP l σ = ([iL 2, iL 0, sL []], (⟨σ.i + 1, σ.e⟩ : PS)) := by simp only [valueP, h1.out, h3.out, h5.out, Bool.false_eq_true, if_false, if_true]
        cases hM.out.symm.trans hE
        exact end_blk hV0 rfl rfl _ Tryz.underlying28 rfl infoV rfl (E3.fin hL rfl hw0.out)
      · replace h5 := hid0 h5
        go_wp2_with fail
        go_at_call 17
        refine (paTake_no [102, 97, 108, 115, 101] E2.rd h5.out).mono ?_
        rintro e w3 ⟨rfl, hS⟩
        have E3 := E2.step hS
        clear hS
        obtain ⟨⟨k, t, n, p⟩, hx⟩ : ∃ x, wdP l σ = x := ⟨_, rfl⟩
        by_cases h3 : k = 3
        · subst h3
          have hk := hid0 (show (wdP l σ).k = 3 by rw [hx])
          have fl : ∀ W : World, (Instr.field 64 (.agg #[.int .i64 3, .string (txt t), .int .u64 (n : Int), .int .i64 (p : Int)]) 0).run Tryz.prog W = .ok (.int .i64 3) W := fun W => rfl
          replace hx := hid0 hx
          go_wp2_with fail
          go_at_call 28
          refine (paWord_any E3.rd hx.out).mono ?_
          rintro e w4 ⟨rfl, hb⟩
          have hS := (Step.refl E3.rd).below hb
          clear hb
          have E4 := E3.step hS
          clear hS
          obtain ⟨⟨v, σ8⟩, h8⟩ : ∃ x, textP l σ = x := ⟨_, rfl⟩
          replace h8 := hid0 h8
          go_wp2_with fail
          go_at_call 70
          refine (Ans.at_ h8 (paText_any E4.rd hk.out)).mono ?_
          rintro e w5 ⟨us, hl, rfl, hA, hS⟩
          obtain ⟨u0, u1, u2, rfl⟩ := len3 hl
          clear hl
          have Av := E4.leaf hA
          clear hA
          have E5 := E4.step hS
          clear hS
          go_wp2_with (first | ((with_reducible refine wp_putB E5.res Av ?_ infoV ?_ ?_ ?_); (rfl); (rfl); (rfl); intro w0 hV0 hw0) | fail)
          have hE : valueP l σ = (v, σ8) := by simp only [valueP, h1.out, h3.out, h5.out, hk.out, h8.out, Bool.false_eq_true, if_false, if_true]
          cases hM.out.symm.trans hE
          exact end_blk hV0 rfl rfl _ Tryz.underlying28 rfl infoV rfl (E5.fin Av rfl hw0.out)
        · have hk3 : ((k : Int) == 3) = false := by rw [beq_eq_false_iff_ne]; omega
          have hk := hid0 (show (wdP l σ).k ≠ 3 by rw [hx]; exact h3)
          have fl : ∀ W : World, (Instr.field 64 (.agg #[.int .i64 (k : Int), .string (txt t), .int .u64 (n : Int), .int .i64 (p : Int)]) 0).run Tryz.prog W = .ok (.int .i64 (k : Int)) W := fun W => rfl
          clear h3
          replace hx := hid0 hx
          go_wp2_with fail
          go_at_call 28
          refine (paWord_any E3.rd hx.out).mono ?_
          rintro e w4 ⟨rfl, hb⟩
          have hS := (Step.refl E3.rd).below hb
          clear hb
          have E4 := E3.step hS
          clear hS
          obtain ⟨⟨v, σ10⟩, h10⟩ : ∃ x, numberP l σ = x := ⟨_, rfl⟩
          replace h10 := hid0 h10
          go_wp2_with fail
          go_at_call 71
          refine (Ans.at_ h10 (paNumber_any E4.rd)).mono ?_
          rintro e w5 ⟨us, hl, rfl, hA, hS⟩
          obtain ⟨u0, u1, u2, rfl⟩ := len3 hl
          clear hl
          have Av := E4.leaf hA
          clear hA
          have E5 := E4.step hS
          clear hS
          go_wp2_with (first | ((with_reducible refine wp_putB E5.res Av ?_ infoV ?_ ?_ ?_); (rfl); (rfl); (rfl); intro w0 hV0 hw0) | fail)
          have hE : valueP l σ = (v, σ10) := by simp only [valueP, h1.out, h3.out, h5.out, hk.out, h10.out, Bool.false_eq_true, if_false]
          cases hM.out.symm.trans hE
          exact end_blk hV0 rfl rfl _ Tryz.underlying28 rfl infoV rfl (E5.fin Av rfl hw0.out)
set_option maxRecDepth 100000 in
set_option maxHeartbeats 2000000 in
theorem paOperand_any {w : World} {a : Nat} {l : List Wd} {m : Int} {d : Nat} {σ : PS} (hR : Rd w a l m d σ) :
    Calls Tryz.prog 91 #[.pointer (some ⟨a, 0, none⟩)] w (Ans w a l m d σ 7 (operandP l σ).1 (operandP l σ).2) := by
  have E0 := hR.start zEv 39
  obtain ⟨⟨x, τ⟩, hM⟩ : ∃ y, operandP l σ = y := ⟨_, rfl⟩
  rw [hM]
  dsimp only
  replace hM := hid0 hM
  go_enter Tryz.func91, Tryz.ntmps91
  rcases Bool.eq_false_or_eq_true (valuedP l σ) with h1 | h1
  · replace h1 := hid0 h1
    go_wp2_with fail
    go_at_call 90
    refine (paValued_at h1 E0.rd).mono ?_
    rintro e w1 ⟨rfl, hS⟩
    have E1 := E0.step hS
    clear hS
    obtain ⟨⟨v, σ2⟩, h2⟩ : ∃ x, valueP l σ = x := ⟨_, rfl⟩
    replace h2 := hid0 h2
    go_wp2_with fail
    go_at_call 61
    refine (Ans.at_ h2 (paValue_any E1.rd)).mono ?_
    rintro e w2 ⟨us, hl, rfl, hA, hS⟩
    obtain ⟨u0, u1, u2, rfl⟩ := len3 hl
    clear hl
    have Av := E1.leaf hA
    clear hA
    have E2 := E1.step hS
    clear hS
    have hL : LsAt w2 (fr (w.heap.size + 1)) (exL 2 [] [] v nL) [.int .i64 2, .string ⟨#[]⟩, .string ⟨#[]⟩, u0, u1, u2, .slice none 0 0] := .ex rfl rfl rfl Av (.nil _ _)
    go_wp2_with (first | ((with_reducible refine wp_putB E2.res hL ?_ infoE ?_ ?_ ?_); (rfl); (rfl); (rfl); intro w0 hV0 hw0) | fail)
    have hE : operandP l σ = (exL 2 [] [] v nL, σ2) := by simp only [operandP, h1.out, h2.out, if_true]
    cases hM.out.symm.trans hE
    exact end_blk hV0 rfl rfl _ Tryz.underlying39 rfl infoE rfl (E2.fin hL rfl hw0.out)
  · replace h1 := hid0 h1
    go_wp2_with fail
    go_at_call 90
    refine (paValued_at h1 E0.rd).mono ?_
    rintro e w1 ⟨rfl, hS⟩
    have E1 := E0.step hS
    clear hS
    obtain ⟨⟨v, σ4⟩, h4⟩ : ∃ x, columnP l σ = x := ⟨_, rfl⟩
    replace h4 := hid0 h4
    go_wp2_with fail
    go_at_call 57
    refine (Ans.at_ h4 (paColumn_any E1.rd)).mono ?_
    rintro e w2 ⟨us, hl, rfl, hA, hS⟩
    obtain ⟨u0, u1, u2, u3, u4, u5, u6, rfl⟩ := len7 hl
    clear hl
    have Av := E1.leaf hA
    clear hA
    have E2 := E1.step hS
    clear hS
    go_wp2_with (first | ((with_reducible refine wp_putB E2.res Av ?_ infoE ?_ ?_ ?_); (rfl); (rfl); (rfl); intro w0 hV0 hw0) | fail)
    have hE : operandP l σ = (v, σ4) := by simp only [operandP, h1.out, h4.out, Bool.false_eq_true, if_false]
    cases hM.out.symm.trans hE
    exact end_blk hV0 rfl rfl _ Tryz.underlying39 rfl infoE rfl (E2.fin Av rfl hw0.out)
end Go.Proofs.YtneebnankghhgacGreatDoor

/- The project's parser: rows of what stands between commas: contracts of the calls, in whatever memory that holds a reader. Conditions: none besides. -/
namespace Go.Proofs.YtneebnankghhgacGreatDoor
open Go.RowKit

/-- Where a reader stands, as its block has it. -/
def atOf (w : World) (a : Nat) : Nat := match w.cell? ⟨a, 1, none⟩ with
  | some (.int _ n) => n.toNat
  | _ => 0
theorem Rd.at_ {w : World} {a : Nat} {l : List Wd} {m : Int} {d : Nat} {σ : PS} (h : Rd w a l m d σ) : atOf w a = σ.i := by
  have := h.cells.1
  unfold atOf
  rw [this]
  simp
theorem GrowR.slice {w : World} {base : Nat} {ty : TypeId} {k : Nat} {v : Value} {n : Nat} {xs : List Lf} (h : GrowR w base ty k v n xs) : ∃ p c, v = .slice p n c ∧ n ≤ c := by
  obtain ⟨us, h1, h2⟩ := h
  rcases h1.2 with ⟨rfl, hn⟩ | ⟨g, cap, cur, rfl, hg, hh, hnc, _⟩
  · exact ⟨none, 0, by rw [hn], by omega⟩
  · exact ⟨_, cap, rfl, hnc⟩
theorem GrowR.far {w : World} {base : Nat} {ty : TypeId} {k : Nat} {v : Value} {n : Nat} {xs : List Lf} (h : GrowR w base ty k v n xs) : ∀ g, v.ownBlock = some g → g < w.heap.size := by
  obtain ⟨us, h1, h2⟩ := h
  exact fun g hg => (h1.lt g hg).2
theorem GrowR.alloc {w : World} {base : Nat} {ty : TypeId} {k : Nat} {v : Value} {n : Nat} {xs : List Lf} (h : GrowR w base ty k v n xs) (o : Obj) : GrowR (w.alloc o) base ty k v n xs := by
  obtain ⟨us, h1, h2⟩ := h
  exact ⟨us, h1.alloc o, h2.keep (fun b hb hlt => ⟨hb, Below.heap_alloc w o b hlt⟩) (by simp)⟩
theorem GrowR.drew {w : World} {base : Nat} {ty : TypeId} {k : Nat} {v : Value} {n : Nat} {xs : List Lf} (h : GrowR w base ty k v n xs) : GrowR w.drew base ty k v n xs := by
  obtain ⟨us, h1, h2⟩ := h
  exact ⟨us, h1, h2.keep (fun b hb hlt => ⟨hb, rfl⟩) (Nat.le_refl _)⟩
/-- A row of one struct, newly laid. -/
theorem GrowR.first {w1 : World} {base : Nat} {ty : TypeId} {xs : List Lf} {us : List Value} (hL : LsAt w1 (fr base) xs us) (hb : base ≤ w1.heap.size) : GrowR (w1.alloc (.cells us.toArray ty)) base ty us.length (.slice (some ⟨w1.heap.size, 0, none⟩) 1 1) 1 ([xs].flatten) := by
  refine GrowR.made (heap_alloc_new w1 _) hb (by simp) (by unfold maxLen; omega) ?_
  have e : [xs].flatten = xs := by simp
  rw [e]
  exact hL.keep (fun b (hb : base ≤ b) hlt => ⟨⟨hb, by omega⟩, Below.heap_alloc w1 _ b hlt⟩) (by simp)
/-- What a call answers that tells a row. -/
def AnsL (w : World) (a : Nat) (l : List Wd) (m : Int) (d : Nat) (σ : PS) (els : List (List Lf)) (σ' : PS) (e : Ending) (w' : World) : Prop :=
  ∃ p c, e = .returned (.slice p els.length c) ∧ LfAt w' (fr w.heap.size) (rL els) (.slice p els.length c) ∧ els.length ≤ 513 ∧ Step w a l m d σ σ' w'
theorem AnsL.at_ {P : Program} {f : Nat} {args : Array Value} {w : World} {a : Nat} {l : List Wd} {m : Int} {d : Nat} {σ σ' : PS} {x : List (List Lf)} {r : List (List Lf) × PS} (h : Hid (r = (x, σ'))) (hC : Calls P f args w (AnsL w a l m d σ r.1 r.2)) : Calls P f args w (AnsL w a l m d σ x σ') := by
  have := h.out
  subst this
  exact hC
theorem moreP_no {α : Type} {l : List Wd} {sep : List UInt8} {one : PS → α × PS} {k : Nat} {acc : List α} {ρ : PS} (h : isP l sep ρ = false) : moreP l sep one k acc ρ = (acc, ρ) := by
  cases k with
  | zero => rfl
  | succ k => simp [moreP, h]
theorem moreP_yes {α : Type} {l : List Wd} {sep : List UInt8} {one : PS → α × PS} {k : Nat} {acc : List α} {ρ ρ2 : PS} {y : α} (h : isP l sep ρ = true) (h1 : one ⟨ρ.i + 1, ρ.e⟩ = (y, ρ2)) : moreP l sep one (k + 1) acc ρ = moreP l sep one k (acc ++ [y]) ρ2 := by
  simp [moreP, h, h1]
theorem infoL_paListE_any : (Tryz.prog.info? 39).map (fun i => (i.zero, i.size, i.bytes)) = some (some (.agg #[.int .i64 0, .string ⟨#[]⟩, .string ⟨#[]⟩, .int .i64 0, .int .i64 0, .string ⟨#[]⟩, .slice none 0 0]), 7, 96) := by kernel_rfl
set_option maxRecDepth 100000 in
set_option maxHeartbeats 4000000 in
theorem paListE_any {w : World} {a : Nat} {l : List Wd} {m : Int} {d : Nat} {σ : PS} (hR : Rd w a l m d σ) :
    Calls Tryz.prog 56 #[.pointer (some ⟨a, 0, none⟩), .func (.func 57) #[.pointer (some ⟨a, 0, none⟩)] #[]] w (AnsL w a l m d σ (listP l (columnP l) σ).1 (listP l (columnP l) σ).2) := by
  have ha := hR.lt
  obtain ⟨⟨x, τ⟩, hM⟩ : ∃ y, listP l (columnP l) σ = y := ⟨_, rfl⟩
  rw [hM]
  dsimp only
  obtain ⟨⟨y0, σ1⟩, h1⟩ : ∃ y, (columnP l) σ = y := ⟨_, rfl⟩
  unfold listP at hM
  rw [h1] at hM
  dsimp only at hM
  replace hM := hid0 hM
  replace h1 := hid0 h1
  have HR := hid0 hR
  clear hR
  go_enter Tryz.func56, Tryz.ntmps56
  go_wp2_with fail
  go_at_call 57
  refine (Ans.at_ h1 (paColumn_any HR.out)).mono ?_
  rintro e w1 ⟨us, hl, rfl, hA1, hS1⟩
  obtain ⟨u0, u1, u2, u3, u4, u5, u6, rfl⟩ := len7 hl
  have hz1 := hS1.onl.size
  have hG := GrowR.first (ty := 39) hA1 hz1
  replace hS1 := hS1.alloc (Obj.cells #[u0, u1, u2, u3, u4, u5, u6] 39)
  have hfew := HR.out.few
  have hrem : l.length - σ1.i ≤ l.length := Nat.sub_le _ _
  have HG : Hid (GrowR (w1.alloc (Obj.cells #[u0, u1, u2, u3, u4, u5, u6] 39)) w.heap.size 39 7 (.slice (some ⟨w1.heap.size, 0, none⟩) 1 1) [y0].length [y0].flatten) := hG
  clear hG hA1
  go_wp2_with fail
  go_loopw [5] (fun lv wr => ∃ (k : Nat) (acc : List (List Lf)) (ρ : PS), Hid (moreP l [44] (columnP l) k acc ρ = (x, τ)) ∧ l.length - ρ.i ≤ k ∧ acc.length ≤ ρ.i + 1 ∧ Step w a l m d σ ρ wr ∧ Hid (GrowR wr w.heap.size 39 7 lv acc.length acc.flatten)) (fun _ wr => l.length - atOf wr a)
  case atStart => exact ⟨l.length, [y0], σ1, hM, hrem, by simp, hS1, HG⟩
  case round =>
    clear hM HG hS1 hrem h1
    obtain ⟨k, acc, ρ, hM, hk, hn, hS, hG⟩ := hrel
    have hat := hS.rd.at_
    rcases Bool.eq_false_or_eq_true (isP l [44] ρ) with hb | hb
    · have hmore := is_more hS.rd.ok hS.rd.hi hb
      obtain ⟨⟨y, ρ2⟩, h2⟩ : ∃ y, (columnP l) ⟨ρ.i + 1, ρ.e⟩ = y := ⟨_, rfl⟩
      obtain ⟨k, rfl⟩ : ∃ k', k = k' + 1 := ⟨k - 1, by omega⟩
      have HM := hid0 ((moreP_yes (k := k) (acc := acc) hb h2).symm.trans hM.out)
      replace h2 := hid0 h2
      replace hb := hid0 hb
      replace hat := hid0 hat
      clear hM
      obtain ⟨N, hN⟩ : ∃ N, acc.length = N := ⟨_, rfl⟩
      rw [hN] at hG hn
      replace hN := hid0 hN
      go_wp2_with fail
      go_at_call 17
      refine (paTake_yes [44] hS.rd hb.out).mono ?_
      rintro e w2 ⟨rfl, hS2⟩
      have hG2 := hid0 (hG.out.later hS2.onl ha)
      go_wp2_with fail
      go_at_call 57
      refine (Ans.at_ h2 (paColumn_any hS2.rd)).mono ?_
      rintro e w3 ⟨us, hl, rfl, hA3, hS3⟩
      obtain ⟨u0, u1, u2, u3, u4, u5, u6, rfl⟩ := len7 hl
      have hG3 := (hG2.out.later hS3.onl ha).alloc (Obj.cells #[u0, u1, u2, u3, u4, u5, u6] 39)
      have HG3 := hid0 hG3
      have hfar := hid0 (fun g hg => Nat.lt_of_lt_of_le (hG2.out.far g hg) (Nat.le_refl _))
      have HA := hid0 (hA3.alloc (Obj.cells #[u0, u1, u2, u3, u4, u5, u6] 39))
      have hzw := hid0 (And.intro (Nat.le_trans hS.onl.size hS2.onl.size) hS3.onl.size)
      have HST := hid0 (((hS.trans hS2).trans hS3).alloc (Obj.cells #[u0, u1, u2, u3, u4, u5, u6] 39))
      have hle3 := hS3.le
      dsimp only at hle3
      clear hG hG2 hG3 hA3
      obtain ⟨i0, hi0, hz0, hz1', hz2⟩ := info_parts infoL_paListE_any
      go_wp2_with (first
        | (at_builtin; refine wp_grow rfl _ _ _ rfl w.heap.size 39 i0 (.agg #[.int .i64 0, .string ⟨#[]⟩, .string ⟨#[]⟩, .int .i64 0, .int .i64 0, .string ⟨#[]⟩, .slice none 0 0]) 7 96 Tryz.underlying37 hi0 hz0 hz1' hz2 rfl (by decide) _ N acc.flatten rfl HG3.out w3.heap.size 1 y [u0, u1, u2, u3, u4, u5, u6] rfl rfl (fun j u hj => (VarB.new w3 [u0, u1, u2, u3, u4, u5, u6] 39).cell j hj) w2.heap.size HA.out hzw.out.1 hfar.out (by omega) (by unfold maxLen; omega) (by have := hzw.out; simp; omega) ?_; intro v4 w4 hG4 hO4 hb4 hf4)
        | fail)
      have hS4 := hO4 _ a HST.out.onl (Nat.le_refl _)
      have HR4 : Step w a l m d σ ρ2 w4 := ⟨HST.out.rd.above (hb4.mono ha), hS4, HST.out.le⟩
      go_roundw
      case rel => exact ⟨k, acc ++ [y], ρ2, HM, by omega, by rw [List.length_append, hN.out]; simp; omega, HR4, by rw [List.length_append, hN.out, List.flatten_append]; simp only [List.flatten_cons, List.flatten_nil, List.append_nil]; exact hG4⟩
      case measure => rw [hat.out, HR4.rd.at_]; omega
    · have hE := (moreP_no (k := k) (acc := acc) (one := (columnP l)) hb).symm.trans hM.out
      replace hE := hid0 hE
      replace hb := hid0 hb
      clear hM
      obtain ⟨p, c, rfl, hc⟩ := hG.out.slice
      go_wp2_with fail
      go_at_call 17
      refine (paTake_no [44] hS.rd hb.out).mono ?_
      rintro e w2 ⟨rfl, hS2⟩
      have hG2 := hid0 (hG.out.later hS2.onl ha)
      go_wp2_with fail
      go_ret
      cases hE.out
      exact ⟨p, c, rfl, hG2.out.leaf, by have := hS.rd.hi; omega, hS.trans hS2⟩
end Go.Proofs.YtneebnankghhgacGreatDoor
