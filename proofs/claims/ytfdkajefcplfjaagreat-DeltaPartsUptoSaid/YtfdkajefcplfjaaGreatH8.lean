/- Several of my texts laid together, each as it was: Xa, Xb, Xm, Xc, Xd, Xe, Xg, Xh, Xf, Xi. Conditions: each names its own. -/
import Derived.Test.YtfdkajefcplfjaaGreatH2
import Derived.Test.YtfdkajefcplfjaaGreatH3
import Derived.Test.YtfdkajefcplfjaaGreatH7
import Derived.Test.YtfdkajefcplfjaaGreatH1
import Derived.Maps.Views
import Derived.StringKeys
import Derived.Lib.MinMax
import Derived.Carry
import Derived.MapKept
import Derived.Test.YtfdkajefcplfjaaGreatShelf
/- Plans and what is there, as they lie in memory: parts, what they tell, names with their rows. Nothing of any program here but the types. Conditions: each lemma names its own. -/
namespace Go.Proofs.YtfdkajefcplfjaaGreat
open Go.RowKit

/-- What is told: how, of what, its name, its type. -/
structure Ox where
  g : Int
  e : Cx
  nm : ByteArray
  ty : Int
/-- A part of a plan, and where its lists lie. -/
structure Px where
  d : Bool
  fp : Option Addr
  fc : Nat
  fs : List ByteArray
  wp : Option Addr
  wc : Nat
  ws : List Int
  wh : Tx
  gp : Option Addr
  gc : Nat
  gs : List Int
  op : Option Addr
  oc : Nat
  os : List Ox
def Ox.cells (o : Ox) : List Value := .int .i64 o.g :: (o.e.cells ++ [.string o.nm, .int .i64 o.ty])
def Px.cells (p : Px) : List Value := .bool p.d :: .slice p.fp p.fs.length p.fc :: .slice p.wp p.ws.length p.wc :: (p.wh.cells ++ [.slice p.gp p.gs.length p.gc, .slice p.op p.os.length p.oc])
theorem Ox.cells_len (o : Ox) : o.cells.length = 9 := by simp [Ox.cells, Cx.cells_len]
theorem Px.cells_len (p : Px) : p.cells.length = 20 := by simp [Px.cells, Tx.cells_len]
theorem Ox.one (o : Ox) : ∀ u ∈ o.cells, u.oneCell' = true := by
  intro u hu
  simp only [Ox.cells, List.mem_cons, List.mem_append, List.not_mem_nil, or_false] at hu
  rcases hu with rfl | h | rfl | rfl
  · rfl
  · exact o.e.one u h
  · rfl
  · rfl
theorem Px.one (p : Px) : ∀ u ∈ p.cells, u.oneCell' = true := by
  intro u hu
  simp only [Px.cells, List.mem_cons, List.mem_append, List.not_mem_nil, or_false] at hu
  rcases hu with rfl | rfl | rfl | h | rfl | rfl
  · rfl
  · rfl
  · rfl
  · exact p.wh.one u h
  · rfl
  · rfl
/-- The cells of a list of texts. -/
structure StrsA (w : World) (a : Option Addr) (l : List ByteArray) : Prop where
  out : l ≠ [] → ∃ b off, a = some ⟨b, off, none⟩ ∧ ∀ i (h : i < l.length), w.cell? ⟨b, off + i, none⟩ = some (.string l[i])
  small : ∀ s ∈ l, s.size ≤ maxLen
theorem StrsA.later {w w' : World} {a : Option Addr} {l : List ByteArray} (h : StrsA w a l) (hb : Below w.heap.size w w') : StrsA w' a l := ⟨fun hn => by
  obtain ⟨b, off, e, hc⟩ := h.out hn
  exact ⟨b, off, e, fun i hi => cell_later hb (hc i hi)⟩, h.small⟩
def in64 (x : Int) : Prop := -9223372036854775808 ≤ x ∧ x ≤ 9223372036854775807
/-- Ints that came in. -/
structure IntsI (w : World) (a : Option Addr) (l : List Int) : Prop where
  at_ : IntsAt w a l
  i : ∀ x ∈ l, in64 x
  few : l.length ≤ 17592186044416
theorem IntsI.later {w w' : World} {a : Option Addr} {l : List Int} (h : IntsI w a l) (hb : Below w.heap.size w w') : IntsI w' a l := ⟨h.at_.later hb, h.i, h.few⟩
structure PxOk (w : World) (n : Nat) (p : Px) : Prop where
  fs : StrsA w p.fp p.fs
  ws : IntsI w p.wp p.ws
  wh : TxAt w n p.wh
  gs : IntsI w p.gp p.gs
  os : RowC w 9 p.op (p.os.map Ox.cells)
  es : ∀ o ∈ p.os, CxAt w n o.e ∧ in64 o.g
  fewF : p.fs.length ≤ 17592186044416
  fewO : p.os.length ≤ 1099511627776
  capF : p.fs.length ≤ p.fc
  capW : p.ws.length ≤ p.wc
  capG : p.gs.length ≤ p.gc
  capO : p.os.length ≤ p.oc
  sizeT : sizeT p.wh ≤ 8000000
  sizeC : ∀ o ∈ p.os, sizeC o.e ≤ 8000000
theorem PxOk.later {w w' : World} {n : Nat} {p : Px} (h : PxOk w n p) (hb : Below w.heap.size w w') : PxOk w' n p :=
  ⟨h.fs.later hb, h.ws.later hb, h.wh.later hb, h.gs.later hb, h.os.later hb, fun o ho => ⟨(h.es o ho).1.later hb, (h.es o ho).2⟩, h.fewF, h.fewO, h.capF, h.capW, h.capG, h.capO, h.sizeT, h.sizeC⟩
/-- One of the outs, as it lies. -/
theorem PxOk.out {w : World} {n : Nat} {p : Px} (h : PxOk w n p) (i : Nat) (hi : i < p.os.length) : ∃ b o, p.op = some ⟨b, o, none⟩ ∧ b < w.heap.size ∧ w.rangeAt b (o + i * 9) (p.os[i]).cells := by
  obtain ⟨b, o, e, hlt, hR⟩ := h.os.out i (by simpa using hi)
  exact ⟨b, o, e, hlt, by simpa using hR⟩
/-- A plan's parts. -/
structure PsOk (w : World) (n : Nat) (a : Option Addr) (c : Nat) (l : List Px) : Prop where
  row : RowC w 20 a (l.map Px.cells)
  ok : ∀ p ∈ l, PxOk w n p
  few : l.length ≤ 879609302220
  cap : l.length ≤ c
theorem PsOk.later {w w' : World} {n : Nat} {a : Option Addr} {c : Nat} {l : List Px} (h : PsOk w n a c l) (hb : Below w.heap.size w w') : PsOk w' n a c l := ⟨h.row.later hb, fun p hp => (h.ok p hp).later hb, h.few, h.cap⟩
theorem PsOk.part {w : World} {n : Nat} {a : Option Addr} {c : Nat} {l : List Px} (h : PsOk w n a c l) (i : Nat) (hi : i < l.length) : ∃ b o, a = some ⟨b, o, none⟩ ∧ b < w.heap.size ∧ w.rangeAt b (o + i * 20) (l[i]).cells := by
  obtain ⟨b, o, e, hlt, hR⟩ := h.row.out i (by simpa using hi)
  exact ⟨b, o, e, hlt, by simpa using hR⟩

/-! ### What is there -/
/-- Rows that came in: their cells, what their values and numbers may be. -/
structure ElemsI (w : World) (a : Option Addr) (c : Nat) (E : List Elem) : Prop where
  at_ : ElemsAt w a E
  i : ∀ e ∈ E, (∀ x ∈ e.r, inI x) ∧ in64 e.n ∧ e.r.length ≤ e.c
  few : E.length ≤ 4398046511104
  cap : E.length ≤ c
theorem ElemsI.later {w w' : World} {a : Option Addr} {c : Nat} {E : List Elem} (h : ElemsI w a c E) (hb : Below w.heap.size w w') : ElemsI w' a c E := ⟨h.at_.later hb, h.i, h.few, h.cap⟩
/-- A name and its rows. -/
structure Nx where
  s : ByteArray
  a : Option Addr
  c : Nat
  E : List Elem
def Nx.cells (x : Nx) : List Value := [.string x.s, .slice x.a x.E.length x.c]
structure NsOk (w : World) (a : Option Addr) (l : List Nx) : Prop where
  row : RowC w 2 a (l.map Nx.cells)
  ok : ∀ x ∈ l, ElemsI w x.a x.c x.E ∧ x.s.size ≤ maxLen
  few : l.length ≤ 3518437208883
theorem NsOk.later {w w' : World} {a : Option Addr} {l : List Nx} (h : NsOk w a l) (hb : Below w.heap.size w w') : NsOk w' a l := ⟨h.row.later hb, fun p hp => ⟨(h.ok p hp).1.later hb, (h.ok p hp).2⟩, h.few⟩
theorem NsOk.name {w : World} {a : Option Addr} {l : List Nx} (h : NsOk w a l) (i : Nat) (hi : i < l.length) : ∃ b o, a = some ⟨b, o, none⟩ ∧ b < w.heap.size ∧ w.rangeAt b (o + i * 2) (l[i]).cells := by
  obtain ⟨b, o, e, hlt, hR⟩ := h.row.out i (by simpa using hi)
  exact ⟨b, o, e, hlt, by simpa using hR⟩

/-! ### Plainly: how many rows -/
def maxMany : Int := 1099511627776
def addMany (n m : Int) : Int := n + min m (maxMany - n)
def sizeB (L : List Pair) : Int := L.foldl (fun n x => addMany n (max x.2 0)) 0
theorem addMany_in {n m : Int} (hn : 0 ≤ n ∧ n ≤ maxMany) (hm : 0 ≤ m) : 0 ≤ addMany n m ∧ addMany n m ≤ maxMany := by unfold addMany; omega
theorem size_in' : ∀ (L : List Pair) (n : Int), 0 ≤ n ∧ n ≤ maxMany → 0 ≤ L.foldl (fun n x => addMany n (max x.2 0)) n ∧ L.foldl (fun n x => addMany n (max x.2 0)) n ≤ maxMany
  | [], _, h => h
  | x :: L, n, h => size_in' L _ (addMany_in h (by omega))
theorem size_in (L : List Pair) : 0 ≤ sizeB L ∧ sizeB L ≤ maxMany := size_in' L 0 (by unfold maxMany; omega)
theorem size_snoc (L : List Pair) (x : Pair) : sizeB (L ++ [x]) = addMany (sizeB L) (max x.2 0) := by unfold sizeB; rw [List.foldl_append]; rfl
/-- The first of a name. -/
def findN (l : List Nx) (s : List UInt8) : Option Nx := l.find? (fun x => x.s.data.toList == s)
def Nx.val (x : Nx) : Value := .agg #[.slice x.a x.E.length x.c, .int .i64 (sizeB (x.E.map pr))]
def noSrc : Value := .agg #[.slice none 0 0, .int .i64 0]
theorem findN_snoc (l : List Nx) (x : Nx) (s : List UInt8) : findN (l ++ [x]) s = match findN l s with
    | some y => some y
    | none => if x.s.data.toList = s then some x else none := by
  unfold findN
  rw [List.find?_append]
  cases h : l.find? (fun x => x.s.data.toList == s) with
  | some y => rfl
  | none =>
    by_cases hx : x.s.data.toList = s
    · simp [hx]
    · simp [hx]
end Go.Proofs.YtfdkajefcplfjaaGreat

/- What a plan costs and whether it may be, plainly. Nothing of any program here. Conditions: each lemma names its own. -/
namespace Go.Proofs.YtfdkajefcplfjaaGreat
open Go.RowKit

def timesM (a b : Int) : Int := min (a * b) maxMany
theorem timesM_in {a b : Int} (ha : 0 ≤ a) (hb : 0 ≤ b) : 0 ≤ timesM a b ∧ timesM a b ≤ maxMany := by
  have := Int.mul_nonneg ha hb
  unfold timesM maxMany
  omega
def sizeN (l : List Nx) (s : List UInt8) : Int := match findN l s with
  | some x => sizeB (x.E.map pr)
  | none => 0
theorem sizeN_in (l : List Nx) (s : List UInt8) : 0 ≤ sizeN l s ∧ sizeN l s ≤ maxMany := by
  unfold sizeN
  split
  · exact size_in _
  · unfold maxMany; omega
def costF (l : List Nx) (fs : List ByteArray) : Int := fs.foldl (fun n s => timesM n (sizeN l s.data.toList)) 1
theorem costF_snoc (l : List Nx) (fs : List ByteArray) (s : ByteArray) : costF l (fs ++ [s]) = timesM (costF l fs) (sizeN l s.data.toList) := by unfold costF; rw [List.foldl_append]; rfl
theorem costF_in' (l : List Nx) : ∀ (fs : List ByteArray) (n : Int), 0 ≤ n ∧ n ≤ maxMany → 0 ≤ fs.foldl (fun n s => timesM n (sizeN l s.data.toList)) n ∧ fs.foldl (fun n s => timesM n (sizeN l s.data.toList)) n ≤ maxMany
  | [], _, h => h
  | _ :: fs, _, h => costF_in' l fs _ (timesM_in h.1 (sizeN_in l _).1)
theorem costF_in (l : List Nx) (fs : List ByteArray) : 0 ≤ costF l fs ∧ costF l fs ≤ maxMany := costF_in' l fs 1 (by unfold maxMany; omega)
def costP (l : List Nx) (ps : List Px) : Int := ps.foldl (fun n p => addMany n (costF l p.fs)) 0
theorem costP_snoc (l : List Nx) (ps : List Px) (p : Px) : costP l (ps ++ [p]) = addMany (costP l ps) (costF l p.fs) := by unfold costP; rw [List.foldl_append]; rfl
theorem costP_in' (l : List Nx) : ∀ (ps : List Px) (n : Int), 0 ≤ n ∧ n ≤ maxMany → 0 ≤ ps.foldl (fun n p => addMany n (costF l p.fs)) n ∧ ps.foldl (fun n p => addMany n (costF l p.fs)) n ≤ maxMany
  | [], _, h => h
  | _ :: ps, _, h => costP_in' l ps _ (addMany_in h (costF_in l _).1)
theorem costP_in (l : List Nx) (ps : List Px) : 0 ≤ costP l ps ∧ costP l ps ≤ maxMany := costP_in' l ps 0 (by unfold maxMany; omega)

/-! ### Whether a plan may be -/
def inN (x a b : Int) : Bool := decide (a ≤ x) && decide (x ≤ b)
def insideB (l : List Int) (w : Int) : Bool := l.all (fun x => inN x 0 (w - 1))
def groupedB (p : Px) : Bool := decide (0 < p.gs.length) || p.os.any (fun o => o.g != 0)
def sumW (l : List Int) : Int := l.foldl (· + ·) 0
def acrossB (p : Px) : Bool := inN p.fs.length 1 3 && decide (p.ws.length = p.fs.length) && p.ws.all (fun x => inN x 1 8)
def Cx.kind : Cx → Int
  | .mk k _ _ _ _ _ => k
def Cx.at : Cx → Int
  | .mk _ a _ _ _ _ => a
def listsB (p : Px) (w : Int) : Bool := inN p.os.length 1 8 && decide (p.gs.length ≤ 4) && insideB p.gs w && insideB (rise (asT p.wh)) w && p.os.all (fun o => inN o.g 0 6 && insideB (rise (rdC o.e)) w)
def settledB (p : Px) : Bool := p.os.all (fun o => o.g != 0 || (decide (o.e.kind = 1) && p.gs.contains o.e.at))
def partB (p : Px) : Bool := acrossB p && listsB p (sumW p.ws) && (!groupedB p || settledB p)
def planB (ps : List Px) : Bool := inN ps.length 1 4 && ps.all (fun p => partB p && decide (p.os.length = (ps.head?.map (fun q => q.os.length)).getD 0))
/-! ### Whether it is ready -/
def okN (x : Pair) : Bool := decide (0 < x.2) && decide (x.2 ≤ maxMany)
def risesC : List Pair → Bool
  | x :: y :: L => decide (rowsV x.1 y.1 < 0) && risesC (y :: L)
  | _ => true
def plainB (L : List Pair) : Bool := L.all okN && risesC L
def fitsM (l : List Nx) (s : List UInt8) (w : Int) : Int := match findN l s with
  | none => 5
  | some x => if plainB (x.E.map pr) = true ∧ x.E.all (fun e => decide ((e.r.length : Int) = w)) = true then 0 else 1
def readyF (l : List Nx) : List ByteArray → List Int → Int
  | s :: fs, w :: ws => if fitsM l s.data.toList w = 0 then readyF l fs ws else fitsM l s.data.toList w
  | _, _ => 0
def readyL (l : List Nx) : List Px → Int
  | [] => 0
  | p :: ps => if readyF l p.fs p.ws = 0 then readyL l ps else readyF l p.fs p.ws
def readyM (l : List Nx) (ps : List Px) : Int := if planB ps = true then readyL l ps else 1
end Go.Proofs.YtfdkajefcplfjaaGreat

/- A map from texts that a call has made: its entries as a plain function; what a look-up tells, what a store makes of it. Nothing of any program here. Conditions: each lemma names its own. -/
namespace Go.Proofs.YtfdkajefcplfjaaGreat
open Go.RowKit

/-- A value is kept as itself. -/
def heldR (v : Value) : Option (DataW Value × List MemPlace) := some (.held v, [])
def entryD (o : Option Value) (z : DataW Value) : DataW Value := match o with
  | some v => .held v
  | none => z
/-- Block b is a map of at most n entries; what stands at a text is f's answer. -/
structure MapS (P : Program) (k : TypeId) (w : World) (b n : Nat) (f : List UInt8 → Option Value) : Prop where
  out : ∃ D : DataW Value, w.ownsMap P k heldR b n D ∧ Maps.IsMap D ∧ ∀ s z, D.atKey (.string s) z = entryD (f s) z
theorem MapS.made (P : Program) (k : TypeId) (w : World) : MapS P k (w.alloc (.map #[] 0)) w.heap.size 0 (fun _ => none) :=
  ⟨.map [], World.ownsMap_made w P k heldR, Maps.isMap_empty, fun _ _ => rfl⟩
theorem MapS.later {P : Program} {k : TypeId} {w w' : World} {b n : Nat} {f : List UInt8 → Option Value} (h : MapS P k w b n f) (hb : Below w.heap.size w w') : MapS P k w' b n f := by
  obtain ⟨D, h1, h2, h3⟩ := h.out
  exact ⟨D, h1.kept (row := none) ⟨hb.os, hb.tape, hb.output, hb.size, fun i hi _ => hb.block i hi⟩ (by simp), h2, h3⟩
theorem MapS.lt {P : Program} {k : TypeId} {w : World} {b n : Nat} {f : List UInt8 → Option Value} (h : MapS P k w b n f) : b < w.heap.size := by
  obtain ⟨D, h1, _⟩ := h.out
  exact h1.lt
theorem MapS.look {P : Program} {k t e : TypeId} {w : World} {b n : Nat} {f : List UInt8 → Option Value} {z : Value} (c : Bool) (h : MapS P k w b n f) (hk : P.underlying k = some .string) (ht : P.underlying t = some (.map k e)) (hz : (zeroValue e).run P w = .ok z w) {s : ByteArray} (hs : s.size ≤ maxLen) :
    (Instr.lookup t (.map (some b)) (.string s) c).run P w = .ok (if c then .tuple #[(f s.data.toList).getD z, .bool (f s.data.toList).isSome] else (f s.data.toList).getD z) w := by
  obtain ⟨D, ⟨es, clock, hb, F, _, rfl⟩, _, hat⟩ := h.out
  rcases Maps.fit_look c (Maps.string_keyed hk) ht hz hb F (Go.WideMaps.keyOf_string_mk hk hs) with ⟨hrun, _, hz'⟩ | ⟨e0, y, _, _, hrun, hR, hy, _⟩
  · have hn : f s.data.toList = none := by
      cases hf : f s.data.toList with
      | none => rfl
      | some v =>
        have h1 := hat s.data.toList .nil
        rw [hz', hf] at h1
        cases h1
    rw [hrun, hn]
    cases c <;> rfl
  · cases hR
    have h1 := hat s.data.toList .nil
    rw [hy] at h1
    have hn : f s.data.toList = some e0.val := by
      cases hf : f s.data.toList with
      | none => rw [hf] at h1; cases h1
      | some v => rw [hf] at h1; cases h1; rfl
    rw [hrun, hn]
    cases c <;> rfl
theorem MapS.put {P : Program} {k t e : TypeId} {w : World} {b n : Nat} {f : List UInt8 → Option Value} (h : MapS P k w b n f) (hk : P.underlying k = some .string) (ht : P.underlying t = some (.map k e)) (hn : n < maxLen) {s : ByteArray} (hs : s.size ≤ maxLen) (v : Value) :
    ∃ w', (Instr.mapUpdate t (.map (some b)) (.string s) v).run P w = .ok () w' ∧ MapS P k w' b (n + 1) (fun x => if x = s.data.toList then some v else f x) ∧ w.grownBy w' (some b) := by
  obtain ⟨D, h1, h2, h3⟩ := h.out
  obtain ⟨w', hrun, hown, hg⟩ := h1.update (Maps.string_keyed hk) ht hn (Go.WideMaps.keyOf_string_mk hk hs) (val := v) (d := .held v) (ps := []) rfl
  refine ⟨w', hrun, ⟨_, hown, h2.put _ _, fun x z => ?_⟩, hg⟩
  by_cases hx : x = s.data.toList
  · subst hx
    rw [Maps.atKey_put_same h2 (show WideAt.IsKeyLit (.string s.data.toList) from trivial), if_pos rfl]; rfl
  · rw [Maps.atKey_put_other (fun e => hx (by cases e; rfl)), if_neg hx]
    exact h3 x z
end Go.Proofs.YtfdkajefcplfjaaGreat

/- The project's size, and what is there by names: contracts of the calls, in whatever memory. Conditions: the rows' and the names' cells are known (what came in reads so). -/
namespace Go.Proofs.YtfdkajefcplfjaaGreat
open Go.RowKit

theorem size_step {E : List Elem} {i : Nat} (h : i < E.length) : sizeB ((E.map pr).take (i + 1)) = addMany (sizeB ((E.map pr).take i)) (max E[i].n 0) := by
  rw [List.take_succ_eq_append_getElem (by simpa using h), size_snoc]
  simp [pr]
set_option maxHeartbeats 1000000 in
theorem srcSize_any (a : Option Addr) (c : Nat) (E : List Elem) (w : World) (h : ElemsI w a c E) :
    Calls Tryz.prog 107 #[.slice a E.length c] w fun e w' => e = .returned (.int .i64 (sizeB (E.map pr))) ∧ Below w.heap.size w w' := by
  have A := hid0 h
  have hfew := h.few
  clear h
  go_enter Tryz.func107, Tryz.ntmps107
  go_wp2
  go_loopw [3, 8] (fun nv iv wr => ∃ i : Nat, i ≤ E.length ∧ iv = .int .i64 i ∧ nv = .int .i64 (sizeB ((E.map pr).take i)) ∧ Below w.heap.size w wr) (fun _ iv _ => E.length - (intOf iv).toNat)
  case atStart => exact ⟨0, Nat.zero_le _, rfl, rfl, Below.refl _ _⟩
  case round =>
    obtain ⟨i, hi, rfl, rfl, hB⟩ := hrel
    have hsz := hB.size
    by_cases hlt : i < E.length
    · obtain ⟨b1, o1, rfl, hc1⟩ := ((A.out.later hB).at_.1) (by intro e; rw [e] at hlt; exact absurd hlt (by simp))
      obtain ⟨q0, q1⟩ := hc1 i hlt
      have hin := (A.out.i _ (List.getElem_mem hlt)).2.1
      have hst := size_step hlt
      have hb := size_in ((E.map pr).take i)
      obtain ⟨nn, hnn⟩ : ∃ nn, sizeB ((E.map pr).take i) = nn := ⟨_, rfl⟩
      rw [hnn] at hst hb ⊢
      obtain ⟨h1, h2⟩ := hin
      obtain ⟨b0, b2⟩ := hb
      unfold maxMany at b2
      unfold addMany maxMany at hst
      have HST := hid0 hst
      have hw0 : IntKind.i64.wrap (1099511627776 - nn) = 1099511627776 - nn := IntWalk.i64_in _ (by omega)
      have hw1 : IntKind.i64.wrap (nn + min (max E[i].n 0) (1099511627776 - nn)) = nn + min (max E[i].n 0) (1099511627776 - nn) := IntWalk.i64_in _ (by omega)
      have hBA := Below.alloc hB hsz (Obj.cells #[.slice E[i].a E[i].r.length E[i].c, .int .i64 E[i].n] 80)
      clear hc1 hst hnn hB
      go_wp2
      exact ⟨⟨i + 1, by omega, by go_num, by rw [HST.out], hBA⟩, by simp [intOf]; omega⟩
    · have hie : ¬ (i : Int) < E.length := by omega
      go_wp2
      go_ret
      exact ⟨ret_i64 (by rw [List.take_of_length_le (by simp; omega)]), hB⟩

theorem run_makeMapI {P : Program} {t k e : TypeId} (h : P.underlying t = some (.map k e)) (kd : IntKind) (n : Int) (w : World) : (Instr.makeMap t (some (.int kd n))).run P w = .ok (.map (some w.heap.size)) (w.alloc (.map #[] 0)) := by
  simp [Instr.makeMap, run_underlying h, asInt, asIntOf, Result.andThen]
theorem zeroSrc (w : World) : (zeroValue 140).run Tryz.prog w = .ok noSrc w := by kernel_rfl
/-- The names that are there, in a map. -/
structure ThereAt (w : World) (b : Nat) (l : List Nx) : Prop where
  out : ∃ n, MapS Tryz.prog 9 w b n (fun s => (findN l s).map Nx.val) ∧ n ≤ l.length
theorem ThereAt.later {w w' : World} {b : Nat} {l : List Nx} (h : ThereAt w b l) (hb : Below w.heap.size w w') : ThereAt w' b l := by
  obtain ⟨n, h1, h2⟩ := h.out
  exact ⟨n, h1.later hb, h2⟩
theorem ThereAt.lt {w : World} {b : Nat} {l : List Nx} (h : ThereAt w b l) : b < w.heap.size := by
  obtain ⟨n, h1, h2⟩ := h.out
  exact h1.lt
def srcOf (l : List Nx) (s : List UInt8) : Value := match findN l s with
  | some x => x.val
  | none => noSrc
theorem ThereAt.look {w : World} {b : Nat} {l : List Nx} (c : Bool) (h : ThereAt w b l) {s : ByteArray} (hs : s.size ≤ maxLen) :
    (Instr.lookup 107 (.map (some b)) (.string s) c).run Tryz.prog w = .ok (if c then .tuple #[srcOf l s.data.toList, .bool (findN l s.data.toList).isSome] else srcOf l s.data.toList) w := by
  obtain ⟨n, h1, h2⟩ := h.out
  have H := h1.look (t := 107) (e := 140) c Tryz.underlying9 Tryz.underlying107 (zeroSrc w) hs
  rw [H]
  unfold srcOf
  cases findN l s.data.toList <;> rfl
/-- A store into the map, in a region that draws its order. -/
theorem step_mapPut {w : World} {ops : Array Oper} {o : Oper} {a : Act} {K : Act → World → Prop} {Q : Exit → Act → World → Prop} {X : Prop} (hgd : o.guard = none) (m x v : Operand)
    (ho : o.op = Op.mapUpdate 107 m x v) {b n : Nat} {f : List UInt8 → Option Value} {s : ByteArray} {val : Value} (hm : a.eval m = .map (some b)) (hx : a.eval x = .string s) (hv : a.eval v = val)
    (h : MapS Tryz.prog 9 w b n f) (hn : n < maxLen) (hs : s.size ≤ maxLen)
    (hK : ∀ w', MapS Tryz.prog 9 w' b (n + 1) (fun x => if x = s.data.toList then some val else f x) → w.grownBy w' (some b) → K (a.put o.dst undef) w') :
    if Region.wanted o (yielded ops a.tmps) = true then Oper.wp Tryz.prog o a w K Q else X := by
  have hw : Region.wanted o (yielded ops a.tmps) = true := by simp [Region.wanted, hgd]
  rw [if_pos hw]
  obtain ⟨w', hrun, h1, h2⟩ := h.put (t := 107) (e := 140) Tryz.underlying9 Tryz.underlying107 hn hs val
  unfold Oper.wp
  simp [execOp, ho, hm, hx, hv, hrun, Result.andThen]
  exact hK w' h1 h2
theorem find_met {l : List Nx} {x y : Nx} (h : findN l x.s.data.toList = some y) : (fun s => (findN (l ++ [x]) s).map Nx.val) = fun s => (findN l s).map Nx.val := by
  funext s
  rw [findN_snoc]
  cases hs : findN l s with
  | some z => rfl
  | none =>
    have : x.s.data.toList ≠ s := fun e => by rw [e, hs] at h; cases h
    simp [this]
theorem find_new {l : List Nx} {x : Nx} (h : findN l x.s.data.toList = none) : (fun s => (findN (l ++ [x]) s).map Nx.val) = fun s => if s = x.s.data.toList then some x.val else (findN l s).map Nx.val := by
  funext s
  rw [findN_snoc]
  by_cases e : s = x.s.data.toList
  · subst e; rw [h]; simp
  · rw [if_neg e]
    cases hs : findN l s with
    | some z => rfl
    | none => simp [Ne.symm e]

structure SThere (w0 : World) (vb m : Nat) (x : Nx) (w : World) : Prop where
  v : VarB w vb [.string x.s, .slice x.a x.E.length x.c]
  e : ElemsI w0 x.a x.c x.E
  b : Below w0.heap.size w0 w
  ge : w0.heap.size ≤ m ∧ vb ≠ m
theorem SThere.below {w0 : World} {vb m : Nat} {x : Nx} {w w' : World} (h : SThere w0 vb m x w) (hb : Below w.heap.size w w') : SThere w0 vb m x w' :=
  ⟨h.v.below hb, h.e, below_through hb h.b.size h.b, h.ge⟩
theorem SThere.grown {w0 : World} {vb m : Nat} {x : Nx} {w w' : World} (h : SThere w0 vb m x w) (hg : w.grownBy w' (some m)) : SThere w0 vb m x w' :=
  ⟨h.v.keep (hg.block _ h.v.lt (fun e => h.ge.2 (by cases e; rfl))) hg.size, h.e, h.b.grown hg h.b.size (fun k hk => by cases hk; exact h.ge.1), h.ge⟩
theorem ThereAt.put {w : World} {b : Nat} {l : List Nx} {x : Nx} (h : ThereAt w b l) (hl : l.length < maxLen) (hs : x.s.size ≤ maxLen) (hf : findN l x.s.data.toList = none) :
    ∃ w', (Instr.mapUpdate 107 (.map (some b)) (.string x.s) x.val).run Tryz.prog w = .ok () w' ∧ ThereAt w' b (l ++ [x]) ∧ w.grownBy w' (some b) := by
  obtain ⟨n, h1, h2⟩ := h.out
  obtain ⟨w', hrun, h3, hg⟩ := h1.put (t := 107) (e := 140) Tryz.underlying9 Tryz.underlying107 (by omega) hs x.val
  exact ⟨w', hrun, ⟨n + 1, by rw [find_new hf]; exact h3, by simp; omega⟩, hg⟩
set_option maxRecDepth 100000 in
set_option maxHeartbeats 4000000 in
theorem there_any (a : Option Addr) (c : Nat) (l : List Nx) (w : World) (h : NsOk w a l) :
    Calls Tryz.prog 71 #[.slice a l.length c] w fun e w' => (∃ b, e = .returned (.map (some b)) ∧ ThereAt w' b l) ∧ Below w.heap.size w w' := by
  have A := hid0 h
  have hfew := h.few
  have hT0 : ThereAt (w.alloc (.map #[] 0)) w.heap.size [] := ⟨0, MapS.made _ _ w, Nat.le_refl _⟩
  have hB0 : Below w.heap.size w (w.alloc (.map #[] 0)) := (Below.refl _ _).alloc (Nat.le_refl _) _
  clear h
  obtain ⟨N, hN⟩ : ∃ N, l.length = N := ⟨_, rfl⟩
  rw [hN] at hfew ⊢
  have HN := hid0 hN
  clear hN
  have hmm := run_makeMapI Tryz.underlying107 .i64
  go_enter Tryz.func71, Tryz.ntmps71
  go_wp2
  go_loopw [13] (fun iv wr => ∃ i : Nat, i ≤ N ∧ iv = .int .i64 i ∧ ThereAt wr w.heap.size (l.take i) ∧ Below w.heap.size w wr) (fun iv _ => N - (intOf iv).toNat)
  case atStart => exact ⟨0, Nat.zero_le _, rfl, hT0, hB0⟩
  case round =>
    obtain ⟨i, hi, rfl, hT, hB⟩ := hrel
    clear hT0 hB0
    have hsz := hB.size
    have hml := hT.lt
    by_cases hlt : i < N
    · have g1 : i < l.length := by rw [HN.out]; exact hlt
      obtain ⟨b1, o1, rfl, hb1, hR⟩ := (A.out.later hB).name i g1
      obtain ⟨hE, hss⟩ := (A.out.later hB).ok _ (List.getElem_mem g1)
      have hE0 := (A.out.ok _ (List.getElem_mem g1)).1
      have htk : l.take (i + 1) = l.take i ++ [l[i]] := List.take_succ_eq_append_getElem g1
      obtain ⟨x, hx⟩ : ∃ x, l[i] = x := ⟨_, rfl⟩
      rw [hx] at hR hE hE0 hss htk
      have q0 := rng hR 0 rfl
      have q1 := rng hR 1 rfl
      rw [Nat.add_zero] at q0
      have hlk := (hT.later ((Below.refl wr.heap.size wr).alloc (Nat.le_refl _) (Obj.cells #[.string x.s, .slice x.a x.E.length x.c] 65))).look true hss
      have HTK := hid0 htk
      have HE := hid0 hE
      have HT := hid0 hT
      have hBA := Below.alloc hB hsz (Obj.cells #[.string x.s, .slice x.a x.E.length x.c] 65)
      have HB := hid0 hB
      have hlt' : (i : Int) < (N : Int) := by omega
      unfold srcOf at hlk
      cases hf : findN (l.take i) x.s.data.toList with
      | some y =>
        rw [hf] at hlk
        unfold Nx.val at hlk
        have HF := hid0 hf
        have hB2 := hid0 (Below.alloc hBA hBA.size (Obj.cells #[.slice y.a y.E.length y.c, .int .i64 (sizeB (y.E.map pr))] 140))
        have hT2 := hid0 ((HT.out.later ((Below.refl wr.heap.size wr).alloc (Nat.le_refl _) (Obj.cells #[.string x.s, .slice x.a x.E.length x.c] 65))).later ((Below.refl _ _).alloc (Nat.le_refl _) (Obj.cells #[.slice y.a y.E.length y.c, .int .i64 (sizeB (y.E.map pr))] 140)))
        clear hR hE htk hx hT hB hBA hf
        go_wp2
        refine ⟨⟨i + 1, by omega, by go_num, ?_, hB2.out⟩, by simp [intOf]; omega⟩
        obtain ⟨n, h1, h2⟩ := hT2.out.out
        rw [HTK.out]
        refine ⟨n, ?_, by simp at h2 ⊢; omega⟩
        rw [find_met HF.out]
        exact h1
      | none =>
        rw [hf] at hlk
        unfold noSrc at hlk
        have HF := hid0 hf
        have hBw := (Below.refl wr.heap.size wr).alloc (Nat.le_refl _) (Obj.cells #[.string x.s, .slice x.a x.E.length x.c] 65)
        have hBw2 := hBw.alloc hBw.size (Obj.cells #[.slice none 0 0, .int .i64 0] 140)
        have hB2 := Below.alloc hBA hBA.size (Obj.cells #[.slice none 0 0, .int .i64 0] 140)
        have VN := (VarB.new wr [.string x.s, .slice x.a x.E.length x.c] 65).alloc (Obj.cells #[.slice none 0 0, .int .i64 0] 140)
        have hT2 := (HT.out.later hBw2).later (Below.drew (Below.refl _ _))
        have hne : wr.heap.size ≠ w.heap.size := by omega
        have hS := (⟨VN, hE0, hB2, Nat.le_refl _, hne⟩ : SThere w wr.heap.size w.heap.size x _).below (Below.drew (Below.refl _ _))
        have n0 := VN.cell 0 rfl
        have n1 := VN.cell 1 rfl
        clear hR hE hE0 htk hx hT hB hBA hf hBw hBw2 VN hB2
        go_wp2_with fail
        refine wp_region_held_drew (S := SThere w wr.heap.size w.heap.size x) (by kernel_rfl) hS (fun hHeld => ?_)
        refine wpAnyH_take (i := 0) (v := ?_) rfl (by kernel_rfl) (by kernel_rfl) (by kernel_rfl) (fun _ _ _ h => h) (Or.inl ⟨by rfl, ?_⟩) (by assumption) ?_
        rotate_left
        · (intro wx hSw; have q0 := hSw.v.cell 0 rfl; have q1 := hSw.v.cell 1 rfl; go_simp; (try with_reducible rfl); (try omega))
        (try simp only [Act.put, List.setIfInBounds_toArray, List.set_cons_zero, List.set_cons_succ, List.getElem_toArray, List.getElem_cons_zero])
        refine wpAnyH_take (i := 1) (v := ?_) rfl (by kernel_rfl) (by kernel_rfl) (by kernel_rfl) (fun _ _ _ h => h) (Or.inl ⟨by rfl, ?_⟩) (by assumption) ?_
        rotate_left
        · (intro wx hSw; have q0 := hSw.v.cell 0 rfl; have q1 := hSw.v.cell 1 rfl; go_simp; (try with_reducible rfl); (try omega))
        (try simp only [Act.put, List.setIfInBounds_toArray, List.set_cons_zero, List.set_cons_succ, List.getElem_toArray, List.getElem_cons_zero, List.getElem_cons_succ])
        refine wpAnyH_take (i := 2) (v := ?_) rfl (by kernel_rfl) (by kernel_rfl) (by kernel_rfl) (fun _ _ _ h => h) (Or.inl ⟨by rfl, ?_⟩) (by assumption) ?_
        rotate_left
        · (intro wx hSw; have q0 := hSw.v.cell 0 rfl; have q1 := hSw.v.cell 1 rfl; go_simp; (try with_reducible rfl); (try omega))
        (try simp only [Act.put, List.setIfInBounds_toArray, List.set_cons_zero, List.set_cons_succ, List.getElem_toArray, List.getElem_cons_zero, List.getElem_cons_succ])
        refine wpAnyH_take (i := 3) (v := ?_) rfl (by kernel_rfl) (by kernel_rfl) (by kernel_rfl) (fun _ _ _ h => h) (Or.inl ⟨by rfl, ?_⟩) (by assumption) ?_
        rotate_left
        · (intro wx hSw; have q0 := hSw.v.cell 0 rfl; have q1 := hSw.v.cell 1 rfl; go_simp; (try with_reducible rfl); (try omega))
        (try simp only [Act.put, List.setIfInBounds_toArray, List.set_cons_zero, List.set_cons_succ, List.getElem_toArray, List.getElem_cons_zero, List.getElem_cons_succ])
        refine wpAnyH_take (i := 4) (v := ?_) rfl (by kernel_rfl) (by kernel_rfl) (by kernel_rfl) (fun _ _ _ h => h) (Or.inl ⟨by rfl, ?_⟩) (by assumption) ?_
        rotate_left
        · (intro wx hSw; have q0 := hSw.v.cell 0 rfl; have q1 := hSw.v.cell 1 rfl; go_simp; (try with_reducible rfl); (try omega))
        (try simp only [Act.put, List.setIfInBounds_toArray, List.set_cons_zero, List.set_cons_succ, List.getElem_toArray, List.getElem_cons_zero, List.getElem_cons_succ])
        refine wpAnyH_take (i := 5) (v := ?_) rfl (by kernel_rfl) (by kernel_rfl) (by kernel_rfl) (fun _ _ _ h => h) (Or.inl ⟨by rfl, ?_⟩) (by assumption) ?_
        rotate_left
        · (intro wx hSw; have q0 := hSw.v.cell 0 rfl; have q1 := hSw.v.cell 1 rfl; go_simp; (try with_reducible rfl); (try omega))
        (try simp only [Act.put, List.setIfInBounds_toArray, List.set_cons_zero, List.set_cons_succ, List.getElem_toArray, List.getElem_cons_zero, List.getElem_cons_succ])
        refine wpAnyH_take (i := 6) (v := ?_) rfl (by kernel_rfl) (by kernel_rfl) (by kernel_rfl) (fun _ _ _ h => h) (Or.inl ⟨by rfl, ?_⟩) (by assumption) ?_
        rotate_left
        · (intro wx hSw; have q0 := hSw.v.cell 0 rfl; have q1 := hSw.v.cell 1 rfl; go_simp; (try with_reducible rfl); (try omega))
        (try simp only [Act.put, List.setIfInBounds_toArray, List.set_cons_zero, List.set_cons_succ, List.getElem_toArray, List.getElem_cons_zero, List.getElem_cons_succ])
        refine wpAnyH_ready (rs := [7]) (by kernel_rfl) (by simp) ?_
        refine AllReadyH.cons rfl (fun K hK => ?_) AllReadyH.nil
        go_simp
        refine (srcSize_any _ _ _ _ (hS.e.later hS.b)).mono ?_
        rintro e W3 ⟨rfl, hb⟩
        have hS := hS.below hb
        have hT3 := hT2.later hb
        clear hb
        refine hK.out _ _ hS (fun hHeld => ?_)
        clear hK K
        (try simp only [Act.put, List.setIfInBounds_toArray, List.set_cons_zero, List.set_cons_succ, List.getElem_toArray, List.getElem_cons_zero, List.getElem_cons_succ])
        refine wpAnyH_take (i := 8) (v := ?_) rfl (by kernel_rfl) (by kernel_rfl) (by kernel_rfl) (fun _ _ _ h => h) (Or.inl ⟨by rfl, ?_⟩) (by assumption) ?_
        rotate_left
        · (intro wx hSw; have q0 := hSw.v.cell 0 rfl; have q1 := hSw.v.cell 1 rfl; go_simp; (try with_reducible rfl); (try omega))
        (try simp only [Act.put, List.setIfInBounds_toArray, List.set_cons_zero, List.set_cons_succ, List.getElem_toArray, List.getElem_cons_zero, List.getElem_cons_succ])
        refine wpAnyH_ready (rs := [9]) (by kernel_rfl) (by simp) ?_
        refine AllReadyH.cons rfl (fun K hK => ?_) AllReadyH.nil
        go_simp
        obtain ⟨W4, hrun, hT4, hg4⟩ := hT3.put (by simp; unfold maxLen; omega) hss HF.out
        unfold Nx.val at hrun
        rw [hrun]
        have hS := hS.grown hg4
        simp only [Result.andThen]
        go_simp
        refine hK.out _ _ hS (fun hHeld => ?_)
        clear hK K
        (try simp only [Act.put, List.setIfInBounds_toArray, List.set_cons_zero, List.set_cons_succ, List.getElem_toArray, List.getElem_cons_zero, List.getElem_cons_succ])
        refine wpAnyH_done (by kernel_rfl) ?_ _
        rw [← HTK.out] at hT4
        have hb4 := hS.b
        clear hS hT2 hT3 hg4 hrun hHeld
        go_wp2_with fail
        exact ⟨⟨i + 1, by omega, by go_num, hT4, hb4⟩, by simp [intOf]; omega⟩
    · obtain rfl : i = N := by omega
      rw [← HN.out, List.take_length] at hT
      have hlt' : ¬ (i : Int) < (i : Int) := by omega
      go_wp2
      go_ret
      exact ⟨⟨_, rfl, hT⟩, hB⟩
end Go.Proofs.YtfdkajefcplfjaaGreat

/- What a plan costs: contracts of the calls, in whatever memory. Conditions: the parts' and the names' cells are known (what came in reads so). -/
namespace Go.Proofs.YtfdkajefcplfjaaGreat
open Go.RowKit

def Px.val (p : Px) : Value := .agg p.cells.toArray
theorem sizePx : (Tryz.prog.info? 50).map (·.size) = some 20 := by kernel_rfl
theorem srcOf_is (l : List Nx) (s : List UInt8) : ∃ a m c, srcOf l s = .agg #[.slice a m c, .int .i64 (sizeN l s)] := by
  unfold srcOf sizeN
  cases findN l s with
  | none => exact ⟨_, _, _, rfl⟩
  | some x => exact ⟨_, _, _, rfl⟩
theorem ThereAt.look1 {w : World} {b : Nat} {l : List Nx} (h : ThereAt w b l) {s : ByteArray} (hs : s.size ≤ maxLen) :
    ∃ a m c, (Instr.lookup 107 (.map (some b)) (.string s) false).run Tryz.prog w = .ok (.agg #[.slice a m c, .int .i64 (sizeN l s.data.toList)]) w := by
  obtain ⟨a, m, c, e⟩ := srcOf_is l s.data.toList
  refine ⟨a, m, c, ?_⟩
  have := h.look false hs
  rw [e] at this
  simpa using this

theorem times_any (a b : Int) (w : World) (ha : 0 ≤ a ∧ a ≤ maxMany) (hb : 0 ≤ b ∧ b ≤ maxMany) :
    Calls Tryz.prog 152 #[.int .i64 a, .int .i64 b] w fun e w' => e = .returned (.int .i64 (timesM a b)) ∧ w' = w := by
  obtain ⟨a1, a2⟩ := ha
  obtain ⟨b1, b2⟩ := hb
  unfold maxMany at a2 b2
  obtain ⟨x, rfl⟩ : ∃ x : Nat, a = x := ⟨a.toNat, by omega⟩
  obtain ⟨y, rfl⟩ : ∃ y : Nat, b = y := ⟨b.toNat, by omega⟩
  have hx : IntKind.u64.wrap (x : Int) = x := by rw [IntKind.wrap_u64]; omega
  have hy : IntKind.u64.wrap (y : Int) = y := by rw [IntKind.wrap_u64]; omega
  have hM := Tryz.bits_Mul64 x y (by omega) (by omega) w
  unfold timesM maxMany
  rw [← Int.natCast_mul]
  generalize x * y = m at hM ⊢
  go_enter Tryz.func152, Tryz.ntmps152
  go_wp2_with (go_at_call 216; refine hM.mono ?_; rintro e w' ⟨rfl, hw⟩; rw [hw])
  all_goals (go_ret; exact ⟨ret_i64 (by omega), rfl⟩)

set_option maxRecDepth 100000 in
set_option maxHeartbeats 2000000 in
theorem partCost_any (b : Nat) (l : List Nx) (p : Px) (w : World) (hT : ThereAt w b l) (hp : StrsA w p.fp p.fs) (hc : p.fs.length ≤ 17592186044416) :
    Calls Tryz.prog 110 #[.map (some b), p.val] w fun e w' => e = .returned (.int .i64 (costF l p.fs)) ∧ Below w.heap.size w w' := by
  have V := VarB.new w p.cells 50
  have a1 : _ = some (Value.slice p.fp p.fs.length p.fc) := V.cell 1 rfl
  obtain ⟨fp, hfp⟩ : ∃ fp, p.fp = fp := ⟨_, rfl⟩
  rw [hfp] at a1 hp
  clear hfp
  have HT := hid0 hT
  have HP := hid0 hp
  have hB0 : Below w.heap.size w (w.alloc (.cells p.cells.toArray 50)) := (Below.refl _ _).alloc (Nat.le_refl _) _
  clear V hT hp
  unfold Px.val
  generalize p.cells = us at a1 hB0 ⊢
  generalize p.fs = fs at a1 hc HP ⊢
  go_enter Tryz.func110, Tryz.ntmps110
  go_wp2
  go_loopw [5, 11] (fun nv iv wr => ∃ i : Nat, i ≤ fs.length ∧ iv = .int .i64 i ∧ nv = .int .i64 (costF l (fs.take i)) ∧ Below w.heap.size w wr) (fun _ iv _ => fs.length - (intOf iv).toNat)
  case atStart => exact ⟨0, Nat.zero_le _, rfl, rfl, hB0⟩
  case round =>
    obtain ⟨i, hi, rfl, rfl, hB⟩ := hrel
    clear a1 hB0
    by_cases hlt : i < fs.length
    · obtain ⟨b1, o1, rfl, hc1⟩ := (HP.out.later hB).out (by intro e; rw [e] at hlt; exact absurd hlt (by simp))
      have q0 := hc1 i hlt
      have hss := HP.out.small _ (List.getElem_mem hlt)
      obtain ⟨sa, sm, sc, hlk⟩ := (HT.out.later hB).look1 hss
      have hst := hid0 (show costF l (fs.take (i + 1)) = _ by rw [List.take_succ_eq_append_getElem hlt, costF_snoc])
      have ht := times_any (costF l (fs.take i)) (sizeN l fs[i].data.toList) wr (costF_in _ _) (sizeN_in _ _)
      generalize sizeN l fs[i].data.toList = z at hlk hst ht
      generalize fs[i] = nm at q0 hss hlk
      have hop : ∀ w, (Instr.field 140 (.agg #[.slice sa sm sc, .int .i64 z]) 1).run Tryz.prog w = .ok (.int .i64 z) w := fun w => by kernel_rfl
      clear hc1
      go_wp2_with (go_at_call 152; refine ht.mono ?_; rintro e w3 ⟨rfl, hw⟩; rw [hw])
      exact ⟨⟨i + 1, by omega, by go_num, by rw [hst.out], hB⟩, by simp [intOf]; omega⟩
    · have hie : ¬ (i : Int) < fs.length := by omega
      go_wp2
      go_ret
      exact ⟨ret_i64 (by rw [List.take_of_length_le (by omega)]), hB⟩
end Go.Proofs.YtfdkajefcplfjaaGreat

/- What a plan costs, all parts. Conditions: see Xd. -/
namespace Go.Proofs.YtfdkajefcplfjaaGreat
open Go.RowKit

/-- A part that was nothing yet. -/
def zPx : List Value := [.bool false, .slice none 0 0, .slice none 0 0, .int .i64 0, .int .i64 0, .int .i64 0, .int .i64 0, .int .i64 0, .int .i64 0, .string ⟨#[]⟩, .slice none 0 0, .int .i64 0, .int .i64 0, .int .i64 0, .int .i64 0, .string ⟨#[]⟩, .slice none 0 0, .slice none 0 0, .slice none 0 0, .slice none 0 0]
def planV (a : Option Addr) (n c : Nat) : Value := .agg #[.slice a n c]
theorem costP_take {l : List Nx} {ps : List Px} {i : Nat} (h : i < ps.length) : costP l (ps.take (i + 1)) = addMany (costP l (ps.take i)) (costF l ps[i].fs) := by
  rw [List.take_succ_eq_append_getElem h, costP_snoc]
set_option maxRecDepth 100000 in
set_option maxHeartbeats 2000000 in
theorem cost_any {n : Nat} (b : Nat) (l : List Nx) (a : Option Addr) (c : Nat) (ps : List Px) (w : World) (hT : ThereAt w b l) (hp : PsOk w n a c ps) :
    Calls Tryz.prog 73 #[.map (some b), planV a ps.length c] w fun e w' => e = .returned (.int .i64 (costP l ps)) ∧ Below w.heap.size w w' := by
  have hfew := hp.few
  have HT := hid0 hT
  have HP := hid0 hp
  have hB0 : Below w.heap.size w (w.alloc (.cells #[.slice a ps.length c] 24)) := (Below.refl _ _).alloc (Nat.le_refl _) _
  clear hT hp
  unfold planV
  go_enter Tryz.func73, Tryz.ntmps73
  go_wp2
  go_loopw [5, 11] (fun nv iv wr => ∃ i : Nat, i ≤ ps.length ∧ iv = .int .i64 i ∧ nv = .int .i64 (costP l (ps.take i)) ∧ Below w.heap.size w wr) (fun _ iv _ => ps.length - (intOf iv).toNat)
  case atStart => exact ⟨0, Nat.zero_le _, rfl, rfl, hB0⟩
  case round =>
    obtain ⟨i, hi, rfl, rfl, hB⟩ := hrel
    clear hB0
    have hsz := hB.size
    by_cases hlt : i < ps.length
    · obtain ⟨b1, o1, rfl, hb1, hR⟩ := (HP.out.later hB).part i hlt
      have hok := HP.out.ok _ (List.getElem_mem hlt)
      have hst := costP_take (l := l) hlt
      generalize ps[i] = p at hR hok hst
      have hin := costP_in l (ps.take i)
      have hinF := costF_in l p.fs
      generalize costP l (ps.take i) = N at hst hin ⊢
      obtain ⟨h1, h2⟩ := hin
      obtain ⟨h3, h4⟩ := hinF
      unfold addMany at hst
      unfold maxMany at h2 h4 hst
      have HST := hid0 hst
      have hw0 : IntKind.i64.wrap (1099511627776 - N) = 1099511627776 - N := IntWalk.i64_in _ (by omega)
      have hw1 : IntKind.i64.wrap (N + min (costF l p.fs) (1099511627776 - N)) = N + min (costF l p.fs) (1099511627776 - N) := IntWalk.i64_in _ (by omega)
      have V0 : VarB (wr.alloc (Obj.cells #[.bool false, .slice none 0 0, .slice none 0 0, .int .i64 0, .int .i64 0, .int .i64 0, .int .i64 0, .int .i64 0, .int .i64 0, .string ⟨#[]⟩, .slice none 0 0, .int .i64 0, .int .i64 0, .int .i64 0, .int .i64 0, .string ⟨#[]⟩, .slice none 0 0, .slice none 0 0, .slice none 0 0, .slice none 0 0] 50)) wr.heap.size zPx := VarB.new wr zPx 50
      have hl := p.cells_len
      have h1' := p.one
      have hBA := Below.alloc hB hsz (Obj.cells #[.bool false, .slice none 0 0, .slice none 0 0, .int .i64 0, .int .i64 0, .int .i64 0, .int .i64 0, .int .i64 0, .int .i64 0, .string ⟨#[]⟩, .slice none 0 0, .int .i64 0, .int .i64 0, .int .i64 0, .int .i64 0, .string ⟨#[]⟩, .slice none 0 0, .slice none 0 0, .slice none 0 0, .slice none 0 0] 50)
      have C : ∀ W, Below w.heap.size w W → Calls Tryz.prog 110 #[.map (some b), .agg p.cells.toArray] W fun e w' => e = .returned (.int .i64 (costF l p.fs)) ∧ Below W.heap.size W w' := fun W hW => partCost_any b l p W (HT.out.later hW) (hok.fs.later hW) hok.fewF
      have HC := hid0 C
      clear hst hB C hok
      generalize p.cells = us at hR hl h1' HC
      generalize costF l p.fs = F at *
      have h0 : w.heap.size ≤ wr.heap.size := hsz
      go_wp2_with (first | ((with_reducible refine wp_getB hR Tryz.underlying50 ?_ ?_ ?_ ?_); (rfl); (rw [hl]; exact sizePx); (rfl); simp only [Act.put]) | ((with_reducible refine wp_putB V0 h1' ?_ ?_ ?_ ?_ ?_); (exact hl); (exact sizePx); (rfl); (rfl); intro w5 hV5 hw5; (have hb5 : Below w.heap.size w w5 := by rw [hw5.out]; exact below_setCells _ 0 hBA h0); clear hw5; simp only [Act.put]) | ((with_reducible refine wp_getB hV5.at_ Tryz.underlying50 ?_ ?_ ?_ ?_); (rfl); (rw [hl]; exact sizePx); (rfl); simp only [Act.put]) | (go_at_call 110; refine (HC.out _ hb5).mono ?_; rintro e w6 ⟨rfl, hb6⟩; (have hb7 := below_through hb6 hb5.size hb5); clear hb6) | fail)
      exact ⟨⟨i + 1, by omega, by go_num, by rw [HST.out], hb7⟩, by simp [intOf]; omega⟩
    · have hie : ¬ (i : Int) < ps.length := by omega
      go_wp2
      go_ret
      exact ⟨ret_i64 (by rw [List.take_of_length_le (by omega)]), hB⟩
end Go.Proofs.YtfdkajefcplfjaaGreat

/- Whether a plan may be: the small questions: within, inside, aggregates, whether one of the outs is one, whether a list holds a number. Conditions: the lists' cells are known. -/
namespace Go.Proofs.YtfdkajefcplfjaaGreat
open Go.RowKit

theorem within_any (n a b : Int) (w : World) : Calls Tryz.prog 147 #[.int .i64 n, .int .i64 a, .int .i64 b] w fun e w' => e = .returned (.bool (inN n a b)) ∧ w' = w := by
  unfold inN
  by_cases h1 : a ≤ n
  · have hd : decide (a ≤ n) = true := by simpa using h1
    go_enter Tryz.func147, Tryz.ntmps147
    go_wp2
    go_ret
    exact ⟨ret_bool (by simp; exact fun _ => h1), rfl⟩
  · have hd : decide (a ≤ n) = false := by simpa using h1
    go_enter Tryz.func147, Tryz.ntmps147
    go_wp2
    go_ret
    exact ⟨ret_bool (by simp), rfl⟩
theorem all_take {α : Type} {l : List α} {f : α → Bool} {i : Nat} (hi : i < l.length) (h : (l.take i).all f = true) (hf : f l[i] = true) : (l.take (i + 1)).all f = true := by
  rw [List.take_succ_eq_append_getElem hi, List.all_append, h]; simp [hf]
theorem all_bad {α : Type} {l : List α} {f : α → Bool} {i : Nat} (hi : i < l.length) (hf : f l[i] = false) : l.all f = false := by
  rw [List.all_eq_false]; exact ⟨l[i], List.getElem_mem hi, by simp [hf]⟩
set_option maxHeartbeats 1000000 in
theorem inside_any (a : Option Addr) (c : Nat) (l : List Int) (W : Int) (w : World) (h : IntsAt w a l) (hl : l.length ≤ 17592186044416) (hW : 0 ≤ W ∧ W ≤ 1000) :
    Calls Tryz.prog 247 #[.slice a l.length c, .int .i64 W] w fun e w' => e = .returned (.bool (insideB l W)) ∧ w' = w := by
  have A := hid0 h
  have hw0 : IntKind.i64.wrap (W - 1) = W - 1 := IntWalk.i64_in _ (by omega)
  clear h
  go_enter Tryz.func247, Tryz.ntmps247
  go_wp2
  go_loopw [9] (fun iv wr => ∃ i : Nat, i ≤ l.length ∧ iv = .int .i64 i ∧ Hid ((l.take i).all (fun x => inN x 0 (W - 1)) = true) ∧ wr = w) (fun iv _ => l.length - (intOf iv).toNat)
  case atStart => exact ⟨0, Nat.zero_le _, rfl, hid0 rfl, rfl⟩
  case round =>
    obtain ⟨i, hi, rfl, hO, rfl⟩ := hrel
    by_cases hlt : i < l.length
    · obtain ⟨b, o, rfl, hc⟩ := A.out (by intro e; rw [e] at hlt; exact absurd hlt (by simp))
      have q0 := hc i hlt
      have CW := within_any l[i] 0 (W - 1) wr
      have hbad := hid0 (fun hf => all_bad (f := fun x => inN x 0 (W - 1)) hlt hf)
      have hnext := hid0 (fun hf => all_take hlt hO.out hf)
      generalize l[i] = x at q0 CW hbad hnext
      generalize inN x 0 (W - 1) = rb at CW hbad hnext
      clear hc
      cases rb with
      | true =>
        go_wp2_with (go_at_call 147; go_must (refine CW.mono ?_; rintro e wn ⟨rfl, hw⟩; rw [hw]))
        exact ⟨⟨i + 1, by omega, by go_num, hid0 (hnext.out (by trivial)), trivial⟩, by simp [intOf]; omega⟩
      | false =>
        go_wp2_with (go_at_call 147; go_must (refine CW.mono ?_; rintro e wn ⟨rfl, hw⟩; rw [hw]))
        go_ret
        exact ⟨ret_bool (hbad.out (by trivial)).symm, rfl⟩
    · have hie : ¬ (i : Int) < l.length := by omega
      rw [List.take_of_length_le (by omega)] at hO
      go_wp2
      go_ret
      exact ⟨ret_bool hO.out.symm, rfl⟩
/-- A place that is one exactly if b. -/
def IsAt (r : Int) (b : Bool) : Prop := decide (0 ≤ r) = b
set_option maxHeartbeats 1000000 in
theorem index_int (a : Option Addr) (c : Nat) (l : List Int) (x : Int) (rb : Bool) (hrb : l.contains x = rb) (w : World) (h : IntsAt w a l) (hl : l.length ≤ 17592186044416) :
    Calls Tryz.prog 271 #[.slice a l.length c, .int .i64 x] w fun e w' => (∃ r : Int, e = .returned (.int .i64 r) ∧ IsAt r rb) ∧ w' = w := by
  have A := hid0 h
  have HR := hid0 hrb
  clear h hrb
  go_enter Tryz.func271, Tryz.ntmps271
  go_wp2
  go_loopw [8] (fun iv wr => ∃ i : Nat, i ≤ l.length ∧ iv = .int .i64 i ∧ Hid ((l.take i).all (fun y => y != x) = true) ∧ wr = w) (fun iv _ => l.length - (intOf iv).toNat)
  case atStart => exact ⟨0, Nat.zero_le _, rfl, hid0 rfl, rfl⟩
  case round =>
    obtain ⟨i, hi, rfl, hO, rfl⟩ := hrel
    by_cases hlt : i < l.length
    · obtain ⟨b, o, rfl, hc⟩ := A.out (by intro e; rw [e] at hlt; exact absurd hlt (by simp))
      have q0 := hc i hlt
      have hmem := List.getElem_mem hlt
      have hnext := hid0 (fun hf => all_take hlt hO.out hf)
      generalize l[i] = y at q0 hmem hnext
      have HM := hid0 hmem
      clear hc hmem
      by_cases hy : x = y
      · have hd : decide (x = y) = true := by simpa using hy
        go_wp2
        go_ret
        exact ⟨⟨i, rfl, by rw [← HR.out, hy]; unfold IsAt; simpa using HM.out⟩, rfl⟩
      · have hd : decide (x = y) = false := by simpa using hy
        go_wp2
        exact ⟨⟨i + 1, by omega, by go_num, hid0 (hnext.out (by simpa using Ne.symm hy)), trivial⟩, by simp [intOf]; omega⟩
    · have hie : ¬ (i : Int) < l.length := by omega
      rw [List.take_of_length_le (by omega)] at hO
      go_wp2
      go_ret
      exact ⟨⟨-1, rfl, by
        have := hO.out
        simp only [List.all_eq_true] at this
        have h2 : l.contains x = false := by
          simp only [List.contains_eq_mem]
          simp only [decide_eq_false_iff_not]
          intro hx
          have := this x hx
          simp at this
        rw [← HR.out, h2]; rfl⟩, rfl⟩
theorem contains_int (a : Option Addr) (c : Nat) (l : List Int) (x : Int) (w : World) (h : IntsAt w a l) (hl : l.length ≤ 17592186044416) :
    Calls Tryz.prog 249 #[.slice a l.length c, .int .i64 x] w fun e w' => e = .returned (.bool (l.contains x)) ∧ w' = w := by
  obtain ⟨rb, hrb⟩ : ∃ rb, l.contains x = rb := ⟨_, rfl⟩
  have H := hid0 (index_int a c l x rb hrb w h hl)
  rw [hrb]
  clear h hrb
  go_enter Tryz.func249, Tryz.ntmps249
  go_wp2_with (go_at_call 271; refine H.out.mono ?_; rintro e w1 ⟨⟨r, rfl, HR⟩, hw⟩; rw [hw])
  go_ret
  exact ⟨ret_bool HR, rfl⟩

/-! ### Outs -/
theorem sizeOut : (Tryz.prog.info? 55).map (·.size) = some 9 := by kernel_rfl
theorem aggregates_any (o : Ox) (w : World) : Calls Tryz.prog 132 #[.agg o.cells.toArray] w fun e w' => e = .returned (.bool (o.g != 0)) ∧ Below w.heap.size w w' := by
  have V := VarB.new w o.cells 55
  have q0 : _ = some (Value.int .i64 o.g) := V.cell 0 rfl
  have hB0 : Below w.heap.size w (w.alloc (.cells o.cells.toArray 55)) := (Below.refl _ _).alloc (Nat.le_refl _) _
  clear V
  generalize o.cells = us at *
  generalize o.g = g at *
  by_cases hg : g = 0
  · have hd : decide (g = 0) = true := by simpa using hg
    go_enter Tryz.func132, Tryz.ntmps132
    go_wp2
    go_ret
    exact ⟨ret_bool (by simp [hg]), hB0⟩
  · have hd : decide (g = 0) = false := by simpa using hg
    go_enter Tryz.func132, Tryz.ntmps132
    go_wp2
    go_ret
    exact ⟨ret_bool (by simp), hB0⟩
/-- A list of outs, as it lies. -/
structure OutsAt (w : World) (a : Option Addr) (l : List Ox) : Prop where
  row : RowC w 9 a (l.map Ox.cells)
theorem OutsAt.later {w w' : World} {a : Option Addr} {l : List Ox} (h : OutsAt w a l) (hb : Below w.heap.size w w') : OutsAt w' a l := ⟨h.row.later hb⟩
theorem OutsAt.at_ {w : World} {a : Option Addr} {l : List Ox} (h : OutsAt w a l) (i : Nat) (hi : i < l.length) : ∃ b o, a = some ⟨b, o, none⟩ ∧ b < w.heap.size ∧ w.rangeAt b (o + i * 9) (l[i]).cells := by
  obtain ⟨b, o, e, hlt, hR⟩ := h.row.out i (by simpa using hi)
  exact ⟨b, o, e, hlt, by simpa using hR⟩
set_option maxRecDepth 100000 in
set_option maxHeartbeats 1000000 in
theorem indexFunc_out (a : Option Addr) (c : Nat) (l : List Ox) (rb : Bool) (hrb : l.any (fun o => o.g != 0) = rb) (w : World) (h : OutsAt w a l) (hl : l.length ≤ 1099511627776) :
    Calls Tryz.prog 189 #[.slice a l.length c, .func (.func 132) #[] #[]] w fun e w' => (∃ r : Int, e = .returned (.int .i64 r) ∧ IsAt r rb) ∧ Below w.heap.size w w' := by
  have A := hid0 h
  have HR := hid0 hrb
  clear h hrb
  go_enter Tryz.func189, Tryz.ntmps189
  go_wp2
  go_loopw [8] (fun iv wr => ∃ i : Nat, i ≤ l.length ∧ iv = .int .i64 i ∧ Hid ((l.take i).all (fun o => !(o.g != 0)) = true) ∧ Below w.heap.size w wr) (fun iv _ => l.length - (intOf iv).toNat)
  case atStart => exact ⟨0, Nat.zero_le _, rfl, hid0 rfl, Below.refl _ _⟩
  case round =>
    obtain ⟨i, hi, rfl, hO, hB⟩ := hrel
    have hsz := hB.size
    by_cases hlt : i < l.length
    · obtain ⟨b, o, rfl, hb, hR⟩ := (A.out.later hB).at_ i hlt
      have hmem := List.getElem_mem hlt
      have hnext := hid0 (fun hf => all_take hlt hO.out hf)
      generalize l[i] = x at hR hmem hnext
      have CW := aggregates_any x wr
      have hcl := x.cells_len
      have HM := hid0 (fun hx : (x.g != 0) = true => (List.any_eq_true.2 ⟨x, hmem, hx⟩ : l.any (fun o => o.g != 0) = true))
      clear hmem
      generalize x.cells = us at hR CW hcl
      generalize (x.g != 0) = ra at CW hnext HM
      cases ra with
      | true =>
        go_wp2_with (first | ((with_reducible refine wp_getB hR Tryz.underlying55 ?_ ?_ ?_ ?_); (rfl); (rw [hcl]; exact sizeOut); (rfl); simp only [Act.put]) | (go_at_call 132; go_must (refine CW.mono ?_; rintro e wn ⟨rfl, hbn⟩)) | fail)
        go_ret
        exact ⟨⟨i, rfl, by rw [← HR.out, HM.out (by trivial)]; unfold IsAt; simp⟩, below_through hbn hsz hB⟩
      | false =>
        go_wp2_with (first | ((with_reducible refine wp_getB hR Tryz.underlying55 ?_ ?_ ?_ ?_); (rfl); (rw [hcl]; exact sizeOut); (rfl); simp only [Act.put]) | (go_at_call 132; go_must (refine CW.mono ?_; rintro e wn ⟨rfl, hbn⟩)) | fail)
        exact ⟨⟨i + 1, by omega, by go_num, hid0 (hnext.out (by trivial)), below_through hbn hsz hB⟩, by simp [intOf]; omega⟩
    · have hie : ¬ (i : Int) < l.length := by omega
      rw [List.take_of_length_le (by omega)] at hO
      go_wp2
      go_ret
      exact ⟨⟨-1, rfl, by
        have := hO.out
        have h2 : l.any (fun o => o.g != 0) = false := by
          rw [List.any_eq_false]
          intro x hx
          simpa using List.all_eq_true.1 this x hx
        rw [← HR.out, h2]; rfl⟩, hB⟩
theorem containsFunc_out (a : Option Addr) (c : Nat) (l : List Ox) (w : World) (h : OutsAt w a l) (hl : l.length ≤ 1099511627776) :
    Calls Tryz.prog 131 #[.slice a l.length c, .func (.func 132) #[] #[]] w fun e w' => e = .returned (.bool (l.any (fun o => o.g != 0))) ∧ Below w.heap.size w w' := by
  obtain ⟨rb, hrb⟩ : ∃ rb, l.any (fun o => o.g != 0) = rb := ⟨_, rfl⟩
  have H := hid0 (indexFunc_out a c l rb hrb w h hl)
  rw [hrb]
  clear h hrb
  go_enter Tryz.func131, Tryz.ntmps131
  go_wp2_with (go_at_call 189; refine H.out.mono ?_; rintro e w1 ⟨⟨r, rfl, HR⟩, hb⟩)
  go_ret
  exact ⟨ret_bool HR, hb⟩
theorem PxOk.outs {w : World} {n : Nat} {p : Px} (h : PxOk w n p) : OutsAt w p.op p.os := ⟨h.os⟩
theorem Px.c0 (p : Px) : p.cells[0]? = some (.bool p.d) := rfl
theorem Px.c1 (p : Px) : p.cells[1]? = some (.slice p.fp p.fs.length p.fc) := rfl
theorem Px.c2 (p : Px) : p.cells[2]? = some (.slice p.wp p.ws.length p.wc) := rfl
theorem Px.c18 (p : Px) : p.cells[18]? = some (.slice p.gp p.gs.length p.gc) := by
  obtain ⟨d, fp, fc, fs, wp, wc, ws, ⟨k, op, ⟨kl, al, vl, pl, cl, yl⟩, ⟨kr, ar, vr, pr, cr, yr⟩, p, c, ys⟩, gp, gc, gs, op', oc, os⟩ := p
  rfl
theorem Px.c19 (p : Px) : p.cells[19]? = some (.slice p.op p.os.length p.oc) := by
  obtain ⟨d, fp, fc, fs, wp, wc, ws, ⟨k, op, ⟨kl, al, vl, pl, cl, yl⟩, ⟨kr, ar, vr, pr, cr, yr⟩, p, c, ys⟩, gp, gc, gs, op', oc, os⟩ := p
  rfl
end Go.Proofs.YtfdkajefcplfjaaGreat

/- Whether a part tells of groups; how many columns its rows have. Conditions: the part's lists are known. -/
namespace Go.Proofs.YtfdkajefcplfjaaGreat
open Go.RowKit

theorem part_box (p : Px) (w : World) : VarB (w.alloc (.cells p.cells.toArray 50)) w.heap.size p.cells ∧ Below w.heap.size w (w.alloc (.cells p.cells.toArray 50)) :=
  ⟨VarB.new w p.cells _, (Below.refl _ _).alloc (Nat.le_refl _) _⟩
theorem part_below (us : List Value) (w : World) : Below w.heap.size w (w.alloc (.cells us.toArray 50)) := (Below.refl _ _).alloc (Nat.le_refl _) _
set_option maxRecDepth 100000 in
set_option maxHeartbeats 2000000 in
theorem grouped_any {n : Nat} (p : Px) (w : World) (h : PxOk w n p) :
    Calls Tryz.prog 93 #[p.val] w fun e w' => e = .returned (.bool (groupedB p)) ∧ Below w.heap.size w w' := by
  obtain ⟨V, hB0⟩ := part_box p w
  have q18 := V.cell 18 p.c18
  have q19 := V.cell 19 p.c19
  have C := hid0 (containsFunc_out p.op p.oc p.os _ (h.outs.later hB0) h.fewO)
  clear h V
  unfold groupedB Px.val
  generalize p.cells = us at *
  generalize p.gs.length = k at *
  generalize p.gp = gp at *
  generalize p.gc = gc at *
  generalize p.op = op at *
  generalize p.oc = oc at *
  generalize p.os.any (fun o => o.g != 0) = rb at *
  generalize p.os.length = m at *
  by_cases hk : 0 < k
  · have hk' : (0 : Int) < k := by omega
    go_enter Tryz.func93, Tryz.ntmps93
    go_wp2
    go_ret
    exact ⟨ret_bool (by simp [hk]), hB0⟩
  · have hk' : ¬ (0 : Int) < k := by omega
    go_enter Tryz.func93, Tryz.ntmps93
    go_wp2_with (go_at_call 131; refine C.out.mono ?_; rintro e w1 ⟨rfl, hb⟩)
    go_ret
    exact ⟨ret_bool (by simp [hk]), below_through hb hB0.size hB0⟩

theorem sumW_snoc (l : List Int) (x : Int) : sumW (l ++ [x]) = sumW l + x := by unfold sumW; rw [List.foldl_append]; rfl
theorem sumW_in : ∀ (l : List Int) (m : Int), (∀ x ∈ l, 1 ≤ x ∧ x ≤ 8) → m ≤ l.foldl (· + ·) m ∧ l.foldl (· + ·) m ≤ m + 8 * (l.length : Int)
  | [], m, _ => by simp
  | x :: l, m, h => by
    have h1 := sumW_in l (m + x) (fun y hy => h y (List.mem_cons_of_mem _ hy))
    have h2 := h x List.mem_cons_self
    simp only [List.foldl_cons, List.length_cons]
    omega
theorem sumW_le {l : List Int} (h : (l.all fun x => inN x 1 8) = true) : 0 ≤ sumW l ∧ sumW l ≤ 8 * (l.length : Int) := by
  have := sumW_in l 0 (fun x hx => by have := List.all_eq_true.1 h x hx; unfold inN at this; simpa using this)
  unfold sumW; omega
def acrossV (p : Px) : Int := if acrossB p = true then sumW p.ws else 0
theorem across_no {p : Px} (h : acrossB p = false) : (Ending.returned (.tuple #[.int .i64 0, .bool false])) = Ending.returned (.tuple #[.int .i64 (acrossV p), .bool (acrossB p)]) := by
  unfold acrossV; rw [h]; rfl
theorem across_yes {p : Px} (h : acrossB p = true) {x : Int} (hx : x = sumW p.ws) : (Ending.returned (.tuple #[.int .i64 x, .bool true])) = Ending.returned (.tuple #[.int .i64 (acrossV p), .bool (acrossB p)]) := by
  unfold acrossV; rw [h, hx]; rfl
theorem inN_in {x a b : Int} (h : inN x a b = true) : a ≤ x ∧ x ≤ b := by unfold inN at h; simpa using h
set_option maxRecDepth 100000 in
set_option maxHeartbeats 2000000 in
theorem across_any {n : Nat} (p : Px) (w : World) (h : PxOk w n p) :
    Calls Tryz.prog 211 #[p.val] w fun e w' => e = .returned (.tuple #[.int .i64 (acrossV p), .bool (acrossB p)]) ∧ Below w.heap.size w w' := by
  obtain ⟨V, hB0⟩ := part_box p w
  have q1 := V.cell 1 p.c1
  have q2 := V.cell 2 p.c2
  have hA := hid0 (h.ws.later hB0)
  have hfew := h.ws.few
  have hfewF := h.fewF
  have CF := hid0 (fun W => within_any p.fs.length 1 3 W)
  have hno := hid0 (across_no (p := p))
  have hyes := hid0 (across_yes (p := p))
  have hAB := hid0 (show acrossB p = (inN p.fs.length 1 3 && decide (p.ws.length = p.fs.length) && p.ws.all (fun x => inN x 1 8)) from rfl)
  have hsum := fun h => sumW_le (l := p.ws) h
  clear h V
  unfold Px.val
  generalize Ending.returned (.tuple #[.int .i64 (acrossV p), .bool (acrossB p)]) = R at hno hyes ⊢
  generalize acrossB p = ab at hno hyes hAB
  generalize p.cells = us at *
  generalize p.fs.length = k at *
  generalize p.ws = ws at *
  generalize p.fp = fp at *
  generalize p.fc = fc at *
  generalize p.wp = wp at *
  generalize p.wc = wc at *
  have hin : inN k 1 3 = true → k ≤ 3 := fun h => by have := inN_in h; omega
  generalize inN k 1 3 = rf at *
  obtain ⟨m, hm⟩ : ∃ m, ws.length = m := ⟨_, rfl⟩
  have HM := hid0 hm
  rw [hm] at q2 hfew hsum
  clear hm
  have HS := hid0 hsum
  clear hsum
  cases rf with
  | false =>
    go_enter Tryz.func211, Tryz.ntmps211
    go_wp2_with (go_at_call 147; refine (CF.out _).mono ?_; rintro e w1 ⟨rfl, hw⟩; rw [hw])
    go_ret2
    exact ⟨hno.out (by rw [hAB.out]; simp), hB0⟩
  | true =>
    have hin := hin rfl
    by_cases hk : m = k
    · subst hk
      have hw8 : ∀ i : Nat, i ≤ m → (ws.take i).all (fun x => inN x 1 8) = true → 0 ≤ sumW (ws.take i) ∧ sumW (ws.take i) ≤ 24 := fun i hi h => by
        have := sumW_le h
        rw [List.length_take, HM.out] at this
        omega
      have HW := hid0 hw8
      clear hw8
      go_enter Tryz.func211, Tryz.ntmps211
      go_wp2_with (go_at_call 147; refine (CF.out _).mono ?_; rintro e w1 ⟨rfl, hw⟩; rw [hw])
      go_loopw [4, 24] (fun nv iv wr => ∃ i : Nat, i ≤ m ∧ iv = .int .i64 i ∧ nv = .int .i64 (sumW (ws.take i)) ∧ Hid ((ws.take i).all (fun x => inN x 1 8) = true) ∧ Hid (wr = w.alloc (.cells us.toArray 50))) (fun _ iv _ => m - (intOf iv).toNat)
      case atStart => exact ⟨0, Nat.zero_le _, rfl, rfl, hid0 rfl, hid0 rfl⟩
      case round =>
        obtain ⟨i, hi, rfl, rfl, hO, hwr⟩ := hrel
        by_cases hlt : i < m
        · have hlt1 : i < ws.length := by rw [HM.out]; exact hlt
          obtain ⟨b, o, rfl, hc⟩ := hA.out.at_ (by intro e; rw [e] at hlt1; exact absurd hlt1 (by simp))
          have q0 := hc i hlt1
          rw [← hwr.out] at q0
          obtain ⟨s1, s2⟩ := HW.out i hi hO.out
          have CW := within_any ws[i] 1 8 wr
          have hbad := hid0 (fun hf => all_bad (f := fun x => inN x 1 8) hlt1 hf)
          have hnext := hid0 (fun hf => all_take hlt1 hO.out hf)
          have hst := hid0 (show sumW (ws.take (i + 1)) = sumW (ws.take i) + ws[i] by rw [List.take_succ_eq_append_getElem hlt1, sumW_snoc])
          have hx8 : inN ws[i] 1 8 = true → 1 ≤ ws[i] ∧ ws[i] ≤ 8 := inN_in
          generalize ws[i] = x at q0 CW hbad hnext hst hx8
          generalize sumW (ws.take i) = S at s1 s2 hst ⊢
          generalize inN x 1 8 = rb at CW hbad hnext hx8
          clear hc q1 q2 hB0
          cases rb with
          | true =>
            obtain ⟨x1, x2⟩ := hx8 rfl
            go_wp2_with (go_at_call 147; go_must (refine CW.mono ?_; rintro e wn ⟨rfl, hw⟩; rw [hw]))
            exact ⟨⟨i + 1, by omega, by go_num, by rw [hst.out], hid0 (hnext.out (by trivial)), hwr⟩, by simp [intOf]; omega⟩
          | false =>
            clear hx8
            go_wp2_with (go_at_call 147; go_must (refine CW.mono ?_; rintro e wn ⟨rfl, hw⟩; rw [hw]))
            go_ret2
            exact ⟨hno.out (by rw [hAB.out, hbad.out (by trivial)]; simp), by rw [hwr.out]; exact part_below us w⟩
        · have hie : ¬ (i : Int) < m := by omega
          rw [List.take_of_length_le (by rw [HM.out]; omega)] at hO ⊢
          clear q1 q2 hB0
          go_wp2
          go_ret2
          exact ⟨hyes.out (by rw [hAB.out, hO.out, HM.out]; simp) rfl, by rw [hwr.out]; exact part_below us w⟩
    · have hne : ¬ (m : Int) = (k : Int) := by omega
      have HK := hid0 hk
      clear hin
      go_enter Tryz.func211, Tryz.ntmps211
      go_wp2_with (go_at_call 147; refine (CF.out _).mono ?_; rintro e w1 ⟨rfl, hw⟩; rw [hw])
      go_ret2
      exact ⟨hno.out (by rw [hAB.out, HM.out]; simp [HK.out]), hB0⟩
end Go.Proofs.YtfdkajefcplfjaaGreat

/- Cost: the contract of the call, in whatever memory. Conditions: the plan's and the names' cells are known. -/
namespace Go.Proofs.YtfdkajefcplfjaaGreat
open Go.RowKit

structure SPlan (w0 : World) (vb : Nat) (us : List Value) (w : World) : Prop where
  v : VarB w vb us
  b : Below w0.heap.size w0 w
theorem SPlan.below {w0 : World} {vb : Nat} {us : List Value} {w w' : World} (h : SPlan w0 vb us w) (hb : Below w.heap.size w w') : SPlan w0 vb us w' := ⟨h.v.below hb, below_through hb h.b.size h.b⟩
theorem sizePlan : (Tryz.prog.info? 24).map (·.size) = some 1 := by kernel_rfl
set_option maxRecDepth 100000 in
set_option maxHeartbeats 4000000 in
theorem planCost_any {n : Nat} (a : Option Addr) (c : Nat) (ps : List Px) (a2 : Option Addr) (c2 : Nat) (l : List Nx) (w : World) (hP : PsOk w n a c ps) (hL : NsOk w a2 l) :
    Calls Tryz.prog 43 #[planV a ps.length c, .slice a2 l.length c2] w fun e w' => e = .returned (.int .i64 (costP l ps)) ∧ Below w.heap.size w w' := by
  have hS := (⟨VarB.new w [.slice a ps.length c] 24, (Below.refl _ _).alloc (Nat.le_refl _) _⟩ : SPlan w w.heap.size [.slice a ps.length c] _).below (Below.drew (Below.refl _ _))
  unfold planV
  go_enter Tryz.func43, Tryz.ntmps43
  go_wp2_with fail
  refine wp_region_held_drew (S := SPlan w w.heap.size [.slice a ps.length c]) (by kernel_rfl) hS (fun hHeld => ?_)
  refine wpAnyH_take (i := 0) (v := ?_) rfl (by kernel_rfl) (by kernel_rfl) (by kernel_rfl) (fun _ _ _ h => h) (Or.inl ⟨by rfl, ?_⟩) (by assumption) ?_
  rotate_left
  · (intro wx hSw; go_simp; (try with_reducible rfl); (try omega))
  (try simp only [Act.put, List.setIfInBounds_toArray, List.set_cons_zero, List.set_cons_succ, List.getElem_toArray, List.getElem_cons_zero])
  refine wpAnyH_take (i := 2) (v := .agg [.slice a ps.length c].toArray) rfl (by kernel_rfl) (by kernel_rfl) (by kernel_rfl) (fun _ _ _ h => h) (yieldsIf_load_mid rfl 24 _ rfl w.heap.size (0) rfl [.slice a ps.length c] _ (fun w h => h.v.at_) Tryz.underlying24 rfl (sizePlan)) (by assumption) ?_
  (try simp only [Act.put, List.setIfInBounds_toArray, List.set_cons_zero, List.set_cons_succ, List.getElem_toArray, List.getElem_cons_zero, List.getElem_cons_succ])
  refine wpAnyH_ready (rs := [1]) (by kernel_rfl) (by simp) ?_
  refine AllReadyH.cons rfl (fun K hK => ?_) AllReadyH.nil
  go_simp
  refine (there_any _ _ _ _ (hL.later hS.b)).mono ?_
  rintro e W3 ⟨⟨b, rfl, hT⟩, hb⟩
  have hS := hS.below hb
  clear hb
  refine hK.out _ _ hS (fun hHeld => ?_)
  clear hK K
  (try simp only [Act.put, List.setIfInBounds_toArray, List.set_cons_zero, List.set_cons_succ, List.getElem_toArray, List.getElem_cons_zero, List.getElem_cons_succ])
  refine wpAnyH_ready (rs := [3]) (by kernel_rfl) (by simp) ?_
  refine AllReadyH.cons rfl (fun K hK => ?_) AllReadyH.nil
  go_simp
  refine (cost_any _ _ _ _ _ _ hT (hP.later hS.b)).mono ?_
  rintro e W4 ⟨rfl, hb⟩
  have hS := hS.below hb
  clear hb
  refine hK.out _ _ hS (fun hHeld => ?_)
  clear hK K
  (try simp only [Act.put, List.setIfInBounds_toArray, List.set_cons_zero, List.set_cons_succ, List.getElem_toArray, List.getElem_cons_zero, List.getElem_cons_succ])
  refine wpAnyH_take (i := 4) (v := ?_) rfl (by kernel_rfl) (by kernel_rfl) (by kernel_rfl) (fun _ _ _ h => h) (Or.inl ⟨by rfl, ?_⟩) (by assumption) ?_
  rotate_left
  · (intro wx hSw; go_simp; (try with_reducible rfl); (try omega))
  (try simp only [Act.put, List.setIfInBounds_toArray, List.set_cons_zero, List.set_cons_succ, List.getElem_toArray, List.getElem_cons_zero, List.getElem_cons_succ])
  refine wpAnyH_done (by kernel_rfl) ?_ _
  have hb := hS.b
  clear hS hHeld
  go_wp2_with fail
  go_ret
  exact ⟨rfl, hb⟩
end Go.Proofs.YtfdkajefcplfjaaGreat

/- Whether each out without an aggregate is the same in all of a group. Conditions: the part's lists are known. -/
namespace Go.Proofs.YtfdkajefcplfjaaGreat
open Go.RowKit

theorem SPlan.var {w0 : World} {vb : Nat} {us : List Value} {w : World} (h : SPlan w0 vb us w) (o : Obj) (vs : List Value) : SPlan w0 vb us ((w.alloc o).setCells w.heap.size 0 vs) :=
  ⟨(h.v.alloc o).other vs (by have := h.v.lt; omega), below_setCells vs 0 (h.b.alloc h.b.size o) h.b.size⟩
/-- What is told that was nothing yet. -/
def zOx : List Value := [.int .i64 0, .int .i64 0, .int .i64 0, .int .i64 0, .int .i64 0, .string ⟨#[]⟩, .slice none 0 0, .string ⟨#[]⟩, .int .i64 0]
theorem Ox.c1 (o : Ox) : o.cells[1]? = some (.int .i64 o.e.kind) := by
  obtain ⟨g, ⟨k, a, v, p, c, ys⟩, nm, ty⟩ := o
  rfl
theorem Ox.c2 (o : Ox) : o.cells[2]? = some (.int .i64 o.e.at) := by
  obtain ⟨g, ⟨k, a, v, p, c, ys⟩, nm, ty⟩ := o
  rfl
def setO (p : Px) (o : Ox) : Bool := o.g != 0 || (decide (o.e.kind = 1) && p.gs.contains o.e.at)
theorem settled_all (p : Px) : settledB p = p.os.all (setO p) := rfl
set_option maxRecDepth 100000 in
set_option maxHeartbeats 4000000 in
theorem settled_any {n : Nat} (p : Px) (w : World) (h : PxOk w n p) :
    Calls Tryz.prog 213 #[p.val] w fun e w' => e = .returned (.bool (settledB p)) ∧ Below w.heap.size w w' := by
  obtain ⟨V, hB0⟩ := part_box p w
  have q19 := V.cell 19 p.c19
  have hS0 : SPlan w w.heap.size p.cells _ := ⟨V, hB0⟩
  have HO := hid0 h.outs
  have HG := hid0 h.gs
  have hfew := h.fewO
  have H18 := hid0 p.c18
  rw [settled_all]
  have hcon : ∀ o : Ox, setO p o = (o.g != 0 || (decide (o.e.kind = 1) && p.gs.contains o.e.at)) := fun _ => rfl
  generalize setO p = f at hcon ⊢
  have HC := hid0 hcon
  clear h V hcon
  unfold Px.val
  generalize p.cells = us at *
  generalize p.gs = gs at *
  generalize p.gp = gp at *
  generalize p.gc = gc at *
  generalize p.os = os at *
  generalize p.op = op at *
  generalize p.oc = oc at *
  obtain ⟨m, hm⟩ : ∃ m, os.length = m := ⟨_, rfl⟩
  obtain ⟨R, hr⟩ : ∃ R, os.all f = R := ⟨_, rfl⟩
  have HM := hid0 hm
  have HR := hid0 hr
  rw [hm] at q19 hfew
  rw [hr]
  clear hm hr
  obtain ⟨mg, hmg⟩ : ∃ mg, gs.length = mg := ⟨_, rfl⟩
  have HMG := hid0 hmg
  rw [hmg] at H18
  clear hmg
  go_enter Tryz.func213, Tryz.ntmps213
  go_wp2
  clear q19
  go_loopw [8] (fun iv wr => ∃ i : Nat, i ≤ m ∧ iv = .int .i64 i ∧ Hid ((os.take i).all f = true) ∧ SPlan w w.heap.size us wr) (fun iv _ => m - (intOf iv).toNat)
  case atStart => exact ⟨0, Nat.zero_le _, rfl, hid0 rfl, hS0⟩
  case round =>
    obtain ⟨i, hi, rfl, hO, hS⟩ := hrel
    clear hS0 hB0
    have hsz := hS.b.size
    have hvl := hS.v.lt
    by_cases hlt : i < m
    · have hlt1 : i < os.length := by rw [HM.out]; exact hlt
      obtain ⟨b, o, rfl, hb, hR⟩ := (HO.out.later hS.b).at_ i hlt1
      have hbad := hid0 (fun hf => all_bad (f := f) hlt1 hf)
      have hnext := hid0 (fun hf => all_take hlt1 hO.out hf)
      have hfx := HC.out os[i]
      generalize os[i] = x at hR hbad hnext hfx
      have CA := hid0 (fun W => aggregates_any x W)
      have CC : Hid (∀ W, Below w.heap.size w W → Calls Tryz.prog 249 #[.slice gp mg gc, .int .i64 x.e.at] W fun e w' => e = .returned (.bool (gs.contains x.e.at)) ∧ w' = W) :=
        hid0 (fun W hW => by have := contains_int gp gc gs x.e.at W (HG.out.at_.later hW) HG.out.few; rw [HMG.out] at this; exact this)
      have hcl := x.cells_len
      have h1' := x.one
      have H1 := hid0 x.c1
      have H2 := hid0 x.c2
      have V0 : VarB (wr.alloc (Obj.cells #[.int .i64 0, .int .i64 0, .int .i64 0, .int .i64 0, .int .i64 0, .string ⟨#[]⟩, .slice none 0 0, .string ⟨#[]⟩, .int .i64 0] 55)) wr.heap.size zOx := VarB.new wr zOx 55
      generalize x.cells = xs at hR hcl h1' H1 H2 CA
      generalize gs.contains x.e.at = rc at CC hfx
      generalize x.e.at = at_ at CC H2
      generalize x.e.kind = kd at H1 hfx
      generalize (x.g != 0) = ga at CA hfx
      generalize f x = fx at hfx hbad hnext
      have HFX := hid0 hfx
      clear hfx
      cases ga with
      | true =>
        go_wp2_with (first | ((with_reducible refine wp_getB hR Tryz.underlying55 ?_ ?_ ?_ ?_); (rfl); (rw [hcl]; exact sizeOut); (rfl); simp only [Act.put]) | ((with_reducible refine wp_putB V0 h1' ?_ ?_ ?_ ?_ ?_); (exact hcl); (exact sizeOut); (rfl); (rfl); intro w5 hV5 hw5; (have hS5 := hS.var (.cells #[.int .i64 0, .int .i64 0, .int .i64 0, .int .i64 0, .int .i64 0, .string ⟨#[]⟩, .slice none 0 0, .string ⟨#[]⟩, .int .i64 0] 55) xs); (rw [← hw5.out] at hS5); clear hw5; simp only [Act.put]) | ((with_reducible refine wp_getB hV5.at_ Tryz.underlying55 ?_ ?_ ?_ ?_); (rfl); (rw [hcl]; exact sizeOut); (rfl); simp only [Act.put]) | (go_at_call 132; refine (CA.out _).mono ?_; rintro e w6 ⟨rfl, hb6⟩; (have hV6 := hV5.below hb6); (have hS6 := hS5.below hb6); clear hV5 hS5 hb6; (have r1 := hV6.cell 1 H1.out); (have r2 := hV6.cell 2 H2.out); (have r18 := hS6.v.cell 18 H18.out); (have hS6b := hS6.b)) | fail)
        exact ⟨⟨i + 1, by omega, by go_num, hid0 (hnext.out (by rw [HFX.out]; rfl)), hS6⟩, by simp [intOf]; omega⟩
      | false =>
        by_cases hkd : kd = 1
        · subst hkd
          cases rc with
          | true =>
            go_wp2_with (first | ((with_reducible refine wp_getB hR Tryz.underlying55 ?_ ?_ ?_ ?_); (rfl); (rw [hcl]; exact sizeOut); (rfl); simp only [Act.put]) | ((with_reducible refine wp_putB V0 h1' ?_ ?_ ?_ ?_ ?_); (exact hcl); (exact sizeOut); (rfl); (rfl); intro w5 hV5 hw5; (have hS5 := hS.var (.cells #[.int .i64 0, .int .i64 0, .int .i64 0, .int .i64 0, .int .i64 0, .string ⟨#[]⟩, .slice none 0 0, .string ⟨#[]⟩, .int .i64 0] 55) xs); (rw [← hw5.out] at hS5); clear hw5; simp only [Act.put]) | ((with_reducible refine wp_getB hV5.at_ Tryz.underlying55 ?_ ?_ ?_ ?_); (rfl); (rw [hcl]; exact sizeOut); (rfl); simp only [Act.put]) | (go_at_call 132; refine (CA.out _).mono ?_; rintro e w6 ⟨rfl, hb6⟩; (have hV6 := hV5.below hb6); (have hS6 := hS5.below hb6); clear hV5 hS5 hb6; (have r1 := hV6.cell 1 H1.out); (have r2 := hV6.cell 2 H2.out); (have r18 := hS6.v.cell 18 H18.out); (have hS6b := hS6.b)) | (go_at_call 249; go_must (refine (CC.out _ hS6.b).mono ?_; rintro e w7 ⟨rfl, hw⟩; rw [hw])) | fail)
            exact ⟨⟨i + 1, by omega, by go_num, hid0 (hnext.out (by rw [HFX.out]; rfl)), hS6⟩, by simp [intOf]; omega⟩
          | false =>
            go_wp2_with (first | ((with_reducible refine wp_getB hR Tryz.underlying55 ?_ ?_ ?_ ?_); (rfl); (rw [hcl]; exact sizeOut); (rfl); simp only [Act.put]) | ((with_reducible refine wp_putB V0 h1' ?_ ?_ ?_ ?_ ?_); (exact hcl); (exact sizeOut); (rfl); (rfl); intro w5 hV5 hw5; (have hS5 := hS.var (.cells #[.int .i64 0, .int .i64 0, .int .i64 0, .int .i64 0, .int .i64 0, .string ⟨#[]⟩, .slice none 0 0, .string ⟨#[]⟩, .int .i64 0] 55) xs); (rw [← hw5.out] at hS5); clear hw5; simp only [Act.put]) | ((with_reducible refine wp_getB hV5.at_ Tryz.underlying55 ?_ ?_ ?_ ?_); (rfl); (rw [hcl]; exact sizeOut); (rfl); simp only [Act.put]) | (go_at_call 132; refine (CA.out _).mono ?_; rintro e w6 ⟨rfl, hb6⟩; (have hV6 := hV5.below hb6); (have hS6 := hS5.below hb6); clear hV5 hS5 hb6; (have r1 := hV6.cell 1 H1.out); (have r2 := hV6.cell 2 H2.out); (have r18 := hS6.v.cell 18 H18.out); (have hS6b := hS6.b)) | (go_at_call 249; go_must (refine (CC.out _ hS6.b).mono ?_; rintro e w7 ⟨rfl, hw⟩; rw [hw])) | fail)
            go_ret
            exact ⟨ret_bool (by rw [← HR.out, hbad.out (by rw [HFX.out]; rfl)]), hS6.b⟩
        · have hne : ¬ kd = 1 := hkd
          have HN := hid0 hkd
          go_wp2_with (first | ((with_reducible refine wp_getB hR Tryz.underlying55 ?_ ?_ ?_ ?_); (rfl); (rw [hcl]; exact sizeOut); (rfl); simp only [Act.put]) | ((with_reducible refine wp_putB V0 h1' ?_ ?_ ?_ ?_ ?_); (exact hcl); (exact sizeOut); (rfl); (rfl); intro w5 hV5 hw5; (have hS5 := hS.var (.cells #[.int .i64 0, .int .i64 0, .int .i64 0, .int .i64 0, .int .i64 0, .string ⟨#[]⟩, .slice none 0 0, .string ⟨#[]⟩, .int .i64 0] 55) xs); (rw [← hw5.out] at hS5); clear hw5; simp only [Act.put]) | ((with_reducible refine wp_getB hV5.at_ Tryz.underlying55 ?_ ?_ ?_ ?_); (rfl); (rw [hcl]; exact sizeOut); (rfl); simp only [Act.put]) | (go_at_call 132; refine (CA.out _).mono ?_; rintro e w6 ⟨rfl, hb6⟩; (have hV6 := hV5.below hb6); (have hS6 := hS5.below hb6); clear hV5 hS5 hb6; (have r1 := hV6.cell 1 H1.out); (have r2 := hV6.cell 2 H2.out); (have r18 := hS6.v.cell 18 H18.out); (have hS6b := hS6.b)) | fail)
          go_ret
          exact ⟨ret_bool (by rw [← HR.out, hbad.out (by rw [HFX.out]; simp [HN.out])]), hS6.b⟩
    · have hie : ¬ (i : Int) < m := by omega
      rw [List.take_of_length_le (by rw [HM.out]; omega)] at hO
      go_wp2
      go_ret
      exact ⟨ret_bool (by rw [← HR.out, hO.out]), hS.b⟩
end Go.Proofs.YtfdkajefcplfjaaGreat
