/- Several of my texts laid together, each as it was: Qc, Qd, Qe, Qf, Qg, Qh. Conditions: each names its own. -/
import Derived.Test.YtneebnankghhgaaGA
import Derived.OwnWalk
import Derived.Deep.RegionHeld3
/- Pages in memory: their slots' cells are known; the reference of layer 5: how full, whether it may be, where a row would stand, whether one fits: contracts of the calls, in whatever memory. Conditions: the slots' cells are known. -/
namespace Go.Proofs.Ytneebnankghhgaa
open Go.RowKit

/-- The cells of a page's slots. -/
def SlotsAt (w : World) (a : Option Addr) (p : Pg) : Prop :=
  p ≠ [] → ∃ b off, a = some ⟨b, off, none⟩ ∧ ∀ i (h : i < p.length), w.cell? ⟨b, off + i * 2, none⟩ = some (.bool (p[i]).1) ∧ w.cell? ⟨b, off + i * 2 + 1, none⟩ = some (.string (txt (p[i]).2))
theorem SlotsAt.later {w w' : World} {a : Option Addr} {p : Pg} (h : SlotsAt w a p) (hb : Below w.heap.size w w') : SlotsAt w' a p := fun hn => by
  obtain ⟨b, off, e, hc⟩ := h hn
  exact ⟨b, off, e, fun i hi => ⟨cell_later hb (hc i hi).1, cell_later hb (hc i hi).2⟩⟩
/-- Each slot's bytes are a string's. -/
def slotsIn (p : Pg) : Prop := ∀ s ∈ p, s.2.length ≤ maxLen
/-- An int, wrapped round. -/
def sizeW (p : Pg) : Int := IntKind.i64.wrap (sizeP p : Int)
theorem sizeP_take {p : Pg} {i : Nat} (h : i < p.length) : sizeP (p.take (i + 1)) = sizeP (p.take i) + 4 + (p[i]).2.length := by
  rw [List.take_succ_eq_append_getElem h]
  have := sizeP_append (p.take i) [p[i]]
  simp only [sizeP] at this; omega

def okS (s : Slot) : Bool := (s.1 || s.2.isEmpty) && decide (s.2.length ≤ 1024)
theorem rightB_all (p : Pg) : rightB p = (decide (p.length ≤ 256) && p.all okS && decide (sizeP p ≤ 1024) && lastUsed p) := rfl
theorem rightB_bad {p : Pg} {i : Nat} (h : i < p.length) (hb : okS p[i] = false) : rightB p = false := by
  have e : p.all okS = false := by
    rw [List.all_eq_false]
    exact ⟨p[i], List.getElem_mem h, by simp [hb]⟩
  rw [rightB_all, e]; simp
theorem all_next {p : Pg} {i : Nat} (h : (p.take i).all okS = true) (hi : i < p.length) (hb : okS p[i] = true) : (p.take (i + 1)).all okS = true := by
  rw [List.take_succ_eq_append_getElem hi, List.all_append, h]; simp [hb]
theorem all_size : ∀ {p : Pg}, p.all okS = true → sizeP p ≤ 4 + 1028 * p.length
  | [], _ => by simp [sizeP]
  | s :: p, h => by
    rw [List.all_cons, Bool.and_eq_true] at h
    have h1 := all_size h.2
    have h2 := h.1
    unfold okS at h2
    simp at h2
    rw [sizeP, List.length_cons]; omega
theorem sizeW_small {p : Pg} (h : p.all okS = true) (hl : p.length ≤ 256) : sizeW p = sizeP p := by
  have := all_size h
  unfold sizeW
  exact IntWalk.i64_in _ (by omega)
theorem lastUsed_at {p : Pg} (h : 0 < p.length) : lastUsed p = (p[p.length - 1]).1 := by
  rcases snoc_cases p with rfl | ⟨q, s, rfl⟩
  · simp at h
  · rw [last_snoc]; simp
theorem txt_empty (l : List UInt8) : (txt l).toList.isEmpty = l.isEmpty := by rw [ByteArray.toList_eq]; cases l <;> rfl

theorem place_stop {p : Pg} {i : Nat} (h : i + placeP (p.drop i) = placeP p) (hi : i < p.length) (hu : (p[i]).1 = false) : placeP p = i := by
  rw [List.drop_eq_getElem_cons hi] at h
  have e : placeP (p[i] :: p.drop (i + 1)) = 0 := by simp [placeP, hu]
  rw [e] at h; omega
theorem place_go {p : Pg} {i : Nat} (h : i + placeP (p.drop i) = placeP p) (hi : i < p.length) (hu : (p[i]).1 = true) : (i + 1) + placeP (p.drop (i + 1)) = placeP p := by
  rw [List.drop_eq_getElem_cons hi] at h
  have e : placeP (p[i] :: p.drop (i + 1)) = placeP (p.drop (i + 1)) + 1 := by simp [placeP, hu]
  rw [e] at h; omega

end Go.Proofs.Ytneebnankghhgaa

/- The reference of layer 5: whether a row of so many bytes fits: a contract of the call, in whatever memory. Conditions: the slots' cells are known. -/
namespace Go.Proofs.Ytneebnankghhgaa
open Go.RowKit

def fitsB (p : Pg) (n : Int) : Bool := rightB p && decide (0 ≤ n) && decide (n ≤ 1024) && decide (n + (if placeP p = p.length then 4 else 0) ≤ 1024 - (sizeP p : Int))
theorem fitsB_iff (p : Pg) (n : Int) : fitsB p n = true ↔ fitsP p n := by
  unfold fitsB fitsP
  simp only [Bool.and_eq_true, decide_eq_true_eq, rightB_iff]
  constructor
  · rintro ⟨⟨⟨h1, h2⟩, h3⟩, h4⟩; exact ⟨h1, h2, h3, h4⟩
  · rintro ⟨h1, h2, h3, h4⟩; exact ⟨⟨⟨h1, h2⟩, h3⟩, h4⟩
theorem right_sizeW {p : Pg} (h : rightB p = true) : sizeW p = sizeP p ∧ sizeP p ≤ 1024 ∧ p.length ≤ 256 := by
  have hr := (rightB_iff p).1 h
  refine ⟨?_, hr.size, hr.len⟩
  have := hr.size
  unfold sizeW
  exact IntWalk.i64_in _ (by omega)

end Go.Proofs.Ytneebnankghhgaa

/- The reference of layer 5: a page's slots in new memory: a contract of the call, in whatever memory. Conditions: the slots' cells are known, they are not too many. -/
namespace Go.Proofs.Ytneebnankghhgaa
open Go.RowKit

theorem run_append_none {P : Program} (w : World) (t ty e : TypeId) (i : TypeInfo) (ht : P.underlying t = some (.slice e)) (hi : P.info? e = some i) (b : Option Addr) (n c c' : Nat) (hn : n ≤ c) :
    (Builtin.append_ #[t, t] ty #[.slice b n c, .slice none 0 c']).run P w = .ok (.slice b n c) w := by
  cases b <;> simp [Builtin.append_, run_underlying ht, sizeOf, typeInfo, hi, Builtin.lenOf, Builtin.firstCells, storeCells, hn]
theorem info52 : (Try.prog.info? 74).map (fun i => (i.zero, i.size, i.bytes)) = some (some (.agg #[.bool false, .string ⟨#[]⟩]), 2, 24) := by kernel_rfl
def slotCells (p : Pg) : List Value := p.flatMap fun s => [.bool s.1, .string (txt s.2)]
theorem slotCells_snoc (p : Pg) (s : Slot) : slotCells (p ++ [s]) = slotCells p ++ [.bool s.1, .string (txt s.2)] := by simp [slotCells]
theorem slotCells_len : ∀ p, (slotCells p).length = p.length * 2
  | [] => rfl
  | s :: p => by
    have := slotCells_len p
    show (slotCells p).length + 2 = _
    rw [this, List.length_cons]; omega
theorem slotCells_at : ∀ (p : Pg) (i : Nat) (h : i < p.length), (slotCells p)[i * 2]? = some (.bool (p[i]).1) ∧ (slotCells p)[i * 2 + 1]? = some (.string (txt (p[i]).2))
  | s :: p, 0, _ => ⟨rfl, rfl⟩
  | s :: p, i + 1, h => by
    have := slotCells_at p i (by simpa using h)
    have e : slotCells (s :: p) = [.bool s.1, .string (txt s.2)] ++ slotCells p := rfl
    have g : ∀ d, (slotCells (s :: p))[(i + 1) * 2 + d]? = (slotCells p)[i * 2 + d]? := fun d => by
      rw [e, List.getElem?_append_right (by simp; omega)]
      congr 1
      simp; omega
    exact ⟨(g 0).trans this.1, (g 1).trans this.2⟩
theorem slotCells_one (p : Pg) : ∀ u ∈ slotCells p, u.oneCell' = true := by
  intro u hu
  obtain ⟨s, _, hu⟩ := List.mem_flatMap.1 hu
  simp at hu
  rcases hu with rfl | rfl <;> rfl
theorem slotCells_of {w : World} {b off : Nat} {p : Pg} (h : SlotsAt w (some ⟨b, off, none⟩) p) : ∀ j u, (slotCells p)[j]? = some u → w.cell? ((⟨b, off, none⟩ : Addr).add j) = some u := by
  intro j u hj
  have hlt : j < p.length * 2 := by
    have := (List.getElem?_eq_some_iff.1 hj).1
    rwa [slotCells_len] at this
  have hne : p ≠ [] := fun e => by subst e; simp at hlt
  obtain ⟨b', off', e, hc⟩ := h hne
  obtain ⟨rfl, rfl⟩ : b = b' ∧ off = off' := by simpa using e
  have hi : j / 2 < p.length := by omega
  obtain ⟨c0, c1⟩ := hc (j / 2) hi
  obtain ⟨r0, r1⟩ := slotCells_at p (j / 2) hi
  rw [WideShapes.add_plain]
  rcases (by omega : j % 2 = 0 ∨ j % 2 = 1) with e | e
  · rw [show j = j / 2 * 2 by omega] at hj ⊢
    rw [r0] at hj; rw [← hj]; simpa using c0
  · rw [show j = j / 2 * 2 + 1 by omega] at hj ⊢
    have hd : (j / 2 * 2 + 1) / 2 = j / 2 := by omega
    rw [r1] at hj; rw [← hj, ← Nat.add_assoc]; exact c1
/-- The slots p, in a block of its own from base on, or nil. -/
structure OwnS (w : World) (base : Nat) (v : Value) (p : Pg) : Prop where
  out : w.ownsRow base 74 2 v p.length (slotCells p)
theorem OwnS.base {w : World} {base base' : Nat} {v : Value} {p : Pg} (h : OwnS w base v p) (hb : base' ≤ base) : OwnS w base' v p := by
  refine ⟨h.out.1, ?_⟩
  rcases h.out.2 with h | ⟨g, cap, cur, h1, h2, h3⟩
  · exact .inl h
  · exact .inr ⟨g, cap, cur, h1, by omega, h3⟩
theorem OwnS.setCell {w : World} {base : Nat} {v : Value} {p : Pg} (h : OwnS w base v p) {a : Addr} (ha : a.block < base) (u : Value) : OwnS (w.setCell a u) base v p := ⟨ownsRow_setCell_below h.out ha u⟩
theorem OwnS.kept {w w' : World} {base : Nat} {v : Value} {p : Pg} (h : OwnS w base v p) (hb : Below w.heap.size w w') : OwnS w' base v p := by
  exact ⟨World.ownsRow.kept (row := none) h.out ⟨hb.os, hb.tape, hb.output, hb.size, fun j hj _ => hb.block j hj⟩ (by cases hv : v.ownBlock <;> simp)⟩
theorem slots_owned {base : Nat} {w : World} {v : Value} {p : Pg} (h : OwnS w base v p) : ∃ a c, v = .slice a p.length c ∧ p.length ≤ c ∧ c ≤ maxLen ∧ SlotsAt w a p := by
  have h0 := h.out
  rcases h.out.2 with ⟨rfl, hl⟩ | ⟨g, cap', cur, rfl, hg, hh, hn, hcap, hsz, htake⟩
  · exact ⟨none, 0, by rw [hl], by omega, by unfold maxLen; omega, fun hne => absurd (List.length_eq_zero_iff.1 hl) hne⟩
  · refine ⟨some ⟨g, 0, none⟩, cap', rfl, hn, hcap, fun _ => ⟨g, 0, rfl, fun i hi => ?_⟩⟩
    obtain ⟨h1, h2⟩ := slotCells_at p i hi
    rw [Nat.zero_add]
    exact ⟨(h0.cellAt _ (by omega)).trans h1, (h0.cellAt _ (by omega)).trans h2⟩

theorem frozen_two (w : World) (o o' : Obj) (v : Value) (t : TypeId) : (((w.alloc o).alloc (Obj.cells #[v] t)).alloc o').frozen? ⟨w.heap.size + 1, 0, none⟩ = false := by
  have h1 := ((Below.refl _ ((w.alloc o).alloc (Obj.cells #[v] t))).alloc (Nat.le_refl _) o').frozen (p := ⟨w.heap.size + 1, 0, none⟩) (by simp)
  have h2 : ((w.alloc o).alloc (Obj.cells #[v] t)).frozen? ⟨(w.alloc o).heap.size, 0, none⟩ = false := World.frozen?_alloc_at _ _ _ _ rfl
  rw [h1]
  rwa [show (w.alloc o).heap.size = w.heap.size + 1 by simp] at h2
end Go.Proofs.Ytneebnankghhgaa

/- The reference of layer 5: a slot's row; two pages that are the same: contracts of the calls, in whatever memory. Conditions: the slots' cells are known. -/
namespace Go.Proofs.Ytneebnankghhgaa
open Go.RowKit

def getD (p : Pg) (i : Int) : List UInt8 := if rightB p then (gotP p i).getD [] else []
def getE (p : Pg) (i : Int) : Int := if rightB p then (if (gotP p i).isSome then 0 else 18) else 1
theorem get_wrong {p : Pg} (i : Int) (h : rightB p = false) : getD p i = [] ∧ getE p i = 1 := by unfold getD getE; rw [h]; exact ⟨rfl, rfl⟩
theorem get_none {p : Pg} {i : Int} (h : rightB p = true) (hg : gotP p i = none) : getD p i = [] ∧ getE p i = 18 := by unfold getD getE; rw [h, hg]; exact ⟨rfl, rfl⟩
theorem get_some {p : Pg} {i : Int} {d : List UInt8} (h : rightB p = true) (hg : gotP p i = some d) : getD p i = d ∧ getE p i = 0 := by unfold getD getE; rw [h, hg]; exact ⟨rfl, rfl⟩

set_option maxHeartbeats 2000000 in
theorem refSame_any (a1 a2 : Option Addr) (c1 c2 : Nat) (p : Pg) (w : World) (h1 : SlotsAt w a1 p) (h2 : SlotsAt w a2 p) (hl : p.length ≤ maxLen) :
    Calls Try.prog 17 #[.agg #[.slice a1 p.length c1], .agg #[.slice a2 p.length c2]] w fun e w' => e = .returned (.bool true) ∧ Below w.heap.size w w' := by
  have A1 := hid0 h1
  have A2 := hid0 h2
  unfold maxLen at hl
  clear h1 h2
  go_enter Try.func17, Try.ntmps17
  go_wp2
  have hB0 : Below w.heap.size w ((w.alloc (Obj.cells #[.slice a1 p.length c1] 55)).alloc (Obj.cells #[.slice a2 p.length c2] 55)) := ((Below.refl _ _).alloc (Nat.le_refl _) _).alloc (by simp) _
  have q : ((w.alloc (Obj.cells #[.slice a1 p.length c1] 55)).alloc (Obj.cells #[.slice a2 p.length c2] 55)).cell? ⟨w.heap.size, 0, none⟩ = some (.slice a1 p.length c1) := by go_cell
  have q' : ((w.alloc (Obj.cells #[.slice a1 p.length c1] 55)).alloc (Obj.cells #[.slice a2 p.length c2] 55)).cell? ⟨w.heap.size + 1, 0, none⟩ = some (.slice a2 p.length c2) := by go_cell
  generalize ((w.alloc (Obj.cells #[.slice a1 p.length c1] 55)).alloc (Obj.cells #[.slice a2 p.length c2] 55)) = W0 at hB0 q q' ⊢
  go_loopw [5] (fun iv wr => ∃ i : Nat, i ≤ p.length ∧ iv = .int .i64 i ∧ wr.heap = W0.heap ∧ Below w.heap.size w wr) (fun iv _ => p.length - (intOf iv).toNat)
  case atStart => exact ⟨0, Nat.zero_le _, rfl, rfl, hB0⟩
  case round =>
    obtain ⟨i, hi, rfl, hW, hB⟩ := hrel
    have k : ∀ b o, wr.cell? ⟨b, o, none⟩ = W0.cell? ⟨b, o, none⟩ := fun b o => World.cell?_of_block (a := ⟨b, o, none⟩) (by rw [hW])
    have u0 := (k _ _).trans q
    have u1 := (k _ _).trans q'
    have HW := hid0 hW
    clear k hW
    by_cases hlt : i < p.length
    · obtain ⟨b, o, rfl, hc⟩ := (A1.out.later hB) (by intro e; rw [e] at hlt; exact absurd hlt (by simp))
      obtain ⟨b', o', rfl, hc'⟩ := (A2.out.later hB) (by intro e; rw [e] at hlt; exact absurd hlt (by simp))
      obtain ⟨r0, r1⟩ := hc i hlt
      obtain ⟨s0, s1⟩ := hc' i hlt
      clear hc hc' q q'
      go_wp2_with fail
      go_region
      go_wp2
      exact ⟨⟨i + 1, by omega, by go_num, HW.out, hB.drew⟩, by simp [intOf]; omega⟩
    · have hie : ¬ (i : Int) < p.length := by omega
      go_wp2
      go_ret
      exact ⟨rfl, hB⟩
end Go.Proofs.Ytneebnankghhgaa

/- The reference of layer 5: putting: a contract of the call, in whatever memory. Conditions: the slots' cells are known. -/
namespace Go.Proofs.Ytneebnankghhgaa
open Go.RowKit

def putP (p : Pg) (d : List UInt8) : Pg := if fitsB p d.length then putR p d else p
def putI (p : Pg) (d : List UInt8) : Nat := if fitsB p d.length then placeP p else 0
def putE (p : Pg) (d : List UInt8) : Int := if rightB p then (if fitsB p d.length then 0 else 17) else 1
theorem put_wrong {p : Pg} (d : List UInt8) (h : rightB p = false) : putP p d = p ∧ putI p d = 0 ∧ putE p d = 1 := by
  have hf : fitsB p d.length = false := by unfold fitsB; rw [h]; rfl
  unfold putP putI putE
  rw [h, hf]; exact ⟨rfl, rfl, rfl⟩
theorem put_full {p : Pg} {d : List UInt8} (h : rightB p = true) (hf : fitsB p d.length = false) : putP p d = p ∧ putI p d = 0 ∧ putE p d = 17 := by
  unfold putP putI putE
  rw [h, hf]; exact ⟨rfl, rfl, rfl⟩
theorem put_done {p : Pg} {d : List UInt8} (hf : fitsB p d.length = true) : putP p d = putR p d ∧ putI p d = placeP p ∧ putE p d = 0 := by
  have h : rightB p = true := ((rightB_iff p).2 ((fitsB_iff p _).1 hf).1)
  unfold putP putI putE
  rw [h, hf]; exact ⟨rfl, rfl, rfl⟩

/-- The memory at a' is new since w, or it is the argument's. -/
def Away (w : World) (a : Option Addr) (p : Pg) (a' : Option Addr) (q : Pg) : Prop := (a' = a ∧ q = p) ∨ ∀ b off, a' = some ⟨b, off, none⟩ → w.heap.size ≤ b
theorem away_new {w : World} {a : Option Addr} {p q : Pg} {g off : Nat} (h : w.heap.size ≤ g) : Away w a p (some ⟨g, off, none⟩) q := .inr (fun b o e => by
  obtain ⟨rfl, rfl⟩ : g = b ∧ off = o := by simpa using e
  exact h)
/-- What Put must answer. -/
def PutAns (w : World) (a : Option Addr) (p : Pg) (d : List UInt8) (e : Ending) (w' : World) : Prop :=
  (∃ a' c q, e = .returned (.tuple #[.agg #[.slice a' q.length c], .int .i64 (putI p d : Nat), .int .i64 (putE p d)]) ∧ q.length ≤ c ∧ SlotsAt w' a' q ∧ q = putP p d ∧ Away w a p a' q) ∧ Below w.heap.size w w'

theorem slotCells_append (p q : Pg) : slotCells (p ++ q) = slotCells p ++ slotCells q := by simp [slotCells]
theorem slotCells_set : ∀ (p : Pg) (i : Nat) (s : Slot), slotCells (p.set i s) = ((slotCells p).set (i * 2) (.bool s.1)).set (i * 2 + 1) (.string (txt s.2))
  | [], i, s => by simp [slotCells]
  | t :: p, 0, s => rfl
  | t :: p, i + 1, s => by
    have h := slotCells_set p i s
    have e : ∀ (q : Pg) (t : Slot), slotCells (t :: q) = Value.bool t.1 :: Value.string (txt t.2) :: slotCells q := fun q t => rfl
    rw [List.set_cons_succ, e, e, h, show (i + 1) * 2 = i * 2 + 1 + 1 by omega, show (i * 2 + 1 + 1) + 1 = (i * 2 + 1) + 1 + 1 by omega]
    simp only [List.set_cons_succ]

/-- A variable of one cell, in a block of its own. -/
structure VarAt (w : World) (B : Nat) (v : Value) : Prop where
  cell : w.cell? ⟨B, 0, none⟩ = some v
  frz : w.frozen? ⟨B, 0, none⟩ = false
theorem VarAt.lt {w : World} {B : Nat} {v : Value} (h : VarAt w B v) : B < w.heap.size := World.block_lt_of_cell? _ _ h.cell
theorem VarAt.later {w w' : World} {B : Nat} {v : Value} (h : VarAt w B v) (hb : Below w.heap.size w w') : VarAt w' B v :=
  ⟨cell_later hb h.cell, (hb.frozen (p := ⟨B, 0, none⟩) h.lt).trans h.frz⟩
theorem VarAt.set {w : World} {B : Nat} {v : Value} (h : VarAt w B v) (u : Value) : VarAt (w.setCell ⟨B, 0, none⟩ u) B u :=
  ⟨World.cell?_setCell_same _ _ _ h.cell, by rw [World.frozen?_setCell]; exact h.frz⟩
theorem VarAt.other {w : World} {B : Nat} {v : Value} (h : VarAt w B v) (a : Addr) (u : Value) (ha : a.block ≠ B) : VarAt (w.setCell a u) B v :=
  ⟨by rw [World.cell?_setCell_other _ _ _ _ (fun e => ha (by rw [e]))]; exact h.cell, by rw [World.frozen?_setCell]; exact h.frz⟩
theorem VarAt.new (w : World) (v : Value) (t : TypeId) : VarAt (w.alloc (Obj.cells #[v] t)) w.heap.size v := ⟨by go_cell, World.frozen?_alloc_at _ _ _ _ rfl⟩
theorem VarAt.alloc {w : World} {B : Nat} {v : Value} (h : VarAt w B v) (o : Obj) : VarAt (w.alloc o) B v := h.later ((Below.refl _ _).alloc (Nat.le_refl _) _)

theorem VarAt.below {w w' : World} {B base : Nat} {v : Value} (h : VarAt w B v) (hb : Below base w w') (hlt : B < base) : VarAt w' B v :=
  ⟨(hb.cell (p := ⟨B, 0, none⟩) hlt).trans h.cell, (hb.frozen (p := ⟨B, 0, none⟩) hlt).trans h.frz⟩
theorem OwnS.alloc {w : World} {base : Nat} {v : Value} {p : Pg} (h : OwnS w base v p) (o : Obj) : OwnS (w.alloc o) base v p := ⟨World.ownsRow.alloc h.out o⟩
theorem OwnS.drew {w : World} {base : Nat} {v : Value} {p : Pg} (h : OwnS w base v p) : OwnS w.drew base v p := ⟨h.out⟩
/-- Where the slots lie, if there are any. -/
theorem OwnS.form {w : World} {base : Nat} {v : Value} {p : Pg} (h : OwnS w base v p) (hp : 0 < p.length) : ∃ g c, v = .slice (some ⟨g, 0, none⟩) p.length c ∧ base ≤ g ∧ p.length ≤ c ∧ (∀ j, w.frozen? ⟨g, j, none⟩ = false) ∧ (∀ i (h : i < p.length), w.cell? ⟨g, i * 2, none⟩ = some (.bool (p[i]).1) ∧ w.cell? ⟨g, i * 2 + 1, none⟩ = some (.string (txt (p[i]).2))) := by
  have h0 := h.out
  rcases h.out.2 with ⟨_, hl⟩ | ⟨g, cap', cur, rfl, hg, hh, hn, hcap, hsz, htake⟩
  · omega
  · refine ⟨g, cap', rfl, hg, hn, fun j => World.ownsRow.frozenAt h0 j, fun i hi => ?_⟩
    obtain ⟨h1, h2⟩ := slotCells_at p i hi
    exact ⟨(h0.cellAt _ (by omega)).trans h1, (h0.cellAt _ (by omega)).trans h2⟩
/-- A slot written anew. -/
theorem OwnS.write {w : World} {base g c : Nat} {p : Pg} (h : OwnS w base (.slice (some ⟨g, 0, none⟩) p.length c) p) (i : Nat) (s : Slot) :
    OwnS ((w.setCell ⟨g, i * 2, none⟩ (.bool s.1)).setCell ⟨g, i * 2 + 1, none⟩ (.string (txt s.2))) base (.slice (some ⟨g, 0, none⟩) (p.set i s).length c) (p.set i s) := by
  have h1 := (World.ownsRow.stored h.out (i * 2) (.bool s.1)).1
  have h2 := (World.ownsRow.stored h1 (i * 2 + 1) (.string (txt s.2))).1
  refine ⟨?_⟩
  rw [slotCells_set, List.length_set]
  exact h2
theorem OwnS.slots {w : World} {base n c : Nat} {a : Option Addr} {p : Pg} (h : OwnS w base (.slice a n c) p) : SlotsAt w a p := by
  obtain ⟨a', c', e, _, _, hs⟩ := slots_owned h
  obtain ⟨rfl, -, -⟩ := Value.slice.inj e
  exact hs
theorem OwnS.away {w w0 : World} {base n c : Nat} {a a0 : Option Addr} {p q q0 : Pg} (h : OwnS w base (.slice a n c) p) (hb : w0.heap.size ≤ base) : Away w0 a0 q0 a q := by
  rcases h.out.2 with ⟨e, _⟩ | ⟨g, cap', cur, e, hg, _⟩
  · obtain ⟨rfl, -, -⟩ := Value.slice.inj e
    exact .inr (fun b off e => by cases e)
  · obtain ⟨rfl, -, -⟩ := Value.slice.inj e
    exact away_new (by omega)
/-- An append of one slot, laid in a block of its own first. -/
theorem wp_slot1 {w : World} {ops : Array Oper} {rest : List Oper} {o : Oper} {a : Act} {Q : Exit → Act → World → Prop} (hgd : o.guard = none) (s x : Operand)
    (ho : o.op = .call { callee := .builtin .append, args := #[s, x], argTypes := #[53, 53] })
    {base : Nat} {v : Value} {E : Pg} (hs : a.eval s = v) (hown : OwnS w base v E)
    (e : Slot) (B : Nat) (hx : a.eval x = .slice (some ⟨B, 0, none⟩) 1 1) (h0 : w.cell? ⟨B, 0, none⟩ = some (.bool e.1)) (h1 : w.cell? ⟨B, 1, none⟩ = some (.string (txt e.2)))
    (hlen : (E.length + 1) * 24 ≤ 140737488355328) (hbase : base ≤ w.heap.size)
    (h : ∀ v' w', OwnS w' base v' (E ++ [e]) → Below base w w' → wpList Try.prog ops Q rest (a.put o.dst v') w') : wpList Try.prog ops Q (o :: rest) a w := by
  obtain ⟨i0, hi, hz0, hz1, hz2⟩ := info_parts info52
  refine wpList_append_own w hgd s x 53 ho base 74 i0 (.agg #[.bool false, .string ⟨#[]⟩]) 2 24 Try.underlying53 hi hz0 hz1 hz2 rfl (by decide) v E.length (slotCells E) hs hown.out ⟨B, 0, none⟩ 1 1 [.bool e.1, .string (txt e.2)] hx rfl ?_ ?_ (by unfold maxLen; omega) hlen hbase ?_
  · intro j u hj
    match j, hj with
    | 0, hj => simp at hj; subst hj; rw [WideShapes.add_plain]; exact h0
    | 1, hj => simp at hj; subst hj; rw [WideShapes.add_plain]; exact h1
    | j + 2, hj => simp at hj
  · intro u hu; simp at hu; rcases hu with rfl | rfl <;> rfl
  · intro v' w' hown' hgrow _
    refine h v' w' ⟨?_⟩ ((Below.refl _ _).grown hgrow hbase (fun k hk => (hown.out.lt k hk).1))
    rw [slotCells_snoc, List.length_append]
    exact hown'
theorem slot_new (w : World) (u v : Value) (t : TypeId) : (w.alloc (Obj.cells #[u, v] t)).cell? ⟨w.heap.size, 0, none⟩ = some u ∧ (w.alloc (Obj.cells #[u, v] t)).cell? ⟨w.heap.size, 1, none⟩ = some v := ⟨by go_cell, by go_cell⟩

end Go.Proofs.Ytneebnankghhgaa

/- The reference of layer 5: setting, cutting: contracts of the calls, in whatever memory. Conditions: the slots' cells are known. -/
namespace Go.Proofs.Ytneebnankghhgaa
open Go.RowKit

theorem getE_cases (p : Pg) (i : Int) : (getE p i ≠ 0 ∧ getD p i = []) ∨ (rightB p = true ∧ ∃ k : Nat, i = k ∧ ∃ h : k < p.length, p[k] = (true, getD p i) ∧ getE p i = 0) := by
  cases hr : rightB p with
  | false => left; unfold getE getD; rw [hr]; exact ⟨by simp, rfl⟩
  | true =>
    cases hg : gotP p i with
    | none => left; unfold getE getD; rw [hr, hg]; exact ⟨by simp, rfl⟩
    | some d =>
      right
      obtain ⟨h0, hl, he⟩ := gotP_some hg
      refine ⟨rfl, i.toNat, by omega, hl, ?_⟩
      unfold getE getD; rw [hr, hg]; exact ⟨he, rfl⟩
/-- Is there room for d in the place of the slot's bytes? -/
def roomB (p : Pg) (i : Int) (d : List UInt8) : Bool := decide (d.length ≤ 1024) && decide ((d.length : Int) - (getD p i).length ≤ 1024 - (sizeP p : Int))
def setP (p : Pg) (i : Int) (d : List UInt8) : Pg := if getE p i = 0 ∧ roomB p i d = true then p.set i.toNat (true, d) else p
def setE (p : Pg) (i : Int) (d : List UInt8) : Int := if getE p i = 0 then (if roomB p i d then 0 else 17) else getE p i
theorem set_not {p : Pg} {i : Int} (d : List UInt8) (h : getE p i ≠ 0) : setP p i d = p ∧ setE p i d = getE p i := by
  unfold setP setE
  exact ⟨if_neg (fun hh => h hh.1), if_neg h⟩
theorem set_full {p : Pg} {i : Int} {d : List UInt8} (h : getE p i = 0) (hr : roomB p i d = false) : setP p i d = p ∧ setE p i d = 17 := by
  unfold setP setE
  rw [hr]; simp [h]
theorem set_done {p : Pg} {i : Int} {d : List UInt8} (h : getE p i = 0) (hr : roomB p i d = true) : setP p i d = p.set i.toNat (true, d) ∧ setE p i d = 0 := by
  unfold setP setE
  rw [hr]; simp [h]
/-- What Set, and Cut, must answer. -/
def PgAns (w : World) (a : Option Addr) (p q : Pg) (er : Int) (e : Ending) (w' : World) : Prop :=
  (∃ a' c q', e = .returned (.tuple #[.agg #[.slice a' q'.length c], .int .i64 er]) ∧ q'.length ≤ c ∧ SlotsAt w' a' q' ∧ q' = q ∧ Away w a p a' q') ∧ Below w.heap.size w w'
theorem set_same_used {p : Pg} {k : Nat} (h : k < p.length) {g : List UInt8} (hu : p[k] = (true, g)) (w : World) (base gb c : Nat) (d : List UInt8) (ho : OwnS w base (.slice (some ⟨gb, 0, none⟩) p.length c) p) :
    OwnS (w.setCell ⟨gb, k * 2 + 1, none⟩ (.string (txt d))) base (.slice (some ⟨gb, 0, none⟩) (p.set k (true, d)).length c) (p.set k (true, d)) := by
  have h2 := (World.ownsRow.stored ho.out (k * 2 + 1) (.string (txt d))).1
  refine ⟨?_⟩
  have e : (slotCells p).set (k * 2) (.bool true) = slotCells p := by
    have h1 := (slotCells_at p k h).1
    rw [hu] at h1
    obtain ⟨hl, h1⟩ := List.getElem?_eq_some_iff.1 h1
    rw [← h1, List.set_getElem_self]
  rw [slotCells_set, List.length_set, e]
  exact h2

/-! ### Cutting -/
def cutP (p : Pg) (i : Int) : Pg := if getE p i = 0 then cutR p i.toNat else p
theorem trimP_le : ∀ p : Pg, (trimP p).length ≤ p.length
  | [] => Nat.le_refl _
  | s :: p => by
    have := trimP_le p
    unfold trimP
    split
    · split <;> simp
    · rename_i e
      rw [e] at this
      simp only [List.length_cons] at this ⊢; omega
theorem trimP_all : ∀ (q : Pg), (∀ s ∈ q, s.1 = false) → trimP q = []
  | [], _ => rfl
  | s :: q, h => by
    have e := trimP_all q (fun t ht => h t (by simp [ht]))
    have hs := h s (by simp)
    simp [trimP, e, hs]
theorem trimP_append : ∀ (p q : Pg), (∀ s ∈ q, s.1 = false) → lastUsed p = true → trimP (p ++ q) = p
  | [], q, h, _ => trimP_all q h
  | [s], q, h, hl => by
    have hs : s.1 = true := hl
    simp [trimP, trimP_all q h, hs]
  | s :: t :: p, q, h, hl => by
    have e := trimP_append (t :: p) q h hl
    rw [List.cons_append, trimP, e]
/-- n slots are left when all behind them aren't used, and the last of them is. -/
theorem trimP_at {p : Pg} {n : Nat} (h1 : ∀ i (h : i < p.length), n ≤ i → (p[i]).1 = false) (h2 : n = 0 ∨ ∃ h : n - 1 < p.length, 0 < n ∧ (p[n - 1]).1 = true) : trimP p = p.take n := by
  have e : p = p.take n ++ p.drop n := (List.take_append_drop n p).symm
  conv => lhs; rw [e]
  refine trimP_append _ _ (fun s hs => ?_) ?_
  · obtain ⟨j, hj, rfl⟩ := List.mem_iff_getElem.1 hs
    rw [List.getElem_drop]
    exact h1 _ _ (by omega)
  · rcases h2 with rfl | ⟨hl, h0, hu⟩
    · rfl
    · rw [lastUsed_at (by rw [List.length_take]; omega)]
      rw [List.getElem_take]
      have : (p.take n).length - 1 = n - 1 := by rw [List.length_take]; omega
      simp only [this]; exact hu
theorem OwnS.take {w : World} {a : Option Addr} {p : Pg} (h : SlotsAt w a p) (n : Nat) : SlotsAt w a (p.take n) := by
  intro hne
  have hp : p ≠ [] := fun e => hne (by rw [e]; simp)
  obtain ⟨b, off, e, hc⟩ := h hp
  refine ⟨b, off, e, fun i hi => ?_⟩
  rw [List.getElem_take]
  exact hc i (by rw [List.length_take] at hi; omega)

end Go.Proofs.Ytneebnankghhgaa
