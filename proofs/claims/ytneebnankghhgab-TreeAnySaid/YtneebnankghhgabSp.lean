/- Several of my texts laid together, each as it was: Sp. Conditions: each names its own. -/
import Derived.Test.YtneebnankghhgabKP
import Derived.Test.YtneebnankghhgabSrI
import Derived.Test.YtneebnankghhgabSq
import Derived.Deep.MidRow
import Derived.Deep.RegionHeld3
import Derived.Deep.AppendLies
import Derived.BigQuiet
/- A struct's block: what lies in it, that it may be written; a call that ends with a struct and a truth; two cells of a pair in a row of pairs. Nothing of any program here. Conditions: each names its own. -/
namespace Go.Proofs.Ytneebnankghhgab
open Go.RowKit

theorem heap_setCells (b : Nat) : ∀ (vs : List Value) (o : Nat) (w : World) (k : Nat), k ≠ b → (w.setCells b o vs).heap[k]? = w.heap[k]?
  | [], _, _, _, _ => rfl
  | v :: r, o, w, k, h => by
    rw [World.setCells, heap_setCells b r _ _ k h]
    exact Below.heap_setCell w ⟨b, o, none⟩ v k h
theorem size_setCells (b : Nat) : ∀ (vs : List Value) (o : Nat) (w : World), (w.setCells b o vs).heap.size = w.heap.size
  | [], _, _ => rfl
  | v :: r, o, w => by rw [World.setCells, size_setCells b r]; simp
theorem below_setCells {n b : Nat} : ∀ (vs : List Value) (o : Nat) {x y : World}, Below n x y → n ≤ b → Below n x (y.setCells b o vs)
  | [], _, _, _, h, _ => h
  | v :: r, o, _, _, h, hb => below_setCells r (o + 1) (h.setCell hb v) hb

structure VarB (w : World) (B : Nat) (us : List Value) : Prop where
  at_ : w.rangeAt B 0 us
  there : w.there B 0 us.length
  lt : B < w.heap.size
theorem VarB.new (w : World) (us : List Value) (ty : TypeId) : VarB (w.alloc (.cells us.toArray ty)) w.heap.size us := by
  have hc : ∀ j, (w.alloc (.cells us.toArray ty)).cell? ⟨w.heap.size, 0 + j, none⟩ = us[j]? := fun j => by
    rw [cell_of_row _ _ _ us.toArray ty (0, 0) (heap_alloc_new w _)]; simp
  refine ⟨fun j v hv => (hc j).trans hv, fun j hj => ⟨by rw [hc j, List.getElem?_eq_getElem hj]; rfl, World.frozen?_alloc_at _ _ _ _ rfl⟩, by simp⟩
theorem VarB.keep {w w' : World} {B : Nat} {us : List Value} (h : VarB w B us) (hb : w'.heap[B]? = w.heap[B]?) (hs : w.heap.size ≤ w'.heap.size) : VarB w' B us :=
  ⟨fun j v hv => (World.cell?_of_block (a := ⟨B, 0 + j, none⟩) hb).trans (h.at_ j v hv), fun j hj => ⟨by rw [World.cell?_of_block (a := ⟨B, 0 + j, none⟩) hb]; exact (h.there j hj).1, (World.frozen?_of_block (a := ⟨B, 0 + j, none⟩) hb).trans (h.there j hj).2⟩, Nat.lt_of_lt_of_le h.lt hs⟩
theorem VarB.alloc {w : World} {B : Nat} {us : List Value} (h : VarB w B us) (o : Obj) : VarB (w.alloc o) B us := h.keep (Below.heap_alloc w o B h.lt) (by simp)
theorem VarB.drew {w : World} {B : Nat} {us : List Value} (h : VarB w B us) : VarB w.drew B us := h.keep rfl (Nat.le_refl _)
theorem VarB.below {w w' : World} {B : Nat} {us : List Value} (h : VarB w B us) (hb : Below w.heap.size w w') : VarB w' B us := h.keep (hb.block B h.lt) hb.size
theorem VarB.under {n : Nat} {w w' : World} {B : Nat} {us : List Value} (h : VarB w B us) (hb : Below n w w') (hn : B < n) : VarB w' B us := h.keep (hb.block B hn) hb.size
theorem VarB.puts {w : World} {B : Nat} {us : List Value} (h : VarB w B us) (vs : List Value) (hl : vs.length = us.length) : VarB (w.setCells B 0 vs) B vs :=
  ⟨World.rangeAt_setCells_same w B 0 vs (by rw [hl]; exact h.there), World.there_setCells (by rw [hl]; exact h.there) B 0 vs, by rw [size_setCells]; exact h.lt⟩
theorem VarB.other {w : World} {B b o : Nat} {us : List Value} (h : VarB w B us) (vs : List Value) (hb : B ≠ b) : VarB (w.setCells b o vs) B us := h.keep (heap_setCells b vs o w B hb) (Nat.le_of_eq (size_setCells b vs o w).symm)
theorem VarB.cell {w : World} {B : Nat} {us : List Value} (h : VarB w B us) (i : Nat) {u : Value} (hu : us[i]? = some u) : w.cell? ⟨B, i, none⟩ = some u := by
  have := h.at_ i u hu
  rwa [Nat.zero_add] at this
theorem VarB.frz {w : World} {B : Nat} {us : List Value} (h : VarB w B us) (i : Nat) (hi : i < us.length) : w.frozen? ⟨B, i, none⟩ = false := by
  have := (h.there i hi).2
  rwa [Nat.zero_add] at this
theorem VarB.two {w : World} (us vs : List Value) (ty tv : TypeId) : VarB ((w.alloc (.cells us.toArray ty)).alloc (.cells vs.toArray tv)) w.heap.size us ∧ VarB ((w.alloc (.cells us.toArray ty)).alloc (.cells vs.toArray tv)) (w.heap.size + 1) vs := by
  refine ⟨(VarB.new w us ty).alloc _, ?_⟩
  have := VarB.new (w.alloc (.cells us.toArray ty)) vs tv
  rwa [World.size_alloc] at this

/-- A whole struct goes into its block. -/
theorem wp_putB {P : Program} {ops : Array Oper} {rest : List Oper} {a : Act} {w : World} {Q : Exit → Act → World → Prop} {B : Nat} {us vs : List Value} {ty tt : TypeId} {x y : Operand} {pos : String} {af : Array Edge} (hV : VarB w B us) (h1 : ∀ v ∈ vs, v.oneCell' = true) (hl : vs.length = us.length)
    (hi : (P.info? ty).map (·.size) = some us.length) (hx : a.eval x = .pointer (some ⟨B, 0, none⟩)) (hy : a.eval y = .agg vs.toArray)
    (h : ∀ w', VarB w' B vs → Hid (w' = w.setCells B 0 vs) → wpList P ops Q rest (a.put none undef) w') : wpList P ops Q (⟨none, .store ty x y, tt, pos, af, none⟩ :: rest) a w :=
  wpList_store_mid rfl ty x y rfl B 0 vs.toArray hx hy (by simpa [hl] using hV.there) (by simpa [hl] using hi) (all_oneCell_toArray h1) (h _ (hV.puts vs hl) (hid0 rfl))
/-- A whole struct is read. -/
theorem wp_getB {P : Program} {ops : Array Oper} {rest : List Oper} {a : Act} {w : World} {Q : Exit → Act → World → Prop} {b o : Nat} {us : List Value} {dst : Option Nat} {ty tt : TypeId} {x : Operand} {pos : String} {af : Array Edge} (hV : w.rangeAt b o us) {d : TypeDesc} (hu : P.underlying ty = some d) (hd : d.isRow = true) (hi : (P.info? ty).map (·.size) = some us.length)
    (hx : a.eval x = .pointer (some ⟨b, o, none⟩)) (h : wpList P ops Q rest (a.put dst (.agg us.toArray)) w) : wpList P ops Q (⟨dst, .load ty x, tt, pos, af, none⟩ :: rest) a w :=
  wpList_load_mid rfl ty x rfl b o hx us d hV hu hd hi h
/-- A whole struct is read by a guarded operation. -/
theorem wp_getG {P : Program} {ops : Array Oper} {rest : List Oper} {a : Act} {w : World} {Q : Exit → Act → World → Prop} {b o : Nat} {us : List Value} {dst : Option Nat} {ty tt : TypeId} {x : Operand} {pos : String} {af : Array Edge} {gd : Option (Nat × Bool)} (hw : Region.wanted ⟨dst, .load ty x, tt, pos, af, gd⟩ (yielded ops a.tmps) = true) (hR : w.rangeAt b o us) {d : TypeDesc} (hu : P.underlying ty = some d) (hd : d.isRow = true) (hi : (P.info? ty).map (·.size) = some us.length)
    (hx : a.eval x = .pointer (some ⟨b, o, none⟩)) (h : wpList P ops Q rest (a.put dst (.agg us.toArray)) w) : wpList P ops Q (⟨dst, .load ty x, tt, pos, af, gd⟩ :: rest) a w :=
  BigFrame.wpList_want hw (fun _ hK => wp_load_mid ty x rfl b o hx us d hR hu hd hi (hK _ _ h))
/-- A call ends whose result lies in a block of its own. -/
theorem end_blk {P : Program} {f : Func} {Q : Ending → World → Prop} {a : Act} {w : World} {B t : Nat} {ty : TypeId} {us : List Value} (hV : VarB w B us) (hf : f.results = #[.cell t ty]) (ht : a.tmps.getD t undef = .pointer (some ⟨B, 0, none⟩)) (d : TypeDesc) (hu : P.underlying ty = some d) (hd : d.isRow = true) (hi : (P.info? ty).map (·.size) = some us.length)
    (hde : a.defers = []) (hQ : Q (.returned (.agg us.toArray)) w) : bodyPost P f Q .ret a w := by
  refine bodyPost_ret (v := .agg us.toArray) ?_ hde hQ
  have hl := run_loadVar_mid (P := P) w B 0 ty us d hV.at_ hu hd hi
  have ht2 : a.tmps[t]?.getD undef = .pointer (some ⟨B, 0, none⟩) := by simpa using ht
  simp [results, hf, ht2, asAddr, hl]
/-- The same, where a number is told beside it. -/
theorem end_vt {P : Program} {f : Func} {Q : Ending → World → Prop} {a : Act} {w : World} {B t s : Nat} {ty : TypeId} {us : List Value} {x : Value} (hV : VarB w B us) (hf : f.results = #[.cell t ty, .tmp s]) (ht : a.tmps.getD t undef = .pointer (some ⟨B, 0, none⟩)) (hs : a.tmps.getD s undef = x) (d : TypeDesc) (hu : P.underlying ty = some d) (hd : d.isRow = true) (hi : (P.info? ty).map (·.size) = some us.length)
    (hde : a.defers = []) (hQ : Q (.returned (.tuple #[.agg us.toArray, x])) w) : bodyPost P f Q .ret a w := by
  refine bodyPost_ret (v := .tuple #[.agg us.toArray, x]) ?_ hde hQ
  have hl := run_loadVar_mid (P := P) w B 0 ty us d hV.at_ hu hd hi
  have ht2 : a.tmps[t]?.getD undef = .pointer (some ⟨B, 0, none⟩) := by simpa using ht
  have hs2 : a.tmps[s]?.getD undef = x := by simpa using hs
  simp [results, hf, ht2, hs2, asAddr, hl]

theorem infoPr : (Try.prog.info? 33).map (·.size) = some 2 := by kernel_rfl
theorem one2 (n : Int) (s : ByteArray) : ∀ v ∈ [Value.int .i64 n, .string s], v.oneCell' = true := by
  intro v hv
  simp at hv
  rcases hv with rfl | rfl <;> rfl
/-- A pair in a row of pairs. -/
theorem Sl.pair {P : Nat → Prop} {w : World} {l : List (Int × Key)} {a : Option Addr} {n c : Nat} (h : Sl 2 eP P w (.slice a n c) l) {i : Nat} {x : Int × Key} (hx : l[i]? = some x) : ∃ b o, a = some ⟨b, o, none⟩ ∧ P b ∧ w.cell? ⟨b, o + i * 2, none⟩ = some (.int .i64 x.1) ∧ w.cell? ⟨b, o + i * 2 + 1, none⟩ = some (.string (txt x.2)) := by
  obtain ⟨a', c', e, _, h⟩ := h
  cases e
  obtain ⟨b, o, e, hp, h⟩ := h (by rintro rfl; simp at hx)
  have h0 := h i x hx 0 (.int .i64 x.1) rfl
  have h1 := h i x hx 1 (.string (txt x.2)) rfl
  exact ⟨b, o, e, hp, h0, h1⟩
/-- What a call answers that tells a pair and a truth. -/
def ovP : Option (Int × Key) → Value
  | none => .agg #[.int .i64 0, .string ⟨#[]⟩]
  | some x => .agg #[.int .i64 x.1, .string (txt x.2)]
def ocP : Option (Int × Key) → List Value
  | none => [.int .i64 0, .string ⟨#[]⟩]
  | some x => [.int .i64 x.1, .string (txt x.2)]
theorem ov_oc (g : Option (Int × Key)) : ovP g = .agg (ocP g).toArray := by cases g <;> rfl
theorem oc_len (g : Option (Int × Key)) : (ocP g).length = 2 := by cases g <;> rfl
theorem oc_two (g : Option (Int × Key)) : ∃ (n : Int) (s : ByteArray), ocP g = [.int .i64 n, .string s] := by cases g <;> exact ⟨_, _, rfl⟩
end Go.Proofs.Ytneebnankghhgab
