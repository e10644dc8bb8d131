/- A struct's block: what lies in it, that it may be written; whole structs stored and loaded; a call that ends with a struct. Nothing of any program here. Conditions: each names its own. -/
import Derived.Test.YtolcebbpbihnoaaYa
import Derived.Deep.MidRow
import Derived.Deep.RegionHeld3
import Derived.Deep.AppendLies
import Derived.BigQuiet
namespace Go.Proofs.Ytolcebbpbihnoaa
open Go.RowKit

theorem heap_setCells (b : Nat) : ∀ (vs : List Value) (o : Nat) (w : World) (k : Nat), k ≠ b → (w.setCells b o vs).heap[k]? = w.heap[k]?
  | [], _, _, _, _ => rfl
  | v :: r, o, w, k, h => by
    rw [World.setCells, heap_setCells b r _ _ k h]
    exact Below.heap_setCell w ⟨b, o, none⟩ v k h
theorem size_setCells (b : Nat) : ∀ (vs : List Value) (o : Nat) (w : World), (w.setCells b o vs).heap.size = w.heap.size
  | [], _, _ => rfl
  | v :: r, o, w => by rw [World.setCells, size_setCells b r]; simp
theorem below_setCells {n b : Nat} : ∀ (vs : List Value) (o : Nat) {x y : World}, Below n x y → n ≤ b → Below n x (y.setCells b o vs)
  | [], _, _, _, h, _ => h
  | v :: r, o, _, _, h, hb => below_setCells r (o + 1) (h.setCell hb v) hb

structure VarB (w : World) (B : Nat) (us : List Value) : Prop where
  at_ : w.rangeAt B 0 us
  there : w.there B 0 us.length
  lt : B < w.heap.size
theorem VarB.new (w : World) (us : List Value) (ty : TypeId) : VarB (w.alloc (.cells us.toArray ty)) w.heap.size us := by
  have hc : ∀ j, (w.alloc (.cells us.toArray ty)).cell? ⟨w.heap.size, 0 + j, none⟩ = us[j]? := fun j => by
    rw [cell_of_row _ _ _ us.toArray ty (0, 0) (heap_alloc_new w _)]; simp
  refine ⟨fun j v hv => (hc j).trans hv, fun j hj => ⟨by rw [hc j, List.getElem?_eq_getElem hj]; rfl, World.frozen?_alloc_at _ _ _ _ rfl⟩, by simp⟩
theorem VarB.keep {w w' : World} {B : Nat} {us : List Value} (h : VarB w B us) (hb : w'.heap[B]? = w.heap[B]?) (hs : w.heap.size ≤ w'.heap.size) : VarB w' B us :=
  ⟨fun j v hv => (World.cell?_of_block (a := ⟨B, 0 + j, none⟩) hb).trans (h.at_ j v hv), fun j hj => ⟨by rw [World.cell?_of_block (a := ⟨B, 0 + j, none⟩) hb]; exact (h.there j hj).1, (World.frozen?_of_block (a := ⟨B, 0 + j, none⟩) hb).trans (h.there j hj).2⟩, Nat.lt_of_lt_of_le h.lt hs⟩
theorem VarB.alloc {w : World} {B : Nat} {us : List Value} (h : VarB w B us) (o : Obj) : VarB (w.alloc o) B us := h.keep (Below.heap_alloc w o B h.lt) (by simp)
theorem VarB.drew {w : World} {B : Nat} {us : List Value} (h : VarB w B us) : VarB w.drew B us := h.keep rfl (Nat.le_refl _)
theorem VarB.below {w w' : World} {B : Nat} {us : List Value} (h : VarB w B us) (hb : Below w.heap.size w w') : VarB w' B us := h.keep (hb.block B h.lt) hb.size
theorem VarB.under {n : Nat} {w w' : World} {B : Nat} {us : List Value} (h : VarB w B us) (hb : Below n w w') (hn : B < n) : VarB w' B us := h.keep (hb.block B hn) hb.size
theorem VarB.puts {w : World} {B : Nat} {us : List Value} (h : VarB w B us) (vs : List Value) (hl : vs.length = us.length) : VarB (w.setCells B 0 vs) B vs :=
  ⟨World.rangeAt_setCells_same w B 0 vs (by rw [hl]; exact h.there), World.there_setCells (by rw [hl]; exact h.there) B 0 vs, by rw [size_setCells]; exact h.lt⟩
theorem VarB.other {w : World} {B b o : Nat} {us : List Value} (h : VarB w B us) (vs : List Value) (hb : B ≠ b) : VarB (w.setCells b o vs) B us := h.keep (heap_setCells b vs o w B hb) (Nat.le_of_eq (size_setCells b vs o w).symm)
theorem VarB.cell {w : World} {B : Nat} {us : List Value} (h : VarB w B us) (i : Nat) {u : Value} (hu : us[i]? = some u) : w.cell? ⟨B, i, none⟩ = some u := by
  have := h.at_ i u hu
  rwa [Nat.zero_add] at this
theorem VarB.frz {w : World} {B : Nat} {us : List Value} (h : VarB w B us) (i : Nat) (hi : i < us.length) : w.frozen? ⟨B, i, none⟩ = false := by
  have := (h.there i hi).2
  rwa [Nat.zero_add] at this
theorem VarB.two {w : World} (us vs : List Value) (ty tv : TypeId) : VarB ((w.alloc (.cells us.toArray ty)).alloc (.cells vs.toArray tv)) w.heap.size us ∧ VarB ((w.alloc (.cells us.toArray ty)).alloc (.cells vs.toArray tv)) (w.heap.size + 1) vs := by
  refine ⟨(VarB.new w us ty).alloc _, ?_⟩
  have := VarB.new (w.alloc (.cells us.toArray ty)) vs tv
  rwa [World.size_alloc] at this

/-- A whole struct goes into its block. -/
theorem wp_putB {P : Program} {ops : Array Oper} {rest : List Oper} {a : Act} {w : World} {Q : Exit → Act → World → Prop} {B : Nat} {us vs : List Value} {ty tt : TypeId} {x y : Operand} {pos : String} {af : Array Edge} (hV : VarB w B us) (h1 : ∀ v ∈ vs, v.oneCell' = true) (hl : vs.length = us.length)
    (hi : (P.info? ty).map (·.size) = some us.length) (hx : a.eval x = .pointer (some ⟨B, 0, none⟩)) (hy : a.eval y = .agg vs.toArray)
    (h : ∀ w', VarB w' B vs → Hid (w' = w.setCells B 0 vs) → wpList P ops Q rest (a.put none undef) w') : wpList P ops Q (⟨none, .store ty x y, tt, pos, af, none⟩ :: rest) a w :=
  wpList_store_mid rfl ty x y rfl B 0 vs.toArray hx hy (by simpa [hl] using hV.there) (by simpa [hl] using hi) (all_oneCell_toArray h1) (h _ (hV.puts vs hl) (hid0 rfl))
/-- A whole struct is read. -/
theorem wp_getB {P : Program} {ops : Array Oper} {rest : List Oper} {a : Act} {w : World} {Q : Exit → Act → World → Prop} {b o : Nat} {us : List Value} {dst : Option Nat} {ty tt : TypeId} {x : Operand} {pos : String} {af : Array Edge} (hV : w.rangeAt b o us) {d : TypeDesc} (hu : P.underlying ty = some d) (hd : d.isRow = true) (hi : (P.info? ty).map (·.size) = some us.length)
    (hx : a.eval x = .pointer (some ⟨b, o, none⟩)) (h : wpList P ops Q rest (a.put dst (.agg us.toArray)) w) : wpList P ops Q (⟨dst, .load ty x, tt, pos, af, none⟩ :: rest) a w :=
  wpList_load_mid rfl ty x rfl b o hx us d hV hu hd hi h
/-- A whole struct is read by a guarded operation. -/
theorem wp_getG {P : Program} {ops : Array Oper} {rest : List Oper} {a : Act} {w : World} {Q : Exit → Act → World → Prop} {b o : Nat} {us : List Value} {dst : Option Nat} {ty tt : TypeId} {x : Operand} {pos : String} {af : Array Edge} {gd : Option (Nat × Bool)} (hw : Region.wanted ⟨dst, .load ty x, tt, pos, af, gd⟩ (yielded ops a.tmps) = true) (hR : w.rangeAt b o us) {d : TypeDesc} (hu : P.underlying ty = some d) (hd : d.isRow = true) (hi : (P.info? ty).map (·.size) = some us.length)
    (hx : a.eval x = .pointer (some ⟨b, o, none⟩)) (h : wpList P ops Q rest (a.put dst (.agg us.toArray)) w) : wpList P ops Q (⟨dst, .load ty x, tt, pos, af, gd⟩ :: rest) a w :=
  BigFrame.wpList_want hw (fun _ hK => wp_load_mid ty x rfl b o hx us d hR hu hd hi (hK _ _ h))
/-- A call ends whose result lies in a block of its own. -/
theorem end_blk {P : Program} {f : Func} {Q : Ending → World → Prop} {a : Act} {w : World} {B t : Nat} {ty : TypeId} {us : List Value} (hV : VarB w B us) (hf : f.results = #[.cell t ty]) (ht : a.tmps.getD t undef = .pointer (some ⟨B, 0, none⟩)) (d : TypeDesc) (hu : P.underlying ty = some d) (hd : d.isRow = true) (hi : (P.info? ty).map (·.size) = some us.length)
    (hde : a.defers = []) (hQ : Q (.returned (.agg us.toArray)) w) : bodyPost P f Q .ret a w := by
  refine bodyPost_ret (v := .agg us.toArray) ?_ hde hQ
  have hl := run_loadVar_mid (P := P) w B 0 ty us d hV.at_ hu hd hi
  have ht2 : a.tmps[t]?.getD undef = .pointer (some ⟨B, 0, none⟩) := by simpa using ht
  simp [results, hf, ht2, asAddr, hl]
/-- The same, where a number is told beside it. -/
theorem end_vt {P : Program} {f : Func} {Q : Ending → World → Prop} {a : Act} {w : World} {B t s : Nat} {ty : TypeId} {us : List Value} {x : Value} (hV : VarB w B us) (hf : f.results = #[.cell t ty, .tmp s]) (ht : a.tmps.getD t undef = .pointer (some ⟨B, 0, none⟩)) (hs : a.tmps.getD s undef = x) (d : TypeDesc) (hu : P.underlying ty = some d) (hd : d.isRow = true) (hi : (P.info? ty).map (·.size) = some us.length)
    (hde : a.defers = []) (hQ : Q (.returned (.tuple #[.agg us.toArray, x])) w) : bodyPost P f Q .ret a w := by
  refine bodyPost_ret (v := .tuple #[.agg us.toArray, x]) ?_ hde hQ
  have hl := run_loadVar_mid (P := P) w B 0 ty us d hV.at_ hu hd hi
  have ht2 : a.tmps[t]?.getD undef = .pointer (some ⟨B, 0, none⟩) := by simpa using ht
  have hs2 : a.tmps[s]?.getD undef = x := by simpa using hs
  simp [results, hf, ht2, hs2, asAddr, hl]
theorem one3 (k n : Int) (s : ByteArray) : ∀ v ∈ [Value.int .i64 k, .int .i64 n, .string s], v.oneCell' = true := by
  intro v hv
  simp at hv
  rcases hv with rfl | rfl | rfl <;> rfl
theorem infoV : (Try.prog.info? 23).map (·.size) = some 3 := by kernel_rfl
theorem Cx.one : ∀ (c : Cx), ∀ u ∈ c.cells, u.oneCell' = true
  | .mk .., u, hu => by
    simp [Cx.cells] at hu
    rcases hu with rfl | rfl | rfl | rfl | rfl | rfl <;> rfl
theorem Tx.one : ∀ (c : Tx), ∀ u ∈ c.cells, u.oneCell' = true
  | .mk _ _ l r _ _ _, u, hu => by
    simp only [Tx.cells, List.mem_cons, List.mem_append, List.not_mem_nil, or_false] at hu
    rcases hu with rfl | rfl | (h | h) | rfl
    · rfl
    · rfl
    · exact l.one u h
    · exact r.one u h
    · rfl
theorem len6 {us : List Value} (h : us.length = 6) : ∃ u0 u1 u2 u3 u4 u5, us = [u0, u1, u2, u3, u4, u5] := by
  match us, h with
  | [u0, u1, u2, u3, u4, u5], _ => exact ⟨_, _, _, _, _, _, rfl⟩
/-- A row that came in: its cells, what its values may be. -/
structure RowIn (w : World) (a : Option Addr) (row : List Val) : Prop where
  at_ : RowAt w a row
  i : ∀ x ∈ row, inI x
  len : row.length ≤ maxLen
theorem RowIn.later {w w' : World} {a : Option Addr} {row : List Val} (h : RowIn w a row) (hb : Below w.heap.size w w') : RowIn w' a row := ⟨h.at_.later hb, h.i, h.len⟩
/-- One of a row of structs, as it lies. -/
theorem CxOk.arg {w : World} {k a : Int} {v : Val} {p : Option Addr} {c : Nat} {ys : List Cx} (h : CxOk w k a v p c ys) (i : Nat) (hi : i < ys.length) : ∃ b o, p = some ⟨b, o, none⟩ ∧ b < w.heap.size ∧ w.rangeAt b (o + i * 6) (ys[i]).cells := by
  obtain ⟨b, o, e, hlt, hR⟩ := h.row.out i (by simpa using hi)
  exact ⟨b, o, e, hlt, by simpa using hR⟩
theorem TxOk.arg {w : World} {p : Option Addr} {c : Nat} {ys : List Tx} (h : TxOk w p c ys) (i : Nat) (hi : i < ys.length) : ∃ b o, p = some ⟨b, o, none⟩ ∧ b < w.heap.size ∧ w.rangeAt b (o + i * 15) (ys[i]).cells := by
  obtain ⟨b, o, e, hlt, hR⟩ := h.row.out i (by simpa using hi)
  exact ⟨b, o, e, hlt, by simpa using hR⟩
theorem rng {w : World} {b o : Nat} {us : List Value} (h : w.rangeAt b o us) (i : Nat) {u : Value} (hu : us[i]? = some u) : w.cell? ⟨b, o + i, none⟩ = some u := h i u hu


theorem sizeX : (Try.prog.info? 26).map (·.size) = some 6 := by kernel_rfl
theorem sizeTT : (Try.prog.info? 38).map (·.size) = some 15 := by kernel_rfl
end Go.Proofs.Ytolcebbpbihnoaa
