/- Names and what they read, as they lie in memory; a list of names of one's own; a struct's block. Nothing of any program here but the types. Conditions: each lemma names its own. -/
import Derived.Test.YtadlelhdjakmmaaZ6
import Derived.Test.YtadlelhdjakmmaaLa
import Derived.Deep.MidRow
import Derived.Deep.RegionHeld3
import Derived.Deep.AppendLies
import Derived.BigQuiet
import Derived.Maps.AppendAt
import Derived.Laws.OwnMore
import Derived.Lib.Walk
namespace Go.Proofs.Ytadlelhdjakmmaa
open Go.RowKit

theorem rangeAt_blk {w w' : World} {b o : Nat} {us : List Value} (h : w.rangeAt b o us) (hb : w'.heap[b]? = w.heap[b]?) : w'.rangeAt b o us :=
  fun j v hv => (World.cell?_of_block (a := ⟨b, o + j, none⟩) hb).trans (h j v hv)
/-- Structs of m cells, one behind the other, from where a slice begins. -/
structure RowC (w : World) (m : Nat) (p : Option Addr) (us : List (List Value)) : Prop where
  out : ∀ i (hi : i < us.length), ∃ b o, p = some ⟨b, o, none⟩ ∧ b < w.heap.size ∧ w.rangeAt b (o + i * m) us[i]
theorem RowC.later {w w' : World} {m : Nat} {p : Option Addr} {us : List (List Value)} (h : RowC w m p us) (hb : Below w.heap.size w w') : RowC w' m p us :=
  ⟨fun i hi => by
    obtain ⟨b, o, e, hlt, hR⟩ := h.out i hi
    exact ⟨b, o, e, Nat.lt_of_lt_of_le hlt hb.size, rangeAt_blk hR (hb.block b hlt)⟩⟩
theorem own_belowY {w w' : World} {base n k : Nat} {ty : TypeId} {v : Value} {X : List Value} (h : w.ownsRow base ty k v n X) (hb : Below w.heap.size w w') : w'.ownsRow base ty k v n X :=
  h.kept (row := none) ⟨hb.os, hb.tape, hb.output, hb.size, fun i hi _ => hb.block i hi⟩ (by cases v.ownBlock <;> simp)
theorem all_take {α : Type} {l : List α} {f : α → Bool} {i : Nat} (hi : i < l.length) (h : (l.take i).all f = true) (hf : f l[i] = true) : (l.take (i + 1)).all f = true := by
  rw [List.take_succ_eq_append_getElem hi, List.all_append, h]; simp [hf]
theorem heap_setCells (b : Nat) : ∀ (vs : List Value) (o : Nat) (w : World) (k : Nat), k ≠ b → (w.setCells b o vs).heap[k]? = w.heap[k]?
  | [], _, _, _, _ => rfl
  | v :: r, o, w, k, h => by
    rw [World.setCells, heap_setCells b r _ _ k h]
    exact Below.heap_setCell w ⟨b, o, none⟩ v k h
theorem size_setCells (b : Nat) : ∀ (vs : List Value) (o : Nat) (w : World), (w.setCells b o vs).heap.size = w.heap.size
  | [], _, _ => rfl
  | v :: r, o, w => by rw [World.setCells, size_setCells b r]; simp
theorem below_setCells {n b : Nat} : ∀ (vs : List Value) (o : Nat) {x y : World}, Below n x y → n ≤ b → Below n x (y.setCells b o vs)
  | [], _, _, _, h, _ => h
  | v :: r, o, _, _, h, hb => below_setCells r (o + 1) (h.setCell hb v) hb
structure VarB (w : World) (B : Nat) (us : List Value) : Prop where
  at_ : w.rangeAt B 0 us
  there : w.there B 0 us.length
  lt : B < w.heap.size
theorem VarB.new (w : World) (us : List Value) (ty : TypeId) : VarB (w.alloc (.cells us.toArray ty)) w.heap.size us := by
  have hc : ∀ j, (w.alloc (.cells us.toArray ty)).cell? ⟨w.heap.size, 0 + j, none⟩ = us[j]? := fun j => by
    rw [cell_of_row _ _ _ us.toArray ty (0, 0) (heap_alloc_new w _)]; simp
  refine ⟨fun j v hv => (hc j).trans hv, fun j hj => ⟨by rw [hc j, List.getElem?_eq_getElem hj]; rfl, World.frozen?_alloc_at _ _ _ _ rfl⟩, by simp⟩
theorem VarB.keep {w w' : World} {B : Nat} {us : List Value} (h : VarB w B us) (hb : w'.heap[B]? = w.heap[B]?) (hs : w.heap.size ≤ w'.heap.size) : VarB w' B us :=
  ⟨fun j v hv => (World.cell?_of_block (a := ⟨B, 0 + j, none⟩) hb).trans (h.at_ j v hv), fun j hj => ⟨by rw [World.cell?_of_block (a := ⟨B, 0 + j, none⟩) hb]; exact (h.there j hj).1, (World.frozen?_of_block (a := ⟨B, 0 + j, none⟩) hb).trans (h.there j hj).2⟩, Nat.lt_of_lt_of_le h.lt hs⟩
theorem VarB.alloc {w : World} {B : Nat} {us : List Value} (h : VarB w B us) (o : Obj) : VarB (w.alloc o) B us := h.keep (Below.heap_alloc w o B h.lt) (by simp)
theorem VarB.drew {w : World} {B : Nat} {us : List Value} (h : VarB w B us) : VarB w.drew B us := h.keep rfl (Nat.le_refl _)
theorem VarB.below {w w' : World} {B : Nat} {us : List Value} (h : VarB w B us) (hb : Below w.heap.size w w') : VarB w' B us := h.keep (hb.block B h.lt) hb.size
theorem VarB.under {n : Nat} {w w' : World} {B : Nat} {us : List Value} (h : VarB w B us) (hb : Below n w w') (hn : B < n) : VarB w' B us := h.keep (hb.block B hn) hb.size
theorem VarB.puts {w : World} {B : Nat} {us : List Value} (h : VarB w B us) (vs : List Value) (hl : vs.length = us.length) : VarB (w.setCells B 0 vs) B vs :=
  ⟨World.rangeAt_setCells_same w B 0 vs (by rw [hl]; exact h.there), World.there_setCells (by rw [hl]; exact h.there) B 0 vs, by rw [size_setCells]; exact h.lt⟩
theorem VarB.other {w : World} {B b o : Nat} {us : List Value} (h : VarB w B us) (vs : List Value) (hb : B ≠ b) : VarB (w.setCells b o vs) B us := h.keep (heap_setCells b vs o w B hb) (Nat.le_of_eq (size_setCells b vs o w).symm)
theorem VarB.cell {w : World} {B : Nat} {us : List Value} (h : VarB w B us) (i : Nat) {u : Value} (hu : us[i]? = some u) : w.cell? ⟨B, i, none⟩ = some u := by
  have := h.at_ i u hu
  rwa [Nat.zero_add] at this
theorem VarB.frz {w : World} {B : Nat} {us : List Value} (h : VarB w B us) (i : Nat) (hi : i < us.length) : w.frozen? ⟨B, i, none⟩ = false := by
  have := (h.there i hi).2
  rwa [Nat.zero_add] at this
/-- A whole struct goes into its block. -/
theorem wp_putB {P : Program} {ops : Array Oper} {rest : List Oper} {a : Act} {w : World} {Q : Exit → Act → World → Prop} {B : Nat} {us vs : List Value} {ty tt : TypeId} {x y : Operand} {pos : String} {af : Array Edge} (hV : VarB w B us) (h1 : ∀ v ∈ vs, v.oneCell' = true) (hl : vs.length = us.length)
    (hi : (P.info? ty).map (·.size) = some us.length) (hx : a.eval x = .pointer (some ⟨B, 0, none⟩)) (hy : a.eval y = .agg vs.toArray)
    (h : ∀ w', VarB w' B vs → Hid (w' = w.setCells B 0 vs) → wpList P ops Q rest (a.put none undef) w') : wpList P ops Q (⟨none, .store ty x y, tt, pos, af, none⟩ :: rest) a w :=
  wpList_store_mid rfl ty x y rfl B 0 vs.toArray hx hy (by simpa [hl] using hV.there) (by simpa [hl] using hi) (all_oneCell_toArray h1) (h _ (hV.puts vs hl) (hid0 rfl))
/-- A whole struct is read. -/
theorem wp_getB {P : Program} {ops : Array Oper} {rest : List Oper} {a : Act} {w : World} {Q : Exit → Act → World → Prop} {b o : Nat} {us : List Value} {dst : Option Nat} {ty tt : TypeId} {x : Operand} {pos : String} {af : Array Edge} (hV : w.rangeAt b o us) {d : TypeDesc} (hu : P.underlying ty = some d) (hd : d.isRow = true) (hi : (P.info? ty).map (·.size) = some us.length)
    (hx : a.eval x = .pointer (some ⟨b, o, none⟩)) (h : wpList P ops Q rest (a.put dst (.agg us.toArray)) w) : wpList P ops Q (⟨dst, .load ty x, tt, pos, af, none⟩ :: rest) a w :=
  wpList_load_mid rfl ty x rfl b o hx us d hV hu hd hi h
/-- A whole struct is read by a guarded operation. -/
theorem wp_getG {P : Program} {ops : Array Oper} {rest : List Oper} {a : Act} {w : World} {Q : Exit → Act → World → Prop} {b o : Nat} {us : List Value} {dst : Option Nat} {ty tt : TypeId} {x : Operand} {pos : String} {af : Array Edge} {gd : Option (Nat × Bool)} (hw : Region.wanted ⟨dst, .load ty x, tt, pos, af, gd⟩ (yielded ops a.tmps) = true) (hR : w.rangeAt b o us) {d : TypeDesc} (hu : P.underlying ty = some d) (hd : d.isRow = true) (hi : (P.info? ty).map (·.size) = some us.length)
    (hx : a.eval x = .pointer (some ⟨b, o, none⟩)) (h : wpList P ops Q rest (a.put dst (.agg us.toArray)) w) : wpList P ops Q (⟨dst, .load ty x, tt, pos, af, gd⟩ :: rest) a w :=
  BigFrame.wpList_want hw (fun _ hK => wp_load_mid ty x rfl b o hx us d hR hu hd hi (hK _ _ h))
theorem rng {w : World} {b o : Nat} {us : List Value} (h : w.rangeAt b o us) (i : Nat) {u : Value} (hu : us[i]? = some u) : w.cell? ⟨b, o + i, none⟩ = some u := h i u hu
/-- The cells of a list of texts. -/
structure StrsA (w : World) (a : Option Addr) (l : List ByteArray) : Prop where
  out : l ≠ [] → ∃ b off, a = some ⟨b, off, none⟩ ∧ ∀ i (h : i < l.length), w.cell? ⟨b, off + i, none⟩ = some (.string l[i])
  small : ∀ s ∈ l, s.size ≤ maxLen
theorem StrsA.later {w w' : World} {a : Option Addr} {l : List ByteArray} (h : StrsA w a l) (hb : Below w.heap.size w w') : StrsA w' a l := ⟨fun hn => by
  obtain ⟨b, off, e, hc⟩ := h.out hn
  exact ⟨b, off, e, fun i hi => cell_later hb (hc i hi)⟩, h.small⟩
/-- A text's bytes, and back. -/
def bl (s : ByteArray) : List UInt8 := s.data.toList
def bs (l : List UInt8) : ByteArray := ⟨l.toArray⟩
theorem bs_bl (s : ByteArray) : bs (bl s) = s := rfl
theorem bl_bs (l : List UInt8) : bl (bs l) = l := rfl
def strs (F : List ByteArray) : List Value := F.map Value.string
theorem strs_len (F : List ByteArray) : (strs F).length = F.length := by simp [strs]
theorem strs_app (F G : List ByteArray) : strs (F ++ G) = strs F ++ strs G := by simp [strs]
theorem strs_owned {B n : Nat} {ty : TypeId} {w : World} {v : Value} {F : List ByteArray} (h : w.ownsRow B ty 1 v n (strs F)) (hn : F.length = n) (hs : ∀ s ∈ F, s.size ≤ maxLen) : ∃ a c, v = .slice a n c ∧ n ≤ c ∧ StrsA w a F := by
  rcases h.2 with ⟨rfl, e⟩ | ⟨g, cap, cur, rfl, _, _, h1, _⟩
  · subst e
    obtain rfl : F = [] := List.length_eq_zero_iff.1 hn
    exact ⟨none, 0, rfl, Nat.le_refl _, ⟨fun h => absurd rfl h, hs⟩⟩
  · refine ⟨some ⟨g, 0, none⟩, cap, rfl, h1, ⟨fun _ => ⟨g, 0, rfl, fun i hi => ?_⟩, hs⟩⟩
    have := h.cellAt i (by omega)
    rw [Nat.zero_add, this]
    simp [strs, hi]
theorem infoStrD : (Try.prog.info? 9).map (fun i => (i.zero, i.size, i.bytes)) = some (some (.string ⟨#[]⟩), 1, 16) := by kernel_rfl
theorem append_nilD {P : Program} (w : World) (t ty e : TypeId) (i : TypeInfo) (ht : P.underlying t = some (.slice e)) (hi : P.info? e = some i) (b : Option Addr) (n c c' : Nat) (hn : n ≤ c) :
    (Builtin.append_ #[t, t] ty #[.slice b n c, .slice none 0 c']).run P w = .ok (.slice b n c) w := by
  cases b <;> simp [Builtin.append_, run_underlying ht, sizeOf, typeInfo, hi, Builtin.lenOf, Builtin.firstCells, storeCells, hn]
theorem own_shapeD {w : World} {base n k : Nat} {e : TypeId} {v : Value} {xs : List Value} (h : w.ownsRow base e k v n xs) : ∃ a c, v = .slice a n c ∧ n ≤ c := by
  rcases h.2 with ⟨rfl, rfl⟩ | ⟨g, cap, cur, rfl, _, _, h1, _⟩
  · exact ⟨_, _, rfl, Nat.le_refl _⟩
  · exact ⟨_, _, rfl, h1⟩
/-- A list of texts of one's own. -/
structure SRow (w0 w : World) (v : Value) (F : List ByteArray) : Prop where
  own : w.ownsRow w0.heap.size 9 1 v F.length (strs F)
  b : Below w0.heap.size w0 w
theorem SRow.lo {w0 w : World} {v : Value} {F : List ByteArray} (h : SRow w0 w v F) : ∀ k, v.ownBlock = some k → w0.heap.size ≤ k := fun k hk => (h.own.lt k hk).1
theorem SRow.nil {w0 w : World} (h : Below w0.heap.size w0 w) : SRow w0 w (.slice none 0 0) [] := ⟨World.ownsRow_nil _ _ _ _, h⟩
theorem SRow.alloc {w0 w : World} {v : Value} {F : List ByteArray} (h : SRow w0 w v F) (o : Obj) : SRow w0 (w.alloc o) v F := ⟨h.own.alloc o, h.b.alloc h.b.size o⟩
theorem SRow.below {w0 w w' : World} {v : Value} {F : List ByteArray} (h : SRow w0 w v F) (hb : Below w.heap.size w w') : SRow w0 w' v F := ⟨own_belowY h.own hb, below_through hb h.b.size h.b⟩
/-- An append of texts to a list of one's own. -/
theorem app_strD {w : World} {o : Oper} {a : Act} {K : Act → World → Prop} {Q : Exit → Act → World → Prop} (s x : Operand)
    (ho : o.op = .call { callee := .builtin .append, args := #[s, x], argTypes := #[26, 26] })
    {v : Value} (hs : a.eval s = v) {w0 : World} {F : List ByteArray} (hown : SRow w0 w v F)
    (ad : Option Addr) (m c : Nat) (hx : a.eval x = .slice ad m c) (L : List ByteArray) (hm : L.length = m) (hnews : StrsA w ad L)
    (hlen : F.length + m ≤ 8796093022208)
    (h : ∀ v' w', SRow w0 w' v' (F ++ L) → K (a.put o.dst v') w') : Oper.wp Try.prog o a w K Q := by
  obtain ⟨i0, hi, hz0, hz1, hz2⟩ := info_parts infoStrD
  have h1 : ∀ u ∈ strs L, u.oneCell' = true := fun u hu => by
    obtain ⟨y, _, rfl⟩ := List.mem_map.1 hu; rfl
  have hlo : ∀ k, v.ownBlock = some k → w0.heap.size ≤ k := hown.lo
  have hnil : ad = none → L = [] := fun e => by
    by_cases hL : L = []
    · exact hL
    · obtain ⟨b, off, e2, _⟩ := hnews.out hL
      rw [e] at e2; cases e2
  cases ad with
  | some ad =>
    obtain ⟨v', w', hr, h2, h3, h4, h5⟩ := run_append_own_at (P := Try.prog) w w0.heap.size 26 o.type 9 i0 (.string ⟨#[]⟩) 1 16 Try.underlying26 hi hz0 hz1 hz2 rfl (by decide) v F.length (strs F) hown.own ad m c (strs L) (by rw [strs_len]; omega)
      (fun j u hj => by
        have hL : L ≠ [] := fun e => by rw [e] at hj; simp [strs] at hj
        obtain ⟨b, off, e, hc⟩ := hnews.out hL
        cases e
        rw [WideShapes.add_plain]
        have hj' : j < L.length := by rw [← strs_len]; exact (List.getElem?_eq_some_iff.1 hj).1
        rw [hc j hj']
        simp [strs, hj'] at hj ⊢
        exact hj) h1 (by unfold maxLen; omega) (by omega) hown.b.size
    unfold Oper.wp execOp
    simp only [ho, resolve, invoke, builtin, Sem.run_bind, Sem.run_pure, Result.andThen_ok, List.map_toArray, List.map_cons, List.map_nil, hs, hx, hr]
    exact h v' w' ⟨by rw [List.length_append, hm, strs_app]; exact h2, hown.b.grown h3 hown.b.size hlo⟩
  | none =>
    have hN := hnil rfl
    subst hN
    obtain rfl : m = 0 := by simpa using hm.symm
    obtain ⟨b, c', hv, hc'⟩ := own_shapeD hown.own
    have hr := append_nilD (P := Try.prog) w 26 o.type 9 i0 Try.underlying26 hi b F.length c' c hc'
    rw [← hv] at hr
    unfold Oper.wp execOp
    simp only [ho, resolve, invoke, builtin, Sem.run_bind, Sem.run_pure, Result.andThen_ok, List.map_toArray, List.map_cons, List.map_nil, hs, hx, hr]
    exact h v w (by simpa using hown)
theorem app_strL {w : World} {ops : Array Oper} {rest : List Oper} {o : Oper} {a : Act} {Q : Exit → Act → World → Prop} (hgd : o.guard = none) (s x : Operand)
    (ho : o.op = .call { callee := .builtin .append, args := #[s, x], argTypes := #[26, 26] })
    {v : Value} (hs : a.eval s = v) {w0 : World} {F : List ByteArray} (hown : SRow w0 w v F)
    (ad : Option Addr) (m c : Nat) (hx : a.eval x = .slice ad m c) (L : List ByteArray) (hm : L.length = m) (hnews : StrsA w ad L)
    (hlen : F.length + m ≤ 8796093022208)
    (h : ∀ v' w', SRow w0 w' v' (F ++ L) → wpList Try.prog ops Q rest (a.put o.dst v') w') : wpList Try.prog ops Q (o :: rest) a w :=
  wpList_plain hgd fun _ hK => app_strD s x ho hs hown ad m c hx L hm hnews hlen fun v' w' h1 => hK _ _ (h v' w' h1)
/-- An append of texts to a row of one's own. -/
theorem appS_wp {w : World} {o : Oper} {a : Act} {K : Act → World → Prop} {Q : Exit → Act → World → Prop} (s x : Operand)
    (ho : o.op = .call { callee := .builtin .append, args := #[s, x], argTypes := #[26, 26] })
    {v : Value} (hs : a.eval s = v) (base n : Nat) (xs : List Value) (hown : w.ownsRow base 9 1 v n xs)
    (ad : Option Addr) (m c : Nat) (hx : a.eval x = .slice ad m c) (L : List ByteArray) (hm : L.length = m) (hnews : StrsA w ad L)
    (hlen : n + m ≤ 8796093022208) (hbase : base ≤ w.heap.size)
    (h : ∀ v' w', w'.ownsRow base 9 1 v' (n + m) (xs ++ strs L) → w.grownBy w' v.ownBlock → (v'.ownBlock = v.ownBlock ∨ v'.ownBlock = some w.heap.size) → K (a.put o.dst v') w') : Oper.wp Try.prog o a w K Q := by
  obtain ⟨i0, hi, hz0, hz1, hz2⟩ := info_parts infoStrD
  have h1 : ∀ u ∈ strs L, u.oneCell' = true := fun u hu => by
    obtain ⟨y, _, rfl⟩ := List.mem_map.1 hu; rfl
  have hnil : ad = none → L = [] := fun e => by
    by_cases hL : L = []
    · exact hL
    · obtain ⟨b, off, e2, _⟩ := hnews.out hL
      rw [e] at e2; cases e2
  cases ad with
  | some ad =>
    obtain ⟨v', w', hr, h2, h3, h4, h5⟩ := run_append_own_at (P := Try.prog) w base 26 o.type 9 i0 (.string ⟨#[]⟩) 1 16 Try.underlying26 hi hz0 hz1 hz2 rfl (by decide) v n xs hown ad m c (strs L) (by rw [strs_len]; omega)
      (fun j u hj => by
        have hL : L ≠ [] := fun e => by rw [e] at hj; simp [strs] at hj
        obtain ⟨b, off, e, hc⟩ := hnews.out hL
        cases e
        rw [WideShapes.add_plain]
        have hj' : j < L.length := by rw [← strs_len]; exact (List.getElem?_eq_some_iff.1 hj).1
        rw [hc j hj']
        simp [strs, hj'] at hj ⊢
        exact hj) h1 (by unfold maxLen; omega) (by omega) hbase
    unfold Oper.wp execOp
    simp only [ho, resolve, invoke, builtin, Sem.run_bind, Sem.run_pure, Result.andThen_ok, List.map_toArray, List.map_cons, List.map_nil, hs, hx, hr]
    exact h v' w' h2 h3 h5
  | none =>
    have hN := hnil rfl
    subst hN
    obtain rfl : m = 0 := by simpa using hm.symm
    obtain ⟨b, c', hv, hc'⟩ := own_shapeD hown
    have hr := append_nilD (P := Try.prog) w 26 o.type 9 i0 Try.underlying26 hi b n c' c hc'
    rw [← hv] at hr
    unfold Oper.wp execOp
    simp only [ho, resolve, invoke, builtin, Sem.run_bind, Sem.run_pure, Result.andThen_ok, List.map_toArray, List.map_cons, List.map_nil, hs, hx, hr]
    exact h v w (by simpa [strs] using hown) ⟨rfl, rfl, rfl, Nat.le_refl _, fun _ _ _ => rfl⟩ (.inl rfl)
theorem appS_if {w : World} {ops : Array Oper} {o : Oper} {a : Act} {K : Act → World → Prop} {Q : Exit → Act → World → Prop} {X : Prop} (hgd : o.guard = none) (s x : Operand)
    (ho : o.op = .call { callee := .builtin .append, args := #[s, x], argTypes := #[26, 26] })
    {v : Value} (hs : a.eval s = v) (base n : Nat) (xs : List Value) (hown : w.ownsRow base 9 1 v n xs)
    (ad : Option Addr) (m c : Nat) (hx : a.eval x = .slice ad m c) (L : List ByteArray) (hm : L.length = m) (hnews : StrsA w ad L)
    (hlen : n + m ≤ 8796093022208) (hbase : base ≤ w.heap.size)
    (h : ∀ v' w', w'.ownsRow base 9 1 v' (n + m) (xs ++ strs L) → w.grownBy w' v.ownBlock → (v'.ownBlock = v.ownBlock ∨ v'.ownBlock = some w.heap.size) → K (a.put o.dst v') w') : if Region.wanted o (yielded ops a.tmps) = true then Oper.wp Try.prog o a w K Q else X := by
  rw [if_pos (by simp [Region.wanted, hgd])]
  exact appS_wp s x ho hs base n xs hown ad m c hx L hm hnews hlen hbase h
theorem StrsA.head {w : World} {a : Option Addr} {l : List ByteArray} (k : Nat) (h : StrsA w a l) : StrsA w a (l.take k) := ⟨fun hne => by
  obtain ⟨b, off, e, hc⟩ := h.out (fun e => hne (by simp [e]))
  exact ⟨b, off, e, fun i hi => by
    have hi' : i < l.length := by rw [List.length_take] at hi; omega
    rw [hc i hi', List.getElem_take]⟩, fun s hs => h.small s (List.mem_of_mem_take hs)⟩
theorem StrsA.tail {w : World} {a : Option Addr} {l : List ByteArray} (k : Nat) (h : StrsA w a l) : StrsA w (a.map (·.add (k * 1))) (l.drop k) := ⟨fun hne => by
  obtain ⟨b, off, rfl, hc⟩ := h.out (fun e => hne (by simp [e]))
  refine ⟨b, off + k, by simp [WideShapes.add_plain], fun i hi => ?_⟩
  have hi' : k + i < l.length := by rw [List.length_drop] at hi; omega
  rw [Nat.add_assoc, hc (k + i) hi', List.getElem_drop], fun s hs => h.small s (List.mem_of_mem_drop hs)⟩
theorem StrsA.here {w : World} {a a' : Option Addr} {l : List ByteArray} (k : Nat) (hk : l.length ≤ k) (h : StrsA w a' l) : StrsA w a (l.drop k) := ⟨fun hne => absurd (List.drop_eq_nil_of_le hk) hne, fun s hs => h.small s (List.mem_of_mem_drop hs)⟩
set_option maxRecDepth 1000000 in
theorem strs_lo (a : Option Addr) (n c k : Nat) (hk : k ≤ n) (hc : n ≤ c) (_hn : n ≤ 17592186044416) (W : World) :
    (Instr.slice 26 (.slice a n c) none (some (.int .i64 k)) none).run Try.prog W = .ok (.slice a k c) W := by
  rw [run_slice_h W 26 a n c Try.underlying26 .i64 k (by omega) (by omega)]
  simp [go_sem, Result.andThen, sliced]
set_option maxRecDepth 1000000 in
theorem strs_hi (a : Option Addr) (l : List ByteArray) (n c k : Nat) (hl : l.length = n) (hk : k ≤ n) (hc : n ≤ c) (_hn : n ≤ 17592186044416) :
    ∃ a1 c1, (∀ W : World, (Instr.slice 26 (.slice a n c) (some (.int .i64 k)) none none).run Try.prog W = .ok (.slice a1 (n - k) c1) W) ∧ ∀ W, StrsA W a l → StrsA W a1 (l.drop k) := by
  refine ⟨if c = k then a else a.map (·.add (k * 1)), c - k, fun W => ?_, fun W h => ?_⟩
  · rw [run_slice_l W 26 a n c Try.underlying26 .i64 k (by omega) (by omega)]
    simp [go_sem, Result.andThen, sliced]
  · split
    · exact h.here k (by omega)
    · exact h.tail k
theorem madeS (W : World) (base : Nat) (hb : base ≤ W.heap.size) : (W.alloc (.cells #[] 9)).ownsRow base 9 1 (.slice (some ⟨W.heap.size, 0, none⟩) 0 0) 0 (strs []) := World.ownsRow_made W #[] 0 hb (by unfold maxLen; omega) rfl
/-- A list of texts that lies somewhere, as a slice has it. -/
structure SL (w : World) (v : Value) (L : List ByteArray) : Prop where
  out : ∃ a c, v = .slice a L.length c ∧ L.length ≤ c ∧ StrsA w a L
theorem SL.later {w w' : World} {v : Value} {L : List ByteArray} (h : SL w v L) (hb : Below w.heap.size w w') : SL w' v L := by
  obtain ⟨a, c, e, hc, hI⟩ := h.out
  exact ⟨a, c, e, hc, hI.later hb⟩
theorem StrsA.nil (w : World) (a : Option Addr) : StrsA w a [] := ⟨fun h => absurd rfl h, fun _ h => absurd h (by simp)⟩
theorem SL.nil (w : World) : SL w (.slice none 0 0) [] := ⟨none, 0, rfl, Nat.le_refl _, StrsA.nil _ _⟩
theorem SL.own {B n : Nat} {w : World} {v : Value} {l : List ByteArray} (h : w.ownsRow B 9 1 v n (strs l)) (hn : l.length = n) (hs : ∀ s ∈ l, s.size ≤ maxLen) : SL w v l := by
  obtain ⟨a, c, e, hc, hS⟩ := strs_owned h hn hs
  subst hn
  exact ⟨a, c, e, hc, hS⟩
theorem strs_one {w : World} {b : Nat} {x : ByteArray} (h : w.cell? ⟨b, 0, none⟩ = some (.string x)) (hx : x.size ≤ maxLen) : StrsA w (some ⟨b, 0, none⟩) [x] := ⟨fun _ => ⟨b, 0, rfl, fun i hi => by
  match i, hi with
  | 0, _ => exact h
  | i + 1, hi => exact absurd hi (by simp)⟩, fun s hs => by obtain rfl := List.mem_singleton.1 hs; exact hx⟩
/-- A name and what it reads, as it lies. -/
structure Nn where
  s : ByteArray
  a : Option Addr
  c : Nat
  rs : List ByteArray
def Nn.cells (x : Nn) : List Value := [.string x.s, .slice x.a x.rs.length x.c]
def Nn.dat (x : Nn) : Gn := (x.s, x.rs)
structure NodeOk (w : World) (x : Nn) : Prop where
  rs : StrsA w x.a x.rs
  cap : x.rs.length ≤ x.c
  few : x.rs.length ≤ 8796093022208
  small : x.s.size ≤ maxLen
theorem NodeOk.later {w w' : World} {x : Nn} (h : NodeOk w x) (hb : Below w.heap.size w w') : NodeOk w' x := ⟨h.rs.later hb, h.cap, h.few, h.small⟩
/-- Names and what they read. -/
structure NodesAt (w : World) (a : Option Addr) (c : Nat) (l : List Nn) : Prop where
  row : RowC w 2 a (l.map Nn.cells)
  ok : ∀ x ∈ l, NodeOk w x
  few : l.length ≤ 3518437208883
  cap : l.length ≤ c
theorem NodesAt.later {w w' : World} {a : Option Addr} {c : Nat} {l : List Nn} (h : NodesAt w a c l) (hb : Below w.heap.size w w') : NodesAt w' a c l := ⟨h.row.later hb, fun x hx => (h.ok x hx).later hb, h.few, h.cap⟩
theorem NodesAt.node {w : World} {a : Option Addr} {c : Nat} {l : List Nn} (h : NodesAt w a c l) (i : Nat) (hi : i < l.length) : ∃ b o, a = some ⟨b, o, none⟩ ∧ b < w.heap.size ∧ w.rangeAt b (o + i * 2) (l[i]).cells := by
  obtain ⟨b, o, e, hlt, hR⟩ := h.row.out i (by simpa using hi)
  exact ⟨b, o, e, hlt, by simpa using hR⟩
def dat (l : List Nn) : List Gn := l.map Nn.dat
theorem dat_len (l : List Nn) : (dat l).length = l.length := by simp [dat]
theorem dat_names (l : List Nn) : (dat l).map (·.1) = l.map Nn.s := by
  unfold dat
  rw [List.map_map]
  rfl
theorem SRow.sl {w0 w : World} {v : Value} {F : List ByteArray} (h : SRow w0 w v F) (hs : ∀ s ∈ F, s.size ≤ maxLen) : SL w v F := SL.own h.own rfl hs
theorem one_new (w : World) (x : ByteArray) (ty : TypeId) (hx : x.size ≤ maxLen) : StrsA (w.alloc (.cells #[.string x] ty)) (some ⟨w.heap.size, 0, none⟩) [x] := strs_one ((VarB.new w [.string x] ty).cell 0 rfl) hx
theorem Nn.cells0 (x : Nn) : x.cells[0]? = some (.string x.s) := rfl
theorem Nn.cells1 (x : Nn) : x.cells[1]? = some (.slice x.a x.rs.length x.c) := rfl
theorem Nn.cells_len (x : Nn) : x.cells.length = 2 := rfl
theorem Nn.one (x : Nn) : ∀ u ∈ x.cells, u.oneCell' = true := by
  intro u hu
  simp only [Nn.cells, List.mem_cons, List.not_mem_nil, or_false] at hu
  rcases hu with rfl | rfl <;> rfl
def zNn : List Value := [.string ⟨#[]⟩, .slice none 0 0]
theorem infoNode : (Try.prog.info? 35).map (·.size) = some 2 := by kernel_rfl
theorem eqB {x y : ByteArray} : (x.toList == y.toList) = decide (x = y) := by
  rw [Bool.eq_iff_iff]
  simp only [beq_iff_eq, decide_eq_true_eq]
  rw [ByteArray.toList_eq, ByteArray.toList_eq]
  exact ⟨fun h => ByteArray.ext (Array.ext' h), fun h => by rw [h]⟩
end Go.Proofs.Ytadlelhdjakmmaa
