/- Bytes that a call builds by appending: what the slice holds, whatever block it lies in. Nothing of any program here but the type of a slice of bytes. Conditions: each lemma names its own. -/
import Derived.Test.YtfjhkchkiacfpaaDoorLb
import Derived.Test.YtfjhkchkiacfpaaDoorRf
import Derived.OwnWalk
import Derived.Lib.AppendStr
import Derived.Laws.BytesArg
namespace Go.Proofs.YtfjhkchkiacfpaaDoor
open Go.RowKit

theorem info5c : (Tryd.prog.info? 5).map (fun i => (i.zero, i.size, i.bytes)) = some (some (.int .u8 0), 1, 1) := by kernel_rfl

def bytesV (l : List UInt8) : List Value := l.map fun b => Value.int .u8 b.toNat
theorem bytesV_append (a b : List UInt8) : bytesV (a ++ b) = bytesV a ++ bytesV b := List.map_append
theorem bytesV_len (l : List UInt8) : (bytesV l).length = l.length := List.length_map _
theorem bytesV_one (l : List UInt8) : ∀ u ∈ bytesV l, u.oneCell' = true := by
  intro u hu
  obtain ⟨b, _, rfl⟩ := List.mem_map.1 hu
  rfl
theorem strCells_txt (l : List UInt8) : Lib.strCells (txt l) = bytesV l := rfl

/-- The bytes l, in a block of its own from base on, or nil. -/
def Buf (w : World) (base : Nat) (v : Value) (l : List UInt8) : Prop := w.ownsRow base 5 1 v l.length (bytesV l)
theorem Buf.nil (w : World) (base : Nat) : Buf w base (.slice none 0 0) [] := World.ownsRow_nil w base 5 1
theorem Buf.is {w : World} {base : Nat} {v : Value} {l : List UInt8} (h : Buf w base v l) : ∃ a c, v = .slice a l.length c := by
  rcases h.2 with ⟨rfl, hl⟩ | ⟨g, cap, cur, rfl, _⟩
  · exact ⟨none, 0, by rw [hl]⟩
  · exact ⟨_, _, rfl⟩
theorem Buf.kept {w w' : World} {base : Nat} {v : Value} {l : List UInt8} (h : Buf w base v l) (hb : Below w.heap.size w w') : Buf w' base v l := own_below h hb
theorem Buf.alloc {w : World} {base : Nat} {v : Value} {l : List UInt8} (h : Buf w base v l) (o : Obj) : Buf (w.alloc o) base v l := World.ownsRow.alloc h o
theorem Buf.drew {w : World} {base : Nat} {v : Value} {l : List UInt8} (h : Buf w base v l) : Buf w.drew base v l := h
/-- A store into a block that isn't one of bytes. -/
theorem Buf.setCell {w : World} {base : Nat} {v : Value} {l : List UInt8} (h : Buf w base v l) {p : Addr} (hp : p.block < base) (u : Value) : Buf (w.setCell p u) base v l := ownsRow_setCell_below h hp u

theorem Buf.conv {w : World} {base : Nat} {v : Value} {l : List UInt8} (h : Buf w base v l) : (convert 45 9 v).run Tryd.prog w = .ok (.string (txt l)) w := by
  have h0 : w.ownsRow base 5 1 v l.length (bytesV l) := h
  rcases h.2 with ⟨rfl, hl⟩ | ⟨g, cap, cur, rfl, hg, hh, hn, hcap, hsz, htake⟩
  · obtain rfl := List.length_eq_zero_iff.1 hl
    exact run_convert_bytes_nil (P := Tryd.prog) w 45 5 Tryd.underlying45 Tryd.underlying5 0 0 9 Tryd.underlying9
  · refine run_convert_bytes_back (P := Tryd.prog) w 45 9 5 ⟨g, 0, none⟩ cap l Tryd.underlying45 Tryd.underlying5 Tryd.underlying9 (fun j hj => ?_)
    rw [WideShapes.add_plain, Nat.zero_add, h0.cellAt j (by omega)]
    simp [bytesV, hj]

/-- What an append leaves: below base all is as it was, and each block of another type. -/
structure Kept (base : Nat) (w w' : World) : Prop where
  below : Below base w w'
  other : ∀ (B : Nat) cs fz (t : TypeId), t ≠ 5 → w.heap[B]? = some (Obj.cells cs t fz) → w'.heap[B]? = some (Obj.cells cs t fz)
theorem Kept.refl (base : Nat) (w : World) : Kept base w w := ⟨Below.refl _ _, fun _ _ _ _ _ h => h⟩
theorem Kept.trans {base : Nat} {a b c : World} (h : Kept base a b) (k : Kept base b c) : Kept base a c :=
  ⟨h.below.trans k.below, fun B cs fz t ht e => k.other B cs fz t ht (h.other B cs fz t ht e)⟩
theorem Kept.alloc {base : Nat} {w : World} (hb : base ≤ w.heap.size) (o : Obj) : Kept base w (w.alloc o) :=
  ⟨(Below.refl _ _).alloc hb o, fun B cs fz t _ e => by
    rw [Below.heap_alloc w o B (Array.getElem?_eq_some_iff.1 e).1]; exact e⟩
theorem kept_grown {w w' : World} {base : Nat} {v : Value} {l : List UInt8} (h : Buf w base v l) (hb : base ≤ w.heap.size) (hg : w.grownBy w' v.ownBlock) : Kept base w w' := by
  refine ⟨(Below.refl _ _).grown hg hb (fun k hk => (h.lt k hk).1), fun B cs fz t ht e => ?_⟩
  rw [hg.block B (Array.getElem?_eq_some_iff.1 e).1 (fun hB => ?_)]; exact e
  rcases h.2 with ⟨rfl, _⟩ | ⟨g, cap, cur, rfl, _, hh, _⟩
  · cases hB
  · have hB' : B = g := Option.some.inj hB
    subst hB'
    rw [hh] at e
    obtain ⟨-, h2, -⟩ := Obj.cells.inj (Option.some.inj e)
    exact ht h2.symm
theorem Kept.buf_cell {base : Nat} {w w' : World} (h : Kept base w w') {B : Nat} {cs : Array Value} {t : TypeId} {fz : Nat × Nat} (ht : t ≠ 5) (hB : w.heap[B]? = some (Obj.cells cs t fz)) {o : Nat} : w'.cell? ⟨B, o, none⟩ = w.cell? ⟨B, o, none⟩ :=
  World.cell?_of_block (by rw [h.other B cs fz t ht hB, hB])
theorem Kept.buf_frozen {base : Nat} {w w' : World} (h : Kept base w w') {B : Nat} {cs : Array Value} {t : TypeId} {fz : Nat × Nat} (ht : t ≠ 5) (hB : w.heap[B]? = some (Obj.cells cs t fz)) {o : Nat} : w'.frozen? ⟨B, o, none⟩ = w.frozen? ⟨B, o, none⟩ :=
  World.frozen?_of_block (by rw [h.other B cs fz t ht hB, hB])

/-- An append of bytes that lie in memory. -/
theorem wp_put {w : World} {ops : Array Oper} {rest : List Oper} {o : Oper} {a : Act} {Q : Exit → Act → World → Prop} (hgd : o.guard = none) (s x : Operand)
    (ho : o.op = .call { callee := .builtin .append, args := #[s, x], argTypes := #[45, 45] })
    {base : Nat} {v : Value} {l : List UInt8} (hs : a.eval s = v) (hbuf : Buf w base v l)
    (ad : Addr) (m c : Nat) (hx : a.eval x = .slice (some ad) m c) (news : List UInt8) (hm : m = news.length) (hnews : ∀ j u, (bytesV news)[j]? = some u → w.cell? (ad.add j) = some u)
    (hlen : l.length + news.length ≤ 140737488355328) (hbase : base ≤ w.heap.size)
    (h : ∀ v' w', Buf w' base v' (l ++ news) → Kept base w w' → wpList Tryd.prog ops Q rest (a.put o.dst v') w') : wpList Tryd.prog ops Q (o :: rest) a w := by
  obtain ⟨i0, hi, hz0, hz1, hz2⟩ := info_parts info5c
  refine wpList_append_own w hgd s x 45 ho base 5 i0 (.int .u8 0) 1 1 Tryd.underlying45 hi hz0 hz1 hz2 rfl (by decide) v l.length (bytesV l) hs hbuf ad m c (bytesV news) hx (by rw [bytesV_len, hm, Nat.mul_one]) hnews (bytesV_one news) (by unfold maxLen; omega) (by omega) hbase ?_
  intro v' w' hown hgrow _
  refine h v' w' ?_ (kept_grown hbuf hbase hgrow)
  unfold Buf
  rw [List.length_append, bytesV_append, ← hm]
  exact hown
/-- An append of one byte that was just laid in a block of its own. -/
theorem wp_put1 {w : World} {ops : Array Oper} {rest : List Oper} {o : Oper} {a : Act} {Q : Exit → Act → World → Prop} (hgd : o.guard = none) (s x : Operand)
    (ho : o.op = .call { callee := .builtin .append, args := #[s, x], argTypes := #[45, 45] })
    {base : Nat} {v : Value} {l : List UInt8} (hs : a.eval s = v) (hbuf : Buf w base v l)
    (B : Nat) (hx : a.eval x = .slice (some ⟨B, 0, none⟩) 1 1) (b : UInt8) {n : Int} (hnews : w.cell? ⟨B, 0, none⟩ = some (.int .u8 n)) (hn : n = b.toNat)
    (hlen : l.length + 1 ≤ 140737488355328) (hbase : base ≤ w.heap.size)
    (h : ∀ v' w', Buf w' base v' (l ++ [b]) → Kept base w w' → wpList Tryd.prog ops Q rest (a.put o.dst v') w') : wpList Tryd.prog ops Q (o :: rest) a w := by
  refine wp_put hgd s x ho hs hbuf ⟨B, 0, none⟩ 1 1 hx [b] rfl ?_ hlen hbase h
  intro j u hj
  match j, hj with
  | 0, hj =>
    obtain rfl := Option.some.inj hj
    rw [WideShapes.add_plain]
    show w.cell? ⟨B, 0, none⟩ = some (.int .u8 (b.toNat : Int))
    rw [← hn]; exact hnews
  | j + 1, hj => simp [bytesV] at hj
/-- An append of a text. -/
theorem wp_puts {w : World} {ops : Array Oper} {rest : List Oper} {o : Oper} {a : Act} {Q : Exit → Act → World → Prop} (hgd : o.guard = none) (s x : Operand)
    (ho : o.op = .call { callee := .builtin .append, args := #[s, x], argTypes := #[45, 9] })
    {base : Nat} {v : Value} {l : List UInt8} (hs : a.eval s = v) (hbuf : Buf w base v l)
    (t : List UInt8) (hx : a.eval x = .string (txt t)) (hlen : l.length + t.length ≤ 140737488355328) (hbase : base ≤ w.heap.size)
    (h : ∀ v' w', Buf w' base v' (l ++ t) → Kept base w w' → wpList Tryd.prog ops Q rest (a.put o.dst v') w') : wpList Tryd.prog ops Q (o :: rest) a w := by
  obtain ⟨i0, hi, hz0, hz1, hz2⟩ := info_parts info5c
  have ht : (txt t).size = t.length := txt_size t
  refine Lib.wpList_append_own_string w hgd s x 45 9 ho base 5 i0 Tryd.underlying45 Tryd.underlying9 hi hz0 hz1 hz2 v l.length (bytesV l) hs hbuf (txt t) hx (by unfold maxLen; omega) (by omega) hbase ?_
  intro v' w' hown hgrow _
  refine h v' w' ?_ (kept_grown hbuf hbase hgrow)
  unfold Buf
  rw [List.length_append, bytesV_append, ← ht]
  exact hown
end Go.Proofs.YtfjhkchkiacfpaaDoor
