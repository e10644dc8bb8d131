/- The project's Words: whatever the bytes, the words or the first fault as they are said plainly: a contract of the call, in whatever memory. Conditions: what strconv.ErrRange holds is an error. -/
import Derived.Test.YtfjhkchkiacfpaaDoorNe
namespace Go.Proofs.YtfjhkchkiacfpaaDoor
open Go.RowKit

theorem infoWd : (Tryd.prog.info? 30).map (fun i => (i.zero, i.size, i.bytes)) = some (some (.agg #[.int .i64 0, .string ⟨#[]⟩, .int .u64 0, .int .i64 0]), 4, 40) := by kernel_rfl

def wdCells (ws : List Wd) : List Value := ws.flatMap fun x => [.int .i64 (x.k : Nat), .string (txt x.s), .int .u64 (x.n : Nat), .int .i64 (x.p : Nat)]
theorem wdCells_snoc (ws : List Wd) (x : Wd) : wdCells (ws ++ [x]) = wdCells ws ++ [.int .i64 (x.k : Nat), .string (txt x.s), .int .u64 (x.n : Nat), .int .i64 (x.p : Nat)] := by simp [wdCells]
theorem wdCells_len : ∀ ws, (wdCells ws).length = ws.length * 4
  | [] => rfl
  | x :: ws => by
    have := wdCells_len ws
    show (wdCells ws).length + 4 = _
    rw [this, List.length_cons]; omega
theorem wdCells_at : ∀ (ws : List Wd) (i : Nat) (h : i < ws.length), (wdCells ws)[i * 4]? = some (.int .i64 (ws[i].k : Nat)) ∧ (wdCells ws)[i * 4 + 1]? = some (.string (txt ws[i].s)) ∧ (wdCells ws)[i * 4 + 2]? = some (.int .u64 (ws[i].n : Nat)) ∧ (wdCells ws)[i * 4 + 3]? = some (.int .i64 (ws[i].p : Nat))
  | x :: ws, 0, _ => ⟨rfl, rfl, rfl, rfl⟩
  | x :: ws, i + 1, h => by
    have := wdCells_at ws i (by simpa using h)
    have e : wdCells (x :: ws) = [.int .i64 (x.k : Nat), .string (txt x.s), .int .u64 (x.n : Nat), .int .i64 (x.p : Nat)] ++ wdCells ws := rfl
    have g : ∀ d, (wdCells (x :: ws))[(i + 1) * 4 + d]? = (wdCells ws)[i * 4 + d]? := fun d => by
      rw [e, List.getElem?_append_right (by simp; omega)]
      congr 1
      simp; omega
    exact ⟨(g 0).trans this.1, (g 1).trans this.2.1, (g 2).trans this.2.2.1, (g 3).trans this.2.2.2⟩

/-- The words, in a block of their own from base on, or nil. -/
structure OwnW (w : World) (base : Nat) (v : Value) (ws : List Wd) : Prop where
  out : w.ownsRow base 30 4 v ws.length (wdCells ws)
theorem OwnW.nil (w : World) (base : Nat) : OwnW w base (.slice none 0 0) [] := ⟨World.ownsRow_nil _ _ _ _⟩
theorem OwnW.alloc {w : World} {base : Nat} {v : Value} {ws : List Wd} (h : OwnW w base v ws) (o : Obj) : OwnW (w.alloc o) base v ws := ⟨World.ownsRow.alloc h.out o⟩
theorem OwnW.kept {w w' : World} {base : Nat} {v : Value} {ws : List Wd} (h : OwnW w base v ws) (hb : Below w.heap.size w w') : OwnW w' base v ws := ⟨own_below h.out hb⟩
/-- Words that lie somewhere. -/
def WdAt (w : World) (a : Option Addr) (ws : List Wd) : Prop := ws ≠ [] → ∃ b o, a = some ⟨b, o, none⟩ ∧ ∀ i (h : i < ws.length), w.cell? ⟨b, o + i * 4, none⟩ = some (.int .i64 (ws[i].k : Nat)) ∧ w.cell? ⟨b, o + i * 4 + 1, none⟩ = some (.string (txt ws[i].s)) ∧ w.cell? ⟨b, o + i * 4 + 2, none⟩ = some (.int .u64 (ws[i].n : Nat)) ∧ w.cell? ⟨b, o + i * 4 + 3, none⟩ = some (.int .i64 (ws[i].p : Nat))
theorem OwnW.row {w : World} {base : Nat} {v : Value} {ws : List Wd} (h : OwnW w base v ws) : ∃ a c, v = .slice a ws.length c ∧ WdAt w a ws := by
  have h0 := h.out
  obtain ⟨_, hcase⟩ := h.out
  rcases hcase with ⟨rfl, hl⟩ | ⟨g, cap', cur, rfl, hg, hh, hn, hcap, hsz, htake⟩
  · exact ⟨none, 0, by rw [hl], fun hne => absurd (List.length_eq_zero_iff.1 hl) hne⟩
  · refine ⟨some ⟨g, 0, none⟩, cap', rfl, fun _ => ⟨g, 0, rfl, fun i hi => ?_⟩⟩
    obtain ⟨h1, h2, h3, h4⟩ := wdCells_at ws i hi
    rw [Nat.zero_add]
    exact ⟨(h0.cellAt _ (by omega)).trans h1, (h0.cellAt _ (by omega)).trans h2, (h0.cellAt _ (by omega)).trans h3, (h0.cellAt _ (by omega)).trans h4⟩
theorem OwnW.row0 {w : World} {base : Nat} {v : Value} {ws : List Wd} (h : OwnW w base v ws) (hne : ws ≠ []) : ∃ g c, v = .slice (some ⟨g, 0, none⟩) ws.length c ∧ ∀ j u, (wdCells ws)[j]? = some u → w.cell? ⟨g, j, none⟩ = some u := by
  have h0 := h.out
  obtain ⟨_, hcase⟩ := h.out
  rcases hcase with ⟨rfl, hl⟩ | ⟨g, cap', cur, rfl, hg, hh, hn, hcap, hsz, htake⟩
  · exact absurd (List.length_eq_zero_iff.1 hl) hne
  · exact ⟨g, cap', rfl, fun j u hj => (h0.cellAt _ (by have := (List.getElem?_eq_some_iff.1 hj).1; rw [wdCells_len] at this; omega)).trans hj⟩
theorem WdAt.later {w w' : World} {a : Option Addr} {ws : List Wd} (h : WdAt w a ws) (hb : Below w.heap.size w w') : WdAt w' a ws := fun hne => by
  obtain ⟨b, o, e, hc⟩ := h hne
  exact ⟨b, o, e, fun i hi => ⟨cell_later hb (hc i hi).1, cell_later hb (hc i hi).2.1, cell_later hb (hc i hi).2.2.1, cell_later hb (hc i hi).2.2.2⟩⟩

/-- An append of one word, laid in a block of its own first. -/
theorem wp_word1 {w : World} {ops : Array Oper} {rest : List Oper} {o : Oper} {a : Act} {Q : Exit → Act → World → Prop} (hgd : o.guard = none) (s x : Operand)
    (ho : o.op = .call { callee := .builtin .append, args := #[s, x], argTypes := #[24, 24] })
    {base : Nat} {v : Value} {ws : List Wd} (hs : a.eval s = v) (hown : OwnW w base v ws)
    (e : Wd) (B : Nat) (hx : a.eval x = .slice (some ⟨B, 0, none⟩) 1 1) (h0 : w.cell? ⟨B, 0, none⟩ = some (.int .i64 (e.k : Nat))) (h1 : w.cell? ⟨B, 1, none⟩ = some (.string (txt e.s))) (h2 : w.cell? ⟨B, 2, none⟩ = some (.int .u64 (e.n : Nat))) (h3 : w.cell? ⟨B, 3, none⟩ = some (.int .i64 (e.p : Nat)))
    (hlen : (ws.length + 1) * 40 ≤ 140737488355328) (hbase : base ≤ w.heap.size)
    (h : ∀ v' w', OwnW w' base v' (ws ++ [e]) → Below base w w' → wpList Tryd.prog ops Q rest (a.put o.dst v') w') : wpList Tryd.prog ops Q (o :: rest) a w := by
  obtain ⟨i0, hi, hz0, hz1, hz2⟩ := info_parts infoWd
  refine wpList_append_own w hgd s x 24 ho base 30 i0 (.agg #[.int .i64 0, .string ⟨#[]⟩, .int .u64 0, .int .i64 0]) 4 40 Tryd.underlying24 hi hz0 hz1 hz2 rfl (by decide) v ws.length (wdCells ws) hs hown.out ⟨B, 0, none⟩ 1 1 [.int .i64 (e.k : Nat), .string (txt e.s), .int .u64 (e.n : Nat), .int .i64 (e.p : Nat)] hx rfl ?_ ?_ (by unfold maxLen; omega) hlen hbase ?_
  · intro j u hj
    match j, hj with
    | 0, hj => simp at hj; subst hj; rw [WideShapes.add_plain]; exact h0
    | 1, hj => simp at hj; subst hj; rw [WideShapes.add_plain]; exact h1
    | 2, hj => simp at hj; subst hj; rw [WideShapes.add_plain]; exact h2
    | 3, hj => simp at hj; subst hj; rw [WideShapes.add_plain]; exact h3
    | j + 4, hj => simp at hj
  · intro u hu; simp at hu; rcases hu with rfl | rfl | rfl | rfl <;> rfl
  · intro v' w' hown' hgrow _
    refine h v' w' ⟨?_⟩ ((Below.refl _ _).grown hgrow hbase (fun k hk => (hown.out.lt k hk).1))
    rw [wdCells_snoc, List.length_append]
    exact hown'

/-! ### The rounds -/
theorem lexM_end (f i : Nat) (acc : List Wd) : lexM f i [] acc = .ok acc := by cases f <;> rfl
theorem lexM_blank (f i : Nat) (r : List UInt8) (acc : List Wd) : lexM (f + 1) i (32 :: r) acc = lexM f (i + 1) r acc := by simp [lexM]
theorem lexM_syn {f i : Nat} {c : UInt8} {r : List UInt8} {acc : List Wd} (h : c ≠ 32) (h0 : (wordM (c :: r)).2 = 0) : lexM (f + 1) i (c :: r) acc = .syn i := by simp [lexM, h, h0]
theorem lexM_long {f i : Nat} {c : UInt8} {r : List UInt8} {acc : List Wd} (h : c ≠ 32) (h0 : (wordM (c :: r)).2 ≠ 0) (h1 : acc.length = 512) : lexM (f + 1) i (c :: r) acc = .long i := by simp [lexM, h, h0, h1]
theorem lexM_more {f i : Nat} {c : UInt8} {r : List UInt8} {acc : List Wd} (h : c ≠ 32) (h0 : (wordM (c :: r)).2 ≠ 0) (h1 : acc.length ≠ 512) : lexM (f + 1) i (c :: r) acc = lexM f (i + (wordM (c :: r)).2) ((c :: r).drop (wordM (c :: r)).2) (acc ++ [(wordM (c :: r)).1.put i]) := by simp [lexM, h, h0, h1]
/-- How far a command has been read. -/
structure LexTo (l : List UInt8) (i : Nat) (acc : List Wd) : Prop where
  out : ∃ f, l.length < f + i ∧ lexM f i (l.drop i) acc = lexR l
  few : acc.length ≤ 512
theorem LexTo.start {l : List UInt8} (h : l.length ≤ 2048) : LexTo l 0 [] := ⟨⟨l.length + 1, by omega, by unfold lexR; rw [if_neg (by omega)]; rfl⟩, by simp⟩
theorem LexTo.end {l : List UInt8} {i : Nat} {acc : List Wd} (h : LexTo l i acc) (hi : l.length ≤ i) : lexR l = .ok acc := by
  obtain ⟨f, _, e⟩ := h.out
  rw [← e, List.drop_eq_nil_of_le hi, lexM_end]
theorem LexTo.at {l : List UInt8} {i : Nat} {acc : List Wd} (h : LexTo l i acc) (hi : i < l.length) : ∃ f, l.length < f + 1 + i ∧ lexM (f + 1) i (l[i] :: l.drop (i + 1)) acc = lexR l := by
  obtain ⟨f, hf, e⟩ := h.out
  cases f with
  | zero => omega
  | succ f => exact ⟨f, hf, by rw [← e, List.drop_eq_getElem_cons hi]⟩
theorem LexTo.blank {l : List UInt8} {i : Nat} {acc : List Wd} (h : LexTo l i acc) (hi : i < l.length) (hc : l[i] = 32) : LexTo l (i + 1) acc := by
  obtain ⟨f, hf, e⟩ := h.at hi
  rw [hc, lexM_blank] at e
  exact ⟨⟨f, by omega, e⟩, h.few⟩
theorem LexTo.syn {l : List UInt8} {i : Nat} {acc : List Wd} (h : LexTo l i acc) (hi : i < l.length) (hc : l[i] ≠ 32) (h0 : (wordM (l.drop i)).2 = 0) : lexR l = .syn i := by
  obtain ⟨f, hf, e⟩ := h.at hi
  rw [List.drop_eq_getElem_cons hi] at h0
  rw [← e, lexM_syn hc h0]
theorem LexTo.long {l : List UInt8} {i : Nat} {acc : List Wd} (h : LexTo l i acc) (hi : i < l.length) (hc : l[i] ≠ 32) (h0 : (wordM (l.drop i)).2 ≠ 0) (h1 : acc.length = 512) : lexR l = .long i := by
  obtain ⟨f, hf, e⟩ := h.at hi
  rw [List.drop_eq_getElem_cons hi] at h0
  rw [← e, lexM_long hc h0 h1]
theorem LexTo.more {l : List UInt8} {i : Nat} {acc : List Wd} (h : LexTo l i acc) (hi : i < l.length) (hc : l[i] ≠ 32) (h0 : (wordM (l.drop i)).2 ≠ 0) (h1 : acc.length ≠ 512) : LexTo l (i + (wordM (l.drop i)).2) (acc ++ [(wordM (l.drop i)).1.put i]) := by
  obtain ⟨f, hf, e⟩ := h.at hi
  have hd := List.drop_eq_getElem_cons hi
  rw [hd] at h0
  rw [lexM_more hc h0 h1, ← hd, List.drop_drop] at e
  rw [← hd] at h0
  exact ⟨⟨f, by omega, e⟩, by have := h.few; simp; omega⟩
end Go.Proofs.YtfjhkchkiacfpaaDoor
