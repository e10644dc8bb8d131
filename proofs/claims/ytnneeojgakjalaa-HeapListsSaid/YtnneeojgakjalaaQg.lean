/- The reference of layer 5: putting: a contract of the call, in whatever memory. Conditions: the slots' cells are known. -/
import Derived.Test.YtnneeojgakjalaaQf
namespace Go.Proofs.Ytnneeojgakjalaa
open Go.RowKit

def putP (p : Pg) (d : List UInt8) : Pg := if fitsB p d.length then putR p d else p
def putI (p : Pg) (d : List UInt8) : Nat := if fitsB p d.length then placeP p else 0
def putE (p : Pg) (d : List UInt8) : Int := if rightB p then (if fitsB p d.length then 0 else 17) else 1
theorem put_wrong {p : Pg} (d : List UInt8) (h : rightB p = false) : putP p d = p ∧ putI p d = 0 ∧ putE p d = 1 := by
  have hf : fitsB p d.length = false := by unfold fitsB; rw [h]; rfl
  unfold putP putI putE
  rw [h, hf]; exact ⟨rfl, rfl, rfl⟩
theorem put_full {p : Pg} {d : List UInt8} (h : rightB p = true) (hf : fitsB p d.length = false) : putP p d = p ∧ putI p d = 0 ∧ putE p d = 17 := by
  unfold putP putI putE
  rw [h, hf]; exact ⟨rfl, rfl, rfl⟩
theorem put_done {p : Pg} {d : List UInt8} (hf : fitsB p d.length = true) : putP p d = putR p d ∧ putI p d = placeP p ∧ putE p d = 0 := by
  have h : rightB p = true := ((rightB_iff p).2 ((fitsB_iff p _).1 hf).1)
  unfold putP putI putE
  rw [h, hf]; exact ⟨rfl, rfl, rfl⟩

/-- The memory at a' is new since w, or it is the argument's. -/
def Away (w : World) (a : Option Addr) (p : Pg) (a' : Option Addr) (q : Pg) : Prop := (a' = a ∧ q = p) ∨ ∀ b off, a' = some ⟨b, off, none⟩ → w.heap.size ≤ b
theorem away_new {w : World} {a : Option Addr} {p q : Pg} {g off : Nat} (h : w.heap.size ≤ g) : Away w a p (some ⟨g, off, none⟩) q := .inr (fun b o e => by
  obtain ⟨rfl, rfl⟩ : g = b ∧ off = o := by simpa using e
  exact h)
/-- What Put must answer. -/
def PutAns (w : World) (a : Option Addr) (p : Pg) (d : List UInt8) (e : Ending) (w' : World) : Prop :=
  (∃ a' c q, e = .returned (.tuple #[.agg #[.slice a' q.length c], .int .i64 (putI p d : Nat), .int .i64 (putE p d)]) ∧ q.length ≤ c ∧ SlotsAt w' a' q ∧ q = putP p d ∧ Away w a p a' q) ∧ Below w.heap.size w w'

theorem slotCells_append (p q : Pg) : slotCells (p ++ q) = slotCells p ++ slotCells q := by simp [slotCells]
theorem slotCells_set : ∀ (p : Pg) (i : Nat) (s : Slot), slotCells (p.set i s) = ((slotCells p).set (i * 2) (.bool s.1)).set (i * 2 + 1) (.string (txt s.2))
  | [], i, s => by simp [slotCells]
  | t :: p, 0, s => rfl
  | t :: p, i + 1, s => by
    have h := slotCells_set p i s
    have e : ∀ (q : Pg) (t : Slot), slotCells (t :: q) = Value.bool t.1 :: Value.string (txt t.2) :: slotCells q := fun q t => rfl
    rw [List.set_cons_succ, e, e, h, show (i + 1) * 2 = i * 2 + 1 + 1 by omega, show (i * 2 + 1 + 1) + 1 = (i * 2 + 1) + 1 + 1 by omega]
    simp only [List.set_cons_succ]

/-- A variable of one cell, in a block of its own. -/
structure VarAt (w : World) (B : Nat) (v : Value) : Prop where
  cell : w.cell? ⟨B, 0, none⟩ = some v
  frz : w.frozen? ⟨B, 0, none⟩ = false
theorem VarAt.lt {w : World} {B : Nat} {v : Value} (h : VarAt w B v) : B < w.heap.size := World.block_lt_of_cell? _ _ h.cell
theorem VarAt.later {w w' : World} {B : Nat} {v : Value} (h : VarAt w B v) (hb : Below w.heap.size w w') : VarAt w' B v :=
  ⟨cell_later hb h.cell, (hb.frozen (p := ⟨B, 0, none⟩) h.lt).trans h.frz⟩
theorem VarAt.set {w : World} {B : Nat} {v : Value} (h : VarAt w B v) (u : Value) : VarAt (w.setCell ⟨B, 0, none⟩ u) B u :=
  ⟨World.cell?_setCell_same _ _ _ h.cell, by rw [World.frozen?_setCell]; exact h.frz⟩
theorem VarAt.other {w : World} {B : Nat} {v : Value} (h : VarAt w B v) (a : Addr) (u : Value) (ha : a.block ≠ B) : VarAt (w.setCell a u) B v :=
  ⟨by rw [World.cell?_setCell_other _ _ _ _ (fun e => ha (by rw [e]))]; exact h.cell, by rw [World.frozen?_setCell]; exact h.frz⟩
theorem VarAt.new (w : World) (v : Value) (t : TypeId) : VarAt (w.alloc (Obj.cells #[v] t)) w.heap.size v := ⟨by go_cell, World.frozen?_alloc_at _ _ _ _ rfl⟩
theorem VarAt.alloc {w : World} {B : Nat} {v : Value} (h : VarAt w B v) (o : Obj) : VarAt (w.alloc o) B v := h.later ((Below.refl _ _).alloc (Nat.le_refl _) _)

theorem VarAt.below {w w' : World} {B base : Nat} {v : Value} (h : VarAt w B v) (hb : Below base w w') (hlt : B < base) : VarAt w' B v :=
  ⟨(hb.cell (p := ⟨B, 0, none⟩) hlt).trans h.cell, (hb.frozen (p := ⟨B, 0, none⟩) hlt).trans h.frz⟩
theorem OwnS.alloc {w : World} {base : Nat} {v : Value} {p : Pg} (h : OwnS w base v p) (o : Obj) : OwnS (w.alloc o) base v p := ⟨World.ownsRow.alloc h.out o⟩
theorem OwnS.drew {w : World} {base : Nat} {v : Value} {p : Pg} (h : OwnS w base v p) : OwnS w.drew base v p := ⟨h.out⟩
/-- Where the slots lie, if there are any. -/
theorem OwnS.form {w : World} {base : Nat} {v : Value} {p : Pg} (h : OwnS w base v p) (hp : 0 < p.length) : ∃ g c, v = .slice (some ⟨g, 0, none⟩) p.length c ∧ base ≤ g ∧ p.length ≤ c ∧ (∀ j, w.frozen? ⟨g, j, none⟩ = false) ∧ (∀ i (h : i < p.length), w.cell? ⟨g, i * 2, none⟩ = some (.bool (p[i]).1) ∧ w.cell? ⟨g, i * 2 + 1, none⟩ = some (.string (txt (p[i]).2))) := by
  have h0 := h.out
  rcases h.out.2 with ⟨_, hl⟩ | ⟨g, cap', cur, rfl, hg, hh, hn, hcap, hsz, htake⟩
  · omega
  · refine ⟨g, cap', rfl, hg, hn, fun j => World.ownsRow.frozenAt h0 j, fun i hi => ?_⟩
    obtain ⟨h1, h2⟩ := slotCells_at p i hi
    exact ⟨(h0.cellAt _ (by omega)).trans h1, (h0.cellAt _ (by omega)).trans h2⟩
/-- A slot written anew. -/
theorem OwnS.write {w : World} {base g c : Nat} {p : Pg} (h : OwnS w base (.slice (some ⟨g, 0, none⟩) p.length c) p) (i : Nat) (s : Slot) :
    OwnS ((w.setCell ⟨g, i * 2, none⟩ (.bool s.1)).setCell ⟨g, i * 2 + 1, none⟩ (.string (txt s.2))) base (.slice (some ⟨g, 0, none⟩) (p.set i s).length c) (p.set i s) := by
  have h1 := (World.ownsRow.stored h.out (i * 2) (.bool s.1)).1
  have h2 := (World.ownsRow.stored h1 (i * 2 + 1) (.string (txt s.2))).1
  refine ⟨?_⟩
  rw [slotCells_set, List.length_set]
  exact h2
theorem OwnS.slots {w : World} {base n c : Nat} {a : Option Addr} {p : Pg} (h : OwnS w base (.slice a n c) p) : SlotsAt w a p := by
  obtain ⟨a', c', e, _, _, hs⟩ := slots_owned h
  obtain ⟨rfl, -, -⟩ := Value.slice.inj e
  exact hs
theorem OwnS.away {w w0 : World} {base n c : Nat} {a a0 : Option Addr} {p q q0 : Pg} (h : OwnS w base (.slice a n c) p) (hb : w0.heap.size ≤ base) : Away w0 a0 q0 a q := by
  rcases h.out.2 with ⟨e, _⟩ | ⟨g, cap', cur, e, hg, _⟩
  · obtain ⟨rfl, -, -⟩ := Value.slice.inj e
    exact .inr (fun b off e => by cases e)
  · obtain ⟨rfl, -, -⟩ := Value.slice.inj e
    exact away_new (by omega)
/-- An append of one slot, laid in a block of its own first. -/
theorem wp_slot1 {w : World} {ops : Array Oper} {rest : List Oper} {o : Oper} {a : Act} {Q : Exit → Act → World → Prop} (hgd : o.guard = none) (s x : Operand)
    (ho : o.op = .call { callee := .builtin .append, args := #[s, x], argTypes := #[60, 60] })
    {base : Nat} {v : Value} {E : Pg} (hs : a.eval s = v) (hown : OwnS w base v E)
    (e : Slot) (B : Nat) (hx : a.eval x = .slice (some ⟨B, 0, none⟩) 1 1) (h0 : w.cell? ⟨B, 0, none⟩ = some (.bool e.1)) (h1 : w.cell? ⟨B, 1, none⟩ = some (.string (txt e.2)))
    (hlen : (E.length + 1) * 24 ≤ 140737488355328) (hbase : base ≤ w.heap.size)
    (h : ∀ v' w', OwnS w' base v' (E ++ [e]) → Below base w w' → wpList Try.prog ops Q rest (a.put o.dst v') w') : wpList Try.prog ops Q (o :: rest) a w := by
  obtain ⟨i0, hi, hz0, hz1, hz2⟩ := info_parts info52
  refine wpList_append_own w hgd s x 60 ho base 77 i0 (.agg #[.bool false, .string ⟨#[]⟩]) 2 24 Try.underlying60 hi hz0 hz1 hz2 rfl (by decide) v E.length (slotCells E) hs hown.out ⟨B, 0, none⟩ 1 1 [.bool e.1, .string (txt e.2)] hx rfl ?_ ?_ (by unfold maxLen; omega) hlen hbase ?_
  · intro j u hj
    match j, hj with
    | 0, hj => simp at hj; subst hj; rw [WideShapes.add_plain]; exact h0
    | 1, hj => simp at hj; subst hj; rw [WideShapes.add_plain]; exact h1
    | j + 2, hj => simp at hj
  · intro u hu; simp at hu; rcases hu with rfl | rfl <;> rfl
  · intro v' w' hown' hgrow _
    refine h v' w' ⟨?_⟩ ((Below.refl _ _).grown hgrow hbase (fun k hk => (hown.out.lt k hk).1))
    rw [slotCells_snoc, List.length_append]
    exact hown'
theorem slot_new (w : World) (u v : Value) (t : TypeId) : (w.alloc (Obj.cells #[u, v] t)).cell? ⟨w.heap.size, 0, none⟩ = some u ∧ (w.alloc (Obj.cells #[u, v] t)).cell? ⟨w.heap.size, 1, none⟩ = some v := ⟨by go_cell, by go_cell⟩

set_option maxHeartbeats 4000000 in
theorem refPut_any (a : Option Addr) (c : Nat) (p : Pg) (d : List UInt8) (w : World) (h : SlotsAt w a p) (hc : p.length ≤ c) (hl : p.length * 24 ≤ 140737488351232) (hs : slotsIn p) :
    Calls Try.prog 29 #[.agg #[.slice a p.length c], .string (txt d)] w (PutAns w a p d) := by
  have A := hid0 h
  have HS := hid0 hs
  have hlm : p.length ≤ maxLen := by unfold maxLen; omega
  have C24 := fun W (hb : Below w.heap.size w W) => refRight_any a c p W (A.out.later hb) hlm HS.out
  have hB0 : Below w.heap.size w ((w.alloc (Obj.cells #[.slice a p.length c] 62)).alloc (Obj.cells #[.slice none 0 0] 62)) := ((Below.refl _ _).alloc (Nat.le_refl _) _).alloc (by simp) _
  cases hr : rightB p with
  | false =>
    obtain ⟨e1, e2, e3⟩ := put_wrong d hr
    unfold PutAns
    rw [e1, e2, e3]
    rw [hr] at C24
    clear hr e1 e2 e3 h hs
    have v0 := (VarAt.new w (.slice a p.length c) 62).alloc (Obj.cells #[.slice none 0 0] 62)
    have v1 := VarAt.new (w.alloc (Obj.cells #[.slice a p.length c] 62)) (.slice none 0 0) 62
    rw [World.size_alloc] at v1
    go_enter Try.func29, Try.ntmps29
    go_wp2_with (go_at_call 42; go_must (refine (C24 _ hB0).mono ?_; rintro e w1 ⟨rfl, hb⟩; obtain ⟨q0, f0⟩ := v0.later hb; obtain ⟨q1, f1⟩ := v1.later hb))
    have x1 := (VarAt.mk q1 f1).set (.slice a p.length c)
    have hB1 := below_through hb hB0.size hB0
    have c0 := x1.cell
    have hB2 := hB1.setCell (p := ⟨w.heap.size + 1, 0, none⟩) (by show w.heap.size ≤ w.heap.size + 1; omega) (.slice a p.length c)
    exact bodyPost_ret (v := .tuple #[.agg #[.slice a p.length c], .int .i64 0, .int .i64 1]) (by simp [results, Try.results29, go_sem, c0]) rfl ⟨⟨a, c, p, rfl, hc, A.out.later hB2, rfl, .inl ⟨rfl, rfl⟩⟩, hB2⟩
  | true =>
    rw [hr] at C24
    have hz : (txt d).size = d.length := txt_size d
    have C26 := fun W (hb : Below w.heap.size w W) => refFits_any a c p d.length W (A.out.later hb) hlm HS.out
    have v0 := (VarAt.new w (.slice a p.length c) 62).alloc (Obj.cells #[.slice none 0 0] 62)
    have v1 := VarAt.new (w.alloc (Obj.cells #[.slice a p.length c] 62)) (.slice none 0 0) 62
    rw [World.size_alloc] at v1
    cases hf : fitsB p d.length with
    | false =>
      obtain ⟨e1, e2, e3⟩ := put_full hr hf
      unfold PutAns
      rw [e1, e2, e3]
      rw [hf] at C26
      clear hr e1 e2 e3 h hs hf
      go_enter Try.func29, Try.ntmps29
      go_wp2_with (first
        | (go_at_call 42; go_must (refine (C24 _ hB0).mono ?_; rintro e w1 ⟨rfl, hb⟩; have y0 := v0.later hb; have y1 := v1.later hb; obtain ⟨q0, f0⟩ := y0; have hB1 := below_through hb hB0.size hB0))
        | (go_at_call 25; go_must (refine (C26 _ hB1).mono ?_; rintro e w2 ⟨rfl, hb2⟩; obtain ⟨r0, g0⟩ := (VarAt.mk q0 f0).later hb2; obtain ⟨r1, g1⟩ := y1.later hb2)))
      have x1 := (VarAt.mk r1 g1).set (.slice a p.length c)
      have hB2 := below_through hb2 hB1.size hB1
      have c0 := x1.cell
      have hB3 := hB2.setCell (p := ⟨w.heap.size + 1, 0, none⟩) (by show w.heap.size ≤ w.heap.size + 1; omega) (.slice a p.length c)
      exact bodyPost_ret (v := .tuple #[.agg #[.slice a p.length c], .int .i64 0, .int .i64 17]) (by simp [results, Try.results29, go_sem, c0]) rfl ⟨⟨a, c, p, rfl, hc, A.out.later hB3, rfl, .inl ⟨rfl, rfl⟩⟩, hB3⟩
    | true =>
      obtain ⟨e1, e2, e3⟩ := put_done hf
      unfold PutAns
      rw [e1, e2, e3]
      rw [hf] at C26
      have C33 := fun W (hb : Below w.heap.size w W) => refPlace_any a c p W (A.out.later hb) hlm
      have C34 := fun W (hb : Below w.heap.size w W) => refWith_any a c p W (A.out.later hb) hl
      clear hr e1 e2 e3 h hs hf
      by_cases he : placeP p = p.length
      · rw [he] at C33
        go_enter Try.func29, Try.ntmps29
        go_wp2_with (first
          | (go_at_call 42; go_must (refine (C24 _ hB0).mono ?_; rintro e w1 ⟨rfl, hb⟩; have y1 := v1.later hb; obtain ⟨q0, f0⟩ := v0.later hb; have hB1 := below_through hb hB0.size hB0; clear C24 v0 v1 hB0 hb))
          | (go_at_call 25; go_must (refine (C26 _ hB1).mono ?_; rintro e w2 ⟨rfl, hb2⟩; obtain ⟨r0, g0⟩ := (VarAt.mk q0 f0).later hb2; have y2 := y1.later hb2; have hB2 := below_through hb2 hB1.size hB1; clear C26 hB1 hb2 y1 q0 f0))
          | (go_at_call 45; go_must (refine (C33 _ hB2).mono ?_; rintro e w3 ⟨rfl, hb3⟩; obtain ⟨s0, k0⟩ := (VarAt.mk r0 g0).later hb3; have y3 := y2.later hb3; have hB3 := below_through hb3 hB2.size hB2; clear C33 hB2 hb3 y2 r0 g0))
          | (go_at_call 52; go_must (refine (C34 _ hB3).mono ?_; rintro e w4 ⟨⟨v, rfl, hown⟩, hb4⟩; obtain ⟨t0, l0⟩ := (VarAt.mk s0 k0).later hb4; have y4 := y3.later hb4; have hB4 := below_through hb4 hB3.size hB3; have hz4 := hB3.size; have hz5 := hb4.size; have hlt3 := y3.lt; obtain ⟨a', c', rfl, hcap, _, hSl⟩ := slots_owned hown; have ho4 := fun u o => (hown.setCell (a := ⟨w.heap.size, 0, none⟩) (by show w.heap.size < w3.heap.size; omega) u).alloc o; have hn4 := fun u => slot_new (w4.setCell ⟨w.heap.size, 0, none⟩ u) (.bool false) (.string ⟨#[]⟩) 77; simp only [World.size_setCell] at hn4; clear C34 hB3 hb4 y3 s0 k0))
          | (at_builtin; go_must (refine wp_slot1 rfl _ _ rfl rfl (ho4 _ _) noS w4.heap.size rfl (hn4 _).1 (hn4 _).2 ?hl ?hb ?_)))
        case hl => omega
        case hb => simp; omega
        intro v5 w5 hown5 hb5
        have u0 := ((((VarAt.mk t0 l0).set (.slice a' p.length c')).alloc (Obj.cells #[.bool false, .string ⟨#[]⟩] 77)).below hb5 (by omega))
        have u1 := (((y4.other ⟨w.heap.size, 0, none⟩ (.slice a' p.length c') (by show w.heap.size ≠ w.heap.size + 1; omega)).alloc (Obj.cells #[.bool false, .string ⟨#[]⟩] 77)).below hb5 (by omega))
        have hB5 : Below w.heap.size w w5 := ((hB4.setCell (p := ⟨w.heap.size, 0, none⟩) (Nat.le_refl _) _).alloc (by simp; omega) _).trans (hb5.mono (by omega))
        obtain ⟨g5, c5, rfl, hg5, hcap5, hf5, hc5⟩ := hown5.form (by simp)
        clear ho4 hn4 hb5 t0 l0 y4 hB4 hown hSl
        obtain ⟨m0, n0⟩ := u0
        obtain ⟨m1, n1⟩ := u1
        have hgne : g5 ≠ w.heap.size := by omega
        have hgne1 : g5 ≠ w.heap.size + 1 := by omega
        have hput : putR p d = (p ++ [noS]).set p.length (true, d) := by
          unfold putR
          rw [if_pos he, List.set_append_right _ _ (Nat.le_refl _), Nat.sub_self]; rfl
        have hfin := ((hown5.setCell (a := ⟨w.heap.size, 0, none⟩) (by show w.heap.size < w3.heap.size; omega) (.slice (some ⟨g5, 0, none⟩) (p.length + 1) c5)).write p.length (true, d)).setCell (a := ⟨w.heap.size + 1, 0, none⟩) (by show w.heap.size + 1 < w3.heap.size; omega) (.slice (some ⟨g5, 0, none⟩) (p.length + 1) c5)
        have hBf := (((hB5.setCell (p := ⟨w.heap.size, 0, none⟩) (Nat.le_refl _) (.slice (some ⟨g5, 0, none⟩) (p.length + 1) c5)).setCell (p := ⟨g5, p.length * 2, none⟩) (by show w.heap.size ≤ g5; omega) (.bool true)).setCell (p := ⟨g5, p.length * 2 + 1, none⟩) (by show w.heap.size ≤ g5; omega) (.string (txt d))).setCell (p := ⟨w.heap.size + 1, 0, none⟩) (by show w.heap.size ≤ w.heap.size + 1; omega) (.slice (some ⟨g5, 0, none⟩) (p.length + 1) c5)
        rw [List.length_append] at hcap5
        have xr := ((((VarAt.mk m1 n1).other ⟨w.heap.size, 0, none⟩ (.slice (some ⟨g5, 0, none⟩) (p.length + 1) c5) (by show w.heap.size ≠ w.heap.size + 1; omega)).other ⟨g5, p.length * 2, none⟩ (.bool true) hgne1).other ⟨g5, p.length * 2 + 1, none⟩ (.string (txt d)) hgne1).set (.slice (some ⟨g5, 0, none⟩) (p.length + 1) c5)
        have c0 := xr.cell
        clear hown5
        go_wp2_with fail
        refine bodyPost_ret (v := .tuple #[.agg #[.slice (some ⟨g5, 0, none⟩) (p.length + 1) c5], .int .i64 p.length, .int .i64 0]) (by simp [results, Try.results29, go_sem, c0]) rfl ⟨⟨some ⟨g5, 0, none⟩, c5, putR p d, ?_, ?_, ?_, by first | rfl | (unfold putR; rw [if_pos he]), away_new (by omega)⟩, hBf⟩
        · rw [hput, List.length_set, List.length_append]; rfl
        · rw [hput, List.length_set, List.length_append]; exact hcap5
        · rw [hput]; exact hfin.slots
      · obtain ⟨k, hk⟩ : ∃ k, placeP p = k := ⟨_, rfl⟩
        have hkl : k < p.length := by have := placeP_le p; omega
        have hput : putR p d = p.set k (true, d) := by
          unfold putR
          rw [if_neg he, hk]
        rw [hk] at C33
        have hki : ¬ (k : Int) = p.length := by omega
        have HK := hid0 hk
        rw [hput, hk]
        clear he hk hput
        go_enter Try.func29, Try.ntmps29
        go_wp2_with (first
          | (go_at_call 42; go_must (refine (C24 _ hB0).mono ?_; rintro e w1 ⟨rfl, hb⟩; have y1 := v1.later hb; obtain ⟨q0, f0⟩ := v0.later hb; have hB1 := below_through hb hB0.size hB0; clear C24 v0 v1 hB0 hb))
          | (go_at_call 25; go_must (refine (C26 _ hB1).mono ?_; rintro e w2 ⟨rfl, hb2⟩; obtain ⟨r0, g0⟩ := (VarAt.mk q0 f0).later hb2; have y2 := y1.later hb2; have hB2 := below_through hb2 hB1.size hB1; clear C26 hB1 hb2 y1 q0 f0))
          | (go_at_call 45; go_must (refine (C33 _ hB2).mono ?_; rintro e w3 ⟨rfl, hb3⟩; obtain ⟨s0, k0⟩ := (VarAt.mk r0 g0).later hb3; have y3 := y2.later hb3; have hB3 := below_through hb3 hB2.size hB2; clear C33 hB2 hb3 y2 r0 g0))
          | (go_at_call 52; go_must (refine (C34 _ hB3).mono ?_; rintro e w4 ⟨⟨v, rfl, hown⟩, hb4⟩; obtain ⟨m0, n0⟩ := (VarAt.mk s0 k0).later hb4; obtain ⟨m1, n1⟩ := y3.later hb4; have hB4 := below_through hb4 hB3.size hB3; have hz4 := hB3.size; have hlt3 := y3.lt; obtain ⟨g5, c5, rfl, hg5, hcap5, hf5, hc5⟩ := hown.form (by omega); have HO := hid0 hown; have hgne : g5 ≠ w.heap.size := (by omega); have hgne1 : g5 ≠ w.heap.size + 1 := (by omega); obtain ⟨hk0, hk1⟩ := hc5 k hkl; clear C34 hB3 hb4 y3 s0 k0 hown hc5)))
        have hfin := ((HO.out.setCell (a := ⟨w.heap.size, 0, none⟩) (by show w.heap.size < w3.heap.size; omega) (.slice (some ⟨g5, 0, none⟩) p.length c5)).write k (true, d)).setCell (a := ⟨w.heap.size + 1, 0, none⟩) (by show w.heap.size + 1 < w3.heap.size; omega) (.slice (some ⟨g5, 0, none⟩) p.length c5)
        have hBf := (((hB4.setCell (p := ⟨w.heap.size, 0, none⟩) (Nat.le_refl _) (.slice (some ⟨g5, 0, none⟩) p.length c5)).setCell (p := ⟨g5, k * 2, none⟩) (by show w.heap.size ≤ g5; omega) (.bool true)).setCell (p := ⟨g5, k * 2 + 1, none⟩) (by show w.heap.size ≤ g5; omega) (.string (txt d))).setCell (p := ⟨w.heap.size + 1, 0, none⟩) (by show w.heap.size ≤ w.heap.size + 1; omega) (.slice (some ⟨g5, 0, none⟩) p.length c5)
        have xr := ((((VarAt.mk m1 n1).other ⟨w.heap.size, 0, none⟩ (.slice (some ⟨g5, 0, none⟩) p.length c5) (by show w.heap.size ≠ w.heap.size + 1; omega)).other ⟨g5, k * 2, none⟩ (.bool true) hgne1).other ⟨g5, k * 2 + 1, none⟩ (.string (txt d)) hgne1).set (.slice (some ⟨g5, 0, none⟩) p.length c5)
        have c0 := xr.cell
        refine bodyPost_ret (v := .tuple #[.agg #[.slice (some ⟨g5, 0, none⟩) p.length c5], .int .i64 k, .int .i64 0]) (by simp [results, Try.results29, go_sem, c0]) rfl ⟨⟨some ⟨g5, 0, none⟩, c5, p.set k (true, d), ?_, ?_, ?_, rfl, away_new (by omega)⟩, hBf⟩
        · rw [List.length_set]
        · rw [List.length_set]; exact hcap5
        · exact hfin.slots
end Go.Proofs.Ytnneeojgakjalaa
