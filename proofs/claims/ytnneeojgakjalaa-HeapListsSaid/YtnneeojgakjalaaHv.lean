/- The walk of the law HeapLists: it returns true, and below the heap's end memory is as it was. Conditions: the pages' cells are known (what came in reads so); the document's example stands. -/
import Derived.Test.YtnneeojgakjalaaHva
import Derived.Lib.MinMax
namespace Go.Proofs.Ytnneeojgakjalaa
open Go.RowKit Go.Shelf

attribute [local go_sem] Oper.semAt_some

theorem KeepT.from_below {T : Nat → Prop} {w W : World} (h : KeepT T w W) {b o : Nat} {v : Value} (hb : T b) (hc : w.cell? ⟨b, o, none⟩ = some v) : W.cell? ⟨b, o, none⟩ = some v := h.cell hb hc
theorem ownFrom_keepT {β : Type} {T : Nat → Prop} {B : Nat} {w0 : World} (hT : ∀ k, T k → k < B) : OwnFrom B (fun (_ : β) W => KeepT T w0 W) :=
  fun _ _ _ _ hs hg hr => hs.trans ⟨hg.size, fun k hk hl => hg.block k hl (fun e => by have h1 := (hr k e.symm).1; have h2 := hT k hk; omega)⟩
theorem ownFrom_pure' {β : Type} {B : Nat} (p : β → Prop) : OwnFrom B (fun x (_ : World) => p x) := fun _ _ _ _ hs _ _ => hs

theorem IdsAt.keepT {T : Nat → Prop} {wr w5 W : World} {a : Option Addr} {L : List At} (h : IdsAt wr a L) (hb : Below wr.heap.size wr w5) (hk : KeepT T w5 W) (hT : ∀ k, k < wr.heap.size → T k) (hn : L ≠ []) : ∃ b, a = some ⟨b, 0, none⟩ ∧ b < wr.heap.size ∧ ∀ i (h : i < L.length), W.cell? ⟨b, i * 2, none⟩ = some (.int .i64 (L[i].1 : Int)) ∧ W.cell? ⟨b, i * 2 + 1, none⟩ = some (.int .i64 (L[i].2.1 : Int)) := by
  obtain ⟨b, e, hc⟩ := h.out hn
  have hb' := fun i (hi : i < L.length) => World.block_lt_of_cell? _ _ (hc i hi).1
  exact ⟨b, e, hb' 0 (List.length_pos_iff.2 hn), fun i hi => ⟨hk.cell (hT _ (hb' i hi)) (cell_later hb (hc i hi).1), hk.cell (hT _ (hb' i hi)) (cell_later hb (hc i hi).2)⟩⟩
theorem StrsAt.keepT {T : Nat → Prop} {wr w5 W : World} {a : Option Addr} {L : List At} (h : StrsAt wr a L) (hb : Below wr.heap.size wr w5) (hk : KeepT T w5 W) (hT : ∀ k, k < wr.heap.size → T k) (hn : L ≠ []) : ∃ b, a = some ⟨b, 0, none⟩ ∧ b < wr.heap.size ∧ ∀ i (h : i < L.length), W.cell? ⟨b, i, none⟩ = some (.string (txt L[i].2.2)) := by
  obtain ⟨b, e, hc⟩ := h.out hn
  have hb' := fun i (hi : i < L.length) => World.block_lt_of_cell? _ _ (hc i hi)
  exact ⟨b, e, hb' 0 (List.length_pos_iff.2 hn), fun i hi => hk.cell (hT _ (hb' i hi)) (cell_later hb (hc i hi))⟩
theorem boxed_keepT {T : Nat → Prop} {wr w5 W : World} {B : Nat} {t : TypeId} {v : Value} (h : Boxed wr B t v) (hb : Below wr.heap.size wr w5) (hk : KeepT T w5 W) (hT : ∀ k, k < wr.heap.size → T k) : Boxed W B t v :=
  (hk.block B (hT B h.lt) (Nat.lt_of_lt_of_le h.lt hb.size)).trans ((hb.block B h.lt).trans h)
theorem ownFrom_box {β : Type} (B0 B : Nat) (t : TypeId) (f : β → Value) : OwnFrom B0 (fun s W => Boxed W B t (f s)) := Own.from (boxed_own B t f) B0
/-- What the loop over all rows keeps: the count, and that what came so far is as it should be. -/
def ListI (B10 : Nat) (L : List At) (s : Nat) (T : Nat → Prop) (n0 : Nat) (w w5 : World) (pre : List At) (W : World) : Prop :=
  ∃ b : Bool, Boxed W B10 3 (.int .i64 (pre.length : Int)) ∧ Boxed W (B10 + 1) 4 (.bool b) ∧ (pre <+: L → b = true) ∧ pre.length ≤ s ∧ KeepT T w5 W ∧ Below n0 w W
theorem listI_own {B10 s n0 : Nat} {L : List At} {T : Nat → Prop} {w w5 : World} (hT : ∀ k, T k → k < w5.heap.size) (hn : n0 ≤ w.heap.size) (hB : n0 ≤ w5.heap.size) : OwnFrom w5.heap.size (ListI B10 L s T n0 w w5) :=
  fun pre A B row ⟨b, h1, h2, h3, h4, h5, h6⟩ hg hr => ⟨b, ownFrom_box w5.heap.size B10 3 (fun (p : List At) => .int .i64 (p.length : Int)) pre A B row h1 hg hr, ownFrom_box w5.heap.size (B10 + 1) 4 (fun (_ : List At) => .bool b) pre A B row h2 hg hr, h3, h4,
    ownFrom_keepT (β := List At) hT pre A B row h5 hg hr, ownFrom_below (β := List At) hn hB pre A B row h6 hg hr⟩
theorem box2_own {x y : Int} (Bx : Nat) {A B : World} {row : Option Nat} (h2 : Box2 A Bx x y) (hg : A.grownBy B row) (hr : ∀ r, row = some r → ∃ o : Obj, A.heap[r]? = some o ∧ o.isCells = false) : Box2 B Bx x y :=
  (hg.block Bx h2.lt (fun e => by obtain ⟨o, ho, hc⟩ := hr Bx e.symm; rw [h2] at ho; cases ho; cases hc)).trans h2

theorem KeepT.setCell {T : Nat → Prop} (W : World) {b : Nat} (v : Value) (hT : ¬ T b) : KeepT T W (W.setCell ⟨b, 0, none⟩ v) :=
  ⟨by rw [World.size_setCell]; exact Nat.le_refl _, fun k hk _ => Below.heap_setCell _ _ _ _ (fun e => by have e' : k = b := e; subst e'; exact hT hk)⟩
theorem list_round {B10 s n0 m : Nat} {L pre : List At} {x : At} {T : Nat → Prop} {w w5 W : World} {b b' : Bool} {v : Value} (hT : ∀ k, T k → k < w5.heap.size ∧ k ≠ B10 ∧ k ≠ B10 + 1) (hn : n0 ≤ B10) (y10 : Boxed W B10 3 (.int .i64 (m : Int))) (y11 : Boxed W (B10 + 1) 4 (.bool b))
    (hm : pre.length = m) (hms : m < s) (hk : KeepT T w5 W) (hB : Below n0 w W) (hpt : pre ++ [x] <+: L → b' = true) (hv : v = .int .i64 ((m : Int) + 1)) :
    KeepsFrom w5.heap.size W ((W.drew.setCell ⟨B10 + 1, 0, none⟩ (.bool b')).setCell ⟨B10, 0, none⟩ v) ∧ KeepT T W ((W.drew.setCell ⟨B10 + 1, 0, none⟩ (.bool b')).setCell ⟨B10, 0, none⟩ v) ∧ ListI B10 L s T n0 w w5 (pre ++ [x]) ((W.drew.setCell ⟨B10 + 1, 0, none⟩ (.bool b')).setCell ⟨B10, 0, none⟩ v) := by
  have k0 : KeepT T W W.drew := ⟨Nat.le_refl _, fun _ _ _ => rfl⟩
  have k1 := (k0.trans (KeepT.setCell W.drew (b := B10 + 1) (.bool b') (fun h => (hT _ h).2.2 rfl))).trans (KeepT.setCell _ (b := B10) v (fun h => (hT _ h).2.1 rfl))
  have o0 : KeepsOthers W W.drew := ⟨Nat.le_refl _, fun _ _ h _ => h⟩
  have d10 : Boxed W.drew B10 3 (.int .i64 (m : Int)) := y10
  have d11 : Boxed W.drew (B10 + 1) 4 (.bool b) := y11
  refine ⟨((o0.trans (KeepsOthers.setCell _ _ _)).trans (KeepsOthers.setCell _ _ _)).from _, k1, b', ?_, (d11.set (.bool b')).other (by omega) v, hpt, by simp; omega, hk.trans k1, ?_⟩
  · have e : ((pre ++ [x]).length : Int) = (m : Int) + 1 := by simp [hm]
    rw [e, ← hv]
    exact (d10.other (by omega) (.bool b')).set v
  · exact ((Below.drew hB).setCell (p := ⟨B10 + 1, 0, none⟩) (by show n0 ≤ B10 + 1; omega) _).setCell (p := ⟨B10, 0, none⟩) hn v
theorem bytes_listed {a b : ByteArray} (h : a.toList = b.toList) : a = b := by
  rw [ByteArray.toList_eq, ByteArray.toList_eq] at h
  obtain ⟨⟨a⟩⟩ := a
  obtain ⟨⟨b⟩⟩ := b
  simp only at h
  rw [h]
theorem cell_far {W : World} {p a : Addr} {v u : Value} (h : W.cell? a = some u) (hne : p.block ≠ a.block) : (W.setCell p v).cell? a = some u := (World.cell?_setCell_far W p a v hne).trans h
theorem prefix_at {pre L : List At} {x : At} {m : Nat} (h : pre ++ [x] <+: L) (hm : pre.length = m) (hlt : m < L.length) : L[m] = x := by
  obtain ⟨t, rfl⟩ := h
  subst hm
  simp

set_option maxRecDepth 1000000 in
set_option maxHeartbeats 16000000 in
theorem lawHeapLists (awk : ∀ w : World, Calls Try.prog 12 #[] w fun e w' => e = .returned (.bool true) ∧ Below w.heap.size w w') (a : Option Addr) (c : Nat) (E : List PgE) (n1 : Int) (w : World) (hE : HpAt w a c E) (hn0 : 0 ≤ n1) (hn1 : n1 ≤ 255) :
    Calls Try.prog 5 #[.agg #[.slice a E.length c], .int .u8 n1] w fun e w' => e = .returned (.bool true) ∧ Below w.heap.size w w' := by
  obtain ⟨s, rfl⟩ : ∃ s : Nat, n1 = s := ⟨n1.toNat, by omega⟩
  have A := hid0 hE
  have hll := listH_len (hp E)
  have b0 := (Boxed.new w 24 (.slice a E.length c)).alloc (.cells #[.int .u8 (s : Int)] 5)
  have b1 := Boxed.new (w.alloc (.cells #[.slice a E.length c] 24)) 5 (.int .u8 (s : Int))
  rw [World.size_alloc] at b1
  have hB0 : Below w.heap.size w ((w.alloc (.cells #[.slice a E.length c] 24)).alloc (.cells #[.int .u8 (s : Int)] 5)) := ((Below.refl _ w).alloc (Nat.le_refl _) _).alloc (by simp) _
  have hsz : ((w.alloc (.cells #[.slice a E.length c] 24)).alloc (.cells #[.int .u8 (s : Int)] 5)).heap.size = w.heap.size + 2 := by simp
  have C1 := hpList_any a c E _ (hE.later hB0)
  have q0 := b0.cell
  have q1 := b1.cell
  refine (callsIn_wide (n := 3)).1 ?_
  refine callsIn_of_wp_marks Try.func5 rfl trivial ?_ rfl
  simp only [Try.ntmps5, List.size_toArray, List.length_cons, List.length_nil, Nat.reduceAdd, Nat.reduceSub, Array.replicate_succ, Array.replicate_zero, List.push_toArray, List.append_toArray, List.nil_append, List.cons_append]
  refine wpIn_wide.2 ?_
  obtain ⟨L, hL⟩ : ∃ L, listH (hp E) = L := ⟨_, rfl⟩
  rw [hL] at C1 hll
  have HL := hid0 hL
  clear hE hL
  go_wp2_with fail
  refine C1.mono ?_
  rintro e w1 ⟨v1, v2, rfl, r1, r2, hb⟩
  obtain ⟨a1, c1, rfl, I1, g1⟩ := ids_owned r1
  obtain ⟨a2, c2, rfl, I2, g2⟩ := strs_owned r2
  have p0 : Boxed w1 w.heap.size 24 (.slice a E.length c) := (hb.block _ b0.lt).trans b0
  have p1 : Boxed w1 (w.heap.size + 1) 5 (.int .u8 (s : Int)) := (hb.block _ b1.lt).trans b1
  have hB1 := below_through hb hB0.size hB0
  have hs1 : w.heap.size + 2 ≤ w1.heap.size := by have := hb.size; omega
  obtain ⟨N, hN⟩ : ∃ N, L.length = N := ⟨_, rfl⟩
  have HN := hid0 hN
  rw [hN] at hll ⊢
  have p5 := (Boxed.new w1 50 (.slice a1 N c1)).alloc (.cells #[.slice a2 N c2] 51)
  have p6 := Boxed.new (w1.alloc (.cells #[.slice a1 N c1] 50)) 51 (.slice a2 N c2)
  rw [World.size_alloc] at p6
  have hB2 := (hB1.alloc hB1.size (.cells #[.slice a1 N c1] 50)).alloc (by have := hB1.size; simp; omega) (.cells #[.slice a2 N c2] 51)
  have hw12 : Below w1.heap.size w1 ((w1.alloc (.cells #[.slice a1 N c1] 50)).alloc (.cells #[.slice a2 N c2] 51)) := ((Below.refl _ _).alloc (Nat.le_refl _) _).alloc (by simp) _
  replace I1 := I1.later hw12
  replace I2 := I2.later hw12
  replace p0 := (p0.alloc (.cells #[.slice a1 N c1] 50)).alloc (.cells #[.slice a2 N c2] 51)
  replace p1 := (p1.alloc (.cells #[.slice a1 N c1] 50)).alloc (.cells #[.slice a2 N c2] 51)
  have hs2 : ((w1.alloc (.cells #[.slice a1 N c1] 50)).alloc (.cells #[.slice a2 N c2] 51)).heap.size = w1.heap.size + 2 := by simp
  have C2 := refHList_any a c E _ (A.out.later hB2)
  rw [HL.out] at C2
  have q2 := p0.cell
  clear C1 hb r1 r2 hB0 hB1 b0 b1 q0 q1 hsz hw12 hN
  go_wp2_with fail
  refine C2.mono ?_
  rintro e w2 ⟨v3, v4, rfl, r3, r4, hb⟩
  obtain ⟨a3, c3, rfl, I3, -⟩ := ids_owned r3
  obtain ⟨a4, c4, rfl, I4, -⟩ := strs_owned r4
  rw [HN.out]
  replace I1 := I1.later hb
  replace I2 := I2.later hb
  replace p0 : Boxed w2 w.heap.size 24 (.slice a E.length c) := (hb.block _ p0.lt).trans p0
  replace p1 : Boxed w2 (w.heap.size + 1) 5 (.int .u8 (s : Int)) := (hb.block _ p1.lt).trans p1
  replace p5 : Boxed w2 w1.heap.size 50 (.slice a1 N c1) := (hb.block _ p5.lt).trans p5
  replace p6 : Boxed w2 (w1.heap.size + 1) 51 (.slice a2 N c2) := (hb.block _ p6.lt).trans p6
  have hB3 := below_through hb hB2.size hB2
  have hs3 := hb.size
  rw [hs2] at hs3
  clear C2 q2 hb hB2 r3 r4 hs2
  go_wp2_with fail
  refine (awk _).mono ?_
  rintro e w3 ⟨rfl, hb⟩
  replace I1 := I1.later hb
  replace I2 := I2.later hb
  replace I3 := I3.later hb
  replace I4 := I4.later hb
  replace p0 : Boxed w3 w.heap.size 24 (.slice a E.length c) := (hb.block _ p0.lt).trans p0
  replace p1 : Boxed w3 (w.heap.size + 1) 5 (.int .u8 (s : Int)) := (hb.block _ p1.lt).trans p1
  replace p5 : Boxed w3 w1.heap.size 50 (.slice a1 N c1) := (hb.block _ p5.lt).trans p5
  replace p6 : Boxed w3 (w1.heap.size + 1) 51 (.slice a2 N c2) := (hb.block _ p6.lt).trans p6
  replace hB3 := below_through hb hB3.size hB3
  have hs4 : w1.heap.size + 2 ≤ w3.heap.size := Nat.le_trans hs3 hb.size
  have q5 := p5.cell
  have q6 := p6.cell
  clear hb hs3
  have HH := hid0 (And.intro p0 (And.intro p1 (And.intro p5 (And.intro p6 (And.intro I1 (And.intro I2 (And.intro I3 I4)))))))
  go_wp2_with fail
  clear p0 p1 p5 p6 I1 I2 I3 I4
  go_loopw [9] (fun iv wr => ∃ i : Nat, i ≤ N ∧ iv = .int .i64 i ∧ Below w3.heap.size w3 wr) (fun iv _ => N - (intOf iv).toNat)
  case atStart => exact ⟨0, Nat.zero_le _, rfl, Below.refl _ _⟩
  case round =>
    obtain ⟨i, hi, rfl, hW⟩ := hrel
    obtain ⟨p0, p1, p5, p6, I1, I2, I3, I4⟩ := HH.out
    replace I1 := I1.later hW
    replace I2 := I2.later hW
    replace I3 := I3.later hW
    replace I4 := I4.later hW
    replace p0 : Boxed wr w.heap.size 24 (.slice a E.length c) := (hW.block _ p0.lt).trans p0
    replace p1 : Boxed wr (w.heap.size + 1) 5 (.int .u8 (s : Int)) := (hW.block _ p1.lt).trans p1
    replace p5 : Boxed wr w1.heap.size 50 (.slice a1 N c1) := (hW.block _ p5.lt).trans p5
    replace p6 : Boxed wr (w1.heap.size + 1) 51 (.slice a2 N c2) := (hW.block _ p6.lt).trans p6
    have x5 := p5.cell
    have x6 := p6.cell
    by_cases hlt : i < N
    · have hii : (i : Int) < (N : Int) := by omega
      have hLl : i < L.length := by rw [HN.out]; exact hlt
      have hne : L ≠ [] := by intro e; rw [e] at hLl; exact absurd hLl (by simp)
      obtain ⟨d1, rfl, k1⟩ := I1.out hne
      obtain ⟨d2, rfl, k2⟩ := I2.out hne
      obtain ⟨d3, rfl, k3⟩ := I3.out hne
      obtain ⟨d4, rfl, k4⟩ := I4.out hne
      obtain ⟨y0, y1⟩ := k1 i hLl
      have z0 := k2 i hLl
      obtain ⟨y2, y3⟩ := k3 i hLl
      have z1 := k4 i hLl
      obtain ⟨X, hX⟩ : ∃ X : Int, (L[i].1 : Int) = X := ⟨_, rfl⟩
      obtain ⟨Y, hY⟩ : ∃ Y : Int, (L[i].2.1 : Int) = Y := ⟨_, rfl⟩
      obtain ⟨Z, hZ⟩ : ∃ Z, txt L[i].2.2 = Z := ⟨_, rfl⟩
      rw [hX] at y0 y2
      rw [hY] at y1 y3
      rw [hZ] at z0 z1
      clear k1 k2 k3 k4 hX hY hZ I1 I2 I3 I4 p0 p1 p5 p6
      go_wp2_with fail
      go_region_held3 (fun w' => w'.cell? ⟨w1.heap.size, 0, none⟩ = some (.slice (some ⟨d1, 0, none⟩) N c1) ∧ w'.cell? ⟨w1.heap.size + 1, 0, none⟩ = some (.slice (some ⟨d2, 0, none⟩) N c2) ∧ w'.cell? ⟨d1, i * 2, none⟩ = some (.int .i64 X) ∧ w'.cell? ⟨d1, i * 2 + 1, none⟩ = some (.int .i64 Y) ∧ w'.cell? ⟨d3, i * 2, none⟩ = some (.int .i64 X) ∧ w'.cell? ⟨d3, i * 2 + 1, none⟩ = some (.int .i64 Y) ∧ w'.cell? ⟨d2, i, none⟩ = some (.string Z) ∧ w'.cell? ⟨d4, i, none⟩ = some (.string Z))
        ((go_split_ands; (try dsimp only); (repeat' apply And.intro); all_goals (first
          | assumption
          | go_keep)))
        (fail)
      go_wp2
      exact ⟨⟨i + 1, by omega, by go_num, Below.drew hW⟩, by simp [intOf]; omega⟩
    · obtain rfl : i = N := by omega
      have hie : ¬ (i : Int) < (i : Int) := by omega
      have hBr := hB3.trans (hW.mono hB3.size)
      have CA := hpAll_any a c E
      have x0 := ((p0.alloc (.cells #[.int .i64 0] 3)).alloc (.cells #[.bool true] 4)).cell
      have n10 := (Boxed.new wr 3 (.int .i64 0)).alloc (.cells #[.bool true] 4)
      have n11 := Boxed.new (wr.alloc (.cells #[.int .i64 0] 3)) 4 (.bool true)
      rw [World.size_alloc] at n11
      have hBA := (hBr.alloc hBr.size (.cells #[.int .i64 0] 3)).alloc (by have := hBr.size; simp; omega) (.cells #[.bool true] 4)
      have hwA : Below wr.heap.size wr ((wr.alloc (.cells #[.int .i64 0] 3)).alloc (.cells #[.bool true] 4)) := ((Below.refl _ _).alloc (Nat.le_refl _) _).alloc (by simp) _
      have hsA : ((wr.alloc (.cells #[.int .i64 0] 3)).alloc (.cells #[.bool true] 4)).heap.size = wr.heap.size + 2 := by simp
      replace CA := CA _ (A.out.later hBA)
      have hlt6 := p6.lt
      clear q5 q6
      go_wp2_with fail
      refine CA.mono ?_
      rintro e w5 hAns
      have hb := hAns.2
      have hB5 := below_through hb hBA.size hBA
      have hs5 := hb.size
      rw [hsA] at hs5
      obtain ⟨gf, lb, rfl, eg, hst⟩ := hpAll_stops A.out hB5 hBA.size hAns
      have HT := hid0 (hst (fun k => k < w5.heap.size ∧ k ≠ wr.heap.size ∧ k ≠ wr.heap.size + 1) (fun k h1 h2 => ⟨h1, by have := hBr.size; rw [hsA] at h2; omega, by have := hBr.size; rw [hsA] at h2; omega⟩) Fence.wide 2 (fun _ => trivial) rfl (by omega))
      rw [HL.out] at HT
      have m10 : Boxed w5 wr.heap.size 3 (.int .i64 0) := (hb.block _ n10.lt).trans n10
      have m11 : Boxed w5 (wr.heap.size + 1) 4 (.bool true) := (hb.block _ n11.lt).trans n11
      have hw5 : Below wr.heap.size wr w5 := hwA.trans (hb.mono (by rw [hsA]; omega))
      have KI1 := fun W hk => I1.keepT (W := W) (T := fun k => k < w5.heap.size ∧ k ≠ wr.heap.size ∧ k ≠ wr.heap.size + 1) hw5 hk (fun k hk => ⟨by omega, by omega, by omega⟩)
      have KI2 := fun W hk => I2.keepT (W := W) (T := fun k => k < w5.heap.size ∧ k ≠ wr.heap.size ∧ k ≠ wr.heap.size + 1) hw5 hk (fun k hk => ⟨by omega, by omega, by omega⟩)
      have KP1 := fun W hk => boxed_keepT (W := W) (T := fun k => k < w5.heap.size ∧ k ≠ wr.heap.size ∧ k ≠ wr.heap.size + 1) p1 hw5 hk (fun k hk => ⟨by omega, by omega, by omega⟩)
      have KP5 := fun W hk => boxed_keepT (W := W) (T := fun k => k < w5.heap.size ∧ k ≠ wr.heap.size ∧ k ≠ wr.heap.size + 1) p5 hw5 hk (fun k hk => ⟨by omega, by omega, by omega⟩)
      have KP6 := fun W hk => boxed_keepT (W := W) (T := fun k => k < w5.heap.size ∧ k ≠ wr.heap.size ∧ k ≠ wr.heap.size + 1) p6 hw5 hk (fun k hk => ⟨by omega, by omega, by omega⟩)
      have hBw : w.heap.size ≤ wr.heap.size := hBr.size
      clear hst hAns hb n10 n11 hBA hwA hsA CA x0 x5 x6 I1 I2 I3 I4 p0 p1 p5 p6 HH hB3 hW
      go_wp2_with fail
      refine (wpIn_wide (n := 3)).1 ?_
      refine wpIn_rangeFunc_ownH rfl (by omega) (gf := gf) (lb := lb) rfl trivial eg HT.out (fun h k => h.trans k) (fun W l o o' h1 _ _ _ => KeepT.put (fun hk => by have := hk.1; omega)) (Below.refl _ _) (fun _ => rfl)
        (ListI wr.heap.size L s (fun k => k < w5.heap.size ∧ k ≠ wr.heap.size ∧ k ≠ wr.heap.size + 1) w.heap.size w w5)
        (fun cd pre W => cd = .exit 2 ∧ ∃ q, ListI wr.heap.size L s (fun k => k < w5.heap.size ∧ k ≠ wr.heap.size ∧ k ≠ wr.heap.size + 1) w.heap.size w w5 q W ∧ q.length = s ∧ q <+: pre)
        (listI_own (fun k hk => hk.1) (Nat.le_refl _) hB5.size)
        (fun cd pre A B row h hg hr => by
          obtain ⟨h0, q, h1, h2, h3⟩ := h
          exact ⟨h0, q, listI_own (fun k hk => hk.1) (Nat.le_refl _) hB5.size q A B row h1 hg hr, h2, h3⟩)
        ⟨true, m10, m11, fun _ => rfl, Nat.zero_le _, KeepT.refl _ _, hB5⟩
        (fun x a' W => ∃ Bx, w5.heap.size ≤ Bx ∧ Box2 W Bx (x.1 : Int) (x.2.1 : Int) ∧ a' = { tmps := #[Value.agg #[Value.slice a E.length c], Value.int IntKind.u8 (s : Int), Value.pointer (some { block := w.heap.size, off := 0 }), Value.pointer (some { block := w.heap.size + 1, off := 0 }), u4, Value.pointer (some { block := w1.heap.size, off := 0 }), Value.pointer (some { block := w1.heap.size + 1, off := 0 }), Value.slice a3 i c3, Value.slice a4 i c4, Value.int IntKind.i64 (i : Int), Value.pointer (some { block := wr.heap.size, off := 0 }), Value.pointer (some { block := wr.heap.size + 1, off := 0 }), Value.pointer (some { block := Bx, off := 0 }), Value.string (txt x.2.2), Value.tuple #[Value.slice a1 i c1, Value.slice a2 i c2], Value.agg #[Value.slice a E.length c], Value.tuple #[Value.slice a1 i c1, Value.slice a2 i c2], Value.slice a1 i c1, Value.slice a2 i c2, Value.tuple #[Value.slice a3 i c3, Value.slice a4 i c4], Value.agg #[Value.slice a E.length c], Value.tuple #[Value.slice a3 i c3, Value.slice a4 i c4], Value.slice a3 i c3, Value.slice a4 i c4, Value.bool true, Value.bool false, Value.bool false, Value.slice a1 i c1, Value.int IntKind.i64 (i : Int), Value.slice a3 i c3, Value.int IntKind.i64 (i : Int), Value.bool false, Value.bool false, Value.bool false, Value.slice a2 i c2, Value.int IntKind.i64 (i : Int), Value.slice a4 i c4, Value.int IntKind.i64 (i : Int), Value.bool false, Value.bool false, Value.bool false, Value.slice a1 i c1, Value.int IntKind.i64 (i : Int), Value.slice a2 i c2, Value.int IntKind.i64 (i : Int), Value.bool false, Value.bool false, Value.int IntKind.i64 (i : Int), Value.slice a1 i c1, Value.int IntKind.i64 (i : Int), Value.bool false, u51, u52, u53, u54, u55, u56, u57, u58, u59, u60, u61, u62, u63, u64, u65, u66, u67, u68, u69, u70, u71, u72, Value.agg #[Value.slice a E.length c], Value.func (Fn.func gf) #[] lb, Value.agg #[Value.int IntKind.i64 (x.1 : Int), Value.int IntKind.i64 (x.2.1 : Int)], Value.string (txt x.2.2), undef, undef, undef, undef, undef, undef, undef, undef, undef, undef, undef, undef, undef, undef, undef, undef, undef, undef, undef, undef, undef, undef, undef, undef, undef, undef, undef, undef, undef, undef, undef, undef, undef, undef, undef, undef, undef, undef, undef], defers := [] })
        (fun x a' _ A B row hs hg hr => by
          obtain ⟨Bx, h1, h2, h3⟩ := hs
          exact ⟨Bx, h1, box2_own Bx h2 hg (fun r e => (hr r e).2), h3⟩)
        ?assign ?body ?done ?stop
      case assign =>
        rintro l pre x W K ⟨b, h1, h2, h3, h4, h5, h6⟩ hK
        gi_wp2
        have hKW := h5.size
        exact hK _ _ ((KeepsOthers.alloc _ _).from _) ((KeepT.refl _ _).alloc _) ⟨b, h1.alloc _, h2.alloc _, h3, h4, h5.alloc _, h6.alloc h6.size _⟩ ⟨W.heap.size, hKW, Box2.new W _ _, rfl⟩
      case body =>
        rintro l pre x a' W hl ⟨r, hr⟩ ⟨b, y10, y11, hpt, hms, hk, hB⟩ ⟨Bx, hBx, hX, rfl⟩ hlt
        obtain ⟨m, hm⟩ : ∃ m, pre.length = m := ⟨_, rfl⟩
        rw [HN.out, hm] at hlt
        rw [hm] at y10 hms
        have HM := hid0 hm
        have HPT := hid0 hpt
        have HR := hid0 hr
        clear hm hpt hr
        have z10 := y10.cell
        have z11 := y11.cell
        have z1 := (KP1 W hk).cell
        have hmi : (m : Int) < (i : Int) := by omega
        have hkz := hk.size
        by_cases hse : m = s
        · have hsi : (m : Int) = (s : Int) := by omega
          rw [hsi] at z10 y10
          gi_wp2
          exact ⟨KeepsFrom.refl _ _, rfl, pre, ⟨b, by rw [HM.out, hsi]; exact y10, y11, HPT.out, by rw [HM.out]; exact hms, hk, hB⟩, HM.out.trans hse, List.prefix_append _ _⟩
        · have hsi : ¬ (m : Int) = (s : Int) := by omega
          have hLl : m < L.length := by rw [HN.out]; exact hlt
          have hne : L ≠ [] := by intro e; rw [e] at hLl; exact absurd hLl (by simp)
          obtain ⟨d1, rfl, hd1, k1⟩ := KI1 W hk hne
          obtain ⟨d2, rfl, hd2, k2⟩ := KI2 W hk hne
          obtain ⟨v0, v1⟩ := k1 m hLl
          have v2 := k2 m hLl
          have z5 := (KP5 W hk).cell
          have z6 := (KP6 W hk).cell
          obtain ⟨X, hX1⟩ : ∃ X : Int, (L[m].1 : Int) = X := ⟨_, rfl⟩
          obtain ⟨Y, hY1⟩ : ∃ Y : Int, (L[m].2.1 : Int) = Y := ⟨_, rfl⟩
          obtain ⟨Z, hZ1⟩ : ∃ Z, txt L[m].2.2 = Z := ⟨_, rfl⟩
          rw [hX1] at v0
          rw [hY1] at v1
          rw [hZ1] at v2
          have HE : Hid (pre ++ [x] <+: L → (x.1 : Int) = X ∧ (x.2.1 : Int) = Y ∧ txt x.2.2 = Z) := hid0 (fun hp => by
            have e := prefix_at hp HM.out hLl
            rw [e] at hX1 hY1 hZ1
            exact ⟨hX1, hY1, hZ1⟩)
          have HP0 : Hid (pre ++ [x] <+: L → b = true) := hid0 (fun hp => HPT.out ((List.prefix_append pre [x]).trans hp))
          clear k1 k2 hX1 hY1 hZ1 hLl hne
          gi_wp2_with fail
          have yd10 : Boxed W.drew wr.heap.size 3 (.int .i64 (m : Int)) := y10
          have zd11 : W.drew.cell? ⟨wr.heap.size + 1, 0, none⟩ = some (.bool b) := z11
          have zf11 : W.drew.frozen? ⟨wr.heap.size + 1, 0, none⟩ = false := y11.frozen
          have zX0 := hX.c0
          have zX1 := hX.c1
          refine region_round (S := (fun w' => w'.cell? ⟨wr.heap.size, 0, none⟩ = some (.int .i64 (m : Int)) ∧ w'.cell? ⟨w1.heap.size, 0, none⟩ = some (.slice (some ⟨d1, 0, none⟩) i c1) ∧ w'.cell? ⟨w1.heap.size + 1, 0, none⟩ = some (.slice (some ⟨d2, 0, none⟩) i c2) ∧ w'.cell? ⟨Bx, 0, none⟩ = some (.int .i64 (x.1 : Int)) ∧ w'.cell? ⟨Bx, 1, none⟩ = some (.int .i64 (x.2.1 : Int)) ∧ w'.cell? ⟨d1, m * 2, none⟩ = some (.int .i64 X) ∧ w'.cell? ⟨d1, m * 2 + 1, none⟩ = some (.int .i64 Y) ∧ w'.cell? ⟨d2, m, none⟩ = some (.string Z))) (by kernel_rfl) (by kernel_rfl) (by rintro ⟨_, _, h⟩; exact h) ⟨z10, z5, z6, zX0, zX1, v0, v1, v2⟩ (fun hHeld => ?_)
          clear z10 z11 z5 z6 zX0 zX1 v0 v1 v2
          cases b with
          | false =>
            refine wpAnyH_ready (rs := [0]) (by kernel_rfl) (by simp) ?_
            refine AllReadyH.cons rfl (fun K hK => ?_) AllReadyH.nil
            go_simp
            refine hK.out _ _ (hHeld) (fun hHeld => ?_)
            clear hK K
            (try simp only [Act.put, List.setIfInBounds_toArray, List.set_cons_zero, List.set_cons_succ, List.getElem_toArray, List.getElem_cons_zero])
            refine wpAnyH_take (i := 1) (v := ?_) rfl (by kernel_rfl) (by kernel_rfl) (by kernel_rfl) (fun _ _ _ h => h) (Or.inl ⟨by rfl, ?_⟩) (by assumption) ?_
            rotate_left
            · (intro wx hSw; (try dsimp only at hSw); go_split_ands; go_simp; (try with_reducible rfl))
            (try simp only [Act.put, List.setIfInBounds_toArray, List.set_cons_zero, List.set_cons_succ, List.getElem_toArray, List.getElem_cons_zero, List.getElem_cons_succ])
            refine wpAnyH_take (i := 2) (v := undef) rfl (by kernel_rfl) (by kernel_rfl) (by kernel_rfl) (fun _ _ _ h => h) (Or.inr ⟨by rfl, rfl⟩) (by assumption) ?_
            (try simp only [Act.put, List.setIfInBounds_toArray, List.set_cons_zero, List.set_cons_succ, List.getElem_toArray, List.getElem_cons_zero, List.getElem_cons_succ])
            refine wpAnyH_take (i := 3) (v := undef) rfl (by kernel_rfl) (by kernel_rfl) (by kernel_rfl) (fun _ _ _ h => h) (Or.inr ⟨by rfl, rfl⟩) (by assumption) ?_
            (try simp only [Act.put, List.setIfInBounds_toArray, List.set_cons_zero, List.set_cons_succ, List.getElem_toArray, List.getElem_cons_zero, List.getElem_cons_succ])
            refine wpAnyH_take (i := 4) (v := undef) rfl (by kernel_rfl) (by kernel_rfl) (by kernel_rfl) (fun _ _ _ h => h) (Or.inr ⟨by rfl, rfl⟩) (by assumption) ?_
            (try simp only [Act.put, List.setIfInBounds_toArray, List.set_cons_zero, List.set_cons_succ, List.getElem_toArray, List.getElem_cons_zero, List.getElem_cons_succ])
            refine wpAnyH_take (i := 5) (v := undef) rfl (by kernel_rfl) (by kernel_rfl) (by kernel_rfl) (fun _ _ _ h => h) (Or.inr ⟨by rfl, rfl⟩) (by assumption) ?_
            (try simp only [Act.put, List.setIfInBounds_toArray, List.set_cons_zero, List.set_cons_succ, List.getElem_toArray, List.getElem_cons_zero, List.getElem_cons_succ])
            refine wpAnyH_take (i := 6) (v := ?_) rfl (by kernel_rfl) (by kernel_rfl) (by kernel_rfl) (fun _ _ _ h => h) (Or.inl ⟨by rfl, ?_⟩) (by assumption) ?_
            rotate_left
            · (intro wx hSw; (try dsimp only at hSw); go_split_ands; go_simp; (try with_reducible rfl))
            (try simp only [Act.put, List.setIfInBounds_toArray, List.set_cons_zero, List.set_cons_succ, List.getElem_toArray, List.getElem_cons_zero, List.getElem_cons_succ])
            refine wpAnyH_take (i := 7) (v := ?_) rfl (by kernel_rfl) (by kernel_rfl) (by kernel_rfl) (fun _ _ _ h => h) (Or.inl ⟨by rfl, ?_⟩) (by assumption) ?_
            rotate_left
            · (intro wx hSw; (try dsimp only at hSw); go_split_ands; go_simp; (try with_reducible rfl))
            (try simp only [Act.put, List.setIfInBounds_toArray, List.set_cons_zero, List.set_cons_succ, List.getElem_toArray, List.getElem_cons_zero, List.getElem_cons_succ])
            refine wpAnyH_take (i := 8) (v := undef) rfl (by kernel_rfl) (by kernel_rfl) (by kernel_rfl) (fun _ _ _ h => h) (Or.inr ⟨by rfl, rfl⟩) (by assumption) ?_
            (try simp only [Act.put, List.setIfInBounds_toArray, List.set_cons_zero, List.set_cons_succ, List.getElem_toArray, List.getElem_cons_zero, List.getElem_cons_succ])
            refine wpAnyH_take (i := 9) (v := undef) rfl (by kernel_rfl) (by kernel_rfl) (by kernel_rfl) (fun _ _ _ h => h) (Or.inr ⟨by rfl, rfl⟩) (by assumption) ?_
            (try simp only [Act.put, List.setIfInBounds_toArray, List.set_cons_zero, List.set_cons_succ, List.getElem_toArray, List.getElem_cons_zero, List.getElem_cons_succ])
            refine wpAnyH_take (i := 10) (v := undef) rfl (by kernel_rfl) (by kernel_rfl) (by kernel_rfl) (fun _ _ _ h => h) (Or.inr ⟨by rfl, rfl⟩) (by assumption) ?_
            (try simp only [Act.put, List.setIfInBounds_toArray, List.set_cons_zero, List.set_cons_succ, List.getElem_toArray, List.getElem_cons_zero, List.getElem_cons_succ])
            refine wpAnyH_take (i := 11) (v := undef) rfl (by kernel_rfl) (by kernel_rfl) (by kernel_rfl) (fun _ _ _ h => h) (Or.inr ⟨by rfl, rfl⟩) (by assumption) ?_
            (try simp only [Act.put, List.setIfInBounds_toArray, List.set_cons_zero, List.set_cons_succ, List.getElem_toArray, List.getElem_cons_zero, List.getElem_cons_succ])
            refine wpAnyH_take (i := 12) (v := undef) rfl (by kernel_rfl) (by kernel_rfl) (by kernel_rfl) (fun _ _ _ h => h) (Or.inr ⟨by rfl, rfl⟩) (by assumption) ?_
            (try simp only [Act.put, List.setIfInBounds_toArray, List.set_cons_zero, List.set_cons_succ, List.getElem_toArray, List.getElem_cons_zero, List.getElem_cons_succ])
            refine wpAnyH_take (i := 13) (v := undef) rfl (by kernel_rfl) (by kernel_rfl) (by kernel_rfl) (fun _ _ _ h => h) (Or.inr ⟨by rfl, rfl⟩) (by assumption) ?_
            (try simp only [Act.put, List.setIfInBounds_toArray, List.set_cons_zero, List.set_cons_succ, List.getElem_toArray, List.getElem_cons_zero, List.getElem_cons_succ])
            refine wpAnyH_take (i := 14) (v := ?_) rfl (by kernel_rfl) (by kernel_rfl) (by kernel_rfl) (fun _ _ _ h => h) (Or.inl ⟨by rfl, ?_⟩) (by assumption) ?_
            rotate_left
            · (intro wx hSw; (try dsimp only at hSw); go_split_ands; go_simp; (try with_reducible rfl))
            (try simp only [Act.put, List.setIfInBounds_toArray, List.set_cons_zero, List.set_cons_succ, List.getElem_toArray, List.getElem_cons_zero, List.getElem_cons_succ])
            refine wpAnyH_take (i := 15) (v := ?_) rfl (by kernel_rfl) (by kernel_rfl) (by kernel_rfl) (fun _ _ _ h => h) (Or.inl ⟨by rfl, ?_⟩) (by assumption) ?_
            rotate_left
            · (intro wx hSw; (try dsimp only at hSw); go_split_ands; go_simp; (try with_reducible rfl))
            (try simp only [Act.put, List.setIfInBounds_toArray, List.set_cons_zero, List.set_cons_succ, List.getElem_toArray, List.getElem_cons_zero, List.getElem_cons_succ])
            refine wpAnyH_take (i := 16) (v := undef) rfl (by kernel_rfl) (by kernel_rfl) (by kernel_rfl) (fun _ _ _ h => h) (Or.inr ⟨by rfl, rfl⟩) (by assumption) ?_
            (try simp only [Act.put, List.setIfInBounds_toArray, List.set_cons_zero, List.set_cons_succ, List.getElem_toArray, List.getElem_cons_zero, List.getElem_cons_succ])
            refine wpAnyH_take (i := 17) (v := undef) rfl (by kernel_rfl) (by kernel_rfl) (by kernel_rfl) (fun _ _ _ h => h) (Or.inr ⟨by rfl, rfl⟩) (by assumption) ?_
            (try simp only [Act.put, List.setIfInBounds_toArray, List.set_cons_zero, List.set_cons_succ, List.getElem_toArray, List.getElem_cons_zero, List.getElem_cons_succ])
            refine wpAnyH_take (i := 18) (v := undef) rfl (by kernel_rfl) (by kernel_rfl) (by kernel_rfl) (fun _ _ _ h => h) (Or.inr ⟨by rfl, rfl⟩) (by assumption) ?_
            (try simp only [Act.put, List.setIfInBounds_toArray, List.set_cons_zero, List.set_cons_succ, List.getElem_toArray, List.getElem_cons_zero, List.getElem_cons_succ])
            refine wpAnyH_take (i := 19) (v := undef) rfl (by kernel_rfl) (by kernel_rfl) (by kernel_rfl) (fun _ _ _ h => h) (Or.inr ⟨by rfl, rfl⟩) (by assumption) ?_
            (try simp only [Act.put, List.setIfInBounds_toArray, List.set_cons_zero, List.set_cons_succ, List.getElem_toArray, List.getElem_cons_zero, List.getElem_cons_succ])
            refine wpAnyH_take (i := 20) (v := undef) rfl (by kernel_rfl) (by kernel_rfl) (by kernel_rfl) (fun _ _ _ h => h) (Or.inr ⟨by rfl, rfl⟩) (by assumption) ?_
            (try simp only [Act.put, List.setIfInBounds_toArray, List.set_cons_zero, List.set_cons_succ, List.getElem_toArray, List.getElem_cons_zero, List.getElem_cons_succ])
            refine wpAnyH_take (i := 21) (v := undef) rfl (by kernel_rfl) (by kernel_rfl) (by kernel_rfl) (fun _ _ _ h => h) (Or.inr ⟨by rfl, rfl⟩) (by assumption) ?_
            (try simp only [Act.put, List.setIfInBounds_toArray, List.set_cons_zero, List.set_cons_succ, List.getElem_toArray, List.getElem_cons_zero, List.getElem_cons_succ])
            refine wpAnyH_take (i := 22) (v := ?_) rfl (by kernel_rfl) (by kernel_rfl) (by kernel_rfl) (fun _ _ _ h => h) (Or.inl ⟨by rfl, ?_⟩) (by assumption) ?_
            rotate_left
            · (intro wx hSw; (try dsimp only at hSw); go_split_ands; go_simp; (try with_reducible rfl))
            (try simp only [Act.put, List.setIfInBounds_toArray, List.set_cons_zero, List.set_cons_succ, List.getElem_toArray, List.getElem_cons_zero, List.getElem_cons_succ])
            refine wpAnyH_ready (rs := [23]) (by kernel_rfl) (by simp) ?_
            refine AllReadyH.cons rfl (fun K hK => ?_) AllReadyH.nil
            go_simp
            refine hK.out _ _ (by
              obtain ⟨s0, s1, s2, s3, s4, s5, s6, s7⟩ := hHeld
              exact ⟨cell_far s0 (show wr.heap.size + 1 ≠ wr.heap.size by omega), cell_far s1 (show wr.heap.size + 1 ≠ w1.heap.size by omega), cell_far s2 (show wr.heap.size + 1 ≠ w1.heap.size + 1 by omega), cell_far s3 (show wr.heap.size + 1 ≠ Bx by omega), cell_far s4 (show wr.heap.size + 1 ≠ Bx by omega), cell_far s5 (show wr.heap.size + 1 ≠ d1 by omega), cell_far s6 (show wr.heap.size + 1 ≠ d1 by omega), cell_far s7 (show wr.heap.size + 1 ≠ d2 by omega)⟩) (fun hHeld => ?_)
            clear hK K
            (try simp only [Act.put, List.setIfInBounds_toArray, List.set_cons_zero, List.set_cons_succ, List.getElem_toArray, List.getElem_cons_zero, List.getElem_cons_succ])
            refine wpAnyH_done (by kernel_rfl) ?_ _
            have u10 := hHeld.1
            have uf10 := (y10.other (B' := wr.heap.size + 1) (by omega) (.bool false)).frozen
            clear hHeld
            gi_wp2_with fail
            exact list_round (fun k hk => hk) hBw y10 y11 HM.out (by omega) hk hB (fun hp => HP0.out hp) (by go_num)
          | true =>
            by_cases e1 : (x.1 : Int) = X
            · by_cases e2 : (x.2.1 : Int) = Y
              · by_cases e3 : txt x.2.2 = Z
                · refine wpAnyH_ready (rs := [0]) (by kernel_rfl) (by simp) ?_
                  refine AllReadyH.cons rfl (fun K hK => ?_) AllReadyH.nil
                  go_simp
                  refine hK.out _ _ (hHeld) (fun hHeld => ?_)
                  clear hK K
                  (try simp only [Act.put, List.setIfInBounds_toArray, List.set_cons_zero, List.set_cons_succ, List.getElem_toArray, List.getElem_cons_zero])
                  refine wpAnyH_take (i := 1) (v := ?_) rfl (by kernel_rfl) (by kernel_rfl) (by kernel_rfl) (fun _ _ _ h => h) (Or.inl ⟨by rfl, ?_⟩) (by assumption) ?_
                  rotate_left
                  · (intro wx hSw; (try dsimp only at hSw); go_split_ands; go_simp; (try with_reducible rfl))
                  (try simp only [Act.put, List.setIfInBounds_toArray, List.set_cons_zero, List.set_cons_succ, List.getElem_toArray, List.getElem_cons_zero, List.getElem_cons_succ])
                  refine wpAnyH_take (i := 2) (v := ?_) rfl (by kernel_rfl) (by kernel_rfl) (by kernel_rfl) (fun _ _ _ h => h) (Or.inl ⟨by rfl, ?_⟩) (by assumption) ?_
                  rotate_left
                  · (intro wx hSw; (try dsimp only at hSw); go_split_ands; go_simp; (try with_reducible rfl))
                  (try simp only [Act.put, List.setIfInBounds_toArray, List.set_cons_zero, List.set_cons_succ, List.getElem_toArray, List.getElem_cons_zero, List.getElem_cons_succ])
                  refine wpAnyH_take (i := 3) (v := ?_) rfl (by kernel_rfl) (by kernel_rfl) (by kernel_rfl) (fun _ _ _ h => h) (Or.inl ⟨by rfl, ?_⟩) (by assumption) ?_
                  rotate_left
                  · (intro wx hSw; (try dsimp only at hSw); go_split_ands; go_simp; (try with_reducible rfl))
                  (try simp only [Act.put, List.setIfInBounds_toArray, List.set_cons_zero, List.set_cons_succ, List.getElem_toArray, List.getElem_cons_zero, List.getElem_cons_succ])
                  refine wpAnyH_take (i := 4) (v := ?_) rfl (by kernel_rfl) (by kernel_rfl) (by kernel_rfl) (fun _ _ _ h => h) (Or.inl ⟨by rfl, ?_⟩) (by assumption) ?_
                  rotate_left
                  · (intro wx hSw; (try dsimp only at hSw); go_split_ands; go_simp; (try with_reducible rfl))
                  (try simp only [Act.put, List.setIfInBounds_toArray, List.set_cons_zero, List.set_cons_succ, List.getElem_toArray, List.getElem_cons_zero, List.getElem_cons_succ])
                  refine wpAnyH_take (i := 5) (v := .bool true) rfl (by kernel_rfl) (by kernel_rfl) (by kernel_rfl) (fun _ _ _ h => h) (Or.inl ⟨by rfl, ?_⟩) (by assumption) ?_
                  · (intro wx hSw; (try dsimp only at hSw); go_split_ands; go_simp; (try with_reducible rfl))
                  (try simp only [Act.put, List.setIfInBounds_toArray, List.set_cons_zero, List.set_cons_succ, List.getElem_toArray, List.getElem_cons_zero, List.getElem_cons_succ])
                  refine wpAnyH_take (i := 6) (v := ?_) rfl (by kernel_rfl) (by kernel_rfl) (by kernel_rfl) (fun _ _ _ h => h) (Or.inl ⟨by rfl, ?_⟩) (by assumption) ?_
                  rotate_left
                  · (intro wx hSw; (try dsimp only at hSw); go_split_ands; go_simp; (try with_reducible rfl))
                  (try simp only [Act.put, List.setIfInBounds_toArray, List.set_cons_zero, List.set_cons_succ, List.getElem_toArray, List.getElem_cons_zero, List.getElem_cons_succ])
                  refine wpAnyH_take (i := 7) (v := ?_) rfl (by kernel_rfl) (by kernel_rfl) (by kernel_rfl) (fun _ _ _ h => h) (Or.inl ⟨by rfl, ?_⟩) (by assumption) ?_
                  rotate_left
                  · (intro wx hSw; (try dsimp only at hSw); go_split_ands; go_simp; (try with_reducible rfl))
                  (try simp only [Act.put, List.setIfInBounds_toArray, List.set_cons_zero, List.set_cons_succ, List.getElem_toArray, List.getElem_cons_zero, List.getElem_cons_succ])
                  refine wpAnyH_take (i := 8) (v := ?_) rfl (by kernel_rfl) (by kernel_rfl) (by kernel_rfl) (fun _ _ _ h => h) (Or.inl ⟨by rfl, ?_⟩) (by assumption) ?_
                  rotate_left
                  · (intro wx hSw; (try dsimp only at hSw); go_split_ands; go_simp; (try with_reducible rfl))
                  (try simp only [Act.put, List.setIfInBounds_toArray, List.set_cons_zero, List.set_cons_succ, List.getElem_toArray, List.getElem_cons_zero, List.getElem_cons_succ])
                  refine wpAnyH_take (i := 9) (v := ?_) rfl (by kernel_rfl) (by kernel_rfl) (by kernel_rfl) (fun _ _ _ h => h) (Or.inl ⟨by rfl, ?_⟩) (by assumption) ?_
                  rotate_left
                  · (intro wx hSw; (try dsimp only at hSw); go_split_ands; go_simp; (try with_reducible rfl))
                  (try simp only [Act.put, List.setIfInBounds_toArray, List.set_cons_zero, List.set_cons_succ, List.getElem_toArray, List.getElem_cons_zero, List.getElem_cons_succ])
                  refine wpAnyH_take (i := 10) (v := ?_) rfl (by kernel_rfl) (by kernel_rfl) (by kernel_rfl) (fun _ _ _ h => h) (Or.inl ⟨by rfl, ?_⟩) (by assumption) ?_
                  rotate_left
                  · (intro wx hSw; (try dsimp only at hSw); go_split_ands; go_simp; (try with_reducible rfl))
                  (try simp only [Act.put, List.setIfInBounds_toArray, List.set_cons_zero, List.set_cons_succ, List.getElem_toArray, List.getElem_cons_zero, List.getElem_cons_succ])
                  refine wpAnyH_take (i := 11) (v := ?_) rfl (by kernel_rfl) (by kernel_rfl) (by kernel_rfl) (fun _ _ _ h => h) (Or.inl ⟨by rfl, ?_⟩) (by assumption) ?_
                  rotate_left
                  · (intro wx hSw; (try dsimp only at hSw); go_split_ands; go_simp; (try with_reducible rfl))
                  (try simp only [Act.put, List.setIfInBounds_toArray, List.set_cons_zero, List.set_cons_succ, List.getElem_toArray, List.getElem_cons_zero, List.getElem_cons_succ])
                  refine wpAnyH_take (i := 12) (v := ?_) rfl (by kernel_rfl) (by kernel_rfl) (by kernel_rfl) (fun _ _ _ h => h) (Or.inl ⟨by rfl, ?_⟩) (by assumption) ?_
                  rotate_left
                  · (intro wx hSw; (try dsimp only at hSw); go_split_ands; go_simp; (try with_reducible rfl))
                  (try simp only [Act.put, List.setIfInBounds_toArray, List.set_cons_zero, List.set_cons_succ, List.getElem_toArray, List.getElem_cons_zero, List.getElem_cons_succ])
                  refine wpAnyH_take (i := 13) (v := .bool true) rfl (by kernel_rfl) (by kernel_rfl) (by kernel_rfl) (fun _ _ _ h => h) (Or.inl ⟨by rfl, ?_⟩) (by assumption) ?_
                  · (intro wx hSw; (try dsimp only at hSw); go_split_ands; go_simp; (try with_reducible rfl))
                  (try simp only [Act.put, List.setIfInBounds_toArray, List.set_cons_zero, List.set_cons_succ, List.getElem_toArray, List.getElem_cons_zero, List.getElem_cons_succ])
                  refine wpAnyH_take (i := 14) (v := ?_) rfl (by kernel_rfl) (by kernel_rfl) (by kernel_rfl) (fun _ _ _ h => h) (Or.inl ⟨by rfl, ?_⟩) (by assumption) ?_
                  rotate_left
                  · (intro wx hSw; (try dsimp only at hSw); go_split_ands; go_simp; (try with_reducible rfl))
                  (try simp only [Act.put, List.setIfInBounds_toArray, List.set_cons_zero, List.set_cons_succ, List.getElem_toArray, List.getElem_cons_zero, List.getElem_cons_succ])
                  refine wpAnyH_take (i := 15) (v := ?_) rfl (by kernel_rfl) (by kernel_rfl) (by kernel_rfl) (fun _ _ _ h => h) (Or.inl ⟨by rfl, ?_⟩) (by assumption) ?_
                  rotate_left
                  · (intro wx hSw; (try dsimp only at hSw); go_split_ands; go_simp; (try with_reducible rfl))
                  (try simp only [Act.put, List.setIfInBounds_toArray, List.set_cons_zero, List.set_cons_succ, List.getElem_toArray, List.getElem_cons_zero, List.getElem_cons_succ])
                  refine wpAnyH_take (i := 16) (v := ?_) rfl (by kernel_rfl) (by kernel_rfl) (by kernel_rfl) (fun _ _ _ h => h) (Or.inl ⟨by rfl, ?_⟩) (by assumption) ?_
                  rotate_left
                  · (intro wx hSw; (try dsimp only at hSw); go_split_ands; go_simp; (try with_reducible rfl))
                  (try simp only [Act.put, List.setIfInBounds_toArray, List.set_cons_zero, List.set_cons_succ, List.getElem_toArray, List.getElem_cons_zero, List.getElem_cons_succ])
                  refine wpAnyH_take (i := 17) (v := ?_) rfl (by kernel_rfl) (by kernel_rfl) (by kernel_rfl) (fun _ _ _ h => h) (Or.inl ⟨by rfl, ?_⟩) (by assumption) ?_
                  rotate_left
                  · (intro wx hSw; (try dsimp only at hSw); go_split_ands; go_simp; (try with_reducible rfl))
                  (try simp only [Act.put, List.setIfInBounds_toArray, List.set_cons_zero, List.set_cons_succ, List.getElem_toArray, List.getElem_cons_zero, List.getElem_cons_succ])
                  refine wpAnyH_take (i := 18) (v := ?_) rfl (by kernel_rfl) (by kernel_rfl) (by kernel_rfl) (fun _ _ _ h => h) (Or.inl ⟨by rfl, ?_⟩) (by assumption) ?_
                  rotate_left
                  · (intro wx hSw; (try dsimp only at hSw); go_split_ands; go_simp; (try with_reducible rfl))
                  (try simp only [Act.put, List.setIfInBounds_toArray, List.set_cons_zero, List.set_cons_succ, List.getElem_toArray, List.getElem_cons_zero, List.getElem_cons_succ])
                  refine wpAnyH_take (i := 19) (v := ?_) rfl (by kernel_rfl) (by kernel_rfl) (by kernel_rfl) (fun _ _ _ h => h) (Or.inl ⟨by rfl, ?_⟩) (by assumption) ?_
                  rotate_left
                  · (intro wx hSw; (try dsimp only at hSw); go_split_ands; go_simp; (try with_reducible rfl))
                  (try simp only [Act.put, List.setIfInBounds_toArray, List.set_cons_zero, List.set_cons_succ, List.getElem_toArray, List.getElem_cons_zero, List.getElem_cons_succ])
                  refine wpAnyH_take (i := 20) (v := ?_) rfl (by kernel_rfl) (by kernel_rfl) (by kernel_rfl) (fun _ _ _ h => h) (Or.inl ⟨by rfl, ?_⟩) (by assumption) ?_
                  rotate_left
                  · (intro wx hSw; (try dsimp only at hSw); go_split_ands; go_simp; (try with_reducible rfl))
                  (try simp only [Act.put, List.setIfInBounds_toArray, List.set_cons_zero, List.set_cons_succ, List.getElem_toArray, List.getElem_cons_zero, List.getElem_cons_succ])
                  refine wpAnyH_take (i := 21) (v := .bool true) rfl (by kernel_rfl) (by kernel_rfl) (by kernel_rfl) (fun _ _ _ h => h) (Or.inl ⟨by rfl, ?_⟩) (by assumption) ?_
                  · (intro wx hSw; (try dsimp only at hSw); go_split_ands; go_simp; (try with_reducible rfl))
                  (try simp only [Act.put, List.setIfInBounds_toArray, List.set_cons_zero, List.set_cons_succ, List.getElem_toArray, List.getElem_cons_zero, List.getElem_cons_succ])
                  refine wpAnyH_take (i := 22) (v := ?_) rfl (by kernel_rfl) (by kernel_rfl) (by kernel_rfl) (fun _ _ _ h => h) (Or.inl ⟨by rfl, ?_⟩) (by assumption) ?_
                  rotate_left
                  · (intro wx hSw; (try dsimp only at hSw); go_split_ands; go_simp; (try with_reducible rfl))
                  (try simp only [Act.put, List.setIfInBounds_toArray, List.set_cons_zero, List.set_cons_succ, List.getElem_toArray, List.getElem_cons_zero, List.getElem_cons_succ])
                  refine wpAnyH_ready (rs := [23]) (by kernel_rfl) (by simp) ?_
                  refine AllReadyH.cons rfl (fun K hK => ?_) AllReadyH.nil
                  go_simp
                  refine hK.out _ _ (by
                    obtain ⟨s0, s1, s2, s3, s4, s5, s6, s7⟩ := hHeld
                    exact ⟨cell_far s0 (show wr.heap.size + 1 ≠ wr.heap.size by omega), cell_far s1 (show wr.heap.size + 1 ≠ w1.heap.size by omega), cell_far s2 (show wr.heap.size + 1 ≠ w1.heap.size + 1 by omega), cell_far s3 (show wr.heap.size + 1 ≠ Bx by omega), cell_far s4 (show wr.heap.size + 1 ≠ Bx by omega), cell_far s5 (show wr.heap.size + 1 ≠ d1 by omega), cell_far s6 (show wr.heap.size + 1 ≠ d1 by omega), cell_far s7 (show wr.heap.size + 1 ≠ d2 by omega)⟩) (fun hHeld => ?_)
                  clear hK K
                  (try simp only [Act.put, List.setIfInBounds_toArray, List.set_cons_zero, List.set_cons_succ, List.getElem_toArray, List.getElem_cons_zero, List.getElem_cons_succ])
                  refine wpAnyH_done (by kernel_rfl) ?_ _
                  have u10 := hHeld.1
                  have uf10 := (y10.other (B' := wr.heap.size + 1) (by omega) (.bool true)).frozen
                  clear hHeld
                  gi_wp2_with fail
                  exact list_round (fun k hk => hk) hBw y10 y11 HM.out (by omega) hk hB (fun _ => rfl) (by go_num)
                · have e3' : ¬ (txt x.2.2).toList = Z.toList := fun h => e3 (bytes_listed h)
                  refine wpAnyH_ready (rs := [0]) (by kernel_rfl) (by simp) ?_
                  refine AllReadyH.cons rfl (fun K hK => ?_) AllReadyH.nil
                  go_simp
                  refine hK.out _ _ (hHeld) (fun hHeld => ?_)
                  clear hK K
                  (try simp only [Act.put, List.setIfInBounds_toArray, List.set_cons_zero, List.set_cons_succ, List.getElem_toArray, List.getElem_cons_zero])
                  refine wpAnyH_take (i := 1) (v := ?_) rfl (by kernel_rfl) (by kernel_rfl) (by kernel_rfl) (fun _ _ _ h => h) (Or.inl ⟨by rfl, ?_⟩) (by assumption) ?_
                  rotate_left
                  · (intro wx hSw; (try dsimp only at hSw); go_split_ands; go_simp; (try with_reducible rfl))
                  (try simp only [Act.put, List.setIfInBounds_toArray, List.set_cons_zero, List.set_cons_succ, List.getElem_toArray, List.getElem_cons_zero, List.getElem_cons_succ])
                  refine wpAnyH_take (i := 2) (v := ?_) rfl (by kernel_rfl) (by kernel_rfl) (by kernel_rfl) (fun _ _ _ h => h) (Or.inl ⟨by rfl, ?_⟩) (by assumption) ?_
                  rotate_left
                  · (intro wx hSw; (try dsimp only at hSw); go_split_ands; go_simp; (try with_reducible rfl))
                  (try simp only [Act.put, List.setIfInBounds_toArray, List.set_cons_zero, List.set_cons_succ, List.getElem_toArray, List.getElem_cons_zero, List.getElem_cons_succ])
                  refine wpAnyH_take (i := 3) (v := ?_) rfl (by kernel_rfl) (by kernel_rfl) (by kernel_rfl) (fun _ _ _ h => h) (Or.inl ⟨by rfl, ?_⟩) (by assumption) ?_
                  rotate_left
                  · (intro wx hSw; (try dsimp only at hSw); go_split_ands; go_simp; (try with_reducible rfl))
                  (try simp only [Act.put, List.setIfInBounds_toArray, List.set_cons_zero, List.set_cons_succ, List.getElem_toArray, List.getElem_cons_zero, List.getElem_cons_succ])
                  refine wpAnyH_take (i := 4) (v := ?_) rfl (by kernel_rfl) (by kernel_rfl) (by kernel_rfl) (fun _ _ _ h => h) (Or.inl ⟨by rfl, ?_⟩) (by assumption) ?_
                  rotate_left
                  · (intro wx hSw; (try dsimp only at hSw); go_split_ands; go_simp; (try with_reducible rfl))
                  (try simp only [Act.put, List.setIfInBounds_toArray, List.set_cons_zero, List.set_cons_succ, List.getElem_toArray, List.getElem_cons_zero, List.getElem_cons_succ])
                  refine wpAnyH_take (i := 5) (v := .bool true) rfl (by kernel_rfl) (by kernel_rfl) (by kernel_rfl) (fun _ _ _ h => h) (Or.inl ⟨by rfl, ?_⟩) (by assumption) ?_
                  · (intro wx hSw; (try dsimp only at hSw); go_split_ands; go_simp; (try with_reducible rfl))
                  (try simp only [Act.put, List.setIfInBounds_toArray, List.set_cons_zero, List.set_cons_succ, List.getElem_toArray, List.getElem_cons_zero, List.getElem_cons_succ])
                  refine wpAnyH_take (i := 6) (v := ?_) rfl (by kernel_rfl) (by kernel_rfl) (by kernel_rfl) (fun _ _ _ h => h) (Or.inl ⟨by rfl, ?_⟩) (by assumption) ?_
                  rotate_left
                  · (intro wx hSw; (try dsimp only at hSw); go_split_ands; go_simp; (try with_reducible rfl))
                  (try simp only [Act.put, List.setIfInBounds_toArray, List.set_cons_zero, List.set_cons_succ, List.getElem_toArray, List.getElem_cons_zero, List.getElem_cons_succ])
                  refine wpAnyH_take (i := 7) (v := ?_) rfl (by kernel_rfl) (by kernel_rfl) (by kernel_rfl) (fun _ _ _ h => h) (Or.inl ⟨by rfl, ?_⟩) (by assumption) ?_
                  rotate_left
                  · (intro wx hSw; (try dsimp only at hSw); go_split_ands; go_simp; (try with_reducible rfl))
                  (try simp only [Act.put, List.setIfInBounds_toArray, List.set_cons_zero, List.set_cons_succ, List.getElem_toArray, List.getElem_cons_zero, List.getElem_cons_succ])
                  refine wpAnyH_take (i := 8) (v := ?_) rfl (by kernel_rfl) (by kernel_rfl) (by kernel_rfl) (fun _ _ _ h => h) (Or.inl ⟨by rfl, ?_⟩) (by assumption) ?_
                  rotate_left
                  · (intro wx hSw; (try dsimp only at hSw); go_split_ands; go_simp; (try with_reducible rfl))
                  (try simp only [Act.put, List.setIfInBounds_toArray, List.set_cons_zero, List.set_cons_succ, List.getElem_toArray, List.getElem_cons_zero, List.getElem_cons_succ])
                  refine wpAnyH_take (i := 9) (v := ?_) rfl (by kernel_rfl) (by kernel_rfl) (by kernel_rfl) (fun _ _ _ h => h) (Or.inl ⟨by rfl, ?_⟩) (by assumption) ?_
                  rotate_left
                  · (intro wx hSw; (try dsimp only at hSw); go_split_ands; go_simp; (try with_reducible rfl))
                  (try simp only [Act.put, List.setIfInBounds_toArray, List.set_cons_zero, List.set_cons_succ, List.getElem_toArray, List.getElem_cons_zero, List.getElem_cons_succ])
                  refine wpAnyH_take (i := 10) (v := ?_) rfl (by kernel_rfl) (by kernel_rfl) (by kernel_rfl) (fun _ _ _ h => h) (Or.inl ⟨by rfl, ?_⟩) (by assumption) ?_
                  rotate_left
                  · (intro wx hSw; (try dsimp only at hSw); go_split_ands; go_simp; (try with_reducible rfl))
                  (try simp only [Act.put, List.setIfInBounds_toArray, List.set_cons_zero, List.set_cons_succ, List.getElem_toArray, List.getElem_cons_zero, List.getElem_cons_succ])
                  refine wpAnyH_take (i := 11) (v := ?_) rfl (by kernel_rfl) (by kernel_rfl) (by kernel_rfl) (fun _ _ _ h => h) (Or.inl ⟨by rfl, ?_⟩) (by assumption) ?_
                  rotate_left
                  · (intro wx hSw; (try dsimp only at hSw); go_split_ands; go_simp; (try with_reducible rfl))
                  (try simp only [Act.put, List.setIfInBounds_toArray, List.set_cons_zero, List.set_cons_succ, List.getElem_toArray, List.getElem_cons_zero, List.getElem_cons_succ])
                  refine wpAnyH_take (i := 12) (v := ?_) rfl (by kernel_rfl) (by kernel_rfl) (by kernel_rfl) (fun _ _ _ h => h) (Or.inl ⟨by rfl, ?_⟩) (by assumption) ?_
                  rotate_left
                  · (intro wx hSw; (try dsimp only at hSw); go_split_ands; go_simp; (try with_reducible rfl))
                  (try simp only [Act.put, List.setIfInBounds_toArray, List.set_cons_zero, List.set_cons_succ, List.getElem_toArray, List.getElem_cons_zero, List.getElem_cons_succ])
                  refine wpAnyH_take (i := 13) (v := .bool true) rfl (by kernel_rfl) (by kernel_rfl) (by kernel_rfl) (fun _ _ _ h => h) (Or.inl ⟨by rfl, ?_⟩) (by assumption) ?_
                  · (intro wx hSw; (try dsimp only at hSw); go_split_ands; go_simp; (try with_reducible rfl))
                  (try simp only [Act.put, List.setIfInBounds_toArray, List.set_cons_zero, List.set_cons_succ, List.getElem_toArray, List.getElem_cons_zero, List.getElem_cons_succ])
                  refine wpAnyH_take (i := 14) (v := ?_) rfl (by kernel_rfl) (by kernel_rfl) (by kernel_rfl) (fun _ _ _ h => h) (Or.inl ⟨by rfl, ?_⟩) (by assumption) ?_
                  rotate_left
                  · (intro wx hSw; (try dsimp only at hSw); go_split_ands; go_simp; (try with_reducible rfl))
                  (try simp only [Act.put, List.setIfInBounds_toArray, List.set_cons_zero, List.set_cons_succ, List.getElem_toArray, List.getElem_cons_zero, List.getElem_cons_succ])
                  refine wpAnyH_take (i := 15) (v := ?_) rfl (by kernel_rfl) (by kernel_rfl) (by kernel_rfl) (fun _ _ _ h => h) (Or.inl ⟨by rfl, ?_⟩) (by assumption) ?_
                  rotate_left
                  · (intro wx hSw; (try dsimp only at hSw); go_split_ands; go_simp; (try with_reducible rfl))
                  (try simp only [Act.put, List.setIfInBounds_toArray, List.set_cons_zero, List.set_cons_succ, List.getElem_toArray, List.getElem_cons_zero, List.getElem_cons_succ])
                  refine wpAnyH_take (i := 16) (v := ?_) rfl (by kernel_rfl) (by kernel_rfl) (by kernel_rfl) (fun _ _ _ h => h) (Or.inl ⟨by rfl, ?_⟩) (by assumption) ?_
                  rotate_left
                  · (intro wx hSw; (try dsimp only at hSw); go_split_ands; go_simp; (try with_reducible rfl))
                  (try simp only [Act.put, List.setIfInBounds_toArray, List.set_cons_zero, List.set_cons_succ, List.getElem_toArray, List.getElem_cons_zero, List.getElem_cons_succ])
                  refine wpAnyH_take (i := 17) (v := ?_) rfl (by kernel_rfl) (by kernel_rfl) (by kernel_rfl) (fun _ _ _ h => h) (Or.inl ⟨by rfl, ?_⟩) (by assumption) ?_
                  rotate_left
                  · (intro wx hSw; (try dsimp only at hSw); go_split_ands; go_simp; (try with_reducible rfl))
                  (try simp only [Act.put, List.setIfInBounds_toArray, List.set_cons_zero, List.set_cons_succ, List.getElem_toArray, List.getElem_cons_zero, List.getElem_cons_succ])
                  refine wpAnyH_take (i := 18) (v := ?_) rfl (by kernel_rfl) (by kernel_rfl) (by kernel_rfl) (fun _ _ _ h => h) (Or.inl ⟨by rfl, ?_⟩) (by assumption) ?_
                  rotate_left
                  · (intro wx hSw; (try dsimp only at hSw); go_split_ands; go_simp; (try with_reducible rfl))
                  (try simp only [Act.put, List.setIfInBounds_toArray, List.set_cons_zero, List.set_cons_succ, List.getElem_toArray, List.getElem_cons_zero, List.getElem_cons_succ])
                  refine wpAnyH_take (i := 19) (v := ?_) rfl (by kernel_rfl) (by kernel_rfl) (by kernel_rfl) (fun _ _ _ h => h) (Or.inl ⟨by rfl, ?_⟩) (by assumption) ?_
                  rotate_left
                  · (intro wx hSw; (try dsimp only at hSw); go_split_ands; go_simp; (try with_reducible rfl))
                  (try simp only [Act.put, List.setIfInBounds_toArray, List.set_cons_zero, List.set_cons_succ, List.getElem_toArray, List.getElem_cons_zero, List.getElem_cons_succ])
                  refine wpAnyH_take (i := 20) (v := ?_) rfl (by kernel_rfl) (by kernel_rfl) (by kernel_rfl) (fun _ _ _ h => h) (Or.inl ⟨by rfl, ?_⟩) (by assumption) ?_
                  rotate_left
                  · (intro wx hSw; (try dsimp only at hSw); go_split_ands; go_simp; (try with_reducible rfl))
                  (try simp only [Act.put, List.setIfInBounds_toArray, List.set_cons_zero, List.set_cons_succ, List.getElem_toArray, List.getElem_cons_zero, List.getElem_cons_succ])
                  refine wpAnyH_take (i := 21) (v := .bool false) rfl (by kernel_rfl) (by kernel_rfl) (by kernel_rfl) (fun _ _ _ h => h) (Or.inl ⟨by rfl, ?_⟩) (by assumption) ?_
                  · (intro wx hSw; (try dsimp only at hSw); go_split_ands; go_simp; (try with_reducible rfl))
                  (try simp only [Act.put, List.setIfInBounds_toArray, List.set_cons_zero, List.set_cons_succ, List.getElem_toArray, List.getElem_cons_zero, List.getElem_cons_succ])
                  refine wpAnyH_take (i := 22) (v := ?_) rfl (by kernel_rfl) (by kernel_rfl) (by kernel_rfl) (fun _ _ _ h => h) (Or.inl ⟨by rfl, ?_⟩) (by assumption) ?_
                  rotate_left
                  · (intro wx hSw; (try dsimp only at hSw); go_split_ands; go_simp; (try with_reducible rfl))
                  (try simp only [Act.put, List.setIfInBounds_toArray, List.set_cons_zero, List.set_cons_succ, List.getElem_toArray, List.getElem_cons_zero, List.getElem_cons_succ])
                  refine wpAnyH_ready (rs := [23]) (by kernel_rfl) (by simp) ?_
                  refine AllReadyH.cons rfl (fun K hK => ?_) AllReadyH.nil
                  go_simp
                  refine hK.out _ _ (by
                    obtain ⟨s0, s1, s2, s3, s4, s5, s6, s7⟩ := hHeld
                    exact ⟨cell_far s0 (show wr.heap.size + 1 ≠ wr.heap.size by omega), cell_far s1 (show wr.heap.size + 1 ≠ w1.heap.size by omega), cell_far s2 (show wr.heap.size + 1 ≠ w1.heap.size + 1 by omega), cell_far s3 (show wr.heap.size + 1 ≠ Bx by omega), cell_far s4 (show wr.heap.size + 1 ≠ Bx by omega), cell_far s5 (show wr.heap.size + 1 ≠ d1 by omega), cell_far s6 (show wr.heap.size + 1 ≠ d1 by omega), cell_far s7 (show wr.heap.size + 1 ≠ d2 by omega)⟩) (fun hHeld => ?_)
                  clear hK K
                  (try simp only [Act.put, List.setIfInBounds_toArray, List.set_cons_zero, List.set_cons_succ, List.getElem_toArray, List.getElem_cons_zero, List.getElem_cons_succ])
                  refine wpAnyH_done (by kernel_rfl) ?_ _
                  have u10 := hHeld.1
                  have uf10 := (y10.other (B' := wr.heap.size + 1) (by omega) (.bool false)).frozen
                  clear hHeld
                  gi_wp2_with fail
                  exact list_round (fun k hk => hk) hBw y10 y11 HM.out (by omega) hk hB (fun hp => absurd (HE.out hp).2.2 e3) (by go_num)
              · refine wpAnyH_ready (rs := [0]) (by kernel_rfl) (by simp) ?_
                refine AllReadyH.cons rfl (fun K hK => ?_) AllReadyH.nil
                go_simp
                refine hK.out _ _ (hHeld) (fun hHeld => ?_)
                clear hK K
                (try simp only [Act.put, List.setIfInBounds_toArray, List.set_cons_zero, List.set_cons_succ, List.getElem_toArray, List.getElem_cons_zero])
                refine wpAnyH_take (i := 1) (v := ?_) rfl (by kernel_rfl) (by kernel_rfl) (by kernel_rfl) (fun _ _ _ h => h) (Or.inl ⟨by rfl, ?_⟩) (by assumption) ?_
                rotate_left
                · (intro wx hSw; (try dsimp only at hSw); go_split_ands; go_simp; (try with_reducible rfl))
                (try simp only [Act.put, List.setIfInBounds_toArray, List.set_cons_zero, List.set_cons_succ, List.getElem_toArray, List.getElem_cons_zero, List.getElem_cons_succ])
                refine wpAnyH_take (i := 2) (v := ?_) rfl (by kernel_rfl) (by kernel_rfl) (by kernel_rfl) (fun _ _ _ h => h) (Or.inl ⟨by rfl, ?_⟩) (by assumption) ?_
                rotate_left
                · (intro wx hSw; (try dsimp only at hSw); go_split_ands; go_simp; (try with_reducible rfl))
                (try simp only [Act.put, List.setIfInBounds_toArray, List.set_cons_zero, List.set_cons_succ, List.getElem_toArray, List.getElem_cons_zero, List.getElem_cons_succ])
                refine wpAnyH_take (i := 3) (v := ?_) rfl (by kernel_rfl) (by kernel_rfl) (by kernel_rfl) (fun _ _ _ h => h) (Or.inl ⟨by rfl, ?_⟩) (by assumption) ?_
                rotate_left
                · (intro wx hSw; (try dsimp only at hSw); go_split_ands; go_simp; (try with_reducible rfl))
                (try simp only [Act.put, List.setIfInBounds_toArray, List.set_cons_zero, List.set_cons_succ, List.getElem_toArray, List.getElem_cons_zero, List.getElem_cons_succ])
                refine wpAnyH_take (i := 4) (v := ?_) rfl (by kernel_rfl) (by kernel_rfl) (by kernel_rfl) (fun _ _ _ h => h) (Or.inl ⟨by rfl, ?_⟩) (by assumption) ?_
                rotate_left
                · (intro wx hSw; (try dsimp only at hSw); go_split_ands; go_simp; (try with_reducible rfl))
                (try simp only [Act.put, List.setIfInBounds_toArray, List.set_cons_zero, List.set_cons_succ, List.getElem_toArray, List.getElem_cons_zero, List.getElem_cons_succ])
                refine wpAnyH_take (i := 5) (v := .bool true) rfl (by kernel_rfl) (by kernel_rfl) (by kernel_rfl) (fun _ _ _ h => h) (Or.inl ⟨by rfl, ?_⟩) (by assumption) ?_
                · (intro wx hSw; (try dsimp only at hSw); go_split_ands; go_simp; (try with_reducible rfl))
                (try simp only [Act.put, List.setIfInBounds_toArray, List.set_cons_zero, List.set_cons_succ, List.getElem_toArray, List.getElem_cons_zero, List.getElem_cons_succ])
                refine wpAnyH_take (i := 6) (v := ?_) rfl (by kernel_rfl) (by kernel_rfl) (by kernel_rfl) (fun _ _ _ h => h) (Or.inl ⟨by rfl, ?_⟩) (by assumption) ?_
                rotate_left
                · (intro wx hSw; (try dsimp only at hSw); go_split_ands; go_simp; (try with_reducible rfl))
                (try simp only [Act.put, List.setIfInBounds_toArray, List.set_cons_zero, List.set_cons_succ, List.getElem_toArray, List.getElem_cons_zero, List.getElem_cons_succ])
                refine wpAnyH_take (i := 7) (v := ?_) rfl (by kernel_rfl) (by kernel_rfl) (by kernel_rfl) (fun _ _ _ h => h) (Or.inl ⟨by rfl, ?_⟩) (by assumption) ?_
                rotate_left
                · (intro wx hSw; (try dsimp only at hSw); go_split_ands; go_simp; (try with_reducible rfl))
                (try simp only [Act.put, List.setIfInBounds_toArray, List.set_cons_zero, List.set_cons_succ, List.getElem_toArray, List.getElem_cons_zero, List.getElem_cons_succ])
                refine wpAnyH_take (i := 8) (v := ?_) rfl (by kernel_rfl) (by kernel_rfl) (by kernel_rfl) (fun _ _ _ h => h) (Or.inl ⟨by rfl, ?_⟩) (by assumption) ?_
                rotate_left
                · (intro wx hSw; (try dsimp only at hSw); go_split_ands; go_simp; (try with_reducible rfl))
                (try simp only [Act.put, List.setIfInBounds_toArray, List.set_cons_zero, List.set_cons_succ, List.getElem_toArray, List.getElem_cons_zero, List.getElem_cons_succ])
                refine wpAnyH_take (i := 9) (v := ?_) rfl (by kernel_rfl) (by kernel_rfl) (by kernel_rfl) (fun _ _ _ h => h) (Or.inl ⟨by rfl, ?_⟩) (by assumption) ?_
                rotate_left
                · (intro wx hSw; (try dsimp only at hSw); go_split_ands; go_simp; (try with_reducible rfl))
                (try simp only [Act.put, List.setIfInBounds_toArray, List.set_cons_zero, List.set_cons_succ, List.getElem_toArray, List.getElem_cons_zero, List.getElem_cons_succ])
                refine wpAnyH_take (i := 10) (v := ?_) rfl (by kernel_rfl) (by kernel_rfl) (by kernel_rfl) (fun _ _ _ h => h) (Or.inl ⟨by rfl, ?_⟩) (by assumption) ?_
                rotate_left
                · (intro wx hSw; (try dsimp only at hSw); go_split_ands; go_simp; (try with_reducible rfl))
                (try simp only [Act.put, List.setIfInBounds_toArray, List.set_cons_zero, List.set_cons_succ, List.getElem_toArray, List.getElem_cons_zero, List.getElem_cons_succ])
                refine wpAnyH_take (i := 11) (v := ?_) rfl (by kernel_rfl) (by kernel_rfl) (by kernel_rfl) (fun _ _ _ h => h) (Or.inl ⟨by rfl, ?_⟩) (by assumption) ?_
                rotate_left
                · (intro wx hSw; (try dsimp only at hSw); go_split_ands; go_simp; (try with_reducible rfl))
                (try simp only [Act.put, List.setIfInBounds_toArray, List.set_cons_zero, List.set_cons_succ, List.getElem_toArray, List.getElem_cons_zero, List.getElem_cons_succ])
                refine wpAnyH_take (i := 12) (v := ?_) rfl (by kernel_rfl) (by kernel_rfl) (by kernel_rfl) (fun _ _ _ h => h) (Or.inl ⟨by rfl, ?_⟩) (by assumption) ?_
                rotate_left
                · (intro wx hSw; (try dsimp only at hSw); go_split_ands; go_simp; (try with_reducible rfl))
                (try simp only [Act.put, List.setIfInBounds_toArray, List.set_cons_zero, List.set_cons_succ, List.getElem_toArray, List.getElem_cons_zero, List.getElem_cons_succ])
                refine wpAnyH_take (i := 13) (v := .bool false) rfl (by kernel_rfl) (by kernel_rfl) (by kernel_rfl) (fun _ _ _ h => h) (Or.inl ⟨by rfl, ?_⟩) (by assumption) ?_
                · (intro wx hSw; (try dsimp only at hSw); go_split_ands; go_simp; (try with_reducible rfl))
                (try simp only [Act.put, List.setIfInBounds_toArray, List.set_cons_zero, List.set_cons_succ, List.getElem_toArray, List.getElem_cons_zero, List.getElem_cons_succ])
                refine wpAnyH_take (i := 14) (v := ?_) rfl (by kernel_rfl) (by kernel_rfl) (by kernel_rfl) (fun _ _ _ h => h) (Or.inl ⟨by rfl, ?_⟩) (by assumption) ?_
                rotate_left
                · (intro wx hSw; (try dsimp only at hSw); go_split_ands; go_simp; (try with_reducible rfl))
                (try simp only [Act.put, List.setIfInBounds_toArray, List.set_cons_zero, List.set_cons_succ, List.getElem_toArray, List.getElem_cons_zero, List.getElem_cons_succ])
                refine wpAnyH_take (i := 15) (v := ?_) rfl (by kernel_rfl) (by kernel_rfl) (by kernel_rfl) (fun _ _ _ h => h) (Or.inl ⟨by rfl, ?_⟩) (by assumption) ?_
                rotate_left
                · (intro wx hSw; (try dsimp only at hSw); go_split_ands; go_simp; (try with_reducible rfl))
                (try simp only [Act.put, List.setIfInBounds_toArray, List.set_cons_zero, List.set_cons_succ, List.getElem_toArray, List.getElem_cons_zero, List.getElem_cons_succ])
                refine wpAnyH_take (i := 16) (v := undef) rfl (by kernel_rfl) (by kernel_rfl) (by kernel_rfl) (fun _ _ _ h => h) (Or.inr ⟨by rfl, rfl⟩) (by assumption) ?_
                (try simp only [Act.put, List.setIfInBounds_toArray, List.set_cons_zero, List.set_cons_succ, List.getElem_toArray, List.getElem_cons_zero, List.getElem_cons_succ])
                refine wpAnyH_take (i := 17) (v := undef) rfl (by kernel_rfl) (by kernel_rfl) (by kernel_rfl) (fun _ _ _ h => h) (Or.inr ⟨by rfl, rfl⟩) (by assumption) ?_
                (try simp only [Act.put, List.setIfInBounds_toArray, List.set_cons_zero, List.set_cons_succ, List.getElem_toArray, List.getElem_cons_zero, List.getElem_cons_succ])
                refine wpAnyH_take (i := 18) (v := undef) rfl (by kernel_rfl) (by kernel_rfl) (by kernel_rfl) (fun _ _ _ h => h) (Or.inr ⟨by rfl, rfl⟩) (by assumption) ?_
                (try simp only [Act.put, List.setIfInBounds_toArray, List.set_cons_zero, List.set_cons_succ, List.getElem_toArray, List.getElem_cons_zero, List.getElem_cons_succ])
                refine wpAnyH_take (i := 19) (v := undef) rfl (by kernel_rfl) (by kernel_rfl) (by kernel_rfl) (fun _ _ _ h => h) (Or.inr ⟨by rfl, rfl⟩) (by assumption) ?_
                (try simp only [Act.put, List.setIfInBounds_toArray, List.set_cons_zero, List.set_cons_succ, List.getElem_toArray, List.getElem_cons_zero, List.getElem_cons_succ])
                refine wpAnyH_take (i := 20) (v := undef) rfl (by kernel_rfl) (by kernel_rfl) (by kernel_rfl) (fun _ _ _ h => h) (Or.inr ⟨by rfl, rfl⟩) (by assumption) ?_
                (try simp only [Act.put, List.setIfInBounds_toArray, List.set_cons_zero, List.set_cons_succ, List.getElem_toArray, List.getElem_cons_zero, List.getElem_cons_succ])
                refine wpAnyH_take (i := 21) (v := undef) rfl (by kernel_rfl) (by kernel_rfl) (by kernel_rfl) (fun _ _ _ h => h) (Or.inr ⟨by rfl, rfl⟩) (by assumption) ?_
                (try simp only [Act.put, List.setIfInBounds_toArray, List.set_cons_zero, List.set_cons_succ, List.getElem_toArray, List.getElem_cons_zero, List.getElem_cons_succ])
                refine wpAnyH_take (i := 22) (v := ?_) rfl (by kernel_rfl) (by kernel_rfl) (by kernel_rfl) (fun _ _ _ h => h) (Or.inl ⟨by rfl, ?_⟩) (by assumption) ?_
                rotate_left
                · (intro wx hSw; (try dsimp only at hSw); go_split_ands; go_simp; (try with_reducible rfl))
                (try simp only [Act.put, List.setIfInBounds_toArray, List.set_cons_zero, List.set_cons_succ, List.getElem_toArray, List.getElem_cons_zero, List.getElem_cons_succ])
                refine wpAnyH_ready (rs := [23]) (by kernel_rfl) (by simp) ?_
                refine AllReadyH.cons rfl (fun K hK => ?_) AllReadyH.nil
                go_simp
                refine hK.out _ _ (by
                  obtain ⟨s0, s1, s2, s3, s4, s5, s6, s7⟩ := hHeld
                  exact ⟨cell_far s0 (show wr.heap.size + 1 ≠ wr.heap.size by omega), cell_far s1 (show wr.heap.size + 1 ≠ w1.heap.size by omega), cell_far s2 (show wr.heap.size + 1 ≠ w1.heap.size + 1 by omega), cell_far s3 (show wr.heap.size + 1 ≠ Bx by omega), cell_far s4 (show wr.heap.size + 1 ≠ Bx by omega), cell_far s5 (show wr.heap.size + 1 ≠ d1 by omega), cell_far s6 (show wr.heap.size + 1 ≠ d1 by omega), cell_far s7 (show wr.heap.size + 1 ≠ d2 by omega)⟩) (fun hHeld => ?_)
                clear hK K
                (try simp only [Act.put, List.setIfInBounds_toArray, List.set_cons_zero, List.set_cons_succ, List.getElem_toArray, List.getElem_cons_zero, List.getElem_cons_succ])
                refine wpAnyH_done (by kernel_rfl) ?_ _
                have u10 := hHeld.1
                have uf10 := (y10.other (B' := wr.heap.size + 1) (by omega) (.bool false)).frozen
                clear hHeld
                gi_wp2_with fail
                exact list_round (fun k hk => hk) hBw y10 y11 HM.out (by omega) hk hB (fun hp => absurd (HE.out hp).2.1 e2) (by go_num)
            · refine wpAnyH_ready (rs := [0]) (by kernel_rfl) (by simp) ?_
              refine AllReadyH.cons rfl (fun K hK => ?_) AllReadyH.nil
              go_simp
              refine hK.out _ _ (hHeld) (fun hHeld => ?_)
              clear hK K
              (try simp only [Act.put, List.setIfInBounds_toArray, List.set_cons_zero, List.set_cons_succ, List.getElem_toArray, List.getElem_cons_zero])
              refine wpAnyH_take (i := 1) (v := ?_) rfl (by kernel_rfl) (by kernel_rfl) (by kernel_rfl) (fun _ _ _ h => h) (Or.inl ⟨by rfl, ?_⟩) (by assumption) ?_
              rotate_left
              · (intro wx hSw; (try dsimp only at hSw); go_split_ands; go_simp; (try with_reducible rfl))
              (try simp only [Act.put, List.setIfInBounds_toArray, List.set_cons_zero, List.set_cons_succ, List.getElem_toArray, List.getElem_cons_zero, List.getElem_cons_succ])
              refine wpAnyH_take (i := 2) (v := ?_) rfl (by kernel_rfl) (by kernel_rfl) (by kernel_rfl) (fun _ _ _ h => h) (Or.inl ⟨by rfl, ?_⟩) (by assumption) ?_
              rotate_left
              · (intro wx hSw; (try dsimp only at hSw); go_split_ands; go_simp; (try with_reducible rfl))
              (try simp only [Act.put, List.setIfInBounds_toArray, List.set_cons_zero, List.set_cons_succ, List.getElem_toArray, List.getElem_cons_zero, List.getElem_cons_succ])
              refine wpAnyH_take (i := 3) (v := ?_) rfl (by kernel_rfl) (by kernel_rfl) (by kernel_rfl) (fun _ _ _ h => h) (Or.inl ⟨by rfl, ?_⟩) (by assumption) ?_
              rotate_left
              · (intro wx hSw; (try dsimp only at hSw); go_split_ands; go_simp; (try with_reducible rfl))
              (try simp only [Act.put, List.setIfInBounds_toArray, List.set_cons_zero, List.set_cons_succ, List.getElem_toArray, List.getElem_cons_zero, List.getElem_cons_succ])
              refine wpAnyH_take (i := 4) (v := ?_) rfl (by kernel_rfl) (by kernel_rfl) (by kernel_rfl) (fun _ _ _ h => h) (Or.inl ⟨by rfl, ?_⟩) (by assumption) ?_
              rotate_left
              · (intro wx hSw; (try dsimp only at hSw); go_split_ands; go_simp; (try with_reducible rfl))
              (try simp only [Act.put, List.setIfInBounds_toArray, List.set_cons_zero, List.set_cons_succ, List.getElem_toArray, List.getElem_cons_zero, List.getElem_cons_succ])
              refine wpAnyH_take (i := 5) (v := .bool true) rfl (by kernel_rfl) (by kernel_rfl) (by kernel_rfl) (fun _ _ _ h => h) (Or.inl ⟨by rfl, ?_⟩) (by assumption) ?_
              · (intro wx hSw; (try dsimp only at hSw); go_split_ands; go_simp; (try with_reducible rfl))
              (try simp only [Act.put, List.setIfInBounds_toArray, List.set_cons_zero, List.set_cons_succ, List.getElem_toArray, List.getElem_cons_zero, List.getElem_cons_succ])
              refine wpAnyH_take (i := 6) (v := ?_) rfl (by kernel_rfl) (by kernel_rfl) (by kernel_rfl) (fun _ _ _ h => h) (Or.inl ⟨by rfl, ?_⟩) (by assumption) ?_
              rotate_left
              · (intro wx hSw; (try dsimp only at hSw); go_split_ands; go_simp; (try with_reducible rfl))
              (try simp only [Act.put, List.setIfInBounds_toArray, List.set_cons_zero, List.set_cons_succ, List.getElem_toArray, List.getElem_cons_zero, List.getElem_cons_succ])
              refine wpAnyH_take (i := 7) (v := ?_) rfl (by kernel_rfl) (by kernel_rfl) (by kernel_rfl) (fun _ _ _ h => h) (Or.inl ⟨by rfl, ?_⟩) (by assumption) ?_
              rotate_left
              · (intro wx hSw; (try dsimp only at hSw); go_split_ands; go_simp; (try with_reducible rfl))
              (try simp only [Act.put, List.setIfInBounds_toArray, List.set_cons_zero, List.set_cons_succ, List.getElem_toArray, List.getElem_cons_zero, List.getElem_cons_succ])
              refine wpAnyH_take (i := 8) (v := ?_) rfl (by kernel_rfl) (by kernel_rfl) (by kernel_rfl) (fun _ _ _ h => h) (Or.inl ⟨by rfl, ?_⟩) (by assumption) ?_
              rotate_left
              · (intro wx hSw; (try dsimp only at hSw); go_split_ands; go_simp; (try with_reducible rfl))
              (try simp only [Act.put, List.setIfInBounds_toArray, List.set_cons_zero, List.set_cons_succ, List.getElem_toArray, List.getElem_cons_zero, List.getElem_cons_succ])
              refine wpAnyH_take (i := 9) (v := ?_) rfl (by kernel_rfl) (by kernel_rfl) (by kernel_rfl) (fun _ _ _ h => h) (Or.inl ⟨by rfl, ?_⟩) (by assumption) ?_
              rotate_left
              · (intro wx hSw; (try dsimp only at hSw); go_split_ands; go_simp; (try with_reducible rfl))
              (try simp only [Act.put, List.setIfInBounds_toArray, List.set_cons_zero, List.set_cons_succ, List.getElem_toArray, List.getElem_cons_zero, List.getElem_cons_succ])
              refine wpAnyH_take (i := 10) (v := ?_) rfl (by kernel_rfl) (by kernel_rfl) (by kernel_rfl) (fun _ _ _ h => h) (Or.inl ⟨by rfl, ?_⟩) (by assumption) ?_
              rotate_left
              · (intro wx hSw; (try dsimp only at hSw); go_split_ands; go_simp; (try with_reducible rfl))
              (try simp only [Act.put, List.setIfInBounds_toArray, List.set_cons_zero, List.set_cons_succ, List.getElem_toArray, List.getElem_cons_zero, List.getElem_cons_succ])
              refine wpAnyH_take (i := 11) (v := ?_) rfl (by kernel_rfl) (by kernel_rfl) (by kernel_rfl) (fun _ _ _ h => h) (Or.inl ⟨by rfl, ?_⟩) (by assumption) ?_
              rotate_left
              · (intro wx hSw; (try dsimp only at hSw); go_split_ands; go_simp; (try with_reducible rfl))
              (try simp only [Act.put, List.setIfInBounds_toArray, List.set_cons_zero, List.set_cons_succ, List.getElem_toArray, List.getElem_cons_zero, List.getElem_cons_succ])
              refine wpAnyH_take (i := 12) (v := ?_) rfl (by kernel_rfl) (by kernel_rfl) (by kernel_rfl) (fun _ _ _ h => h) (Or.inl ⟨by rfl, ?_⟩) (by assumption) ?_
              rotate_left
              · (intro wx hSw; (try dsimp only at hSw); go_split_ands; go_simp; (try with_reducible rfl))
              (try simp only [Act.put, List.setIfInBounds_toArray, List.set_cons_zero, List.set_cons_succ, List.getElem_toArray, List.getElem_cons_zero, List.getElem_cons_succ])
              refine wpAnyH_take (i := 13) (v := .bool false) rfl (by kernel_rfl) (by kernel_rfl) (by kernel_rfl) (fun _ _ _ h => h) (Or.inl ⟨by rfl, ?_⟩) (by assumption) ?_
              · (intro wx hSw; (try dsimp only at hSw); go_split_ands; go_simp; (try with_reducible rfl))
              (try simp only [Act.put, List.setIfInBounds_toArray, List.set_cons_zero, List.set_cons_succ, List.getElem_toArray, List.getElem_cons_zero, List.getElem_cons_succ])
              refine wpAnyH_take (i := 14) (v := ?_) rfl (by kernel_rfl) (by kernel_rfl) (by kernel_rfl) (fun _ _ _ h => h) (Or.inl ⟨by rfl, ?_⟩) (by assumption) ?_
              rotate_left
              · (intro wx hSw; (try dsimp only at hSw); go_split_ands; go_simp; (try with_reducible rfl))
              (try simp only [Act.put, List.setIfInBounds_toArray, List.set_cons_zero, List.set_cons_succ, List.getElem_toArray, List.getElem_cons_zero, List.getElem_cons_succ])
              refine wpAnyH_take (i := 15) (v := ?_) rfl (by kernel_rfl) (by kernel_rfl) (by kernel_rfl) (fun _ _ _ h => h) (Or.inl ⟨by rfl, ?_⟩) (by assumption) ?_
              rotate_left
              · (intro wx hSw; (try dsimp only at hSw); go_split_ands; go_simp; (try with_reducible rfl))
              (try simp only [Act.put, List.setIfInBounds_toArray, List.set_cons_zero, List.set_cons_succ, List.getElem_toArray, List.getElem_cons_zero, List.getElem_cons_succ])
              refine wpAnyH_take (i := 16) (v := undef) rfl (by kernel_rfl) (by kernel_rfl) (by kernel_rfl) (fun _ _ _ h => h) (Or.inr ⟨by rfl, rfl⟩) (by assumption) ?_
              (try simp only [Act.put, List.setIfInBounds_toArray, List.set_cons_zero, List.set_cons_succ, List.getElem_toArray, List.getElem_cons_zero, List.getElem_cons_succ])
              refine wpAnyH_take (i := 17) (v := undef) rfl (by kernel_rfl) (by kernel_rfl) (by kernel_rfl) (fun _ _ _ h => h) (Or.inr ⟨by rfl, rfl⟩) (by assumption) ?_
              (try simp only [Act.put, List.setIfInBounds_toArray, List.set_cons_zero, List.set_cons_succ, List.getElem_toArray, List.getElem_cons_zero, List.getElem_cons_succ])
              refine wpAnyH_take (i := 18) (v := undef) rfl (by kernel_rfl) (by kernel_rfl) (by kernel_rfl) (fun _ _ _ h => h) (Or.inr ⟨by rfl, rfl⟩) (by assumption) ?_
              (try simp only [Act.put, List.setIfInBounds_toArray, List.set_cons_zero, List.set_cons_succ, List.getElem_toArray, List.getElem_cons_zero, List.getElem_cons_succ])
              refine wpAnyH_take (i := 19) (v := undef) rfl (by kernel_rfl) (by kernel_rfl) (by kernel_rfl) (fun _ _ _ h => h) (Or.inr ⟨by rfl, rfl⟩) (by assumption) ?_
              (try simp only [Act.put, List.setIfInBounds_toArray, List.set_cons_zero, List.set_cons_succ, List.getElem_toArray, List.getElem_cons_zero, List.getElem_cons_succ])
              refine wpAnyH_take (i := 20) (v := undef) rfl (by kernel_rfl) (by kernel_rfl) (by kernel_rfl) (fun _ _ _ h => h) (Or.inr ⟨by rfl, rfl⟩) (by assumption) ?_
              (try simp only [Act.put, List.setIfInBounds_toArray, List.set_cons_zero, List.set_cons_succ, List.getElem_toArray, List.getElem_cons_zero, List.getElem_cons_succ])
              refine wpAnyH_take (i := 21) (v := undef) rfl (by kernel_rfl) (by kernel_rfl) (by kernel_rfl) (fun _ _ _ h => h) (Or.inr ⟨by rfl, rfl⟩) (by assumption) ?_
              (try simp only [Act.put, List.setIfInBounds_toArray, List.set_cons_zero, List.set_cons_succ, List.getElem_toArray, List.getElem_cons_zero, List.getElem_cons_succ])
              refine wpAnyH_take (i := 22) (v := ?_) rfl (by kernel_rfl) (by kernel_rfl) (by kernel_rfl) (fun _ _ _ h => h) (Or.inl ⟨by rfl, ?_⟩) (by assumption) ?_
              rotate_left
              · (intro wx hSw; (try dsimp only at hSw); go_split_ands; go_simp; (try with_reducible rfl))
              (try simp only [Act.put, List.setIfInBounds_toArray, List.set_cons_zero, List.set_cons_succ, List.getElem_toArray, List.getElem_cons_zero, List.getElem_cons_succ])
              refine wpAnyH_ready (rs := [23]) (by kernel_rfl) (by simp) ?_
              refine AllReadyH.cons rfl (fun K hK => ?_) AllReadyH.nil
              go_simp
              refine hK.out _ _ (by
                obtain ⟨s0, s1, s2, s3, s4, s5, s6, s7⟩ := hHeld
                exact ⟨cell_far s0 (show wr.heap.size + 1 ≠ wr.heap.size by omega), cell_far s1 (show wr.heap.size + 1 ≠ w1.heap.size by omega), cell_far s2 (show wr.heap.size + 1 ≠ w1.heap.size + 1 by omega), cell_far s3 (show wr.heap.size + 1 ≠ Bx by omega), cell_far s4 (show wr.heap.size + 1 ≠ Bx by omega), cell_far s5 (show wr.heap.size + 1 ≠ d1 by omega), cell_far s6 (show wr.heap.size + 1 ≠ d1 by omega), cell_far s7 (show wr.heap.size + 1 ≠ d2 by omega)⟩) (fun hHeld => ?_)
              clear hK K
              (try simp only [Act.put, List.setIfInBounds_toArray, List.set_cons_zero, List.set_cons_succ, List.getElem_toArray, List.getElem_cons_zero, List.getElem_cons_succ])
              refine wpAnyH_done (by kernel_rfl) ?_ _
              have u10 := hHeld.1
              have uf10 := (y10.other (B' := wr.heap.size + 1) (by omega) (.bool false)).frozen
              clear hHeld
              gi_wp2_with fail
              exact list_round (fun k hk => hk) hBw y10 y11 HM.out (by omega) hk hB (fun hp => absurd (HE.out hp).1 e1) (by go_num)
      case done =>
        rintro D ys W hD hys ⟨b, y10, y11, hpt, hms, hk, hB⟩ hK
        rw [hys] at hpt y10 hms
        rw [HN.out] at y10 hms
        obtain rfl : b = true := hpt (List.prefix_refl L)
        have z10 := y10.cell
        have z11 := y11.cell
        have z1 := (KP1 W hk).cell
        have z5 := (KP5 W hk).cell
        have hmin : min (s : Int) (i : Int) = (i : Int) := by omega
        go_wp2
        have hK' : W.heap[D]? = some (.deferred (some [])) := hK
        refine ⟨by simp, .inl ⟨_, _, rfl, run_takeDeferred hK', ?_⟩⟩
        exact ⟨.bool true, by simp [results, Try.results5, go_sem], rfl, (hB.grown (grownBy_putObj' W D (.deferred none)) (by have := hB.size; exact this) (fun k e => by cases e; have := hB5.size; omega))⟩
      case stop =>
        rintro D cd pre W hD hpre ⟨rfl, q, ⟨b, y10, y11, hpt, hms, hk, hB⟩, hq, hqp⟩ hK
        have hqL := hqp.trans hpre
        have hqi := hqL.length_le
        rw [HN.out, hq] at hqi
        rw [hq] at y10
        obtain rfl : b = true := hpt hqL
        have z10 := y10.cell
        have z11 := y11.cell
        have z1 := (KP1 W hk).cell
        have z5 := (KP5 W hk).cell
        have hmin : min (s : Int) (i : Int) = (s : Int) := by omega
        gi_wp2_with fail
        go_wp2
        have hK' : W.heap[D]? = some (.deferred (some [])) := hK
        refine ⟨by simp, .inl ⟨_, _, rfl, run_takeDeferred hK', ?_⟩⟩
        exact ⟨.bool true, by simp [results, Try.results5, go_sem], rfl, (hB.grown (grownBy_putObj' W D (.deferred none)) (by have := hB.size; exact this) (fun k e => by cases e; have := hB5.size; omega))⟩
end Go.Proofs.Ytnneeojgakjalaa
