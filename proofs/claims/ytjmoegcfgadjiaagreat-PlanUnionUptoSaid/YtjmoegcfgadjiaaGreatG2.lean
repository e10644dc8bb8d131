/- Several of my texts laid together, each as it was: Q5, Q6. Conditions: each names its own. -/
import Derived.Test.YtjmoegcfgadjiaaGreatG1
import Derived.Test.YtjmoegcfgadjiaaGreatI3
import Derived.Test.YtjmoegcfgadjiaaGreatI6
import Derived.Test.YtjmoegcfgadjiaaGreatI9
/- A list of one's own whose elements change places, in memory. Conditions: each lemma names its own. -/
namespace Go.Proofs.YtjmoegcfgadjiaaGreat
open Go.RowKit

/-- An element laid at a place of a list of one's own. -/
theorem MkE.lay {w0 w : World} {g cap n : Nat} {F : List Elem} (h : MkE w0 w (.slice (some ⟨g, 0, none⟩) n cap) F) (hn : F.length = n) {i : Nat} (hi : i < n) {e : Elem} (he : Copied w e.a e.r ∧ rowOK e.r) (hz : e.a = none → e.c = 0) (hc : e.r.length ≤ e.c) :
    MkE w0 (w.setCells g (i * 2) [.slice e.a e.r.length e.c, .int .i64 e.n]) (.slice (some ⟨g, 0, none⟩) n cap) (F.set i e) ∧ KeptT 49 w0.heap.size w (w.setCells g (i * 2) [.slice e.a e.r.length e.c, .int .i64 e.n]) ∧ w.grownBy (w.setCells g (i * 2) [.slice e.a e.r.length e.c, .int .i64 e.n]) (some g) := by
  subst hn
  have s1 := World.ownsRow.stored h.own.out (i * 2) (.slice e.a e.r.length e.c)
  have s2 := World.ownsRow.stored s1.1 (i * 2 + 1) (.int .i64 e.n)
  have hg : w.grownBy (w.setCells g (i * 2) [.slice e.a e.r.length e.c, .int .i64 e.n]) (some g) := World.grownBy.trans s1.2 s2.2
  have hown : OwnB (w.setCells g (i * 2) [.slice e.a e.r.length e.c, .int .i64 e.n]) w0.heap.size (.slice (some ⟨g, 0, none⟩) F.length cap) (F.set i e) := ⟨by
    have := s2.1
    rw [cellsE_set F i e hi] at this
    rw [List.length_set]
    exact this⟩
  have hlo := h.lo g rfl
  have hm : ∀ y ∈ F.set i e, y ∈ F ∨ y = e := fun y hy => List.mem_or_eq_of_mem_set hy
  have hK := keptT_grown h.own.out h.b.size hg
  refine ⟨⟨hown, ⟨fun y hy => ?_⟩, fun y hy => ?_, fun y hy => ?_, h.b.grown hg h.b.size (fun k hk => by cases hk; exact hlo)⟩, hK, hg⟩
  · rcases hm y hy with hy | rfl
    · exact (h.cp.keptT hK).out y hy
    · exact ⟨he.1.keptE hK, he.2⟩
  · rcases hm y hy with hy | rfl
    · exact h.z y hy
    · exact hz
  · rcases hm y hy with hy | rfl
    · exact h.cap y hy
    · exact hc
theorem grown_cell {w w' : World} {g vb o : Nat} {v : Value} (hg : w.grownBy w' (some g)) (hne : vb ≠ g) (h : w.cell? ⟨vb, o, none⟩ = some v) : w'.cell? ⟨vb, o, none⟩ = some v :=
  (World.cell?_of_block (a := ⟨vb, o, none⟩) (hg.block vb (World.block_lt_of_cell? _ _ h) (fun e => hne (Option.some.inj e)))).trans h
/-- A list of one's own while it is sorted: its elements, the places' box, and what has changed since. -/
structure St (w0 w1 : World) (g n cap vb : Nat) (pv : Value) (E0 F : List Elem) (w : World) : Prop where
  made : MkE w0 w (.slice (some ⟨g, 0, none⟩) n cap) F
  len : F.length = n
  box : w.cell? ⟨vb, 0, none⟩ = some pv
  ne : vb ≠ g
  gr : w1.grownBy w (some g)
  mem : ∀ e ∈ F, e ∈ E0
theorem St.below {w0 w1 w w' : World} {g n cap vb : Nat} {pv : Value} {E0 F : List Elem} (h : St w0 w1 g n cap vb pv E0 F w) (hb : Below w.heap.size w w') : St w0 w1 g n cap vb pv E0 F w' :=
  ⟨h.made.below hb, h.len, cell_later hb h.box, h.ne, h.gr.trans (grown_of hb _), h.mem⟩
theorem St.drew {w0 w1 w : World} {g n cap vb : Nat} {pv : Value} {E0 F : List Elem} (h : St w0 w1 g n cap vb pv E0 F w) : St w0 w1 g n cap vb pv E0 F w.drew := h.below (Below.drew (Below.refl _ _))
theorem St.alloc {w0 w1 w : World} {g n cap vb : Nat} {pv : Value} {E0 F : List Elem} (h : St w0 w1 g n cap vb pv E0 F w) (o : Obj) : St w0 w1 g n cap vb pv E0 F (w.alloc o) := h.below ((Below.refl _ _).alloc (Nat.le_refl _) _)
theorem St.cells {w0 w1 w : World} {g n cap vb : Nat} {pv : Value} {E0 F : List Elem} (h : St w0 w1 g n cap vb pv E0 F w) {i : Nat} (hi : i < F.length) :
    w.cell? ⟨g, i * 2, none⟩ = some (.slice F[i].a F[i].r.length F[i].c) ∧ w.cell? ⟨g, i * 2 + 1, none⟩ = some (.int .i64 F[i].n) := by
  obtain ⟨a, c, e, -, hel⟩ := h.made.elems
  obtain ⟨rfl, -, -⟩ := Value.slice.inj e
  obtain ⟨b, o, e2, hc⟩ := hel.1 (by intro e; rw [e] at hi; exact absurd hi (by simp))
  cases e2
  have := hc i hi
  simpa only [Nat.zero_add] using this
theorem St.row {w0 w1 w : World} {g n cap vb : Nat} {pv : Value} {E0 F : List Elem} (h : St w0 w1 g n cap vb pv E0 F w) {i : Nat} (hi : i < F.length) : RowAt w F[i].a F[i].r := by
  obtain ⟨a, c, e, -, hel⟩ := h.made.elems
  exact (hel.2 _ (List.getElem_mem hi)).1
theorem St.there {w0 w1 w : World} {g n cap vb : Nat} {pv : Value} {E0 F : List Elem} (h : St w0 w1 g n cap vb pv E0 F w) {i : Nat} (hi : i < n) : w.there g (i * 2) 2 := by
  have V := (varB_ownE h.made.own.out (g := g) rfl).there
  have hl := cellsE_len F
  rw [h.len] at hl
  intro j hj
  have := V (i * 2 + j) (by omega)
  simpa only [Nat.zero_add] using this
theorem St.capn {w0 w1 w : World} {g n cap vb : Nat} {pv : Value} {E0 F : List Elem} (h : St w0 w1 g n cap vb pv E0 F w) : n ≤ cap := by
  obtain ⟨a, c, e, hc, -⟩ := h.made.elems
  obtain ⟨-, -, rfl⟩ := Value.slice.inj e
  rw [h.len] at hc; exact hc
/-- Two elements in each other's place. -/
theorem St.swap {w0 w1 w : World} {g n cap vb : Nat} {pv : Value} {E0 F : List Elem} (h : St w0 w1 g n cap vb pv E0 F w) {i j : Nat} (hi : i < F.length) (hj : j < F.length) :
    St w0 w1 g n cap vb pv E0 (swp F i j hi hj) ((w.setCells g (i * 2) [.slice F[j].a F[j].r.length F[j].c, .int .i64 F[j].n]).setCells g (j * 2) [.slice F[i].a F[i].r.length F[i].c, .int .i64 F[i].n]) := by
  have hn := h.len
  obtain ⟨m1, k1, g1⟩ := h.made.lay hn (i := i) (by omega) (e := F[j]) (h.made.cp.out _ (List.getElem_mem hj)) (h.made.z _ (List.getElem_mem hj)) (h.made.cap _ (List.getElem_mem hj))
  obtain ⟨m2, k2, g2⟩ := m1.lay (by rw [List.length_set]; exact hn) (i := j) (by omega) (e := F[i]) ((h.made.cp.keptT k1).out _ (List.getElem_mem hi)) (h.made.z _ (List.getElem_mem hi)) (h.made.cap _ (List.getElem_mem hi))
  refine ⟨m2, by rw [swp_len]; exact hn, ?_, h.ne, (h.gr.trans g1).trans g2, fun e he => h.mem e (swp_mem he)⟩
  exact grown_cell g2 h.ne (grown_cell g1 h.ne h.box)
/-- Two of the list's elements, as they lie. -/
structure StC (w0 w1 : World) (g n cap vb : Nat) (pv : Value) (E0 F : List Elem) (x : Nat) (ex : Elem) (y : Nat) (ey : Elem) (W : World) : Prop where
  st : St w0 w1 g n cap vb pv E0 F W
  x0 : W.cell? ⟨g, x * 2, none⟩ = some (.slice ex.a ex.r.length ex.c)
  x1 : W.cell? ⟨g, x * 2 + 1, none⟩ = some (.int .i64 ex.n)
  y0 : W.cell? ⟨g, y * 2, none⟩ = some (.slice ey.a ey.r.length ey.c)
  y1 : W.cell? ⟨g, y * 2 + 1, none⟩ = some (.int .i64 ey.n)
  rx : RowAt W ex.a ex.r
  ry : RowAt W ey.a ey.r
theorem StC.below {w0 w1 w w' : World} {g n cap vb : Nat} {pv : Value} {E0 F : List Elem} {x y : Nat} {ex ey : Elem} (h : StC w0 w1 g n cap vb pv E0 F x ex y ey w) (hb : Below w.heap.size w w') : StC w0 w1 g n cap vb pv E0 F x ex y ey w' :=
  ⟨h.st.below hb, cell_later hb h.x0, cell_later hb h.x1, cell_later hb h.y0, cell_later hb h.y1, h.rx.later hb, h.ry.later hb⟩
theorem St.two {w0 w1 w : World} {g n cap vb : Nat} {pv : Value} {E0 F : List Elem} (h : St w0 w1 g n cap vb pv E0 F w) {x y : Nat} (hx : x < F.length) (hy : y < F.length) : StC w0 w1 g n cap vb pv E0 F x F[x] y F[y] w :=
  ⟨h, (h.cells hx).1, (h.cells hx).2, (h.cells hy).1, (h.cells hy).2, h.row hx, h.row hy⟩
/-- What the order answers of the list's rows. -/
structure OrdS (w0 : World) (vb : Nat) (pv : Value) (gs : List Int) (E0 : List Elem) : Prop where
  out : ∀ e1 ∈ E0, ∀ e2 ∈ E0, ∀ W, Below w0.heap.size w0 W → W.cell? ⟨vb, 0, none⟩ = some pv → RowAt W e1.a e1.r → RowAt W e2.a e2.r →
    Calls Tryz.prog 187 #[.agg #[.slice e1.a e1.r.length e1.c, .int .i64 e1.n], .agg #[.slice e2.a e2.r.length e2.c, .int .i64 e2.n], .pointer (some ⟨vb, 0, none⟩)] W fun e w' => e = .returned (.int .i64 (keyA gs e1.r e2.r)) ∧ Below W.heap.size W w'
theorem OrdS.call {w0 w1 W : World} {g n cap vb : Nat} {pv : Value} {gs : List Int} {E0 F : List Elem} {x y : Nat} {ex ey : Elem} (hO : OrdS w0 vb pv gs E0) (hx : ex ∈ E0) (hy : ey ∈ E0) (h : StC w0 w1 g n cap vb pv E0 F x ex y ey W) :
    Calls Tryz.prog 187 #[.agg #[.slice ex.a ex.r.length ex.c, .int .i64 ex.n], .agg #[.slice ey.a ey.r.length ey.c, .int .i64 ey.n], .pointer (some ⟨vb, 0, none⟩)] W fun e w' => e = .returned (.int .i64 (keyA gs ex.r ey.r)) ∧ Below W.heap.size W w' :=
  hO.out ex hx ey hy W h.st.made.b h.st.box h.rx h.ry
theorem lt_leE {gs : List Int} {x y : Elem} : keyA gs x.r y.r < 0 ↔ leE gs y x = false := by
  have h := rowsV_flip (keyV gs x.r) (keyV gs y.r)
  unfold leE leG keyA pr
  simp only [decide_eq_false_iff_not]
  omega
theorem wp_storeQ {P : Program} {op : Oper} {a : Act} {w : World} {K : Act → World → Prop} {Q : Exit → Act → World → Prop} (ty : TypeId) (x y : Operand) (ho : op.op = .store ty x y)
    (b o : Nat) (vs : List Value) (hx : a.eval x = .pointer (some ⟨b, o, none⟩)) (hy : a.eval y = .agg vs.toArray)
    (ht : w.there b o vs.length) (hi : (P.info? ty).map (·.size) = some vs.length) (h1 : ∀ v ∈ vs, v.oneCell' = true)
    (h : ∀ w', w' = w.setCells b o vs → K (a.put op.dst undef) w') : op.wp P a w K Q :=
  wp_store_mid ty x y ho b o vs.toArray hx hy (by simpa using ht) (by simpa using hi) (all_oneCell_toArray h1) (by simpa using h _ rfl)
end Go.Proofs.YtjmoegcfgadjiaaGreat

/- slices.swapRangeCmpFunc over a list of one's own: a contract of the call, in whatever memory. Conditions: the list's cells are known; the ranges lie in it. -/
namespace Go.Proofs.YtjmoegcfgadjiaaGreat
open Go.RowKit

set_option maxHeartbeats 4000000 in
set_option maxRecDepth 1000000 in
theorem swR_any (w0 w1 : World) (g n cap vb : Nat) (pv : Value) (E0 P X M Y S : List Elem) (a b m : Nat) (w : World) (hS : St w0 w1 g n cap vb pv E0 (swR P X M Y S 0) w) (ha : P.length = a) (hX : X.length = m) (hY : Y.length = m) (hb : a + m + M.length = b) (hn : n ≤ 1000000) :
    Calls Tryz.prog 319 #[.slice (some ⟨g, 0, none⟩) n cap, .int .i64 a, .int .i64 b, .int .i64 m, .func (.func 187) #[] #[.pointer (some ⟨vb, 0, none⟩)]] w fun e w' => e = .returned (.tuple #[]) ∧ St w0 w1 g n cap vb pv E0 (swR P X M Y S m) w' := by
  have hlen := hS.len
  rw [swR_len P X M Y S 0 (by omega) (by omega)] at hlen
  have HS := hid0 hS
  have hXY : X.length = Y.length := by omega
  have HXY := hid0 hXY
  have HX := hid0 hX
  have HP := hid0 ha
  have HM := hid0 hb
  have hbn : b + m ≤ n := by omega
  have hab : a + m ≤ b := by omega
  have hmN : m ≤ 1000000 := by omega
  clear hS hXY hX hY ha hb hlen
  go_enter Tryz.func319, Tryz.ntmps319
  go_wp2
  go_loopw [10] (fun iv wr => ∃ i : Nat, i ≤ m ∧ iv = .int .i64 i ∧ Hid (St w0 w1 g n cap vb pv E0 (swR P X M Y S i) wr)) (fun iv _ => m - (intOf iv).toNat)
  case atStart => exact ⟨0, Nat.zero_le _, rfl, HS⟩
  case round =>
    obtain ⟨i, hi, rfl, hT⟩ := hrel
    by_cases hlt : i < m
    · obtain ⟨x, hx⟩ : ∃ x, a + i = x := ⟨_, rfl⟩
      obtain ⟨y, hy⟩ : ∃ y, b + i = y := ⟨_, rfl⟩
      have hTD := hT.out.drew
      have hl := hTD.len
      obtain ⟨F, hF⟩ : ∃ F, swR P X M Y S i = F := ⟨_, rfl⟩
      have HST := hid0 (fun h1 h2 => swR_step P X M Y S i x y HXY.out (by rw [HX.out]; exact hlt) (by rw [HP.out]; omega) (by rw [HP.out, HX.out, HM.out]; omega) h1 h2)
      rw [hF] at hTD hl HST
      have hxF : x < F.length := by omega
      have hyF : y < F.length := by omega
      have HNX := hid0 (HST.out hxF hyF)
      obtain ⟨qx0, qx1⟩ := hTD.cells hxF
      obtain ⟨qy0, qy1⟩ := hTD.cells hyF
      have thx := hTD.there (i := x) (by omega)
      have thy := hTD.there (i := y) (by omega)
      have HSW := hid0 (hTD.swap hxF hyF)
      rw [HNX.out] at HSW
      generalize F[x] = ex at qx0 qx1 HSW
      generalize F[y] = ey at qy0 qy1 HSW
      have hin : (i : Int) < (m : Int) := by omega
      have hwx : IntKind.i64.wrap ((a : Int) + i) = (x : Int) := by rw [IntWalk.i64_in _ (by omega)]; omega
      have hwy : IntKind.i64.wrap ((b : Int) + i) = (y : Int) := by rw [IntWalk.i64_in _ (by omega)]; omega
      have hxn : (x : Int) < (n : Int) := by omega
      have hyn : (y : Int) < (n : Int) := by omega
      clear hTD HST HNX hF hl hx hy hT hab hbn
      go_wp2_with fail
      refine wp_region_held_drew (S := fun _ : World => True) (by kernel_rfl) trivial (fun hHeld => ?_)
      refine wpAnyH_take (i := 0) (v := ?_) rfl (by kernel_rfl) (by kernel_rfl) (by kernel_rfl) (fun _ _ _ h => h) (Or.inl ⟨by rfl, ?_⟩) (by assumption) ?_
      rotate_left
      · (intro wx hSw; go_simp; (try with_reducible rfl); (try omega))
      (try simp only [Act.put, List.setIfInBounds_toArray, List.set_cons_zero, List.set_cons_succ, List.getElem_toArray, List.getElem_cons_zero])
      refine wpAnyH_take (i := 1) (v := ?_) rfl (by kernel_rfl) (by kernel_rfl) (by kernel_rfl) (fun _ _ _ h => h) (Or.inl ⟨by rfl, ?_⟩) (by assumption) ?_
      rotate_left
      · (intro wx hSw; go_simp; (try with_reducible rfl); (try omega))
      (try simp only [Act.put, List.setIfInBounds_toArray, List.set_cons_zero, List.set_cons_succ, List.getElem_toArray, List.getElem_cons_zero, List.getElem_cons_succ])
      refine wpAnyH_take (i := 2) (v := ?_) rfl (by kernel_rfl) (by kernel_rfl) (by kernel_rfl) (fun _ _ _ h => h) (Or.inl ⟨by rfl, ?_⟩) (by assumption) ?_
      rotate_left
      · (intro wx hSw; go_simp; (try with_reducible rfl); (try omega))
      (try simp only [Act.put, List.setIfInBounds_toArray, List.set_cons_zero, List.set_cons_succ, List.getElem_toArray, List.getElem_cons_zero, List.getElem_cons_succ])
      refine wpAnyH_take (i := 3) (v := ?_) rfl (by kernel_rfl) (by kernel_rfl) (by kernel_rfl) (fun _ _ _ h => h) (Or.inl ⟨by rfl, ?_⟩) (by assumption) ?_
      rotate_left
      · (intro wx hSw; go_simp; (try with_reducible rfl); (try omega))
      (try simp only [Act.put, List.setIfInBounds_toArray, List.set_cons_zero, List.set_cons_succ, List.getElem_toArray, List.getElem_cons_zero, List.getElem_cons_succ])
      refine wpAnyH_take (i := 4) (v := ?_) rfl (by kernel_rfl) (by kernel_rfl) (by kernel_rfl) (fun _ _ _ h => h) (Or.inl ⟨by rfl, ?_⟩) (by assumption) ?_
      rotate_left
      · (intro wx hSw; go_simp; (try with_reducible rfl); (try omega))
      (try simp only [Act.put, List.setIfInBounds_toArray, List.set_cons_zero, List.set_cons_succ, List.getElem_toArray, List.getElem_cons_zero, List.getElem_cons_succ])
      refine wpAnyH_take (i := 5) (v := ?_) rfl (by kernel_rfl) (by kernel_rfl) (by kernel_rfl) (fun _ _ _ h => h) (Or.inl ⟨by rfl, ?_⟩) (by assumption) ?_
      rotate_left
      · (intro wx hSw; go_simp; (try with_reducible rfl); (try omega))
      (try simp only [Act.put, List.setIfInBounds_toArray, List.set_cons_zero, List.set_cons_succ, List.getElem_toArray, List.getElem_cons_zero, List.getElem_cons_succ])
      refine wpAnyH_take (i := 6) (v := ?_) rfl (by kernel_rfl) (by kernel_rfl) (by kernel_rfl) (fun _ _ _ h => h) (Or.inl ⟨by rfl, ?_⟩) (by assumption) ?_
      rotate_left
      · (intro wx hSw; go_simp; (try with_reducible rfl); (try omega))
      (try simp only [Act.put, List.setIfInBounds_toArray, List.set_cons_zero, List.set_cons_succ, List.getElem_toArray, List.getElem_cons_zero, List.getElem_cons_succ])
      refine wpAnyH_take (i := 7) (v := ?_) rfl (by kernel_rfl) (by kernel_rfl) (by kernel_rfl) (fun _ _ _ h => h) (Or.inl ⟨by rfl, ?_⟩) (by assumption) ?_
      rotate_left
      · (intro wx hSw; go_simp; (try with_reducible rfl); (try omega))
      (try simp only [Act.put, List.setIfInBounds_toArray, List.set_cons_zero, List.set_cons_succ, List.getElem_toArray, List.getElem_cons_zero, List.getElem_cons_succ])
      refine wpAnyH_take (i := 8) (v := ?_) rfl (by kernel_rfl) (by kernel_rfl) (by kernel_rfl) (fun _ _ _ h => h) (Or.inl ⟨by rfl, ?_⟩) (by assumption) ?_
      rotate_left
      · (intro wx hSw; go_simp; (try with_reducible rfl); (try omega))
      (try simp only [Act.put, List.setIfInBounds_toArray, List.set_cons_zero, List.set_cons_succ, List.getElem_toArray, List.getElem_cons_zero, List.getElem_cons_succ])
      refine wpAnyH_take (i := 9) (v := ?_) rfl (by kernel_rfl) (by kernel_rfl) (by kernel_rfl) (fun _ _ _ h => h) (Or.inl ⟨by rfl, ?_⟩) (by assumption) ?_
      rotate_left
      · (intro wx hSw; go_simp; (try with_reducible rfl); (try omega))
      (try simp only [Act.put, List.setIfInBounds_toArray, List.set_cons_zero, List.set_cons_succ, List.getElem_toArray, List.getElem_cons_zero, List.getElem_cons_succ])
      refine wpAnyH_take (i := 10) (v := ?_) rfl (by kernel_rfl) (by kernel_rfl) (by kernel_rfl) (fun _ _ _ h => h) (Or.inl ⟨by rfl, ?_⟩) (by assumption) ?_
      rotate_left
      · (intro wx hSw; go_simp; (try with_reducible rfl); (try omega))
      (try simp only [Act.put, List.setIfInBounds_toArray, List.set_cons_zero, List.set_cons_succ, List.getElem_toArray, List.getElem_cons_zero, List.getElem_cons_succ])
      refine wpAnyH_take (i := 11) (v := ?_) rfl (by kernel_rfl) (by kernel_rfl) (by kernel_rfl) (fun _ _ _ h => h) (Or.inl ⟨by rfl, ?_⟩) (by assumption) ?_
      rotate_left
      · (intro wx hSw; go_simp; (try with_reducible rfl); (try omega))
      (try simp only [Act.put, List.setIfInBounds_toArray, List.set_cons_zero, List.set_cons_succ, List.getElem_toArray, List.getElem_cons_zero, List.getElem_cons_succ])
      refine wpAnyH_take (i := 12) (v := ?_) rfl (by kernel_rfl) (by kernel_rfl) (by kernel_rfl) (fun _ _ _ h => h) (Or.inl ⟨by rfl, ?_⟩) (by assumption) ?_
      rotate_left
      · (intro wx hSw; go_simp; (try with_reducible rfl); (try omega))
      (try simp only [Act.put, List.setIfInBounds_toArray, List.set_cons_zero, List.set_cons_succ, List.getElem_toArray, List.getElem_cons_zero, List.getElem_cons_succ])
      refine wpAnyH_take (i := 14) (v := ?_) rfl (by kernel_rfl) (by kernel_rfl) (by kernel_rfl) (fun _ _ _ h => h) (Or.inl ⟨by rfl, ?_⟩) (by assumption) ?_
      rotate_left
      · (intro wx hSw; go_simp; (try with_reducible rfl); (try omega))
      (try simp only [Act.put, List.setIfInBounds_toArray, List.set_cons_zero, List.set_cons_succ, List.getElem_toArray, List.getElem_cons_zero, List.getElem_cons_succ])
      refine wpAnyH_take (i := 15) (v := ?_) rfl (by kernel_rfl) (by kernel_rfl) (by kernel_rfl) (fun _ _ _ h => h) (Or.inl ⟨by rfl, ?_⟩) (by assumption) ?_
      rotate_left
      · (intro wx hSw; go_simp; (try with_reducible rfl); (try omega))
      (try simp only [Act.put, List.setIfInBounds_toArray, List.set_cons_zero, List.set_cons_succ, List.getElem_toArray, List.getElem_cons_zero, List.getElem_cons_succ])
      refine wpAnyH_take (i := 16) (v := ?_) rfl (by kernel_rfl) (by kernel_rfl) (by kernel_rfl) (fun _ _ _ h => h) (Or.inl ⟨by rfl, ?_⟩) (by assumption) ?_
      rotate_left
      · (intro wx hSw; go_simp; (try with_reducible rfl); (try omega))
      (try simp only [Act.put, List.setIfInBounds_toArray, List.set_cons_zero, List.set_cons_succ, List.getElem_toArray, List.getElem_cons_zero, List.getElem_cons_succ])
      refine wpAnyH_take (i := 17) (v := ?_) rfl (by kernel_rfl) (by kernel_rfl) (by kernel_rfl) (fun _ _ _ h => h) (Or.inl ⟨by rfl, ?_⟩) (by assumption) ?_
      rotate_left
      · (intro wx hSw; go_simp; (try with_reducible rfl); (try omega))
      (try simp only [Act.put, List.setIfInBounds_toArray, List.set_cons_zero, List.set_cons_succ, List.getElem_toArray, List.getElem_cons_zero, List.getElem_cons_succ])
      refine wpAnyH_take (i := 18) (v := ?_) rfl (by kernel_rfl) (by kernel_rfl) (by kernel_rfl) (fun _ _ _ h => h) (Or.inl ⟨by rfl, ?_⟩) (by assumption) ?_
      rotate_left
      · (intro wx hSw; go_simp; (try with_reducible rfl); (try omega))
      (try simp only [Act.put, List.setIfInBounds_toArray, List.set_cons_zero, List.set_cons_succ, List.getElem_toArray, List.getElem_cons_zero, List.getElem_cons_succ])
      refine wpAnyH_ready (rs := [13, 19]) (by kernel_rfl) (by simp) ?_
      refine AllReadyH.cons rfl (fun K hK => ?_) ?_
      · (try simp only [Act.put, List.setIfInBounds_toArray, List.set_cons_zero, List.set_cons_succ, List.getElem_toArray, List.getElem_cons_zero, List.getElem_cons_succ])
        go_simp
        refine hK.out _ _ trivial (fun hHeld => ?_)
        clear hK K
        (try simp only [Act.put, List.setIfInBounds_toArray, List.set_cons_zero, List.set_cons_succ, List.getElem_toArray, List.getElem_cons_zero, List.getElem_cons_succ])
        refine wpAnyH_ready (rs := [19]) (by kernel_rfl) (by simp) ?_
        refine AllReadyH.cons rfl (fun K hK => ?_) ?_
        · (try simp only [Act.put, List.setIfInBounds_toArray, List.set_cons_zero, List.set_cons_succ, List.getElem_toArray, List.getElem_cons_zero, List.getElem_cons_succ])
          go_simp
          refine hK.out _ _ trivial (fun hHeld => ?_)
          clear hK K
          (try simp only [Act.put, List.setIfInBounds_toArray, List.set_cons_zero, List.set_cons_succ, List.getElem_toArray, List.getElem_cons_zero, List.getElem_cons_succ])
          refine wpAnyH_take (i := 20) (v := ?_) rfl (by kernel_rfl) (by kernel_rfl) (by kernel_rfl) (fun _ _ _ h => h) (Or.inl ⟨by rfl, ?_⟩) (by assumption) ?_
          rotate_left
          · (intro wx hSw; go_simp; (try with_reducible rfl); (try omega))
          (try simp only [Act.put, List.setIfInBounds_toArray, List.set_cons_zero, List.set_cons_succ, List.getElem_toArray, List.getElem_cons_zero, List.getElem_cons_succ])
          refine wpAnyH_ready (rs := [21]) (by kernel_rfl) (by simp) ?_
          refine AllReadyH.cons rfl (fun K hK => ?_) ?_
          · (try simp only [Act.put, List.getElem_toArray, List.getElem_cons_zero, List.getElem_cons_succ])
            refine wp_storeQ _ _ _ rfl g (x * 2) [.slice ey.a ey.r.length ey.c, .int .i64 ey.n] rfl rfl thx sizeMany (by intro v hv; simp at hv; rcases hv with rfl | rfl <;> rfl) ?_
            intro wsa hwsa
            have thy : wsa.there g (y * 2) 2 := by rw [hwsa]; exact World.there_setCells thy g (x * 2) [.slice ey.a ey.r.length ey.c, .int .i64 ey.n]
            have Hwsa := hid0 hwsa
            clear hwsa
            refine hK.out _ _ trivial (fun hHeld => ?_)
            clear hK K
            (try simp only [Act.put])
            refine wpAnyH_take (i := 22) (v := ?_) rfl (by kernel_rfl) (by kernel_rfl) (by kernel_rfl) (fun _ _ _ h => h) (Or.inl ⟨by rfl, ?_⟩) (by assumption) ?_
            rotate_left
            · (intro wx hSw; go_simp; (try with_reducible rfl); (try omega))
            (try simp only [Act.put, List.setIfInBounds_toArray, List.set_cons_zero, List.set_cons_succ, List.getElem_toArray, List.getElem_cons_zero, List.getElem_cons_succ])
            refine wpAnyH_ready (rs := [23]) (by kernel_rfl) (by simp) ?_
            refine AllReadyH.cons rfl (fun K hK => ?_) ?_
            · (try simp only [Act.put, List.getElem_toArray, List.getElem_cons_zero, List.getElem_cons_succ])
              refine wp_storeQ _ _ _ rfl g (y * 2) [.slice ex.a ex.r.length ex.c, .int .i64 ex.n] rfl rfl thy sizeMany (by intro v hv; simp at hv; rcases hv with rfl | rfl <;> rfl) ?_
              intro wsb hwsb
              have Hwsb := hid0 hwsb
              clear hwsb
              refine hK.out _ _ trivial (fun hHeld => ?_)
              clear hK K
              (try simp only [Act.put])
              refine wpAnyH_done (by kernel_rfl) ?_ _
              clear hHeld
              clear hwx hwy hxn hyn
              go_wp2_with fail
              exact ⟨⟨i + 1, by omega, by go_num, hid0 (by have := HSW.out; rw [Hwsb.out, Hwsa.out]; exact this)⟩, by simp [intOf]; omega⟩
            exact AllReadyH.nil
          exact AllReadyH.nil
        exact AllReadyH.nil
      refine AllReadyH.cons rfl (fun K hK => ?_) ?_
      · (try simp only [Act.put, List.setIfInBounds_toArray, List.set_cons_zero, List.set_cons_succ, List.getElem_toArray, List.getElem_cons_zero, List.getElem_cons_succ])
        go_simp
        refine hK.out _ _ trivial (fun hHeld => ?_)
        clear hK K
        (try simp only [Act.put, List.setIfInBounds_toArray, List.set_cons_zero, List.set_cons_succ, List.getElem_toArray, List.getElem_cons_zero, List.getElem_cons_succ])
        refine wpAnyH_ready (rs := [13]) (by kernel_rfl) (by simp) ?_
        refine AllReadyH.cons rfl (fun K hK => ?_) ?_
        · (try simp only [Act.put, List.setIfInBounds_toArray, List.set_cons_zero, List.set_cons_succ, List.getElem_toArray, List.getElem_cons_zero, List.getElem_cons_succ])
          go_simp
          refine hK.out _ _ trivial (fun hHeld => ?_)
          clear hK K
          (try simp only [Act.put, List.setIfInBounds_toArray, List.set_cons_zero, List.set_cons_succ, List.getElem_toArray, List.getElem_cons_zero, List.getElem_cons_succ])
          refine wpAnyH_take (i := 20) (v := ?_) rfl (by kernel_rfl) (by kernel_rfl) (by kernel_rfl) (fun _ _ _ h => h) (Or.inl ⟨by rfl, ?_⟩) (by assumption) ?_
          rotate_left
          · (intro wx hSw; go_simp; (try with_reducible rfl); (try omega))
          (try simp only [Act.put, List.setIfInBounds_toArray, List.set_cons_zero, List.set_cons_succ, List.getElem_toArray, List.getElem_cons_zero, List.getElem_cons_succ])
          refine wpAnyH_ready (rs := [21]) (by kernel_rfl) (by simp) ?_
          refine AllReadyH.cons rfl (fun K hK => ?_) ?_
          · (try simp only [Act.put, List.getElem_toArray, List.getElem_cons_zero, List.getElem_cons_succ])
            refine wp_storeQ _ _ _ rfl g (x * 2) [.slice ey.a ey.r.length ey.c, .int .i64 ey.n] rfl rfl thx sizeMany (by intro v hv; simp at hv; rcases hv with rfl | rfl <;> rfl) ?_
            intro wsa hwsa
            have thy : wsa.there g (y * 2) 2 := by rw [hwsa]; exact World.there_setCells thy g (x * 2) [.slice ey.a ey.r.length ey.c, .int .i64 ey.n]
            have Hwsa := hid0 hwsa
            clear hwsa
            refine hK.out _ _ trivial (fun hHeld => ?_)
            clear hK K
            (try simp only [Act.put])
            refine wpAnyH_take (i := 22) (v := ?_) rfl (by kernel_rfl) (by kernel_rfl) (by kernel_rfl) (fun _ _ _ h => h) (Or.inl ⟨by rfl, ?_⟩) (by assumption) ?_
            rotate_left
            · (intro wx hSw; go_simp; (try with_reducible rfl); (try omega))
            (try simp only [Act.put, List.setIfInBounds_toArray, List.set_cons_zero, List.set_cons_succ, List.getElem_toArray, List.getElem_cons_zero, List.getElem_cons_succ])
            refine wpAnyH_ready (rs := [23]) (by kernel_rfl) (by simp) ?_
            refine AllReadyH.cons rfl (fun K hK => ?_) ?_
            · (try simp only [Act.put, List.getElem_toArray, List.getElem_cons_zero, List.getElem_cons_succ])
              refine wp_storeQ _ _ _ rfl g (y * 2) [.slice ex.a ex.r.length ex.c, .int .i64 ex.n] rfl rfl thy sizeMany (by intro v hv; simp at hv; rcases hv with rfl | rfl <;> rfl) ?_
              intro wsb hwsb
              have Hwsb := hid0 hwsb
              clear hwsb
              refine hK.out _ _ trivial (fun hHeld => ?_)
              clear hK K
              (try simp only [Act.put])
              refine wpAnyH_done (by kernel_rfl) ?_ _
              clear hHeld
              clear hwx hwy hxn hyn
              go_wp2_with fail
              exact ⟨⟨i + 1, by omega, by go_num, hid0 (by have := HSW.out; rw [Hwsb.out, Hwsa.out]; exact this)⟩, by simp [intOf]; omega⟩
            exact AllReadyH.nil
          exact AllReadyH.nil
        exact AllReadyH.nil
      exact AllReadyH.nil
    · obtain rfl : i = m := by omega
      have hie : ¬ (i : Int) < (i : Int) := by omega
      go_wp2
      go_returns
      exact ⟨rfl, hT.out⟩
end Go.Proofs.YtjmoegcfgadjiaaGreat
