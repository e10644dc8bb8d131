/- The reference of layer 6: putting: a contract of the call, in whatever memory. Conditions: the pages' cells are known. -/
import Derived.Test.YtnneeojgakjalaaHf
namespace Go.Proofs.Ytnneeojgakjalaa
open Go.RowKit

/-- A variable of two ints, in a block of its own. -/
structure IdAt (w : World) (B : Nat) (x y : Int) : Prop where
  c0 : w.cell? ⟨B, 0, none⟩ = some (.int .i64 x)
  c1 : w.cell? ⟨B, 1, none⟩ = some (.int .i64 y)
  f : ∀ j, w.frozen? ⟨B, j, none⟩ = false
theorem IdAt.lt {w : World} {B : Nat} {x y : Int} (h : IdAt w B x y) : B < w.heap.size := World.block_lt_of_cell? _ _ h.c0
theorem IdAt.later {w w' : World} {B : Nat} {x y : Int} (h : IdAt w B x y) (hb : Below w.heap.size w w') : IdAt w' B x y :=
  ⟨cell_later hb h.c0, cell_later hb h.c1, fun j => (hb.frozen (p := ⟨B, j, none⟩) h.lt).trans (h.f j)⟩
theorem IdAt.below {w w' : World} {B base : Nat} {x y : Int} (h : IdAt w B x y) (hb : Below base w w') (hlt : B < base) : IdAt w' B x y :=
  ⟨(hb.cell (p := ⟨B, 0, none⟩) hlt).trans h.c0, (hb.cell (p := ⟨B, 1, none⟩) hlt).trans h.c1, fun j => (hb.frozen (p := ⟨B, j, none⟩) hlt).trans (h.f j)⟩
theorem IdAt.new (w : World) (x y : Int) (t : TypeId) : IdAt (w.alloc (Obj.cells #[.int .i64 x, .int .i64 y] t)) w.heap.size x y :=
  ⟨by go_cell, by go_cell, fun j => World.frozen?_alloc_at _ _ _ _ rfl⟩
theorem IdAt.alloc {w : World} {B : Nat} {x y : Int} (h : IdAt w B x y) (o : Obj) : IdAt (w.alloc o) B x y := h.later ((Below.refl _ _).alloc (Nat.le_refl _) _)
theorem IdAt.other {w : World} {B : Nat} {x y : Int} (h : IdAt w B x y) (a : Addr) (u : Value) (ha : a.block ≠ B) : IdAt (w.setCell a u) B x y :=
  ⟨by rw [World.cell?_setCell_other _ _ _ _ (fun e => ha (by rw [e]))]; exact h.c0, by rw [World.cell?_setCell_other _ _ _ _ (fun e => ha (by rw [e]))]; exact h.c1, fun j => by rw [World.frozen?_setCell]; exact h.f j⟩
theorem IdAt.set {w : World} {B : Nat} {x y : Int} (h : IdAt w B x y) (x' y' : Int) : IdAt ((w.setCell ⟨B, 0, none⟩ (.int .i64 x')).setCell ⟨B, 1, none⟩ (.int .i64 y')) B x' y' := by
  refine ⟨?_, ?_, fun j => ?_⟩
  · rw [World.cell?_setCell_other _ _ _ _ (by simp)]
    exact World.cell?_setCell_same _ _ _ h.c0
  · refine World.cell?_setCell_same _ _ _ (u := .int .i64 y) ?_
    rw [World.cell?_setCell_other _ _ _ _ (by simp)]; exact h.c1
  · rw [World.frozen?_setCell, World.frozen?_setCell]; exact h.f j

/-- Where an answered heap lies: it is the argument, or its pages are new; each page is one of the argument's, or new. -/
structure AwayH (w : World) (a : Option Addr) (E : List PgE) (a' : Option Addr) (E' : List PgE) : Prop where
  outer : (a' = a ∧ E' = E) ∨ ∀ b off, a' = some ⟨b, off, none⟩ → w.heap.size ≤ b
  inner : ∀ e ∈ E', (∃ e0 ∈ E, e.a = e0.a ∧ e.p = e0.p) ∨ ∀ b off, e.a = some ⟨b, off, none⟩ → w.heap.size ≤ b
theorem AwayH.same (w : World) (a : Option Addr) (E : List PgE) : AwayH w a E a E := ⟨.inl ⟨rfl, rfl⟩, fun e he => .inl ⟨e, he, rfl, rfl⟩⟩
/-- What Put, and Set, must answer. -/
def HIdAns (w : World) (a : Option Addr) (E : List PgE) (h : Hp) (x y er : Int) (e : Ending) (w' : World) : Prop :=
  (∃ a' c E', e = .returned (.tuple #[.agg #[.slice a' E'.length c], .agg #[.int .i64 x, .int .i64 y], .int .i64 er]) ∧ HpAt w' a' c E' ∧ hp E' = h ∧ AwayH w a E a' E') ∧ Below w.heap.size w w'
theorem putHE_wrong {h : Hp} (d : List UInt8) (most : Int) (hr : rightH h = false) : putHP h d most = h ∧ putHX h d most = 0 ∧ putHY h d most = 0 ∧ putHE h d most = 1 := by
  have ho : okH h d most = false := by unfold okH; rw [hr]; rfl
  unfold putHP putHX putHY putHE
  rw [ho, hr]; exact ⟨rfl, rfl, rfl, rfl⟩
theorem putHE_long {h : Hp} {d : List UInt8} (most : Int) (hr : rightH h = true) (hd : ¬ d.length ≤ 1016) : putHP h d most = h ∧ putHX h d most = 0 ∧ putHY h d most = 0 ∧ putHE h d most = 3 := by
  have ho : okH h d most = false := by unfold okH; simp [hd]
  unfold putHP putHX putHY putHE
  rw [ho, hr, if_pos rfl, if_neg hd]; exact ⟨rfl, rfl, rfl, rfl⟩
theorem putHE_full {h : Hp} {d : List UInt8} {most : Int} (hr : rightH h = true) (hd : d.length ≤ 1016) (hc : canH h d most = false) : putHP h d most = h ∧ putHX h d most = 0 ∧ putHY h d most = 0 ∧ putHE h d most = 17 := by
  have ho : okH h d most = false := by unfold okH; rw [hc]; simp
  unfold putHP putHX putHY putHE
  rw [ho, hr, hc, if_pos rfl, if_pos hd]; exact ⟨rfl, rfl, rfl, rfl⟩
theorem putHE_done {h : Hp} {d : List UInt8} {most : Int} (hr : rightH h = true) (hd : d.length ≤ 1016) (hc : canH h d most = true) : putHP h d most = putHR h d ∧ putHX h d most = fitH d.length h ∧ putHY h d most = slotH h d ∧ putHE h d most = 0 := by
  have ho : okH h d most = true := by unfold okH; rw [hr, hc]; simp [hd]
  unfold putHP putHX putHY putHE
  rw [ho, hr, hc, if_pos rfl, if_pos hd]; exact ⟨rfl, rfl, rfl, rfl⟩

theorem line_new1 (w : World) (u : Value) (t : TypeId) : (w.alloc (Obj.cells #[u] t)).cell? ⟨w.heap.size, 0, none⟩ = some u := by go_cell
/-- An append of one page, laid in a block of its own first. -/
theorem wp_page1 {w : World} {ops : Array Oper} {rest : List Oper} {o : Oper} {a : Act} {Q : Exit → Act → World → Prop} (hgd : o.guard = none) (s x : Operand)
    (ho : o.op = .call { callee := .builtin .append, args := #[s, x], argTypes := #[22, 22] })
    {base : Nat} {v : Value} {E : List PgE} (hs : a.eval s = v) (hown : OwnH w base v E)
    (e : PgE) (B : Nat) (hx : a.eval x = .slice (some ⟨B, 0, none⟩) 1 1) (h0 : w.cell? ⟨B, 0, none⟩ = some (.slice e.a e.p.length e.c))
    (hlen : (E.length + 1) * 24 ≤ 140737488355328) (hbase : base ≤ w.heap.size)
    (h : ∀ v' w', OwnH w' base v' (E ++ [e]) → w.grownBy w' v.ownBlock → Below base w w' → wpList Try.prog ops Q rest (a.put o.dst v') w') : wpList Try.prog ops Q (o :: rest) a w := by
  obtain ⟨i0, hi, hz0, hz1, hz2⟩ := info_parts info62
  refine wpList_append_own w hgd s x 22 ho base 62 i0 (.agg #[.slice none 0 0]) 1 24 Try.underlying22 hi hz0 hz1 hz2 rfl (by decide) v E.length (pgCells E) hs hown.out ⟨B, 0, none⟩ 1 1 [.slice e.a e.p.length e.c] hx rfl ?_ ?_ (by unfold maxLen; omega) hlen hbase ?_
  · intro j u hj
    match j, hj with
    | 0, hj => simp at hj; subst hj; rw [WideShapes.add_plain]; exact h0
    | j + 1, hj => simp at hj
  · intro u hu; simp at hu; subst hu; rfl
  · intro v' w' hown' hgrow _
    refine h v' w' ⟨?_⟩ hgrow ((Below.refl _ _).grown hgrow hbase (fun k hk => (hown.out.lt k hk).1))
    rw [pgCells_append, List.length_append]
    exact hown'
theorem fitH_stop {h : Hp} {n : Int} {i : Nat} (hf : i + fitH n (h.drop i) = fitH n h) (hi : i < h.length) (hu : fitsB h[i] n = true) : fitH n h = i := by
  rw [List.drop_eq_getElem_cons hi] at hf
  have e : fitH n (h[i] :: h.drop (i + 1)) = 0 := by simp [fitH, hu]
  rw [e] at hf; omega
theorem fitH_go {h : Hp} {n : Int} {i : Nat} (hf : i + fitH n (h.drop i) = fitH n h) (hi : i < h.length) (hu : fitsB h[i] n = false) : (i + 1) + fitH n (h.drop (i + 1)) = fitH n h := by
  rw [List.drop_eq_getElem_cons hi] at hf
  have e : fitH n (h[i] :: h.drop (i + 1)) = fitH n (h.drop (i + 1)) + 1 := by simp [fitH, hu]
  rw [e] at hf; omega
theorem hp_set (E : List PgE) (i : Nat) (e : PgE) : hp (E.set i e) = (hp E).set i e.p := by simp [hp, List.map_set]
theorem OwnH.slots {w : World} {base n c : Nat} {a : Option Addr} {E : List PgE} (h : OwnH w base (.slice a n c) E) : HCells w a E := by
  obtain ⟨a', c', e, _, _, hs⟩ := pgs_owned h
  obtain ⟨rfl, -, -⟩ := Value.slice.inj e
  exact hs
theorem mem_set_away {w : World} {E : List PgE} {i : Nat} {e : PgE} (he : (∃ e0 ∈ E, e.a = e0.a ∧ e.p = e0.p) ∨ ∀ b off, e.a = some ⟨b, off, none⟩ → w.heap.size ≤ b) :
    ∀ x ∈ E.set i e, (∃ e0 ∈ E, x.a = e0.a ∧ x.p = e0.p) ∨ ∀ b off, x.a = some ⟨b, off, none⟩ → w.heap.size ≤ b := fun x hx => by
  rcases List.mem_or_eq_of_mem_set hx with hx | rfl
  · exact .inl ⟨x, hx, rfl, rfl⟩
  · exact he

set_option maxHeartbeats 4000000 in
set_option maxRecDepth 1000000 in
theorem refHPut_any (a : Option Addr) (c : Nat) (E : List PgE) (d : List UInt8) (most : Int) (w : World) (h : HpAt w a c E) (hd : d.length ≤ 140737488351232) :
    Calls Try.prog 9 #[.agg #[.slice a E.length c], .string (txt d), .int .i64 most] w (HIdAns w a E (putHP (hp E) d most) (putHX (hp E) d most : Nat) (putHY (hp E) d most : Nat) (putHE (hp E) d most)) := by
  have A := hid0 h
  have hlb : E.length ≤ 5864062014805 := by have := h.len; omega
  have hz : (txt d).size = d.length := txt_size d
  have v0 := (((VarAt.new w (.slice a E.length c) 24).alloc (Obj.cells #[.slice none 0 0] 24)).alloc (Obj.cells #[.int .i64 0, .int .i64 0] 26))
  have v1 := ((VarAt.new (w.alloc (Obj.cells #[.slice a E.length c] 24)) (.slice none 0 0) 24).alloc (Obj.cells #[.int .i64 0, .int .i64 0] 26))
  have d1 := IdAt.new ((w.alloc (Obj.cells #[.slice a E.length c] 24)).alloc (Obj.cells #[.slice none 0 0] 24)) 0 0 26
  rw [World.size_alloc] at v1
  rw [World.size_alloc, World.size_alloc] at d1
  have hB0 : Below w.heap.size w (((w.alloc (Obj.cells #[.slice a E.length c] 24)).alloc (Obj.cells #[.slice none 0 0] 24)).alloc (Obj.cells #[.int .i64 0, .int .i64 0] 26)) := (((Below.refl _ _).alloc (Nat.le_refl _) _).alloc (by simp) _).alloc (by simp; omega) _
  have C := refHRight_any a c E _ (((h.alloc (Obj.cells #[.slice a E.length c] 24)).alloc (Obj.cells #[.slice none 0 0] 24)).alloc (Obj.cells #[.int .i64 0, .int .i64 0] 26))
  -- the ways that are refused
  have fin : ∀ (W : World) (er : Int), VarAt W (w.heap.size + 1) (.slice none 0 0) → IdAt W (w.heap.size + 1 + 1) 0 0 → Below w.heap.size w W →
      Hid ((((W.setCell ⟨w.heap.size + 1, 0, none⟩ (.slice a E.length c)).setCell ⟨w.heap.size + 1 + 1, 0, none⟩ (.int .i64 0)).setCell ⟨w.heap.size + 1 + 1, 1, none⟩ (.int .i64 0)).cell? ⟨w.heap.size + 1, 0, none⟩ = some (.slice a E.length c)
        ∧ IdAt (((W.setCell ⟨w.heap.size + 1, 0, none⟩ (.slice a E.length c)).setCell ⟨w.heap.size + 1 + 1, 0, none⟩ (.int .i64 0)).setCell ⟨w.heap.size + 1 + 1, 1, none⟩ (.int .i64 0)) (w.heap.size + 1 + 1) 0 0
        ∧ HIdAns w a E (hp E) 0 0 er (.returned (.tuple #[.agg #[.slice a E.length c], .agg #[.int .i64 0, .int .i64 0], .int .i64 er])) (((W.setCell ⟨w.heap.size + 1, 0, none⟩ (.slice a E.length c)).setCell ⟨w.heap.size + 1 + 1, 0, none⟩ (.int .i64 0)).setCell ⟨w.heap.size + 1 + 1, 1, none⟩ (.int .i64 0))) := by
    intro W er hv hi hb
    have hbf := ((hb.setCell (p := ⟨w.heap.size + 1, 0, none⟩) (by show w.heap.size ≤ w.heap.size + 1; omega) (.slice a E.length c)).setCell (p := ⟨w.heap.size + 1 + 1, 0, none⟩) (by show w.heap.size ≤ w.heap.size + 1 + 1; omega) (.int .i64 0)).setCell (p := ⟨w.heap.size + 1 + 1, 1, none⟩) (by show w.heap.size ≤ w.heap.size + 1 + 1; omega) (.int .i64 0)
    exact hid0 ⟨(((hv.set (.slice a E.length c)).other ⟨w.heap.size + 1 + 1, 0, none⟩ (.int .i64 0) (by show w.heap.size + 1 + 1 ≠ w.heap.size + 1; omega)).other ⟨w.heap.size + 1 + 1, 1, none⟩ (.int .i64 0) (by show w.heap.size + 1 + 1 ≠ w.heap.size + 1; omega)).cell,
      (hi.other ⟨w.heap.size + 1, 0, none⟩ _ (by show w.heap.size + 1 ≠ w.heap.size + 1 + 1; omega)).set 0 0, ⟨a, c, E, rfl, A.out.later hbf, rfl, AwayH.same _ _ _⟩, hbf⟩
  clear h
  cases hr : rightH (hp E) with
  | false =>
    obtain ⟨e1, e2, e3, e4⟩ := putHE_wrong d most hr
    rw [e1, e2, e3, e4]
    rw [hr] at C
    clear hr e1 e2 e3 e4
    go_enter Try.func9, Try.ntmps9
    go_wp2_with (go_at_call 19; go_must (refine C.mono ?_; rintro e w1 ⟨rfl, hb⟩; obtain ⟨q0, f0⟩ := v0.later hb; have V1 := v1.later hb; have D1 := d1.later hb; have FN := fin w1 1 V1 D1 (below_through hb hB0.size hB0); obtain ⟨q1, f1⟩ := V1; obtain ⟨i0, i1, fi⟩ := D1))
    obtain ⟨x1, ⟨x2, x3, _⟩, x4⟩ := FN.out
    exact bodyPost_ret (v := .tuple #[.agg #[.slice a E.length c], .agg #[.int .i64 0, .int .i64 0], .int .i64 1]) (by simp [results, Try.results9, go_sem, x1, x2, x3]) rfl x4
  | true =>
    rw [hr] at C
    have HR := hid0 hr
    clear hr
    by_cases hl : d.length ≤ 1016
    · have hli : ¬ (1016 : Int) < (d.length : Int) := by omega
      obtain ⟨dn, hdn⟩ : ∃ dn, d.length = dn := ⟨_, rfl⟩
      rw [hdn] at hli hz
      have HDN := hid0 hdn
      clear hdn
      go_enter Try.func9, Try.ntmps9
      go_wp2_with (go_at_call 19; go_must (refine C.mono ?_; rintro e w1 ⟨rfl, hb⟩; have V0 := v0.later hb; have V1 := v1.later hb; have D1 := d1.later hb; have hB1 := below_through hb hB0.size hB0; clear hb v0 v1 d1 hB0 C; obtain ⟨q0, f0⟩ := V0))
      go_loopw [9] (fun iv wr => ∃ i : Nat, i ≤ E.length ∧ iv = .int .i64 i ∧ VarAt wr w.heap.size (.slice a E.length c) ∧ VarAt wr (w.heap.size + 1) (.slice none 0 0) ∧ IdAt wr (w.heap.size + 1 + 1) 0 0 ∧ Hid (i + fitH (dn : Int) ((hp E).drop i) = fitH (dn : Int) (hp E)) ∧ Below w.heap.size w wr) (fun iv _ => E.length - (intOf iv).toNat)
      case atStart => exact ⟨0, Nat.zero_le _, rfl, ⟨q0, f0⟩, V1, D1, hid0 (by simp), hB1⟩
      case round =>
        clear q0 f0 V1 D1 hB1
        obtain ⟨i, hi, rfl, V0, V1, D1, hF, hB⟩ := hrel
        have hsz := hB.size
        by_cases hlt : i < E.length
        · have hne : E ≠ [] := by intro e; rw [e] at hlt; exact absurd hlt (by simp)
          obtain ⟨b, o, rfl, hc⟩ := (A.out.later hB).cells hne
          have r0 := hc i hlt
          clear hc
          have hlt' : i < (hp E).length := by rw [hp_len]; exact hlt
          have hP := (A.out.pages _ (List.getElem_mem hlt)).later hB
          have hpl : E[i].p.length ≤ maxLen := by have := hP.len; unfold maxLen; omega
          have C26 := refFits_any E[i].a E[i].c E[i].p (dn : Int) wr hP.out hpl hP.small
          have hstop := hid0 (fun hu => fitH_stop hF.out hlt' hu)
          have hgo := hid0 (fun hu => fitH_go hF.out hlt' hu)
          rw [hp_at hlt] at hstop hgo
          obtain ⟨q0, f0⟩ := V0
          cases hfb : fitsB E[i].p (dn : Int) with
          | false =>
            rw [hfb] at C26
            have HGO := hid0 (hgo.out hfb)
            clear hfb hstop hgo
            go_wp2_with (go_at_call 25; go_must (refine C26.mono ?_; rintro e w1 ⟨rfl, hb⟩))
            exact ⟨⟨i + 1, by omega, by go_num, (VarAt.mk q0 f0).later hb, V1.later hb, D1.later hb, HGO, below_through hb hsz hB⟩, by simp [intOf]; omega⟩
          | true =>
            rw [hfb] at C26
            have HST := hid0 (hstop.out hfb)
            have hfd : fitsB E[i].p d.length = true := by rw [HDN.out]; exact hfb
            obtain ⟨pd1, pd2, pd3⟩ := put_done hfd
            have hRp : RightP (putR E[i].p d) := by
              have := (fitsB_iff _ _).1 hfd
              exact putR_right this.1 this
            have HRp := hid0 hRp
            clear hstop hgo hRp hfd
            go_wp2_with fail
            refine C26.mono ?_
            rintro e w1 ⟨rfl, hb⟩
            have V0 := (VarAt.mk q0 f0).later hb
            replace V1 := V1.later hb
            replace D1 := D1.later hb
            replace hB := below_through hb hsz hB
            replace hP := hP.later hb
            replace r0 := cell_later hb r0
            clear C26 hb q0 f0 hsz
            obtain ⟨q0, f0⟩ := V0
            have C29 := refPut_any E[i].a E[i].c E[i].p d w1 hP.out hP.cap hP.len hP.small
            unfold PutAns at C29
            rw [pd1, pd2, pd3] at C29
            go_wp2_with fail
            refine C29.mono ?_
            rintro e w2 ⟨⟨a2, c2, Q, rfl, hc2, hq2, hqe, hAw⟩, hb⟩
            have hsz1 := hB.size
            have hlD := D1.lt
            have hP0 := A.out.pages _ (List.getElem_mem hlt)
            have F0 : ∀ B, w.heap.size ≤ B → B < w1.heap.size → Far a2 Q B := fun B h1 h2 => far_away hAw (far_old hP0.out h1) h2
            have FG : ∀ B, w2.heap.size ≤ B → Far a2 Q B := fun B h1 => far_old hq2 h1
            have HAW := hid0 hAw
            have hQ : PgAt w2 a2 c2 Q := ⟨hq2, hc2, by rw [hqe]; exact (right_fine HRp.out).1, by rw [hqe]; exact (right_fine HRp.out).2⟩
            have HQE := hid0 hqe
            have V0 := (VarAt.mk q0 f0).later hb
            replace V1 := V1.later hb
            replace D1 := D1.later hb
            replace hB := below_through hb hB.size hB
            have hsz2 := hB.size
            have hszb := hb.size
            clear C29 hb q0 f0 hP r0 hqe hq2 hc2 hAw hP0 pd1 pd2 pd3 hpl
            have PV := (VarAt.new w2 (.slice a2 Q.length c2) 62).cell
            replace V0 := V0.alloc (Obj.cells #[.slice a2 Q.length c2] 62)
            replace V1 := V1.alloc (Obj.cells #[.slice a2 Q.length c2] 62)
            replace D1 := D1.alloc (Obj.cells #[.slice a2 Q.length c2] 62)
            replace hQ := hQ.alloc (Obj.cells #[.slice a2 Q.length c2] 62)
            replace hB := hB.alloc hsz2 (Obj.cells #[.slice a2 Q.length c2] 62)
            have C30 := refHWith_any (some ⟨b, o, none⟩) c E _ (A.out.later hB).cellsH A.out.len
            obtain ⟨q0, f0⟩ := V0
            go_wp2_with fail
            refine C30.mono ?_
            rintro e w4 ⟨⟨v, rfl, hown⟩, hb⟩
            obtain ⟨g, c4, rfl, hg, hcap4, hf4, hc4⟩ := hown.form (by omega)
            have hgi := hc4 i hlt
            have HO := hid0 hown
            have V0 := (VarAt.mk q0 f0).later hb
            replace V1 := V1.later hb
            replace D1 := D1.later hb
            replace PV := cell_later hb PV
            replace hQ := hQ.later hb
            replace hB := below_through hb hB.size hB
            rw [World.size_alloc] at hg
            clear C30 hb q0 f0 hown hc4
            obtain ⟨q0, f0⟩ := V0
            have g0 : g ≠ w.heap.size := by omega
            have g1 : g ≠ w.heap.size + 1 := by omega
            have g2 : g ≠ w.heap.size + 1 + 1 := by omega
            have hPV : w2.heap.size ≠ w.heap.size := by omega
            -- h = with(h): the variable has the new pages
            have hX := (HO.out.setCell (a := ⟨w.heap.size, 0, none⟩) (by rw [World.size_alloc]; show w.heap.size < _; omega) (.slice (some ⟨g, 0, none⟩) E.length c4)).write i ⟨a2, c2, Q⟩
            obtain ⟨k, hk⟩ : ∃ k, placeP E[i].p = k := ⟨_, rfl⟩
            have hX9 := ((hX.setCell (a := ⟨w.heap.size + 1, 0, none⟩) (by rw [World.size_alloc]; show w.heap.size + 1 < _; omega) (.slice (some ⟨g, 0, none⟩) E.length c4)).setCell (a := ⟨w.heap.size + 1 + 1, 0, none⟩) (by rw [World.size_alloc]; show w.heap.size + 1 + 1 < _; omega) (.int .i64 (i : Int))).setCell (a := ⟨w.heap.size + 1 + 1, 1, none⟩) (by rw [World.size_alloc]; show w.heap.size + 1 + 1 < _; omega) (.int .i64 (k : Int))
            have hQ9 := ((((hQ.setCell w.heap.size 0 (.slice (some ⟨g, 0, none⟩) E.length c4) (F0 _ (by omega) (by omega))).setCell g i (.slice a2 Q.length c2) (FG _ (by omega))).setCell (w.heap.size + 1) 0 (.slice (some ⟨g, 0, none⟩) E.length c4) (F0 _ (by omega) (by omega))).setCell (w.heap.size + 1 + 1) 0 (.int .i64 (i : Int)) (F0 _ (by omega) (by omega))).setCell (w.heap.size + 1 + 1) 1 (.int .i64 (k : Int)) (F0 _ (by omega) (by omega))
            have hB9 := ((((hB.setCell (p := ⟨w.heap.size, 0, none⟩) (Nat.le_refl _) (.slice (some ⟨g, 0, none⟩) E.length c4)).setCell (p := ⟨g, i, none⟩) (by show w.heap.size ≤ g; omega) (.slice a2 Q.length c2)).setCell (p := ⟨w.heap.size + 1, 0, none⟩) (by show w.heap.size ≤ w.heap.size + 1; omega) (.slice (some ⟨g, 0, none⟩) E.length c4)).setCell (p := ⟨w.heap.size + 1 + 1, 0, none⟩) (by show w.heap.size ≤ w.heap.size + 1 + 1; omega) (.int .i64 (i : Int))).setCell (p := ⟨w.heap.size + 1 + 1, 1, none⟩) (by show w.heap.size ≤ w.heap.size + 1 + 1; omega) (.int .i64 (k : Int))
            have x1 := ((((V1.other ⟨w.heap.size, 0, none⟩ (.slice (some ⟨g, 0, none⟩) E.length c4) (by show w.heap.size ≠ w.heap.size + 1; omega)).other ⟨g, i, none⟩ (.slice a2 Q.length c2) g1).set (.slice (some ⟨g, 0, none⟩) E.length c4)).other ⟨w.heap.size + 1 + 1, 0, none⟩ (.int .i64 (i : Int)) (by show w.heap.size + 1 + 1 ≠ w.heap.size + 1; omega)).other ⟨w.heap.size + 1 + 1, 1, none⟩ (.int .i64 (k : Int)) (by show w.heap.size + 1 + 1 ≠ w.heap.size + 1; omega)
            have x2 := (((D1.other ⟨w.heap.size, 0, none⟩ (.slice (some ⟨g, 0, none⟩) E.length c4) (by show w.heap.size ≠ w.heap.size + 1 + 1; omega)).other ⟨g, i, none⟩ (.slice a2 Q.length c2) g2).other ⟨w.heap.size + 1, 0, none⟩ (.slice (some ⟨g, 0, none⟩) E.length c4) (by show w.heap.size + 1 ≠ w.heap.size + 1 + 1; omega)).set (i : Int) (k : Int)
            have hput : (hp E).set i Q = putHR (hp E) d ∧ slotH (hp E) d = k := by
              have hf : fitH (d.length : Int) (hp E) = i := by rw [HDN.out]; exact HST.out
              unfold putHR slotH
              rw [dif_pos (by rw [hf]; exact hlt'), dif_pos (by rw [hf]; exact hlt')]
              simp only [hf]
              rw [hp_at hlt, HQE.out]
              exact ⟨rfl, hk⟩
            have hcan : canH (hp E) d most = true := by
              have hf : fitH (d.length : Int) (hp E) = i := by rw [HDN.out]; exact HST.out
              unfold canH
              rw [hf]; simp [hlt']
            obtain ⟨e1, e2, e3, e4⟩ := putHE_done HR.out hl hcan
            have hfi : fitH (d.length : Int) (hp E) = i := by rw [HDN.out]; exact HST.out
            have HF := hid0 (And.intro e1 (And.intro e2 (And.intro e3 (And.intro e4 (And.intro hput hfi)))))
            have HX9 := hid0 hX9
            have HQ9 := hid0 hQ9
            have HB9 := hid0 hB9
            have X1 := hid0 x1.cell
            have X2 := hid0 x2
            obtain ⟨q1, f1⟩ := V1
            obtain ⟨i0, i1, fi⟩ := D1
            rw [hk]
            clear hX hX9 hQ9 hB9 x1 x2 e1 e2 e3 e4 hput hcan hfi hQ hB HO F0 FG hk
            go_wp2_with fail
            refine bodyPost_ret (v := .tuple #[.agg #[(.slice (some ⟨g, 0, none⟩) E.length c4)], .agg #[.int .i64 (i : Int), .int .i64 (k : Int)], .int .i64 0]) (by simp [results, Try.results9, go_sem, X1.out, X2.out.c0, X2.out.c1]) rfl ?_
            obtain ⟨e1, e2, e3, e4, ⟨h1, h2⟩, hfi⟩ := HF.out
            unfold HIdAns
            rw [e1, e2, e3, e4, hfi, h2]
            refine ⟨⟨some ⟨g, 0, none⟩, c4, E.set i ⟨a2, c2, Q⟩, by rw [List.length_set], ⟨HX9.out.slots, fun e he => ?_, by rw [List.length_set]; exact hcap4, by rw [List.length_set]; exact A.out.len⟩, by rw [hp_set, ← h1], ⟨.inr (fun b' o' e => ?_), mem_set_away ?_⟩⟩, HB9.out⟩
            · rcases List.mem_or_eq_of_mem_set he with he | rfl
              · exact (A.out.pages e he).later HB9.out
              · exact HQ9.out
            · obtain ⟨rfl, -⟩ : g = b' ∧ 0 = o' := by simpa using e
              omega
            · rcases HAW.out with ⟨e1, e2⟩ | h
              · exact .inl ⟨E[i], List.getElem_mem hlt, e1, e2⟩
              · exact .inr (fun b off e => by have := h b off e; omega)
        · obtain rfl : i = E.length := by omega
          have hfl : fitH (dn : Int) (hp E) = E.length := by
            have h := hF.out
            rw [List.drop_eq_nil_of_le (by rw [hp_len]; omega)] at h
            simpa [fitH] using h.symm
          have hfl' : fitH (d.length : Int) (hp E) = (hp E).length := by rw [HDN.out, hfl, hp_len]
          have hie : ¬ (E.length : Int) < (E.length : Int) := by omega
          have hcan : canH (hp E) d most = (decide ((E.length : Int) < most) && decide (E.length < 4096)) := by
            unfold canH
            rw [hfl', hp_len]; simp
          clear hlt hi hF
          cases hcb : canH (hp E) d most with
          | false =>
            obtain ⟨e1, e2, e3, e4⟩ := putHE_full HR.out hl hcb
            rw [hcb] at hcan
            have hor : most ≤ (E.length : Int) ∨ (most > (E.length : Int) ∧ (4096 : Int) ≤ (E.length : Int)) := by
              by_cases h1 : most ≤ (E.length : Int)
              · exact .inl h1
              · right
                refine ⟨by omega, ?_⟩
                have h2 : decide ((E.length : Int) < most) = true := by simpa using (by omega : (E.length : Int) < most)
                rw [h2] at hcan
                simp at hcan; omega
            have EE := hid0 (And.intro e1 (And.intro e2 (And.intro e3 e4)))
            have FN := fin wr 17 V1 D1 hB
            obtain ⟨q0, f0⟩ := V0
            obtain ⟨q1, f1⟩ := V1
            obtain ⟨i0, i1, fi⟩ := D1
            clear e1 e2 e3 e4 hcan hcb hfl hfl'
            rcases hor with h1 | ⟨h1, h2⟩
            · go_wp2_with fail
              obtain ⟨x1, ⟨x2, x3, _⟩, x4⟩ := FN.out
              exact bodyPost_ret (v := .tuple #[.agg #[.slice a E.length c], .agg #[.int .i64 0, .int .i64 0], .int .i64 17]) (by simp [results, Try.results9, go_sem, x1, x2, x3]) rfl (by obtain ⟨e1, e2, e3, e4⟩ := EE.out; rw [e1, e2, e3, e4]; exact x4)
            · have h1' : ¬ most ≤ (E.length : Int) := by omega
              go_wp2_with fail
              obtain ⟨x1, ⟨x2, x3, _⟩, x4⟩ := FN.out
              exact bodyPost_ret (v := .tuple #[.agg #[.slice a E.length c], .agg #[.int .i64 0, .int .i64 0], .int .i64 17]) (by simp [results, Try.results9, go_sem, x1, x2, x3]) rfl (by obtain ⟨e1, e2, e3, e4⟩ := EE.out; rw [e1, e2, e3, e4]; exact x4)
          | true =>
            obtain ⟨e1, e2, e3, e4⟩ := putHE_done HR.out hl hcb
            rw [hcb] at hcan
            have hand : (E.length : Int) < most ∧ E.length < 4096 := by
              have h := hcan.symm
              simp only [Bool.and_eq_true, decide_eq_true_eq] at h
              exact h
            have E5 : putHR (hp E) d = hp E ++ [putR [] d] ∧ slotH (hp E) d = 0 := by
              unfold putHR slotH
              rw [dif_neg (by rw [hfl']; omega), dif_neg (by rw [hfl']; omega)]; exact ⟨rfl, rfl⟩
            have EE := hid0 (And.intro e1 (And.intro e2 (And.intro e3 (And.intro e4 (And.intro E5 hfl')))))
            have hfd : fitsB [] d.length = true := (fitsB_iff _ _).2 (fits_nil hl)
            obtain ⟨pd1, pd2, pd3⟩ := put_done hfd
            have HRp := hid0 (putR_right right_nil (fits_nil hl))
            have h1' : ¬ most ≤ (E.length : Int) := by omega
            have h2' : ¬ (4096 : Int) ≤ (E.length : Int) := by omega
            have C29 := refPut_any none 0 [] d wr (fun h => absurd rfl h) (Nat.le_refl _) (by simp) (fun s hs => absurd hs (by simp))
            unfold PutAns at C29
            rw [pd1, pd2, pd3] at C29
            have hlen := hand.2
            obtain ⟨q0, f0⟩ := V0
            clear e1 e2 e3 e4 E5 hcan hcb hfl hfl' hfd hand fin
            go_wp2_with fail
            refine C29.mono ?_
            rintro e w2 ⟨⟨a2, c2, Q, rfl, hc2, hq2, hqe, hAw⟩, hb⟩
            have hsz1 := hsz
            have hlD := D1.lt
            have F0 : ∀ B, w.heap.size ≤ B → B < wr.heap.size → Far a2 Q B := fun B h1 h2 => far_away hAw (fun hn => absurd rfl hn) h2
            have FG : ∀ B, w2.heap.size ≤ B → Far a2 Q B := fun B h1 => far_old hq2 h1
            have HQL := hid0 (show Q ≠ [] → ∀ b off, a2 = some ⟨b, off, none⟩ → b < w2.heap.size + 1 from fun hn b off e => by
              rcases Nat.lt_or_ge b (w2.heap.size + 1) with h | h
              · exact h
              · exact absurd rfl (FG b (by omega) hn b off e))
            have HAW := hid0 hAw
            have hQ : PgAt w2 a2 c2 Q := ⟨hq2, hc2, by rw [hqe]; exact (right_fine HRp.out).1, by rw [hqe]; exact (right_fine HRp.out).2⟩
            have HQE := hid0 hqe
            have V0 := (VarAt.mk q0 f0).later hb
            replace V1 := V1.later hb
            replace D1 := D1.later hb
            replace hB := below_through hb hB.size hB
            have hsz2 := hB.size
            have hszb := hb.size
            clear C29 hb q0 f0 hqe hq2 hc2 hAw pd1 pd2 pd3
            have PV := (VarAt.new w2 (.slice a2 Q.length c2) 62)
            replace V0 := V0.alloc (Obj.cells #[.slice a2 Q.length c2] 62)
            replace V1 := V1.alloc (Obj.cells #[.slice a2 Q.length c2] 62)
            replace D1 := D1.alloc (Obj.cells #[.slice a2 Q.length c2] 62)
            replace hQ := hQ.alloc (Obj.cells #[.slice a2 Q.length c2] 62)
            replace hB := hB.alloc hsz2 (Obj.cells #[.slice a2 Q.length c2] 62)
            have C30 := refHWith_any a c E _ (A.out.later hB).cellsH A.out.len
            obtain ⟨q0, f0⟩ := V0
            go_wp2_with fail
            refine C30.mono ?_
            rintro e w4 ⟨⟨v, rfl, hown⟩, hb⟩
            obtain ⟨a4, c4, rfl, hcap4, _, hc4⟩ := pgs_owned hown
            have HO := hid0 hown
            have hhb := hb.size
            rw [World.size_alloc] at hhb
            have V0 := (VarAt.mk q0 f0).later hb
            replace V1 := V1.later hb
            replace D1 := D1.later hb
            replace PV := PV.later hb
            replace hQ := hQ.later hb
            replace hB := below_through hb hB.size hB
            clear C30 hb q0 f0 hown hc4
            obtain ⟨q0, f0⟩ := V0
            have hPV : w2.heap.size ≠ w.heap.size := by omega
            have pc := (PV.other ⟨w.heap.size, 0, none⟩ (.slice a4 E.length c4) (fun e => hPV e.symm)).cell
            have ho := fun o => ((HO.out.setCell (a := ⟨w.heap.size, 0, none⟩) (by rw [World.size_alloc]; show w.heap.size < _; omega) (.slice a4 E.length c4)).alloc o)
            have hn := fun u => line_new1 (w4.setCell ⟨w.heap.size, 0, none⟩ (.slice a4 E.length c4)) u 62
            simp only [World.size_setCell] at hn
            go_wp2_with (at_builtin; go_must (refine wp_page1 (E := E) rfl _ _ rfl rfl (ho _) ⟨a2, c2, Q⟩ w4.heap.size rfl (hn _) (by omega) (by simp; omega) ?_))
            intro v5 w5 hown5 hgr5 hb5
            have hgb := hn (.slice a2 Q.length c2)
            replace V1 := (((V1.other ⟨w.heap.size, 0, none⟩ (.slice a4 E.length c4) (by show w.heap.size ≠ w.heap.size + 1; omega)).alloc (Obj.cells #[.slice a2 Q.length c2] 62)).below hb5 (by omega))
            replace D1 := (((D1.other ⟨w.heap.size, 0, none⟩ (.slice a4 E.length c4) (by show w.heap.size ≠ w.heap.size + 1 + 1; omega)).alloc (Obj.cells #[.slice a2 Q.length c2] 62)).below hb5 (by omega))
            have V5 := ((((VarAt.mk q0 f0).set (.slice a4 E.length c4)).alloc (Obj.cells #[.slice a2 Q.length c2] 62)).below hb5 (by omega))
            obtain ⟨g, c5, rfl, hg, hcap5, _, _⟩ := hown5.form (by simp)
            have HO5 := hid0 hown5
            rw [List.length_append, List.length_singleton] at hcap5
            clear hgb pc ho hn q0 f0 hown5 PV
            obtain ⟨q0, f0⟩ := V5
            go_wp2_with fail
            have g0 : g ≠ w.heap.size := by omega
            have g1 : g ≠ w.heap.size + 1 := by omega
            have g2 : g ≠ w.heap.size + 1 + 1 := by omega
            have V6 := (VarAt.mk q0 f0).set (.slice (some ⟨g, 0, none⟩) (E.length + 1) c5)
            replace V1 := V1.other ⟨w.heap.size, 0, none⟩ (.slice (some ⟨g, 0, none⟩) (E.length + 1) c5) (by show w.heap.size ≠ w.heap.size + 1; omega)
            replace D1 := D1.other ⟨w.heap.size, 0, none⟩ (.slice (some ⟨g, 0, none⟩) (E.length + 1) c5) (by show w.heap.size ≠ w.heap.size + 1 + 1; omega)
            have HX := hid0 (HO5.out.setCell (a := ⟨w.heap.size, 0, none⟩) (by show w.heap.size < w2.heap.size + 1; omega) (.slice (some ⟨g, 0, none⟩) (E.length + 1) c5))
            have hB6 := ((hB.setCell (p := ⟨w.heap.size, 0, none⟩) (Nat.le_refl _) (.slice a4 E.length c4)).alloc (by simp; omega) (Obj.cells #[.slice a2 Q.length c2] 62)).trans (hb5.mono (by omega))
            have hB7 := hB6.setCell (p := ⟨w.heap.size, 0, none⟩) (Nat.le_refl _) (.slice (some ⟨g, 0, none⟩) (E.length + 1) c5)
            have hQ5 : PgAt w5 a2 c2 Q := by
              have h1 := (hQ.setCell w.heap.size 0 (.slice a4 E.length c4) (F0 _ (by omega) (by omega))).alloc (Obj.cells #[.slice a2 Q.length c2] 62)
              refine ⟨fun hn => ?_, h1.cap, h1.len, h1.small⟩
              obtain ⟨qb, qo, qe, qc⟩ := h1.out hn
              have hql := FG w2.heap.size (Nat.le_refl _) hn qb qo qe
              have hqlt : qb < w2.heap.size + 1 := HQL.out hn qb qo qe
              exact ⟨qb, qo, qe, fun j hj => ⟨(hb5.cell (p := ⟨qb, _, none⟩) hqlt).trans (qc j hj).1, (hb5.cell (p := ⟨qb, _, none⟩) hqlt).trans (qc j hj).2⟩⟩
            have hQ7 := hQ5.setCell w.heap.size 0 (.slice (some ⟨g, 0, none⟩) (E.length + 1) c5) (F0 _ (by omega) (by omega))
            clear q0 f0 hB hB6 hQ hQ5 hgr5 hb5 HO5 HO
            generalize (w5.setCell ⟨w.heap.size, 0, none⟩ (.slice (some ⟨g, 0, none⟩) (E.length + 1) c5)) = W at V6 V1 D1 HX hB7 hQ7 ⊢
            have hd0 : W.drew.cell? ⟨w.heap.size + 1, 0, none⟩ = some (.slice none 0 0) := V1.cell
            have hd1 : W.drew.frozen? ⟨w.heap.size + 1, 0, none⟩ = false := V1.frz
            have D2 := (IdAt.mk (w := W.drew) D1.c0 D1.c1 D1.f).other ⟨w.heap.size + 1, 0, none⟩ (.slice (some ⟨g, 0, none⟩) (E.length + 1) c5) (by show w.heap.size + 1 ≠ w.heap.size + 1 + 1; omega)
            obtain ⟨k0, k1, kf⟩ := D2
            have hkeep : ∀ (X : World) (B o : Nat) (u : Value), B ≠ w.heap.size → (X.setCell ⟨B, o, none⟩ u).cell? ⟨w.heap.size, 0, none⟩ = X.cell? ⟨w.heap.size, 0, none⟩ := fun X B o u hne => World.cell?_setCell_other _ _ _ _ (fun e => hne (congrArg Addr.block e))
            have hwE : IntKind.i64.wrap ((E.length : Int) + 1 - 1) = (E.length : Int) := by rw [IntWalk.i64_in _ (by omega)]; omega
            have q6 := V6.cell
            have HD1 := hid0 D1
            have HV1 := hid0 V1
            have hwE2 : IntKind.i64.wrap (E.length : Int) = (E.length : Int) := IntWalk.i64_in _ (by omega)
            obtain ⟨i0, i1, fi⟩ := D1
            have fi0 := fi 0
            have fi1 := fi 1
            have j0 : W.drew.cell? ⟨w.heap.size + 1 + 1, 0, none⟩ = some (.int .i64 0) := i0
            have j1 : W.drew.cell? ⟨w.heap.size + 1 + 1, 1, none⟩ = some (.int .i64 0) := i1
            go_region_held3 (fun w' => w'.cell? ⟨w.heap.size, 0, none⟩ = some (.slice (some ⟨g, 0, none⟩) (E.length + 1) c5))
              (first
                | assumption
                | exact q6
                | (simp only [World.cell?_drew, hkeep _ _ _ _ (show w.heap.size + 1 ≠ w.heap.size by omega), hkeep _ _ _ _ (show w.heap.size + 1 + 1 ≠ w.heap.size by omega)]; exact q6)
                | go_keep)
              (fail)
            have X1 := hid0 (((HV1.out.set (.slice (some ⟨g, 0, none⟩) (E.length + 1) c5)).other ⟨w.heap.size + 1 + 1, 0, none⟩ (.int .i64 (E.length : Int)) (by show w.heap.size + 1 + 1 ≠ w.heap.size + 1; omega)).other ⟨w.heap.size + 1 + 1, 1, none⟩ (.int .i64 ((placeP [] : Nat) : Int)) (by show w.heap.size + 1 + 1 ≠ w.heap.size + 1; omega)).cell
            have X2 := hid0 ((HD1.out.other ⟨w.heap.size + 1, 0, none⟩ (.slice (some ⟨g, 0, none⟩) (E.length + 1) c5) (by show w.heap.size + 1 ≠ w.heap.size + 1 + 1; omega)).set (E.length : Int) ((placeP [] : Nat) : Int))
            have HX9 := hid0 (((HX.out.setCell (a := ⟨w.heap.size + 1, 0, none⟩) (by show w.heap.size + 1 < w2.heap.size + 1; omega) (.slice (some ⟨g, 0, none⟩) (E.length + 1) c5)).setCell (a := ⟨w.heap.size + 1 + 1, 0, none⟩) (by show w.heap.size + 1 + 1 < w2.heap.size + 1; omega) (.int .i64 (E.length : Int))).setCell (a := ⟨w.heap.size + 1 + 1, 1, none⟩) (by show w.heap.size + 1 + 1 < w2.heap.size + 1; omega) (.int .i64 ((placeP [] : Nat) : Int))).drew
            have HQ9 := hid0 (((hQ7.setCell (w.heap.size + 1) 0 (.slice (some ⟨g, 0, none⟩) (E.length + 1) c5) (F0 _ (by omega) (by omega))).setCell (w.heap.size + 1 + 1) 0 (.int .i64 (E.length : Int)) (F0 _ (by omega) (by omega))).setCell (w.heap.size + 1 + 1) 1 (.int .i64 ((placeP [] : Nat) : Int)) (F0 _ (by omega) (by omega))).drew
            have HB9 := hid0 (((hB7.setCell (p := ⟨w.heap.size + 1, 0, none⟩) (by show w.heap.size ≤ w.heap.size + 1; omega) (.slice (some ⟨g, 0, none⟩) (E.length + 1) c5)).setCell (p := ⟨w.heap.size + 1 + 1, 0, none⟩) (by show w.heap.size ≤ w.heap.size + 1 + 1; omega) (.int .i64 (E.length : Int))).setCell (p := ⟨w.heap.size + 1 + 1, 1, none⟩) (by show w.heap.size ≤ w.heap.size + 1 + 1; omega) (.int .i64 ((placeP [] : Nat) : Int))).drew
            clear hd0 hd1 k0 k1 kf hkeep hwE hwE2 q6 i0 i1 fi fi0 fi1 j0 j1 V6 V1 hB7 hQ7 F0 FG
            have y2 := X2.out.c0
            have y3 := X2.out.c1
            have y1 := X1.out
            go_wp2_with fail
            refine bodyPost_ret (v := .tuple #[.agg #[(.slice (some ⟨g, 0, none⟩) (E.length + 1) c5)], .agg #[.int .i64 (E.length : Int), .int .i64 ((placeP [] : Nat) : Int)], .int .i64 0]) (by simp [results, Try.results9, go_sem, y1, y2, y3]) rfl ?_
            obtain ⟨e1, e2, e3, e4, ⟨h1, h2⟩, hfi⟩ := EE.out
            unfold HIdAns
            rw [e1, e2, e3, e4, hfi, h2, hp_len]
            refine ⟨⟨some ⟨g, 0, none⟩, c5, E ++ [(⟨a2, c2, Q⟩ : PgE)], by rw [List.length_append]; rfl, ⟨HX9.out.slots, fun e he => ?_, by rw [List.length_append]; exact hcap5, by rw [List.length_append]; simp; omega⟩, by rw [h1, hp, List.map_append, HQE.out]; rfl, ⟨.inr (fun b' o' e => ?_), fun x hx => ?_⟩⟩, HB9.out⟩
            · rcases List.mem_append.1 he with he | he
              · exact (A.out.pages e he).later HB9.out
              · obtain rfl := List.mem_singleton.1 he
                exact HQ9.out
            · obtain ⟨rfl, -⟩ : g = b' ∧ 0 = o' := by simpa using e
              omega
            · rcases List.mem_append.1 hx with hx | hx
              · exact .inl ⟨x, hx, rfl, rfl⟩
              · obtain rfl := List.mem_singleton.1 hx
                right
                intro b off e
                rcases HAW.out with ⟨e1, _⟩ | h
                · rw [e1] at e; cases e
                · have := h b off e; omega
    · have hli : (1016 : Int) < (d.length : Int) := by omega
      obtain ⟨e1, e2, e3, e4⟩ := putHE_long most HR.out hl
      rw [e1, e2, e3, e4]
      clear e1 e2 e3 e4 hl
      go_enter Try.func9, Try.ntmps9
      go_wp2_with (go_at_call 19; go_must (refine C.mono ?_; rintro e w1 ⟨rfl, hb⟩; obtain ⟨q0, f0⟩ := v0.later hb; have V1 := v1.later hb; have D1 := d1.later hb; have FN := fin w1 3 V1 D1 (below_through hb hB0.size hB0); obtain ⟨q1, f1⟩ := V1; obtain ⟨i0, i1, fi⟩ := D1))
      obtain ⟨x1, ⟨x2, x3, _⟩, x4⟩ := FN.out
      exact bodyPost_ret (v := .tuple #[.agg #[.slice a E.length c], .agg #[.int .i64 0, .int .i64 0], .int .i64 3]) (by simp [results, Try.results9, go_sem, x1, x2, x3]) rfl x4
end Go.Proofs.Ytnneeojgakjalaa
