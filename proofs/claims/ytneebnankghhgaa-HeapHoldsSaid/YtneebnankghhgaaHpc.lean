/- Several of my texts laid together, each as it was: Hpc. Conditions: each names its own. -/
import Derived.Test.YtneebnankghhgaaHpb
import Derived.Lib.MinMax
/- The project's heap: a row of a place; putting: contracts of the calls, in whatever memory. Conditions: the pages' cells are known, they are not too many. -/
namespace Go.Proofs.Ytneebnankghhgaa
open Go.RowKit

theorem new_at (w : World) (o : Obj) : (w.alloc o).heap[w.heap.size]? = some o := by
  show (w.heap.push o)[w.heap.size]? = _
  rw [Array.getElem?_push, if_pos rfl]
theorem OwnH.at {w : World} {base g n c : Nat} {E : List PgE} (h : OwnH w base (.slice (some ⟨g, 0, none⟩) n c) E) {i : Nat} (hi : i < E.length) : w.cell? ⟨g, i, none⟩ = some (.slice (E[i]).a (E[i]).p.length (E[i]).c) ∧ w.frozen? ⟨g, i, none⟩ = false ∧ base ≤ g := by
  obtain ⟨g', c', e, hb, _, hf, hc⟩ := h.form (by omega)
  obtain ⟨e1, -, -⟩ := Value.slice.inj e
  obtain rfl : g = g' := by simpa using e1
  exact ⟨hc i hi, hf i, hb⟩
theorem OwnH.apart {w : World} {base N : Nat} {v : Value} {E : List PgE} {u : Array Value} (h : OwnH w base v E) (hN : w.heap[N]? = some (.cells u 25 (0, 0))) : some N ≠ v.ownBlock := by
  rcases h.out.2 with ⟨rfl, _⟩ | ⟨g', cap, cur, rfl, _, hh, _⟩
  · simp [Value.ownBlock]
  · intro e
    obtain rfl : N = g' := by simpa [Value.ownBlock] using e
    rw [hN] at hh
    simp at hh
theorem OwnH.other {w : World} {base g n c : Nat} {E : List PgE} (h : OwnH w base (.slice (some ⟨g, 0, none⟩) n c) E) (a : Addr) (u : Value) (ha : g ≠ a.block) : OwnH (w.setCell a u) base (.slice (some ⟨g, 0, none⟩) n c) E := by
  refine ⟨h.out.1, ?_⟩
  rcases h.out.2 with ⟨e, _⟩ | ⟨g', cap, cur, e, hb, hh, r⟩
  · cases e
  · obtain ⟨e1, -, -⟩ := Value.slice.inj e
    obtain rfl : g = g' := by simpa using e1
    exact .inr ⟨g, cap, cur, e, hb, (Below.heap_setCell _ _ _ _ ha).trans hh, r⟩
theorem ret_idh {a : Option Addr} {m n c : Nat} {x y : Value} (h : m = n) : Ending.returned (.tuple #[.agg #[.slice a m c], x, y]) = .returned (.tuple #[.agg #[.slice a n c], x, y]) := by rw [h]
/-- A variable of another type doesn't lie among the pages. -/
theorem OwnH.ne {w : World} {base g n c N : Nat} {E : List PgE} {u : Array Value} (h : OwnH w base (.slice (some ⟨g, 0, none⟩) n c) E) (hN : w.heap[N]? = some (.cells u 25 (0, 0))) : g ≠ N := by
  rcases h.out.2 with ⟨e, _⟩ | ⟨g', cap, cur, e, _, hh, _⟩
  · cases e
  · obtain ⟨e1, -, -⟩ := Value.slice.inj e
    obtain rfl : g = g' := by simpa using e1
    rintro rfl
    rw [hN] at hh
    simp at hh
theorem OwnH.place {w : World} {base n c : Nat} {a : Option Addr} {E : List PgE} (h : OwnH w base (.slice a n c) E) : ∀ b off, a = some ⟨b, off, none⟩ → base ≤ b := fun b off e => by
  rcases h.out.2 with ⟨e', _⟩ | ⟨g', cap, cur, e', hg, _⟩
  · obtain ⟨rfl, -, -⟩ := Value.slice.inj e'; cases e
  · obtain ⟨rfl, -, -⟩ := Value.slice.inj e'
    obtain ⟨rfl, -⟩ : g' = b ∧ 0 = off := by simpa using e
    exact hg
/-- The pages in new memory are the heap. -/
theorem OwnH.heap {w W : World} {a a' : Option Addr} {c c' base : Nat} {E : List PgE} (h : OwnH W base (.slice a' E.length c') E) (A : HpAt w a c E) (hB : Below w.heap.size w W) (hb : w.heap.size ≤ base) : HpAt W a' c' E ∧ AwayH w a E a' E := by
  obtain ⟨a2, c2, e, hcap, _, hc⟩ := pgs_owned h
  obtain ⟨rfl, -, rfl⟩ := Value.slice.inj e
  exact ⟨⟨hc, fun x hx => (A.pages x hx).later hB, hcap, A.len⟩, .inr (fun b off e => Nat.le_trans hb (h.place b off e)), fun x hx => .inl ⟨x, hx, rfl, rfl⟩⟩
/-- 'return copied(h), api.Id{}, er': what stands behind it. -/
theorem copied_fin {w W : World} {a a' : Option Addr} {c c' base : Nat} {E : List PgE} (A : HpAt w a c E) (B : Nat) (er : Int) (u : Value) (hv : VarAt W B u) (hi : IdAt W (B + 1) 0 0) (hb : Below w.heap.size w W) (hB : w.heap.size ≤ B) (hbase : B + 1 < base) (hO : OwnH W base (.slice a' E.length c') E) :
    Hid ((((W.setCell ⟨B, 0, none⟩ (.slice a' E.length c')).setCell ⟨B + 1, 0, none⟩ (.int .i64 0)).setCell ⟨B + 1, 1, none⟩ (.int .i64 0)).cell? ⟨B, 0, none⟩ = some (.slice a' E.length c')
      ∧ IdAt (((W.setCell ⟨B, 0, none⟩ (.slice a' E.length c')).setCell ⟨B + 1, 0, none⟩ (.int .i64 0)).setCell ⟨B + 1, 1, none⟩ (.int .i64 0)) (B + 1) 0 0
      ∧ HIdAns w a E (hp E) 0 0 er (.returned (.tuple #[.agg #[.slice a' E.length c'], .agg #[.int .i64 0, .int .i64 0], .int .i64 er])) (((W.setCell ⟨B, 0, none⟩ (.slice a' E.length c')).setCell ⟨B + 1, 0, none⟩ (.int .i64 0)).setCell ⟨B + 1, 1, none⟩ (.int .i64 0))) := by
  have hbf := ((hb.setCell (p := ⟨B, 0, none⟩) hB (.slice a' E.length c')).setCell (p := ⟨B + 1, 0, none⟩) (by show w.heap.size ≤ B + 1; omega) (.int .i64 0)).setCell (p := ⟨B + 1, 1, none⟩) (by show w.heap.size ≤ B + 1; omega) (.int .i64 0)
  have hof := ((hO.setCell (a := ⟨B, 0, none⟩) (by show B < base; omega) (.slice a' E.length c')).setCell (a := ⟨B + 1, 0, none⟩) hbase (.int .i64 0)).setCell (a := ⟨B + 1, 1, none⟩) hbase (.int .i64 0)
  obtain ⟨h1, h2⟩ := hof.heap A hbf (by omega)
  exact hid0 ⟨(((hv.set (.slice a' E.length c')).other ⟨B + 1, 0, none⟩ (.int .i64 0) (by show B + 1 ≠ B; omega)).other ⟨B + 1, 1, none⟩ (.int .i64 0) (by show B + 1 ≠ B; omega)).cell,
    (hi.other ⟨B, 0, none⟩ _ (by show B ≠ B + 1; omega)).set 0 0, ⟨a', c', E, rfl, h1, rfl, h2⟩, hbf⟩

set_option maxHeartbeats 2000000 in
set_option maxRecDepth 1000000 in
theorem hpGet_any (a : Option Addr) (c : Nat) (E : List PgE) (x y : Int) (w : World) (h : HpAt w a c E) (hx1 : -9223372036854775808 ≤ x) (hx : x ≤ 9223372036854775807) (hy1 : -9223372036854775808 ≤ y) (hy : y ≤ 9223372036854775807) :
    Calls Try.prog 10 #[.agg #[.slice a E.length c], .agg #[.int .i64 x, .int .i64 y]] w fun e w' => e = .returned (.tuple #[.string (txt (getHD (hp E) x y)), .int .i64 (getHE (hp E) x y)]) ∧ Below w.heap.size w w' := by
  have A := hid0 h
  have hlb : E.length ≤ 5864062014805 := by have := h.len; omega
  have hB0 : Below w.heap.size w ((w.alloc (Obj.cells #[.slice a E.length c] 25)).alloc (Obj.cells #[.int .i64 x, .int .i64 y] 29)) := ((Below.refl _ _).alloc (Nat.le_refl _) _).alloc (by simp) _
  have q0 : ((w.alloc (Obj.cells #[.slice a E.length c] 25)).alloc (Obj.cells #[.int .i64 x, .int .i64 y] 29)).cell? ⟨w.heap.size, 0, none⟩ = some (.slice a E.length c) := by go_cell
  have i0 : ((w.alloc (Obj.cells #[.slice a E.length c] 25)).alloc (Obj.cells #[.int .i64 x, .int .i64 y] 29)).cell? ⟨w.heap.size + 1, 0, none⟩ = some (.int .i64 x) := by go_cell
  have i1 : ((w.alloc (Obj.cells #[.slice a E.length c] 25)).alloc (Obj.cells #[.int .i64 x, .int .i64 y] 29)).cell? ⟨w.heap.size + 1, 1, none⟩ = some (.int .i64 y) := by go_cell
  have C := hpRight_any a c E _ ((h.alloc (Obj.cells #[.slice a E.length c] 25)).alloc (Obj.cells #[.int .i64 x, .int .i64 y] 29))
  have HY := hid0 (And.intro hy1 hy)
  clear h hy1 hy
  obtain ⟨gd, hgd⟩ : ∃ g, getHD (hp E) x y = g := ⟨_, rfl⟩
  obtain ⟨ge, hge⟩ : ∃ g, getHE (hp E) x y = g := ⟨_, rfl⟩
  rw [hgd, hge]
  have HGD := hid0 hgd
  have HGE := hid0 hge
  clear hgd hge
  cases hr : rightH (hp E) with
  | false =>
    have e1 : gd = [] := by rw [← HGD.out]; unfold getHD; rw [hr]; rfl
    have e2 : ge = 1 := by rw [← HGE.out]; unfold getHE; rw [hr]; rfl
    subst e1 e2
    rw [hr] at C
    clear hr
    go_enter Try.func10, Try.ntmps10
    go_wp2_with (go_at_call 13; go_must (refine C.mono ?_; rintro e w1 ⟨rfl, hb⟩))
    go_returns
    exact ⟨rfl, below_through hb hB0.size hB0⟩
  | true =>
    rw [hr] at C
    have HR := hid0 hr
    clear hr
    by_cases hxr : 0 ≤ x ∧ x < E.length
    · obtain ⟨k, rfl⟩ : ∃ k : Nat, x = k := ⟨x.toNat, by omega⟩
      have hk : k < E.length := by omega
      have hEne : E ≠ [] := by intro e; rw [e] at hk; exact absurd hk (by simp)
      obtain ⟨b, o, rfl, hc⟩ := A.out.cells hEne
      have p0 := cell_later hB0 (hc k hk)
      clear hc
      have hP := (A.out.pages _ (List.getElem_mem hk))
      have hrp : rightB E[k].p = true := by
        have := ((rightH_iff _).1 HR.out).pages E[k].p (List.mem_map_of_mem (f := PgE.p) (List.getElem_mem hk))
        exact (rightB_iff _).2 this
      have hg : gotH (hp E) (k : Int) y = gotP E[k].p y := by rw [gotH_at (by rw [hp_len]; exact hk), hp_at hk]
      have e1 : getD E[k].p y = gd := by rw [← HGD.out]; unfold getHD getD; rw [HR.out, hrp, hg]
      have e2 : getE E[k].p y = ge := by rw [← HGE.out]; unfold getHE getE; rw [HR.out, hrp, hg]
      have C2 := fun W (hb : Below w.heap.size w W) => pgGet_any E[k].a E[k].c E[k].p y W (hP.out.later hb) hP.cap hP.len hP.small HY.out.1 HY.out.2
      rw [e1, e2] at C2
      have hk0 : ¬ (k : Int) < 0 := by omega
      have hk1 : ¬ (E.length : Int) ≤ (k : Int) := by omega
      have hk2 : (k : Int) < (E.length : Int) := by omega
      clear e1 e2 hg hrp hP hxr
      go_enter Try.func10, Try.ntmps10
      go_wp2_with (go_at_call 13; go_must (refine C.mono ?_; rintro e w1 ⟨rfl, hb⟩; have q1 := cell_later hb q0; have i2 := cell_later hb i0; have i3 := cell_later hb i1; have p1 := cell_later hb p0; have hB1 := below_through hb hB0.size hB0; clear C hb))
      go_region_held3 (fun w' => w'.cell? ⟨w.heap.size, 0, none⟩ = some (.slice (some ⟨b, o, none⟩) E.length c) ∧ w'.cell? ⟨w.heap.size + 1, 0, none⟩ = some (.int .i64 (k : Int)) ∧ w'.cell? ⟨w.heap.size + 1, 1, none⟩ = some (.int .i64 y) ∧ w'.cell? ⟨b, o + k, none⟩ = some (.slice E[k].a E[k].p.length E[k].c) ∧ Below w.heap.size w w')
        ((go_split_ands; (try dsimp only); (repeat' apply And.intro); all_goals (first
          | assumption
          | exact cell_later hbn ‹_›
          | exact below_through hbn (Below.size ‹Below w.heap.size w _›) ‹_›
          | exact Below.drew hB1
          | go_keep)))
        (first
          | (go_at_call 22; (try go_split_ands); refine (C2 _ (by assumption)).mono ?_; rintro e wn ⟨rfl, hbn⟩))
      have HH := ‹wn.cell? ⟨w.heap.size, 0, none⟩ = some (.slice (some ⟨b, o, none⟩) E.length c) ∧ _›
      have HBB := HH.2.2.2.2
      clear C2 q1 i2 i3 p1 hB1
      go_wp2
      go_returns
      exact ⟨rfl, HBB⟩
    · have hg : gotH (hp E) x y = none := gotH_out (by rw [hp_len]; omega) y
      have e1 : gd = [] := by rw [← HGD.out]; unfold getHD; rw [HR.out, hg]; rfl
      have e2 : ge = 18 := by rw [← HGE.out]; unfold getHE; rw [HR.out, hg]; rfl
      subst e1 e2
      by_cases hx0 : x < 0
      · clear hg hxr
        go_enter Try.func10, Try.ntmps10
        go_wp2_with (go_at_call 13; go_must (refine C.mono ?_; rintro e w1 ⟨rfl, hb⟩; have i2 := cell_later hb i0))
        go_returns
        exact ⟨rfl, below_through hb hB0.size hB0⟩
      · have hx1 : (E.length : Int) ≤ x := by omega
        clear hg hxr
        go_enter Try.func10, Try.ntmps10
        go_wp2_with (go_at_call 13; go_must (refine C.mono ?_; rintro e w1 ⟨rfl, hb⟩; have i2 := cell_later hb i0; have q1 := cell_later hb q0))
        go_returns
        exact ⟨rfl, below_through hb hB0.size hB0⟩

end Go.Proofs.Ytneebnankghhgaa
