/- Several of my texts laid together, each as it was: Hxa. Conditions: each names its own. -/
import Derived.Test.YtneebnankghhgaaGF
import Derived.Test.YtneebnankghhgaaHpg
import Derived.Deep.AppendLies
import Derived.Test.YtneebnankghhgaaHph
/- What a step makes of the rows that HeapHolds keeps: put, cut, set, get, plainly; what its loop keeps. Conditions: each names its own. -/
namespace Go.Proofs.Ytneebnankghhgaa
open Go.RowKit

/-- As many pages as may be. -/
def Few (h : Hp) (most : Int) : Prop := (h.length : Int) ≤ most ∨ h = []
theorem Few.max {h : Hp} {most : Int} (H : Few h most) : (h.length : Int) ≤ max most 0 := by
  rcases H with h | rfl
  · omega
  · simp; omega
theorem Few.less {h g : Hp} {most : Int} (H : Few h most) (hl : g.length ≤ h.length) : Few g most := by
  rcases H with h | rfl
  · left; omega
  · right; exact List.length_eq_zero_iff.1 (by simpa using hl)

theorem place_cases (R : List KeptR) (x y : Int) : (placeR R x y = -1 ∧ atR R x y = none) ∨ ∃ i : Nat, placeR R x y = (i : Int) ∧ atR R x y = some i ∧ i < R.length := by
  unfold placeR
  cases h : atR R x y with
  | none => exact .inl ⟨rfl, rfl⟩
  | some i => exact .inr ⟨i, rfl, rfl, (atR_some h).1⟩

theorem put_step {h : Hp} {R : List KeptR} (H : Holds h R) (d : List UInt8) (most : Int) (few : Few h most) :
    (putHE h d most ≠ 0 ∧ putHP h d most = h ∧ 0 ≤ putHE h d most ∧ putHE h d most ≤ 17) ∨ (putHE h d most = 0 ∧ Holds (putHP h d most) (R ++ [⟨putHX h d most, putHY h d most, d⟩]) ∧ placeR R (putHX h d most) (putHY h d most) = -1 ∧ Few (putHP h d most) most) := by
  have hr := (rightH_iff h).2 H.right
  by_cases ho : okH h d most = true
  · right
    have hE : putHE h d most = 0 := by
      unfold okH at ho
      simp only [hr, Bool.true_and, Bool.and_eq_true, decide_eq_true_eq] at ho
      unfold putHE
      rw [if_pos hr, if_pos ho.1, if_pos ho.2]
    have hP : putHP h d most = putHR h d := by unfold putHP; rw [if_pos ho]
    have hX : putHX h d most = fitH d.length h := by unfold putHX; rw [if_pos ho]
    have hY : putHY h d most = slotH h d := by unfold putHY; rw [if_pos ho]
    rw [hP, hX, hY]
    obtain ⟨h1, h2⟩ := holds_put H (putH_right ho) (gotH_put h d) (gotH_place h d)
    exact ⟨hE, h1, h2, putH_few ho few⟩
  · left
    have hP : putHP h d most = h := by unfold putHP; rw [if_neg ho]
    have ho' : ¬ (d.length ≤ 1016 ∧ canH h d most = true) := fun ⟨h1, h2⟩ => ho (by unfold okH; simp [hr, h1, h2])
    unfold putHE
    rw [if_pos hr]
    by_cases hd : d.length ≤ 1016
    · have hc : ¬ canH h d most = true := fun hc => ho' ⟨hd, hc⟩
      rw [if_pos hd, if_neg hc]
      exact ⟨by omega, hP, by omega, by omega⟩
    · rw [if_neg hd]
      exact ⟨by omega, hP, by omega, by omega⟩

theorem cut_step {h : Hp} {R : List KeptR} (H : Holds h R) (x y : Int) :
    (placeR R x y = -1 ∧ getHE h x y = 18 ∧ cutHP h x y = h) ∨ ∃ i : Nat, placeR R x y = (i : Int) ∧ i < R.length ∧ getHE h x y = 0 ∧ Holds (cutHP h x y) (R.eraseIdx i) ∧ (cutHP h x y).length ≤ h.length := by
  have hE := getHE_holds H x y
  rcases place_cases R x y with ⟨hp, ha⟩ | ⟨i, hp, ha, hi⟩
  · left
    rw [hp, if_neg (by omega)] at hE
    exact ⟨hp, hE, by unfold cutHP; rw [if_neg (by omega)]⟩
  · right
    rw [hp, if_pos (by omega)] at hE
    have hc : cutHP h x y = leftH h x y := by unfold cutHP leftH; rw [if_pos hE]
    rw [hc]
    exact ⟨i, hp, hi, hE, holds_cut H ha (leftH_right hE) (gotH_left hE), leftH_few h x y⟩

theorem set_step {h : Hp} {R : List KeptR} (H : Holds h R) (x y : Int) (d : List UInt8) (most : Int) (few : Few h most) :
    (placeR R x y = -1 ∧ setHE h x y d most = 18 ∧ setHP h x y d most = h) ∨ ∃ i : Nat, placeR R x y = (i : Int) ∧ i < R.length ∧
      (((setHE h x y d most = 3 ∨ setHE h x y d most = 17) ∧ setHP h x y d most = h) ∨
       (setHE h x y d most = 0 ∧ Holds (setHP h x y d most) (R.eraseIdx i ++ [⟨setHX h x y d most, setHY h x y d most, d⟩]) ∧ placeR (R.eraseIdx i) (setHX h x y d most) (setHY h x y d most) = -1 ∧ Few (setHP h x y d most) most)) := by
  have hE := getHE_holds H x y
  rcases place_cases R x y with ⟨hp, ha⟩ | ⟨i, hp, ha, hi⟩
  · left
    rw [hp, if_neg (by omega)] at hE
    obtain ⟨h1, _, _, h4⟩ := setH_not d most (show getHE h x y ≠ 0 by omega)
    exact ⟨hp, h4.trans hE, h1⟩
  · right
    rw [hp, if_pos (by omega)] at hE
    refine ⟨i, hp, hi, ?_⟩
    have HL := holds_cut H ha (leftH_right hE) (gotH_left hE)
    have hfl : Few (leftH h x y) most := few.less (leftH_few h x y)
    by_cases hd : d.length ≤ 1016
    · cases hr : roomH h x y d with
      | true =>
        obtain ⟨h1, h2, h3, h4⟩ := setH_in (x := x) (y := y) most hE hd hr
        right
        rw [h1, h2, h3]
        have hnew : gotH (leftH h x y) x y = none := by rw [gotH_left hE, if_pos ⟨rfl, rfl⟩]
        obtain ⟨g1, g2⟩ := holds_put HL (g := inH h x y d) (x := x) (y := y) (d := d) (inH_right hE hr) (fun x' y' => by
          rw [gotH_in hE, gotH_left hE]
          by_cases hh : x' = x ∧ y' = y
          · rw [if_pos hh, if_pos hh]
          · rw [if_neg hh, if_neg hh, if_neg hh]) hnew
        exact ⟨h4, g1, g2, few.less (by rw [inH_len]; exact Nat.le_refl _)⟩
      | false =>
        cases hc : canH (leftH h x y) d most with
        | true =>
          have ho := moved_ok hE hd hc
          obtain ⟨h1, h2, h3, h4⟩ := setH_moved hE hd hr hc
          right
          rw [h1, h2, h3]
          obtain ⟨g1, g2⟩ := holds_put HL (putH_right ho) (gotH_put _ d) (gotH_place _ d)
          exact ⟨h4, g1, g2, putH_few ho hfl⟩
        | false =>
          obtain ⟨h1, _, _, h4⟩ := setH_full hE hd hr hc
          exact .inl ⟨.inr h4, h1⟩
    · obtain ⟨h1, _, _, h4⟩ := setH_long most hE hd
      exact .inl ⟨.inl h4, h1⟩

theorem get_step {h : Hp} {R : List KeptR} (H : Holds h R) (x y : Int) :
    (placeR R x y = -1 ∧ getHE h x y = 18) ∨ ∃ (i : Nat) (hi : i < R.length), placeR R x y = (i : Int) ∧ getHE h x y = 0 ∧ getHD h x y = R[i].d := by
  have hE := getHE_holds H x y
  rcases place_cases R x y with ⟨hp, ha⟩ | ⟨i, hp, ha, hi⟩
  · left
    rw [hp, if_neg (by omega)] at hE
    exact ⟨hp, hE⟩
  · right
    rw [hp, if_pos (by omega)] at hE
    obtain ⟨hl, hg⟩ := holds_get H ha
    refine ⟨i, hi, hp, hE, ?_⟩
    unfold getHD
    rw [if_pos ((rightH_iff h).2 H.right), hg]; rfl

/-! ### The heap's cells behind an append to the rows -/
theorem PgAt.grown {w w' : World} {row : Option Nat} {a : Option Addr} {c : Nat} {p : Pg} (h : PgAt w a c p) (hg : w.grownBy w' row) (hf : ∀ B, row = some B → Far a p B) : PgAt w' a c p := by
  refine ⟨fun hn => ?_, h.cap, h.len, h.small⟩
  obtain ⟨b, off, e, hc⟩ := h.out hn
  refine ⟨b, off, e, fun i hi => ?_⟩
  have hne : some b ≠ row := fun e' => hf b e'.symm hn b off e rfl
  obtain ⟨h1, h2⟩ := hc i hi
  exact ⟨(hg.cell_far _ (World.block_lt_of_cell? _ _ h1) hne).trans h1, (hg.cell_far _ (World.block_lt_of_cell? _ _ h2) hne).trans h2⟩
theorem HpAt.grown {w w' : World} {row : Option Nat} {a : Option Addr} {c : Nat} {E : List PgE} (h : HpAt w a c E) (hg : w.grownBy w' row) (hf : ∀ B, row = some B → HFar a E B) : HpAt w' a c E := by
  refine ⟨fun hn => ?_, fun e he => (h.pages e he).grown hg (fun B eB => (hf B eB).inner e he), h.cap, h.len⟩
  obtain ⟨b, off, e, hc⟩ := h.cells hn
  have hne : some b ≠ row := fun e' => (hf b e'.symm).outer hn b off e rfl
  exact ⟨b, off, e, fun i hi => (hg.cell_far _ (World.block_lt_of_cell? _ _ (hc i hi)) hne).trans (hc i hi)⟩

/-! ### What a region keeps: four cells, and all below a height -/
theorem hold4_drew {w0 w : World} {B : Nat} {p0 p1 p2 p3 : Addr} {v0 v1 v2 v3 : Value} (h : w.cell? p0 = some v0 ∧ w.cell? p1 = some v1 ∧ w.cell? p2 = some v2 ∧ w.cell? p3 = some v3 ∧ Below B w0 w) :
    w.drew.cell? p0 = some v0 ∧ w.drew.cell? p1 = some v1 ∧ w.drew.cell? p2 = some v2 ∧ w.drew.cell? p3 = some v3 ∧ Below B w0 w.drew := ⟨h.1, h.2.1, h.2.2.1, h.2.2.2.1, Below.drew h.2.2.2.2⟩
theorem hold4_of {w0 w : World} {p0 p1 p2 p3 : Addr} {v0 v1 v2 v3 : Value} (h : w0.cell? p0 = some v0 ∧ w0.cell? p1 = some v1 ∧ w0.cell? p2 = some v2 ∧ w0.cell? p3 = some v3 ∧ Below w0.heap.size w0 w0) (hb : Below w0.heap.size w0 w) :
    w.cell? p0 = some v0 ∧ w.cell? p1 = some v1 ∧ w.cell? p2 = some v2 ∧ w.cell? p3 = some v3 ∧ Below w0.heap.size w0 w := ⟨cell_later hb h.1, cell_later hb h.2.1, cell_later hb h.2.2.1, cell_later hb h.2.2.2.1, hb⟩
theorem hold4_alloc {w0 w : World} {o : Obj} {p0 p1 p2 p3 : Addr} {v0 v1 v2 v3 : Value} (h : w.cell? p0 = some v0 ∧ w.cell? p1 = some v1 ∧ w.cell? p2 = some v2 ∧ w.cell? p3 = some v3 ∧ Below w0.heap.size w0 w) :
    (w.alloc o).cell? p0 = some v0 ∧ (w.alloc o).cell? p1 = some v1 ∧ (w.alloc o).cell? p2 = some v2 ∧ (w.alloc o).cell? p3 = some v3 ∧ Below w0.heap.size w0 (w.alloc o) := by
  have hb : Below w.heap.size w (w.alloc o) := (Below.refl _ _).alloc (Nat.le_refl _) _
  exact ⟨cell_later hb h.1, cell_later hb h.2.1, cell_later hb h.2.2.1, cell_later hb h.2.2.2.1, h.2.2.2.2.alloc h.2.2.2.2.size _⟩
theorem hold4_store {w0 w : World} {T o : Nat} {u : Value} {p0 p1 p2 p3 : Addr} {v0 v1 v2 v3 : Value} (h0 : w0.cell? p0 = some v0 ∧ w0.cell? p1 = some v1 ∧ w0.cell? p2 = some v2 ∧ w0.cell? p3 = some v3 ∧ Below w0.heap.size w0 w0) (hT : w0.heap.size ≤ T) (h : w.cell? p0 = some v0 ∧ w.cell? p1 = some v1 ∧ w.cell? p2 = some v2 ∧ w.cell? p3 = some v3 ∧ Below w0.heap.size w0 w) :
    (w.setCell ⟨T, o, none⟩ u).cell? p0 = some v0 ∧ (w.setCell ⟨T, o, none⟩ u).cell? p1 = some v1 ∧ (w.setCell ⟨T, o, none⟩ u).cell? p2 = some v2 ∧ (w.setCell ⟨T, o, none⟩ u).cell? p3 = some v3 ∧ Below w0.heap.size w0 (w.setCell ⟨T, o, none⟩ u) :=
  hold4_of h0 (h.2.2.2.2.setCell hT _)
theorem hold4_call {w0 w w' : World} {p0 p1 p2 p3 : Addr} {v0 v1 v2 v3 : Value} (hb : Below w.heap.size w w') (h : w.cell? p0 = some v0 ∧ w.cell? p1 = some v1 ∧ w.cell? p2 = some v2 ∧ w.cell? p3 = some v3 ∧ Below w0.heap.size w0 w) :
    w'.cell? p0 = some v0 ∧ w'.cell? p1 = some v1 ∧ w'.cell? p2 = some v2 ∧ w'.cell? p3 = some v3 ∧ Below w0.heap.size w0 w' :=
  ⟨cell_later hb h.1, cell_later hb h.2.1, cell_later hb h.2.2.1, cell_later hb h.2.2.2.1, below_through hb h.2.2.2.2.size h.2.2.2.2⟩
/-- A block made in the region, ahead of the call or behind it, is none of the answer's. -/
theorem far_new {W1 Wc wn : World} {a' a2 : Option Addr} {c' c2 : Nat} {E E2 : List PgE} (A1 : HpAt W1 a' c' E) (hAw : AwayH Wc a' E a2 E2) (hA : HpAt wn a2 c2 E2) (T : Nat) (hT : W1.heap.size ≤ T) (h : T < Wc.heap.size ∨ wn.heap.size ≤ T) : HFar a2 E2 T := by
  rcases h with h | h
  · exact hfar_away hAw (hfar_old A1 hT) h
  · exact hfar_old hA h
theorem VarAt.fresh1 (w : World) (B : Nat) (v : Value) (t : TypeId) (hB : w.heap.size = B) : VarAt (w.alloc (Obj.cells #[v] t)) B v := by subst hB; exact VarAt.new w v t
theorem IdAt.fresh1 (w : World) (B : Nat) (x y : Int) (t : TypeId) (hB : w.heap.size = B) : IdAt (w.alloc (Obj.cells #[.int .i64 x, .int .i64 y] t)) B x y := by subst hB; exact IdAt.new w x y t
/-! ### What the loop over the steps keeps -/
structure HoldsI (w : World) (most : Int) (i : Nat) (rv : Value) (wr : World) : Prop where
  out : ∃ (a' : Option Addr) (c' : Nat) (E : List PgE) (R : List KeptR), HpAt wr a' c' E ∧ VarAt wr w.heap.size (.slice a' E.length c') ∧ HFar a' E w.heap.size ∧ (∀ g, rv.ownBlock = some g → HFar a' E g) ∧ Holds (hp E) R ∧ OwnK wr (w.heap.size + 1) rv R ∧ R.length ≤ i ∧ Few (hp E) most ∧ Below w.heap.size w wr
/-- The heap's variable is written. -/
theorem holdsI_set {w W : World} {most : Int} {n : Nat} {rv v : Value} {R : List KeptR} {a2 : Option Addr} {c2 : Nat} {E2 : List PgE} (hA : HpAt W a2 c2 E2) (hV : VarAt W w.heap.size v) (hF : HFar a2 E2 w.heap.size) (hG : ∀ g, rv.ownBlock = some g → HFar a2 E2 g) (hH : Holds (hp E2) R) (hO : OwnK W (w.heap.size + 1) rv R) (hR : R.length ≤ n) (few : Few (hp E2) most) (hB : Below w.heap.size w W) :
    HoldsI w most n rv (W.setCell ⟨w.heap.size, 0, none⟩ (.slice a2 E2.length c2)) :=
  ⟨a2, c2, E2, R, hA.setCell _ _ _ hF, hV.set _, hF, hG, hH, ⟨ownsRow_setCell_below hO.out (by show w.heap.size < w.heap.size + 1; omega) _⟩, hR, few, hB.setCell (p := ⟨w.heap.size, 0, none⟩) (Nat.le_refl _) _⟩
theorem OwnK.lt {w : World} {base : Nat} {v : Value} {R : List KeptR} (h : OwnK w base v R) {g : Nat} (hg : v.ownBlock = some g) : base ≤ g ∧ g < w.heap.size := h.out.lt g hg
/-- The rows' block is none of the new heap's. -/
theorem far_rows {w1 : World} {a' a2 : Option Addr} {E E2 : List PgE} {base : Nat} {rv : Value} {R : List KeptR} (hG : ∀ g, rv.ownBlock = some g → HFar a' E g) (hO : OwnK w1 base rv R) (hw : AwayH w1 a' E a2 E2) : ∀ g, rv.ownBlock = some g → HFar a2 E2 g :=
  fun g hg => hfar_away hw (hG g hg) (hO.lt hg).2
theorem step_kept2 {w : World} {ops : Array Oper} {o : Oper} {a : Act} {K : Act → World → Prop} {Q : Exit → Act → World → Prop} {X : Prop} (hgd : o.guard = none) (s x : Operand)
    (ho : o.op = .call { callee := .builtin .append, args := #[s, x], argTypes := #[26, 26] })
    {base : Nat} {v : Value} {R : List KeptR} (hs : a.eval s = v) (hown : OwnK w base v R)
    (ad : Addr) (m c : Nat) (hx : a.eval x = .slice (some ad) m c) (N : List KeptR) (hm : N.length = m) (hm0 : 0 < m) (hnews : ∀ j u, (kCells N)[j]? = some u → w.cell? (ad.add j) = some u)
    (hlen : (R.length + m) * 32 ≤ 140737488355328) (hbase : base ≤ w.heap.size) (H : Nat) (hH : w.heap.size = H)
    (h : ∀ g cap w', OwnK w' base (.slice (some ⟨g, 0, none⟩) (R.length + m) cap) (R ++ N) → w.grownBy w' v.ownBlock → (v.ownBlock = some g ∨ g = H) → K (a.put o.dst (.slice (some ⟨g, 0, none⟩) (R.length + m) cap)) w') :
    if Region.wanted o (yielded ops a.tmps) = true then Oper.wp Try.prog o a w K Q else X := by
  obtain ⟨i0, hi, hz0, hz1, hz2⟩ := info_parts infoK
  refine step_append_lies w hgd s x 26 ho base 37 i0 (.agg #[.int .i64 0, .int .i64 0, .string ⟨#[]⟩]) 3 32 Try.underlying26 hi hz0 hz1 hz2 rfl (by decide) v R.length (kCells R) hs hown.out ad m c (kCells N) hx (by rw [kCells_len, hm]) hnews (kCells_one N) hm0 (by unfold maxLen; omega) hlen hbase H hH ?_
  intro g cap w' hown' hgrow hat _
  refine h g cap w' ⟨?_⟩ hgrow hat
  rw [kCells_append, List.length_append, hm]
  exact hown'
theorem cell_three_new (w : World) (x y : Int) (d : List UInt8) (t : TypeId) : ∀ j u, (kCells [⟨x, y, d⟩])[j]? = some u → (w.alloc (.cells #[.int .i64 x, .int .i64 y, .string (txt d)] t)).cell? ((⟨w.heap.size, 0, none⟩ : Addr).add j) = some u := by
  intro j u hj
  match j, hj with
  | 0, hj => simp [kCells] at hj; subst hj; rw [WideShapes.add_plain]; go_cell
  | 1, hj => simp [kCells] at hj; subst hj; rw [WideShapes.add_plain]; go_cell
  | 2, hj => simp [kCells] at hj; subst hj; rw [WideShapes.add_plain]; go_cell
  | j + 3, hj => simp [kCells] at hj
/-- Three cells, told of a world: behind an alloc, and behind an append to the rows. -/
theorem hold3_grown {W w4 : World} {row : Option Nat} {p0 p1 p2 : Addr} {v0 v1 v2 : Value} (hg : W.grownBy w4 row) (h0 : some p0.block ≠ row) (h1 : some p1.block ≠ row) (h2 : some p2.block ≠ row) (h : W.cell? p0 = some v0 ∧ W.cell? p1 = some v1 ∧ W.cell? p2 = some v2) : w4.cell? p0 = some v0 ∧ w4.cell? p1 = some v1 ∧ w4.cell? p2 = some v2 :=
  ⟨(hg.cell_far _ (World.block_lt_of_cell? _ _ h.1) h0).trans h.1, (hg.cell_far _ (World.block_lt_of_cell? _ _ h.2.1) h1).trans h.2.1, (hg.cell_far _ (World.block_lt_of_cell? _ _ h.2.2) h2).trans h.2.2⟩
theorem hold3_alloc {W : World} {o : Obj} {p0 p1 p2 : Addr} {v0 v1 v2 : Value} (h : W.cell? p0 = some v0 ∧ W.cell? p1 = some v1 ∧ W.cell? p2 = some v2) : (W.alloc o).cell? p0 = some v0 ∧ (W.alloc o).cell? p1 = some v1 ∧ (W.alloc o).cell? p2 = some v2 := by
  have hb : Below W.heap.size W (W.alloc o) := (Below.refl _ _).alloc (Nat.le_refl _) _
  exact ⟨cell_later hb h.1, cell_later hb h.2.1, cell_later hb h.2.2⟩
end Go.Proofs.Ytneebnankghhgaa
