/- Several of my texts laid together, each as it was: Hi. Conditions: each names its own. -/
import Derived.Test.YtneebnankghhgaaGF
import Derived.Deep.Cut
/- The reference of layer 6: setting: a contract of the call, in whatever memory. Conditions: the pages' cells are known. -/
namespace Go.Proofs.Ytneebnankghhgaa
open Go.RowKit

/-- The heap doesn't lie in block B. -/
structure HFar (a : Option Addr) (E : List PgE) (B : Nat) : Prop where
  outer : E ≠ [] → ∀ b off, a = some ⟨b, off, none⟩ → b ≠ B
  inner : ∀ e ∈ E, Far e.a e.p B
theorem HpAt.setCell {w : World} {a : Option Addr} {c : Nat} {E : List PgE} (h : HpAt w a c E) (B o : Nat) (u : Value) (hf : HFar a E B) : HpAt (w.setCell ⟨B, o, none⟩ u) a c E := by
  refine ⟨fun hn => ?_, fun e he => (h.pages e he).setCell B o u (hf.inner e he), h.cap, h.len⟩
  obtain ⟨b, off, e, hc⟩ := h.cells hn
  have hb := hf.outer hn b off e
  refine ⟨b, off, e, fun i hi => ?_⟩
  rw [World.cell?_setCell_other _ _ _ _ (fun e => hb (by simpa using (congrArg Addr.block e).symm))]
  exact hc i hi
theorem HpAt.drew {w : World} {a : Option Addr} {c : Nat} {E : List PgE} (h : HpAt w a c E) : HpAt w.drew a c E := ⟨h.cells, fun e he => (h.pages e he).drew, h.cap, h.len⟩
theorem hfar_old {w : World} {a : Option Addr} {c : Nat} {E : List PgE} {B : Nat} (h : HpAt w a c E) (hB : w.heap.size ≤ B) : HFar a E B := by
  refine ⟨fun hn b off e => ?_, fun e he => far_old (h.pages e he).out hB⟩
  obtain ⟨b', off', e', hc⟩ := h.cells hn
  rw [e] at e'
  obtain ⟨rfl, rfl⟩ : b = b' ∧ off = off' := by simpa using e'
  have h0 : 0 < E.length := by
    rcases Nat.eq_zero_or_pos E.length with h | h
    · exact absurd (List.length_eq_zero_iff.1 h) hn
    · exact h
  have hlt : b < w.heap.size := World.block_lt_of_cell? _ _ (hc 0 h0)
  omega
theorem hfar_away {w : World} {a a' : Option Addr} {E E' : List PgE} {B : Nat} (h : AwayH w a E a' E') (hf : HFar a E B) (hB : B < w.heap.size) : HFar a' E' B := by
  refine ⟨fun hn b off e => ?_, fun x hx hn b off e => ?_⟩
  · rcases h.outer with ⟨rfl, rfl⟩ | h
    · exact hf.outer hn b off e
    · have := h b off e; omega
  · rcases h.inner x hx with ⟨e0, he0, e1, e2⟩ | h
    · exact hf.inner e0 he0 (by rw [← e2]; exact hn) b off (by rw [← e1]; exact e)
    · have := h b off e; omega
theorem AwayH.trans {w W : World} {a a' a'' : Option Addr} {E E' E'' : List PgE} (h : AwayH w a E a' E') (k : AwayH W a' E' a'' E'') (hw : w.heap.size ≤ W.heap.size) : AwayH w a E a'' E'' := by
  refine ⟨?_, fun x hx => ?_⟩
  · rcases k.outer with ⟨rfl, rfl⟩ | k
    · exact h.outer
    · exact .inr (fun b off e => by have := k b off e; omega)
  · rcases k.inner x hx with ⟨e0, he0, e1, e2⟩ | k
    · rcases h.inner e0 he0 with ⟨e3, he3, e4, e5⟩ | h
      · exact .inl ⟨e3, he3, e1.trans e4, e2.trans e5⟩
      · exact .inr (fun b off e => h b off (by rw [← e1]; exact e))
    · exact .inr (fun b off e => by have := k b off e; omega)
theorem AwayH.less {w w0 : World} {a a' : Option Addr} {E E' : List PgE} (h : AwayH w a E a' E') (hw : w0.heap.size ≤ w.heap.size) : AwayH w0 a E a' E' :=
  ⟨h.outer.imp id (fun k b off e => Nat.le_trans hw (k b off e)), fun x hx => (h.inner x hx).imp id (fun k b off e => Nat.le_trans hw (k b off e))⟩

/-- The two results' variables are written: what is answered. -/
theorem idans_fin {w W : World} {a : Option Addr} {E : List PgE} {h : Hp} {B : Nat} {v0 : Value} {x0 y0 : Int} (hv : VarAt W B v0) (hi : IdAt W (B + 1) x0 y0) (hb : w.heap.size ≤ B) (hB : Below w.heap.size w W) {a' : Option Addr} {c' : Nat} {E' : List PgE}
    (HA : HpAt W a' c' E') (hf0 : HFar a' E' B) (hf1 : HFar a' E' (B + 1)) (hh : hp E' = h) (haw : AwayH w a E a' E') (x y er : Int) :
    (((W.setCell ⟨B, 0, none⟩ (.slice a' E'.length c')).setCell ⟨B + 1, 0, none⟩ (.int .i64 x)).setCell ⟨B + 1, 1, none⟩ (.int .i64 y)).cell? ⟨B, 0, none⟩ = some (.slice a' E'.length c')
      ∧ IdAt (((W.setCell ⟨B, 0, none⟩ (.slice a' E'.length c')).setCell ⟨B + 1, 0, none⟩ (.int .i64 x)).setCell ⟨B + 1, 1, none⟩ (.int .i64 y)) (B + 1) x y
      ∧ HIdAns w a E h x y er (.returned (.tuple #[.agg #[.slice a' E'.length c'], .agg #[.int .i64 x, .int .i64 y], .int .i64 er])) (((W.setCell ⟨B, 0, none⟩ (.slice a' E'.length c')).setCell ⟨B + 1, 0, none⟩ (.int .i64 x)).setCell ⟨B + 1, 1, none⟩ (.int .i64 y)) := by
  have hbf := ((hB.setCell (p := ⟨B, 0, none⟩) hb (.slice a' E'.length c')).setCell (p := ⟨B + 1, 0, none⟩) (by show w.heap.size ≤ B + 1; omega) (.int .i64 x)).setCell (p := ⟨B + 1, 1, none⟩) (by show w.heap.size ≤ B + 1; omega) (.int .i64 y)
  exact ⟨(((hv.set (.slice a' E'.length c')).other ⟨B + 1, 0, none⟩ (.int .i64 x) (by show B + 1 ≠ B; omega)).other ⟨B + 1, 1, none⟩ (.int .i64 y) (by show B + 1 ≠ B; omega)).cell,
    (hi.other ⟨B, 0, none⟩ _ (by show B ≠ B + 1; omega)).set x y,
    ⟨a', c', E', rfl, ((HA.setCell B 0 _ hf0).setCell (B + 1) 0 _ hf1).setCell (B + 1) 1 _ hf1, hh, haw⟩, hbf⟩
theorem idans_fin_drew {w W : World} {a : Option Addr} {E : List PgE} {h : Hp} {B : Nat} {v0 : Value} {x0 y0 : Int} (hv : VarAt W B v0) (hi : IdAt W (B + 1) x0 y0) (hb : w.heap.size ≤ B) (hB : Below w.heap.size w W) {a' : Option Addr} {c' : Nat} {E' : List PgE}
    (HA : HpAt W a' c' E') (hf0 : HFar a' E' B) (hf1 : HFar a' E' (B + 1)) (hh : hp E' = h) (haw : AwayH w a E a' E') (x y er : Int) :
    (((W.setCell ⟨B, 0, none⟩ (.slice a' E'.length c')).setCell ⟨B + 1, 0, none⟩ (.int .i64 x)).setCell ⟨B + 1, 1, none⟩ (.int .i64 y)).drew.cell? ⟨B, 0, none⟩ = some (.slice a' E'.length c')
      ∧ IdAt (((W.setCell ⟨B, 0, none⟩ (.slice a' E'.length c')).setCell ⟨B + 1, 0, none⟩ (.int .i64 x)).setCell ⟨B + 1, 1, none⟩ (.int .i64 y)).drew (B + 1) x y
      ∧ HIdAns w a E h x y er (.returned (.tuple #[.agg #[.slice a' E'.length c'], .agg #[.int .i64 x, .int .i64 y], .int .i64 er])) (((W.setCell ⟨B, 0, none⟩ (.slice a' E'.length c')).setCell ⟨B + 1, 0, none⟩ (.int .i64 x)).setCell ⟨B + 1, 1, none⟩ (.int .i64 y)).drew := by
  obtain ⟨x1, x2, ⟨a2, c2, E2, e1, e2, e3, e4⟩, x4⟩ := idans_fin hv hi hb hB HA hf0 hf1 hh haw x y er
  exact ⟨x1, ⟨x2.c0, x2.c1, x2.f⟩, ⟨a2, c2, E2, e1, e2.drew, e3, e4⟩, Below.drew x4⟩
theorem store_other_keep {W : World} {T o' B o : Nat} {u v : Value} (hne : T ≠ B) (h : W.cell? ⟨B, o, none⟩ = some v) : (W.setCell ⟨T, o', none⟩ u).cell? ⟨B, o, none⟩ = some v := by
  rw [World.cell?_setCell_other _ _ _ _ (fun e => hne (by simpa using congrArg Addr.block e))]
  exact h
theorem IdAt.drew {w : World} {B : Nat} {x y : Int} (h : IdAt w B x y) : IdAt w.drew B x y := ⟨h.c0, h.c1, h.f⟩
theorem VarAt.drew {w : World} {B : Nat} {v : Value} (h : VarAt w B v) : VarAt w.drew B v := ⟨h.cell, h.frz⟩

end Go.Proofs.Ytneebnankghhgaa
