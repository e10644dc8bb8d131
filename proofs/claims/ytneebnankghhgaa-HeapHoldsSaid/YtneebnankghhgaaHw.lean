/- Several of my texts laid together, each as it was: Hw. Conditions: each names its own. -/
import Derived.Test.YtneebnankghhgaaHpg
import Derived.Test.YtneebnankghhgaaGD
import Derived.Deep.OwnRows
import Derived.Deep.Cut
/- The document's example of layer 6, up to its second command, whatever the memory. Conditions: none. -/
namespace Go.Proofs.Ytneebnankghhgaa
open Go.RowKit

theorem VarAt.fresh (w : World) (B : Nat) (v : Value) (t : TypeId) (hB : w.heap.size = B) : VarAt (w.alloc (Obj.cells #[v] t)) B v := by subst hB; exact VarAt.new w v t
theorem IdAt.fresh (w : World) (B : Nat) (x y : Int) (t : TypeId) (hB : w.heap.size = B) : IdAt (w.alloc (Obj.cells #[.int .i64 x, .int .i64 y] t)) B x y := by subst hB; exact IdAt.new w x y t
theorem size_two (W : World) (o o' : Obj) : ((W.alloc o).alloc o').heap.size = W.heap.size + 1 + 1 := by simp
theorem hx1 : putHP [] [97] 1 = [[(true, [97])]] ∧ putHX [] [97] 1 = 0 ∧ putHY [] [97] 1 = 0 ∧ putHE [] [97] 1 = 0 := by decide +kernel
theorem hx2 : putHP [[(true, [97])]] (List.replicate 1012 0) 1 = [[(true, [97])]] ∧ putHX [[(true, [97])]] (List.replicate 1012 0) 1 = 0 ∧ putHY [[(true, [97])]] (List.replicate 1012 0) 1 = 0 ∧ putHE [[(true, [97])]] (List.replicate 1012 0) 1 = 17 := by decide +kernel
theorem hx3 : (putHP [[(true, [97])]] (List.replicate 1012 0) 2).length = 2 ∧ putHX [[(true, [97])]] (List.replicate 1012 0) 2 = 1 ∧ putHY [[(true, [97])]] (List.replicate 1012 0) 2 = 0 ∧ putHE [[(true, [97])]] (List.replicate 1012 0) 2 = 0 := by decide +kernel
theorem zeros_made (W : World) : BytAt (W.alloc (.cells (madeCells #[Value.int .u8 0] 1012) 5)) W.heap.size (List.replicate 1012 0) := by
  have h := World.rowIs_made W (.int .u8 0) 1012 5
  refine ⟨fun j hj => ?_, fun j hj => ?_, by simp⟩
  · rw [List.length_replicate] at hj
    rw [h.cell hj, List.getElem_replicate]; rfl
  · rw [List.length_replicate] at hj
    exact h.frozen j
theorem zeros_run {W : World} {B : Nat} (h : BytAt W B (List.replicate 1012 0)) : (convert 67 9 (.slice (some ⟨B, 0, none⟩) 1012 1012)).run Try.prog W = .ok (.string (txt (List.replicate 1012 0))) W := by
  have h1 := h.back 1012
  rwa [List.length_replicate] at h1
theorem BytAt.at {W : World} {B B' : Nat} {X : List UInt8} (h : BytAt W B X) (e : B = B') : BytAt W B' X := e ▸ h
theorem BytAt.more {W : World} {B : Nat} {X : List UInt8} (h : BytAt W B X) (o : Obj) : BytAt (W.alloc o) B X := h.later ((Below.refl _ _).alloc (Nat.le_refl _) _)

/-- What a region keeps: a variable's cell, and all below a height. -/
theorem hold_drew {w0 w : World} {B : Nat} {p : Addr} {v : Value} (h : w.cell? p = some v ∧ Below B w0 w) : w.drew.cell? p = some v ∧ Below B w0 w.drew := ⟨h.1, Below.drew h.2⟩
theorem hold_alloc {w0 w : World} {o : Obj} {p : Addr} {v : Value} (h : w.cell? p = some v ∧ Below w0.heap.size w0 w) : (w.alloc o).cell? p = some v ∧ Below w0.heap.size w0 (w.alloc o) :=
  ⟨cell_later ((Below.refl _ _).alloc (Nat.le_refl _) _) h.1, h.2.alloc h.2.size _⟩
theorem hold_store {w0 w : World} {H T o : Nat} {u v : Value} (hH : H < w0.heap.size) (hT : w0.heap.size ≤ T) (h : w.cell? ⟨H, 0, none⟩ = some v ∧ Below w0.heap.size w0 w) : (w.setCell ⟨T, o, none⟩ u).cell? ⟨H, 0, none⟩ = some v ∧ Below w0.heap.size w0 (w.setCell ⟨T, o, none⟩ u) :=
  ⟨set_keep (by omega) h.1, h.2.setCell hT _⟩
theorem hold_call {w0 w w' : World} {H : Nat} {v : Value} (hb : Below w.heap.size w w') (h : w.cell? ⟨H, 0, none⟩ = some v ∧ Below w0.heap.size w0 w) : w'.cell? ⟨H, 0, none⟩ = some v ∧ Below w0.heap.size w0 w' :=
  ⟨cell_later hb h.1, below_through hb h.2.size h.2⟩

set_option maxHeartbeats 8000000 in
set_option maxRecDepth 1000000 in
theorem awakeHeap_any (w : World) : Calls Try.prog 12 #[] w fun e w' => e = .returned (.bool true) ∧ Below w.heap.size w w' := by
  have C1 := hpPut_any none 0 [] [97] 1 w ⟨fun h => absurd rfl h, fun e he => absurd he (by simp), Nat.le_refl _, by simp⟩ (by simp) (by omega) (by omega)
  unfold HIdAns at C1
  obtain ⟨e1, e2, e3, e4⟩ := hx1
  rw [show hp [] = [] from rfl, e1, e2, e3, e4] at C1
  clear e1 e2 e3 e4
  have h97 : (txt [97]) = ⟨#[97]⟩ := rfl
  rw [h97] at C1
  clear h97
  go_enter Try.func12, Try.ntmps12
  go_wp2_with fail
  refine C1.mono ?_
  rintro e w1 ⟨⟨a1, c1, E1, rfl, hA1, hh1, _⟩, hb1⟩
  have hE1 : E1.length = 1 := by rw [← hp_len, hh1]; rfl
  have HH := hid0 hh1
  rw [hE1]
  have HE1 := hid0 hE1
  have hz1 := hb1.size
  have V1 := (VarAt.new w1 (.slice a1 1 c1) 25).alloc (Obj.cells #[.int .i64 0, .int .i64 0] 29)
  have X1 := IdAt.new (w1.alloc (Obj.cells #[.slice a1 1 c1] 25)) 0 0 29
  rw [World.size_alloc] at X1
  have hB1 := (hb1.alloc hz1 (Obj.cells #[.slice a1 1 c1] 25)).alloc (by simp; omega) (Obj.cells #[.int .i64 0, .int .i64 0] 29)
  have hA2 := (hA1.alloc (Obj.cells #[.slice a1 1 c1] 25)).alloc (Obj.cells #[.int .i64 0, .int .i64 0] 29)
  clear C1 hA1 hh1 hE1 hb1
  have H1 := hid0 (And.intro V1 (And.intro X1 (And.intro hB1 hA2)))
  clear V1 X1 hB1 hA2
  go_wp2_with fail
  obtain ⟨V1, X1, hB1, hA2⟩ := H1.out
  clear H1
  have hmk := run_make_row' (P := Try.prog) 67 5 (.int .u8 0) 1 Try.underlying67 info_u8 rfl .i64 .i64 1012 (by omega) (by omega)
  obtain ⟨Z0, hZ⟩ : ∃ Z0, Obj.cells (madeCells #[Value.int .u8 0] 1012) 5 (0, 0) = Z0 := ⟨_, rfl⟩
  have hzb : ∀ (W : World) (B : Nat), W.heap.size = B → BytAt (W.alloc Z0) B (List.replicate 1012 0) := fun W B e => by rw [← hZ]; exact (zeros_made W).at e
  have hmk' : ∀ W : World, (Instr.makeSlice 67 (.int .i64 1012) (.int .i64 1012)).run Try.prog W = .ok (.slice (some ⟨W.heap.size, 0, none⟩) 1012 1012) (W.alloc Z0) := fun W => by rw [← hZ]; exact hmk W
  clear hmk hZ
  obtain ⟨ZS, hZS⟩ : ∃ ZS, txt (List.replicate 1012 0) = ZS := ⟨_, rfl⟩
  generalize (w1.alloc (Obj.cells #[.slice a1 1 c1] 25)).alloc (Obj.cells #[.int .i64 0, .int .i64 0] 29) = W1 at V1 X1 hB1 hA2 ⊢
  obtain ⟨H, hH⟩ : ∃ H, w1.heap.size = H := ⟨_, rfl⟩
  rw [hH] at V1 X1 ⊢
  have hl := V1.lt
  have C2 : ∀ W, Below W1.heap.size W1 W → Calls Try.prog 5 #[.agg #[.slice a1 1 c1], .string ZS, .int .i64 1] W (HIdAns W a1 E1 [[(true, [97])]] 0 0 17) := fun W hb => by
    have h := hpPut_any a1 c1 E1 (List.replicate 1012 0) 1 W (hA2.later hb) (by rw [List.length_replicate]; omega) (by omega) (by omega)
    rw [HE1.out, hZS] at h
    obtain ⟨e1, e2, e3, e4⟩ := hx2
    rw [HH.out, e1, e2, e3, e4] at h
    exact h
  have k00 : (convert 67 9 (.slice (some ⟨W1.heap.size, 0, none⟩) 1012 1012)).run Try.prog (W1.alloc Z0).drew = .ok (.string ZS) (W1.alloc Z0).drew := by rw [← hZS]; exact zeros_run (hzb W1 _ rfl).drew
  have k01 : ∀ o1, (convert 67 9 (.slice (some ⟨W1.heap.size, 0, none⟩) 1012 1012)).run Try.prog ((W1.alloc Z0).alloc o1).drew = .ok (.string ZS) ((W1.alloc Z0).alloc o1).drew := fun o1 => by rw [← hZS]; exact zeros_run ((hzb W1 _ rfl).more o1).drew
  have k02 : ∀ o1 o2, (convert 67 9 (.slice (some ⟨W1.heap.size, 0, none⟩) 1012 1012)).run Try.prog (((W1.alloc Z0).alloc o1).alloc o2).drew = .ok (.string ZS) (((W1.alloc Z0).alloc o1).alloc o2).drew := fun o1 o2 => by rw [← hZS]; exact zeros_run (((hzb W1 _ rfl).more o1).more o2).drew
  have k10 : ∀ o1, (convert 67 9 (.slice (some ⟨W1.heap.size + 1, 0, none⟩) 1012 1012)).run Try.prog ((W1.alloc o1).alloc Z0).drew = .ok (.string ZS) ((W1.alloc o1).alloc Z0).drew := fun o1 => by rw [← hZS]; exact zeros_run (hzb (W1.alloc o1) _ (by simp)).drew
  have k11 : ∀ o1 o2, (convert 67 9 (.slice (some ⟨W1.heap.size + 1, 0, none⟩) 1012 1012)).run Try.prog (((W1.alloc o1).alloc Z0).alloc o2).drew = .ok (.string ZS) (((W1.alloc o1).alloc Z0).alloc o2).drew := fun o1 o2 => by rw [← hZS]; exact zeros_run ((hzb (W1.alloc o1) _ (by simp)).more o2).drew
  have k20 : ∀ o1 o2, (convert 67 9 (.slice (some ⟨W1.heap.size + 1 + 1, 0, none⟩) 1012 1012)).run Try.prog (((W1.alloc o1).alloc o2).alloc Z0).drew = .ok (.string ZS) (((W1.alloc o1).alloc o2).alloc Z0).drew := fun o1 o2 => by rw [← hZS]; exact zeros_run (hzb ((W1.alloc o1).alloc o2) _ (by simp)).drew
  have q1 := V1.cell
  have hS1 : W1.cell? ⟨H, 0, none⟩ = some (.slice a1 1 c1) ∧ Below W1.heap.size W1 W1 := ⟨q1, Below.refl _ _⟩
  go_cut [6] from 4 (fun fv wr => fv = .int .i64 17 ∧ Below W1.heap.size W1 wr)
  case first =>
    go_region_held (fun w' => w'.cell? ⟨H, 0, none⟩ = some (.slice a1 1 c1) ∧ Below W1.heap.size W1 w')
      (first
        | with_reducible assumption
        | (repeat (first | with_reducible exact hn | with_reducible exact hS1 | with_reducible assumption | with_reducible refine hold_drew ?_ | with_reducible refine hold_alloc ?_ | (with_reducible refine hold_store hl ?_ ?_; (first | exact Nat.le_refl _ | omega)) | with_reducible refine hold_call hbn ?_)))
      (first
        | (go_at_call 5; (try go_split_ands); refine (C2 _ (by assumption)).mono ?_; rintro e wn ⟨⟨a2, c2, E2, rfl, hA3, hh3, hw3⟩, hbn⟩; have hn : wn.cell? ⟨H, 0, none⟩ = some (.slice a1 1 c1) ∧ Below W1.heap.size W1 wn := hold_call hbn (And.intro (by assumption) (by assumption)); clear hA3 hh3 hw3; have hzn := hn.2.size; (try (have lt0 : W1.heap.size < wn.heap.size := (by have h := hbn.size; simp at h; omega); have ne0 : wn.heap.size ≠ W1.heap.size := (by omega); have nf0 : wn.heap.size + 1 ≠ W1.heap.size := (by omega))); (try (have lt1 : W1.heap.size + 1 < wn.heap.size := (by have h := hbn.size; simp at h; omega); have ne1 : wn.heap.size ≠ W1.heap.size + 1 := (by omega); have nf1 : wn.heap.size + 1 ≠ W1.heap.size + 1 := (by omega))); (try (have lt2 : W1.heap.size + 1 + 1 < wn.heap.size := (by have h := hbn.size; simp at h; omega); have ne2 : wn.heap.size ≠ W1.heap.size + 1 + 1 := (by omega); have nf2 : wn.heap.size + 1 ≠ W1.heap.size + 1 + 1 := (by omega))); (try (have va0 : VarAt wn W1.heap.size (.slice none 0 0) := VarAt.later (by (first | exact VarAt.drew (VarAt.fresh _ _ _ _ rfl) | exact VarAt.drew (VarAt.alloc (VarAt.fresh _ _ _ _ rfl) _) | exact VarAt.drew (VarAt.alloc (VarAt.alloc (VarAt.fresh _ _ _ _ rfl) _) _))) hbn; obtain ⟨va0c, va0f⟩ := va0)); (try (have ib0 : IdAt wn W1.heap.size 0 0 := IdAt.later (by (first | exact IdAt.drew (IdAt.fresh _ _ _ _ _ rfl) | exact IdAt.drew (IdAt.alloc (IdAt.fresh _ _ _ _ _ rfl) _) | exact IdAt.drew (IdAt.alloc (IdAt.alloc (IdAt.fresh _ _ _ _ _ rfl) _) _))) hbn; have ib0f0 := ib0.f 0; have ib0f1 := ib0.f 1; obtain ⟨ib0c, ib0d, _⟩ := ib0)); (try (have va1 : VarAt wn (W1.heap.size + 1) (.slice none 0 0) := VarAt.later (by (first | exact VarAt.drew (VarAt.fresh _ _ _ _ (World.size_alloc _ _)) | exact VarAt.drew (VarAt.alloc (VarAt.fresh _ _ _ _ (World.size_alloc _ _)) _))) hbn; obtain ⟨va1c, va1f⟩ := va1)); (try (have ib1 : IdAt wn (W1.heap.size + 1) 0 0 := IdAt.later (by (first | exact IdAt.drew (IdAt.fresh _ _ _ _ _ (World.size_alloc _ _)) | exact IdAt.drew (IdAt.alloc (IdAt.fresh _ _ _ _ _ (World.size_alloc _ _)) _))) hbn; have ib1f0 := ib1.f 0; have ib1f1 := ib1.f 1; obtain ⟨ib1c, ib1d, _⟩ := ib1)); (try (have va2 : VarAt wn (W1.heap.size + 1 + 1) (.slice none 0 0) := VarAt.later (by (exact VarAt.drew (VarAt.fresh _ _ _ _ (size_two _ _ _)))) hbn; obtain ⟨va2c, va2f⟩ := va2)); (try (have ib2 : IdAt wn (W1.heap.size + 1 + 1) 0 0 := IdAt.later (by (exact IdAt.drew (IdAt.fresh _ _ _ _ _ (size_two _ _ _)))) hbn; have ib2f0 := ib2.f 0; have ib2f1 := ib2.f 1; obtain ⟨ib2c, ib2d, _⟩ := ib2))))
    all_goals
      have HE := (by assumption : _ ∧ Below W1.heap.size W1 _)
      go_wp2_with fail
      go_meet
      case rel => exact ⟨rfl, HE.2⟩
  case rest =>
    obtain ⟨rfl, hBW⟩ := hcut
    generalize wc = W2 at hBW ⊢
    have V2 := V1.later hBW
    have X2 := X1.later hBW
    have hA4 := hA2.later hBW
    have hB2 := hB1.trans (hBW.mono hB1.size)
    clear V1 X1 hA2 hB1 hBW C2 k00 k01 k02 k10 k11 k20 q1 hS1 hl
    have hl := V2.lt
    obtain ⟨PH, hPH⟩ : ∃ PH, putHP [[(true, [97])]] (List.replicate 1012 0) 2 = PH := ⟨_, rfl⟩
    obtain ⟨e0, e2, e3, e4⟩ := hx3
    rw [hPH] at e0
    have HPL := hid0 e0
    have C3 : ∀ W, Below W2.heap.size W2 W → Calls Try.prog 5 #[.agg #[.slice a1 1 c1], .string ZS, .int .i64 2] W (HIdAns W a1 E1 PH 1 0 0) := fun W hb => by
      have h := hpPut_any a1 c1 E1 (List.replicate 1012 0) 2 W (hA4.later hb) (by rw [List.length_replicate]; omega) (by omega) (by omega)
      rw [HE1.out, hZS, HH.out, hPH, e2, e3, e4] at h
      exact h
    clear e0 e2 e3 e4 hPH
    have k00 : (convert 67 9 (.slice (some ⟨W2.heap.size, 0, none⟩) 1012 1012)).run Try.prog (W2.alloc Z0).drew = .ok (.string ZS) (W2.alloc Z0).drew := by rw [← hZS]; exact zeros_run (hzb W2 _ rfl).drew
    have k01 : ∀ o1, (convert 67 9 (.slice (some ⟨W2.heap.size, 0, none⟩) 1012 1012)).run Try.prog ((W2.alloc Z0).alloc o1).drew = .ok (.string ZS) ((W2.alloc Z0).alloc o1).drew := fun o1 => by rw [← hZS]; exact zeros_run ((hzb W2 _ rfl).more o1).drew
    have k02 : ∀ o1 o2, (convert 67 9 (.slice (some ⟨W2.heap.size, 0, none⟩) 1012 1012)).run Try.prog (((W2.alloc Z0).alloc o1).alloc o2).drew = .ok (.string ZS) (((W2.alloc Z0).alloc o1).alloc o2).drew := fun o1 o2 => by rw [← hZS]; exact zeros_run (((hzb W2 _ rfl).more o1).more o2).drew
    have k10 : ∀ o1, (convert 67 9 (.slice (some ⟨W2.heap.size + 1, 0, none⟩) 1012 1012)).run Try.prog ((W2.alloc o1).alloc Z0).drew = .ok (.string ZS) ((W2.alloc o1).alloc Z0).drew := fun o1 => by rw [← hZS]; exact zeros_run (hzb (W2.alloc o1) _ (by simp)).drew
    have k11 : ∀ o1 o2, (convert 67 9 (.slice (some ⟨W2.heap.size + 1, 0, none⟩) 1012 1012)).run Try.prog (((W2.alloc o1).alloc Z0).alloc o2).drew = .ok (.string ZS) (((W2.alloc o1).alloc Z0).alloc o2).drew := fun o1 o2 => by rw [← hZS]; exact zeros_run ((hzb (W2.alloc o1) _ (by simp)).more o2).drew
    have k20 : ∀ o1 o2, (convert 67 9 (.slice (some ⟨W2.heap.size + 1 + 1, 0, none⟩) 1012 1012)).run Try.prog (((W2.alloc o1).alloc o2).alloc Z0).drew = .ok (.string ZS) (((W2.alloc o1).alloc o2).alloc Z0).drew := fun o1 o2 => by rw [← hZS]; exact zeros_run (hzb ((W2.alloc o1).alloc o2) _ (by simp)).drew
    have q1 := V2.cell
    have hS1 : W2.cell? ⟨H, 0, none⟩ = some (.slice a1 1 c1) ∧ Below W2.heap.size W2 W2 := ⟨q1, Below.refl _ _⟩
    go_wp2_with fail
    go_cut [7, 8, 9] from 10 (fun gv yv kv wr => ∃ (T U : Nat) (a2 : Option Addr) (c2 : Nat), gv = .pointer (some ⟨T, 0, none⟩) ∧ yv = .pointer (some ⟨U, 0, none⟩) ∧ kv = .int .i64 0 ∧ wr.cell? ⟨T, 0, none⟩ = some (.slice a2 2 c2) ∧ wr.cell? ⟨U, 0, none⟩ = some (.int .i64 1) ∧ wr.cell? ⟨U, 1, none⟩ = some (.int .i64 0) ∧ Below W2.heap.size W2 wr)
    case first =>
      go_region_held (fun w' => w'.cell? ⟨H, 0, none⟩ = some (.slice a1 1 c1) ∧ Below W2.heap.size W2 w')
        (first
          | with_reducible assumption
          | (repeat (first | with_reducible exact hn | with_reducible exact hS1 | with_reducible assumption | with_reducible refine hold_drew ?_ | with_reducible refine hold_alloc ?_ | (with_reducible refine hold_store hl ?_ ?_; (first | exact Nat.le_refl _ | omega)) | with_reducible refine hold_call hbn ?_)))
        (first
          | (go_at_call 5; (try go_split_ands); refine (C3 _ (by assumption)).mono ?_; rintro e wn ⟨⟨a2, c2, E2, rfl, hA3, hh3, hw3⟩, hbn⟩; have hn : wn.cell? ⟨H, 0, none⟩ = some (.slice a1 1 c1) ∧ Below W2.heap.size W2 wn := hold_call hbn (And.intro (by assumption) (by assumption)); have hE2 : E2.length = 2 := (by rw [← hp_len, hh3]; exact HPL.out); rw [hE2]; clear hE2; clear hA3 hh3 hw3; have hzn := hn.2.size; (try (have lt0 : W2.heap.size < wn.heap.size := (by have h := hbn.size; simp at h; omega); have ne0 : wn.heap.size ≠ W2.heap.size := (by omega); have nf0 : wn.heap.size + 1 ≠ W2.heap.size := (by omega))); (try (have lt1 : W2.heap.size + 1 < wn.heap.size := (by have h := hbn.size; simp at h; omega); have ne1 : wn.heap.size ≠ W2.heap.size + 1 := (by omega); have nf1 : wn.heap.size + 1 ≠ W2.heap.size + 1 := (by omega))); (try (have lt2 : W2.heap.size + 1 + 1 < wn.heap.size := (by have h := hbn.size; simp at h; omega); have ne2 : wn.heap.size ≠ W2.heap.size + 1 + 1 := (by omega); have nf2 : wn.heap.size + 1 ≠ W2.heap.size + 1 + 1 := (by omega))); (try (have va0 : VarAt wn W2.heap.size (.slice none 0 0) := VarAt.later (by (first | exact VarAt.drew (VarAt.fresh _ _ _ _ rfl) | exact VarAt.drew (VarAt.alloc (VarAt.fresh _ _ _ _ rfl) _) | exact VarAt.drew (VarAt.alloc (VarAt.alloc (VarAt.fresh _ _ _ _ rfl) _) _))) hbn; obtain ⟨va0c, va0f⟩ := va0)); (try (have ib0 : IdAt wn W2.heap.size 0 0 := IdAt.later (by (first | exact IdAt.drew (IdAt.fresh _ _ _ _ _ rfl) | exact IdAt.drew (IdAt.alloc (IdAt.fresh _ _ _ _ _ rfl) _) | exact IdAt.drew (IdAt.alloc (IdAt.alloc (IdAt.fresh _ _ _ _ _ rfl) _) _))) hbn; have ib0f0 := ib0.f 0; have ib0f1 := ib0.f 1; obtain ⟨ib0c, ib0d, _⟩ := ib0)); (try (have va1 : VarAt wn (W2.heap.size + 1) (.slice none 0 0) := VarAt.later (by (first | exact VarAt.drew (VarAt.fresh _ _ _ _ (World.size_alloc _ _)) | exact VarAt.drew (VarAt.alloc (VarAt.fresh _ _ _ _ (World.size_alloc _ _)) _))) hbn; obtain ⟨va1c, va1f⟩ := va1)); (try (have ib1 : IdAt wn (W2.heap.size + 1) 0 0 := IdAt.later (by (first | exact IdAt.drew (IdAt.fresh _ _ _ _ _ (World.size_alloc _ _)) | exact IdAt.drew (IdAt.alloc (IdAt.fresh _ _ _ _ _ (World.size_alloc _ _)) _))) hbn; have ib1f0 := ib1.f 0; have ib1f1 := ib1.f 1; obtain ⟨ib1c, ib1d, _⟩ := ib1)); (try (have va2 : VarAt wn (W2.heap.size + 1 + 1) (.slice none 0 0) := VarAt.later (by (exact VarAt.drew (VarAt.fresh _ _ _ _ (size_two _ _ _)))) hbn; obtain ⟨va2c, va2f⟩ := va2)); (try (have ib2 : IdAt wn (W2.heap.size + 1 + 1) 0 0 := IdAt.later (by (exact IdAt.drew (IdAt.fresh _ _ _ _ _ (size_two _ _ _)))) hbn; have ib2f0 := ib2.f 0; have ib2f1 := ib2.f 1; obtain ⟨ib2c, ib2d, _⟩ := ib2))))
      all_goals
        have HE := (by assumption : _ ∧ Below W2.heap.size W2 _)
        go_wp2_with fail
        go_meet
        case rel =>
          refine ⟨_, _, a2, c2, rfl, rfl, rfl, ?_, ?_, ?_, HE.2⟩
          all_goals (first | (go_simp; done) | (simp [go_sem, *]; done) | go_cell)
    case rest =>
      obtain ⟨T, U, a2, c2, rfl, rfl, rfl, cT, cU0, cU1, hBW⟩ := hcut
      generalize wc = W3 at cT cU0 cU1 hBW ⊢
      have X3 := X2.later hBW
      have hB3 := hB2.trans (hBW.mono hB2.size)
      obtain ⟨x0, x1, _⟩ := X3
      clear X2 V2 hA4 hB2 hBW C3 k00 k01 k02 k10 k11 k20 q1 hS1 hl hzb hmk'
      go_wp2
      go_ret
      exact ⟨rfl, hB3⟩
end Go.Proofs.Ytneebnankghhgaa
