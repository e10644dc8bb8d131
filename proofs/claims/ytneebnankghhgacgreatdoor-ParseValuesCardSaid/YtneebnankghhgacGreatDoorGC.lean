/- Several of my texts laid together, each as it was: Gq, Gr, Gs, Gt. Conditions: each names its own. -/
import Derived.Test.YtneebnankghhgacGreatDoorGB
/- The project's parser: an item, a source: contracts of the calls, in whatever memory that holds a reader. Conditions: none besides. -/
namespace Go.Proofs.YtneebnankghhgacGreatDoor
open Go.RowKit

theorem len9 {us : List Value} (h : us.length = 9) : ∃ u0 u1 u2 u3 u4 u5 u6 u7 u8, us = [u0, u1, u2, u3, u4, u5, u6, u7, u8] := by
  match us, h with
  | [u0, u1, u2, u3, u4, u5, u6, u7, u8], _ => exact ⟨_, _, _, _, _, _, _, _, _, rfl⟩
theorem len2 {us : List Value} (h : us.length = 2) : ∃ u0 u1, us = [u0, u1] := by
  match us, h with
  | [u0, u1], _ => exact ⟨_, _, rfl⟩
theorem LsAt.it {w : World} {P : Nat → Prop} {k : Nat} {x : Int} {e : List Lf} {us : List Value} {nm : List UInt8} {s : ByteArray} (hx : x = (k : Int)) (he : LsAt w P e us) (hs : s = txt nm) : LsAt w P (itL k e nm) (.int .i64 x :: (us ++ [.string s])) := .cons (.lit _ _ hx) (he.app (.cons (.str _ _ _ hs) (.nil _ _)))
/-- What an item tells, as an item without a name of its own. -/
def plainI (r : (Nat × List Lf) × PS) : List Lf × PS := (itL r.1.1 r.1.2 [], r.2)

set_option maxRecDepth 100000 in
set_option maxHeartbeats 4000000 in
theorem paCount_any {w : World} {a : Nat} {l : List Wd} {m : Int} {σ : PS} (hR : Rd w a l m 0 σ) :
    Calls Tryz.prog 81 #[.pointer (some ⟨a, 0, none⟩)] w (Ans w a l m 0 σ 9 (plainI (countP l m σ)).1 (plainI (countP l m σ)).2) := by
  have E0 := hR.start zIv 95
  obtain ⟨⟨x, τ⟩, hM⟩ : ∃ y, plainI (countP l m σ) = y := ⟨_, rfl⟩
  rw [hM]
  dsimp only
  replace hM := hid0 hM
  have han : a < w.heap.size + 1 := Nat.lt_succ_of_lt E0.lt
  go_enter Tryz.func81, Tryz.ntmps81
  obtain ⟨σ1, h1⟩ : ∃ z, need1 l [40] σ = z := ⟨_, rfl⟩
  replace h1 := hid0 h1
  (try go_wp2_with fail)
  go_at_call 24
  refine (paNeed1_B h1 _ _ (by simp) E0.rd).mono ?_
  rintro e w1 ⟨rfl, hS⟩
  have E1 := E0.step hS
  clear hS
  have hwB : w.heap.size < w1.heap.size := E1.z
  have haB : a < w1.heap.size := Nat.lt_trans E1.lt hwB
  have hX0 : VarB (w1.alloc (Obj.cells #[.int .i64 1, .int .i64 0, .string ⟨#[]⟩, .string ⟨#[]⟩, .int .i64 0, .int .i64 0, .string ⟨#[]⟩, .slice none 0 0, .string ⟨#[]⟩] 95)) w1.heap.size [.int .i64 1, .int .i64 0, .string ⟨#[]⟩, .string ⟨#[]⟩, .int .i64 0, .int .i64 0, .string ⟨#[]⟩, .slice none 0 0, .string ⟨#[]⟩] := VarB.new w1 [.int .i64 1, .int .i64 0, .string ⟨#[]⟩, .string ⟨#[]⟩, .int .i64 0, .int .i64 0, .string ⟨#[]⟩, .slice none 0 0, .string ⟨#[]⟩] 95
  replace E1 := E1.alloc (Obj.cells #[.int .i64 1, .int .i64 0, .string ⟨#[]⟩, .string ⟨#[]⟩, .int .i64 0, .int .i64 0, .string ⟨#[]⟩, .slice none 0 0, .string ⟨#[]⟩] 95)
  rcases Bool.eq_false_or_eq_true (isP l [42] σ1) with hb | hb
  · replace hb := hid0 hb
    go_wp2_with fail
    go_at_call 17
    refine (paTake_yes [42] E1.rd hb.out).mono ?_
    rintro e w2 ⟨rfl, hS⟩
    have hX2 := hX0.later hS.onl haB
    have E2 := E1.step hS
    clear hS
    obtain ⟨σ3, h3⟩ : ∃ z, need1 l [41] (⟨σ1.i + 1, σ1.e⟩ : PS) = z := ⟨_, rfl⟩
    replace h3 := hid0 h3
    (try go_wp2_with fail)
    go_at_call 24
    refine (paNeed1_B h3 _ _ (by simp) E2.rd).mono ?_
    rintro e w3 ⟨rfl, hS⟩
    have E3 := E2.step hS
    have hX3 := hX2.later hS.onl haB
    have hL : LsAt w3 (fr (w.heap.size + 1)) (itL 1 zE []) [.int .i64 1, .int .i64 0, .string ⟨#[]⟩, .string ⟨#[]⟩, .int .i64 0, .int .i64 0, .string ⟨#[]⟩, .slice none 0 0, .string ⟨#[]⟩] := .it rfl (.zE _ _) rfl
    go_wp2_with (first | ((with_reducible refine wp_getB hX3 Tryz.underlying95 ?_ ?_ ?_ ?_); (rfl); (exact infoI); (rfl)) | ((with_reducible refine wp_putB E3.res hL ?_ ?_ ?_ ?_ ?_); (rfl); (exact infoI); (rfl); (rfl); intro w0 hV0 hw0; simp only [Act.put]) | fail)
    have hE : plainI (countP l m σ) = (itL 1 zE [], σ3) := by simp only [plainI, countP, h1.out, hb.out, h3.out, if_true]
    cases hM.out.symm.trans hE
    exact end_blk hV0 rfl rfl _ Tryz.underlying95 rfl infoI rfl (E3.fin hL rfl hw0.out)
  · replace hb := hid0 hb
    go_wp2_with fail
    go_at_call 17
    refine (paTake_no [42] E1.rd hb.out).mono ?_
    rintro e w2 ⟨rfl, hS⟩
    have hX2 := hX0.later hS.onl haB
    have E2 := E1.step hS
    clear hS
    obtain ⟨⟨y, σ2⟩, h2⟩ : ∃ z, exprP l m 0 σ1 = z := ⟨_, rfl⟩
    replace h2 := hid0 h2
    go_wp2_with fail
    go_at_call 63
    refine (Ans.at_ h2 (paExpr_any E2.rd)).mono ?_
    rintro e w3 ⟨us, hl, rfl, hA, hS⟩
    obtain ⟨u0, u1, u2, u3, u4, u5, u6, rfl⟩ := len7 hl
    have hX3 := hX2.later hS.onl haB
    have hA3 : LsAt w3 (frx (w.heap.size + 1) w1.heap.size) y [u0, u1, u2, u3, u4, u5, u6] := hA.tox hX2.lt E2.z
    have E3 := E2.step hS
    have hL3 : LsAt w3 (frx (w.heap.size + 1) w1.heap.size) (itL 2 y []) [.int .i64 2, u0, u1, u2, u3, u4, u5, u6, .string ⟨#[]⟩] := .it rfl hA3 rfl
    clear hS hA
    go_wp2_with (first | ((with_reducible refine wp_putB hX3 hL3 ?_ ?_ ?_ ?_ ?_); (rfl); (exact infoI); (rfl); (rfl); intro w4 hX4 hw4; simp only [Act.put]) | fail)
    have E4 : Env w a l m 0 σ σ2 zIv w4 := by rw [hw4.out]; exact E3.puts 0 _ hwB
    have hL4 : LsAt w4 (frx (w.heap.size + 1) w1.heap.size) (itL 2 y []) [.int .i64 2, u0, u1, u2, u3, u4, u5, u6, .string ⟨#[]⟩] := by rw [hw4.out]; exact hL3.putsx
    obtain ⟨σ3, h3⟩ : ∃ z, need1 l [41] σ2 = z := ⟨_, rfl⟩
    replace h3 := hid0 h3
    (try go_wp2_with fail)
    go_at_call 24
    refine (paNeed1_B h3 _ _ (by simp) E4.rd).mono ?_
    rintro e w5 ⟨rfl, hS⟩
    have E5 := E4.step hS
    have hX5 := hX4.later hS.onl haB
    have hL5 := (hL4.laterx hS.onl han).unx
    go_wp2_with (first | ((with_reducible refine wp_getB hX5 Tryz.underlying95 ?_ ?_ ?_ ?_); (rfl); (exact infoI); (rfl)) | ((with_reducible refine wp_putB E5.res hL5 ?_ ?_ ?_ ?_ ?_); (rfl); (exact infoI); (rfl); (rfl); intro w0 hV0 hw0; simp only [Act.put]) | fail)
    have hE : plainI (countP l m σ) = (itL 2 y [], σ3) := by simp only [plainI, countP, h1.out, hb.out, h2.out, h3.out, if_false, Bool.false_eq_true]
    cases hM.out.symm.trans hE
    exact end_blk hV0 rfl rfl _ Tryz.underlying95 rfl infoI rfl (E5.fin hL5 rfl hw0.out)
set_option maxRecDepth 100000 in
set_option maxHeartbeats 4000000 in
theorem paAgg_any {w : World} {a : Nat} {l : List Wd} {m : Int} {σ : PS} (k : Nat) {kx : Int} (hk : kx = (k : Int)) (hR : Rd w a l m 0 σ) :
    Calls Tryz.prog 82 #[.pointer (some ⟨a, 0, none⟩), .int .i64 kx] w (Ans w a l m 0 σ 9 (plainI (aggP l m k σ)).1 (plainI (aggP l m k σ)).2) := by
  have E0 := hR.start zIv 95
  obtain ⟨⟨x, τ⟩, hM⟩ : ∃ y, plainI (aggP l m k σ) = y := ⟨_, rfl⟩
  rw [hM]
  dsimp only
  replace hM := hid0 hM
  have han : a < w.heap.size + 1 := Nat.lt_succ_of_lt E0.lt
  go_enter Tryz.func82, Tryz.ntmps82
  subst hk
  obtain ⟨σ1, h1⟩ : ∃ z, need1 l [40] σ = z := ⟨_, rfl⟩
  replace h1 := hid0 h1
  (try go_wp2_with fail)
  go_at_call 24
  refine (paNeed1_B h1 _ _ (by simp) E0.rd).mono ?_
  rintro e w1 ⟨rfl, hS⟩
  have E1 := E0.step hS
  clear hS
  obtain ⟨⟨y, σ2⟩, h2⟩ : ∃ z, exprP l m 0 σ1 = z := ⟨_, rfl⟩
  replace h2 := hid0 h2
  go_wp2_with fail
  go_at_call 63
  refine (Ans.at_ h2 (paExpr_any E1.rd)).mono ?_
  rintro e w3 ⟨us, hl, rfl, hA, hS⟩
  obtain ⟨u0, u1, u2, u3, u4, u5, u6, rfl⟩ := len7 hl
  have E3 := E1.step hS
  have hwB : w.heap.size < w3.heap.size := E3.z
  have haB : a < w3.heap.size := Nat.lt_trans E3.lt hwB
  have hA3 := (E1.leaf hA).allocx (Obj.cells #[.int .i64 0, .int .i64 0, .string ⟨#[]⟩, .string ⟨#[]⟩, .int .i64 0, .int .i64 0, .string ⟨#[]⟩, .slice none 0 0, .string ⟨#[]⟩] 95)
  have hX3 : VarB (w3.alloc (Obj.cells #[.int .i64 0, .int .i64 0, .string ⟨#[]⟩, .string ⟨#[]⟩, .int .i64 0, .int .i64 0, .string ⟨#[]⟩, .slice none 0 0, .string ⟨#[]⟩] 95)) w3.heap.size zIv := VarB.new w3 zIv 95
  have hL3 : LsAt (w3.alloc (Obj.cells #[.int .i64 0, .int .i64 0, .string ⟨#[]⟩, .string ⟨#[]⟩, .int .i64 0, .int .i64 0, .string ⟨#[]⟩, .slice none 0 0, .string ⟨#[]⟩] 95)) (frx (w.heap.size + 1) w3.heap.size) (itL k y []) [.int .i64 (k : Int), u0, u1, u2, u3, u4, u5, u6, .string ⟨#[]⟩] := .it rfl hA3 rfl
  replace E3 := E3.alloc (Obj.cells #[.int .i64 0, .int .i64 0, .string ⟨#[]⟩, .string ⟨#[]⟩, .int .i64 0, .int .i64 0, .string ⟨#[]⟩, .slice none 0 0, .string ⟨#[]⟩] 95)
  clear hS hA
  go_wp2_with (first | ((with_reducible refine wp_putB hX3 hL3 ?_ ?_ ?_ ?_ ?_); (rfl); (exact infoI); (rfl); (rfl); intro w4 hX4 hw4; simp only [Act.put]) | fail)
  have E4 : Env w a l m 0 σ σ2 zIv w4 := by rw [hw4.out]; exact E3.puts 0 _ hwB
  have hL4 : LsAt w4 (frx (w.heap.size + 1) w3.heap.size) (itL k y []) [.int .i64 (k : Int), u0, u1, u2, u3, u4, u5, u6, .string ⟨#[]⟩] := by rw [hw4.out]; exact hL3.putsx
  obtain ⟨σ3, h3⟩ : ∃ z, need1 l [41] σ2 = z := ⟨_, rfl⟩
  replace h3 := hid0 h3
  (try go_wp2_with fail)
  go_at_call 24
  refine (paNeed1_B h3 _ _ (by simp) E4.rd).mono ?_
  rintro e w5 ⟨rfl, hS⟩
  have E5 := E4.step hS
  have hX5 := hX4.later hS.onl haB
  have hL5 := (hL4.laterx hS.onl han).unx
  go_wp2_with (first | ((with_reducible refine wp_getB hX5 Tryz.underlying95 ?_ ?_ ?_ ?_); (rfl); (exact infoI); (rfl)) | ((with_reducible refine wp_putB E5.res hL5 ?_ ?_ ?_ ?_ ?_); (rfl); (exact infoI); (rfl); (rfl); intro w0 hV0 hw0; simp only [Act.put]) | fail)
  have hE : plainI (aggP l m k σ) = (itL k y [], σ3) := by simp only [plainI, aggP, h1.out, h2.out, h3.out]
  cases hM.out.symm.trans hE
  exact end_blk hV0 rfl rfl _ Tryz.underlying95 rfl infoI rfl (E5.fin hL5 rfl hw0.out)
set_option maxRecDepth 100000 in
set_option maxHeartbeats 4000000 in
theorem paTold_any {w : World} {a : Nat} {l : List Wd} {m : Int} {σ : PS} (hR : Rd w a l m 0 σ) :
    Calls Tryz.prog 68 #[.pointer (some ⟨a, 0, none⟩)] w (Ans w a l m 0 σ 9 (plainI (toldP l m σ)).1 (plainI (toldP l m σ)).2) := by
  have E0 := hR.start zIv 95
  obtain ⟨⟨x, τ⟩, hM⟩ : ∃ y, plainI (toldP l m σ) = y := ⟨_, rfl⟩
  rw [hM]
  dsimp only
  replace hM := hid0 hM
  have han : a < w.heap.size + 1 := Nat.lt_succ_of_lt E0.lt
  go_enter Tryz.func68, Tryz.ntmps68
  rcases Bool.eq_false_or_eq_true (isP l [99, 111, 117, 110, 116] σ) with hb1 | hb1
  · obtain ⟨⟨y, σ3⟩, h3⟩ : ∃ z, plainI (countP l m ⟨σ.i + 1, σ.e⟩) = z := ⟨_, rfl⟩
    have hE : plainI (toldP l m σ) = (y, σ3) := by rw [← h3]; simp only [toldP, hb1, if_true]
    replace hE := hid0 hE
    replace h3 := hid0 h3
    replace hb1 := hid0 hb1
    go_wp2_with fail
    go_at_call 17
    refine (paTake_yes [99, 111, 117, 110, 116] E0.rd hb1.out).mono ?_
    rintro e w11 ⟨rfl, hS1⟩
    have E1 := E0.step hS1
    clear hS1
    go_wp2_with fail
    go_at_call 81
    refine (Ans.at_ h3 (paCount_any E1.rd)).mono ?_
    rintro e w3 ⟨us, hl, rfl, hA, hS⟩
    obtain ⟨u0, u1, u2, u3, u4, u5, u6, u7, u8, rfl⟩ := len9 hl
    have hL := E1.leaf hA
    have E9 := E1.step hS
    go_wp2_with (first | ((with_reducible refine wp_putB E9.res hL ?_ ?_ ?_ ?_ ?_); (rfl); (exact infoI); (rfl); (rfl); intro w0 hV0 hw0; simp only [Act.put]) | fail)
    cases hM.out.symm.trans hE.out
    exact end_blk hV0 rfl rfl _ Tryz.underlying95 rfl infoI rfl (E9.fin hL rfl hw0.out)
  rcases Bool.eq_false_or_eq_true (isP l [115, 117, 109] σ) with hb2 | hb2
  · obtain ⟨⟨y, σ3⟩, h3⟩ : ∃ z, plainI (aggP l m 3 ⟨σ.i + 1, σ.e⟩) = z := ⟨_, rfl⟩
    have hE : plainI (toldP l m σ) = (y, σ3) := by rw [← h3]; simp only [toldP, hb1, hb2, if_true, if_false, Bool.false_eq_true]
    replace hE := hid0 hE
    replace h3 := hid0 h3
    replace hb1 := hid0 hb1
    replace hb2 := hid0 hb2
    go_wp2_with fail
    go_at_call 17
    refine (paTake_no [99, 111, 117, 110, 116] E0.rd hb1.out).mono ?_
    rintro e w11 ⟨rfl, hS1⟩
    have E1 := E0.step hS1
    clear hS1
    go_wp2_with fail
    go_at_call 17
    refine (paTake_yes [115, 117, 109] E1.rd hb2.out).mono ?_
    rintro e w12 ⟨rfl, hS1⟩
    have E2 := E1.step hS1
    clear hS1
    go_wp2_with fail
    go_at_call 82
    refine (Ans.at_ h3 (paAgg_any 3 rfl E2.rd)).mono ?_
    rintro e w3 ⟨us, hl, rfl, hA, hS⟩
    obtain ⟨u0, u1, u2, u3, u4, u5, u6, u7, u8, rfl⟩ := len9 hl
    have hL := E2.leaf hA
    have E9 := E2.step hS
    go_wp2_with (first | ((with_reducible refine wp_putB E9.res hL ?_ ?_ ?_ ?_ ?_); (rfl); (exact infoI); (rfl); (rfl); intro w0 hV0 hw0; simp only [Act.put]) | fail)
    cases hM.out.symm.trans hE.out
    exact end_blk hV0 rfl rfl _ Tryz.underlying95 rfl infoI rfl (E9.fin hL rfl hw0.out)
  rcases Bool.eq_false_or_eq_true (isP l [109, 105, 110] σ) with hb3 | hb3
  · obtain ⟨⟨y, σ3⟩, h3⟩ : ∃ z, plainI (aggP l m 4 ⟨σ.i + 1, σ.e⟩) = z := ⟨_, rfl⟩
    have hE : plainI (toldP l m σ) = (y, σ3) := by rw [← h3]; simp only [toldP, hb1, hb2, hb3, if_true, if_false, Bool.false_eq_true]
    replace hE := hid0 hE
    replace h3 := hid0 h3
    replace hb1 := hid0 hb1
    replace hb2 := hid0 hb2
    replace hb3 := hid0 hb3
    go_wp2_with fail
    go_at_call 17
    refine (paTake_no [99, 111, 117, 110, 116] E0.rd hb1.out).mono ?_
    rintro e w11 ⟨rfl, hS1⟩
    have E1 := E0.step hS1
    clear hS1
    go_wp2_with fail
    go_at_call 17
    refine (paTake_no [115, 117, 109] E1.rd hb2.out).mono ?_
    rintro e w12 ⟨rfl, hS1⟩
    have E2 := E1.step hS1
    clear hS1
    go_wp2_with fail
    go_at_call 17
    refine (paTake_yes [109, 105, 110] E2.rd hb3.out).mono ?_
    rintro e w13 ⟨rfl, hS1⟩
    have E3 := E2.step hS1
    clear hS1
    go_wp2_with fail
    go_at_call 82
    refine (Ans.at_ h3 (paAgg_any 4 rfl E3.rd)).mono ?_
    rintro e w3 ⟨us, hl, rfl, hA, hS⟩
    obtain ⟨u0, u1, u2, u3, u4, u5, u6, u7, u8, rfl⟩ := len9 hl
    have hL := E3.leaf hA
    have E9 := E3.step hS
    go_wp2_with (first | ((with_reducible refine wp_putB E9.res hL ?_ ?_ ?_ ?_ ?_); (rfl); (exact infoI); (rfl); (rfl); intro w0 hV0 hw0; simp only [Act.put]) | fail)
    cases hM.out.symm.trans hE.out
    exact end_blk hV0 rfl rfl _ Tryz.underlying95 rfl infoI rfl (E9.fin hL rfl hw0.out)
  rcases Bool.eq_false_or_eq_true (isP l [109, 97, 120] σ) with hb4 | hb4
  · obtain ⟨⟨y, σ3⟩, h3⟩ : ∃ z, plainI (aggP l m 5 ⟨σ.i + 1, σ.e⟩) = z := ⟨_, rfl⟩
    have hE : plainI (toldP l m σ) = (y, σ3) := by rw [← h3]; simp only [toldP, hb1, hb2, hb3, hb4, if_true, if_false, Bool.false_eq_true]
    replace hE := hid0 hE
    replace h3 := hid0 h3
    replace hb1 := hid0 hb1
    replace hb2 := hid0 hb2
    replace hb3 := hid0 hb3
    replace hb4 := hid0 hb4
    go_wp2_with fail
    go_at_call 17
    refine (paTake_no [99, 111, 117, 110, 116] E0.rd hb1.out).mono ?_
    rintro e w11 ⟨rfl, hS1⟩
    have E1 := E0.step hS1
    clear hS1
    go_wp2_with fail
    go_at_call 17
    refine (paTake_no [115, 117, 109] E1.rd hb2.out).mono ?_
    rintro e w12 ⟨rfl, hS1⟩
    have E2 := E1.step hS1
    clear hS1
    go_wp2_with fail
    go_at_call 17
    refine (paTake_no [109, 105, 110] E2.rd hb3.out).mono ?_
    rintro e w13 ⟨rfl, hS1⟩
    have E3 := E2.step hS1
    clear hS1
    go_wp2_with fail
    go_at_call 17
    refine (paTake_yes [109, 97, 120] E3.rd hb4.out).mono ?_
    rintro e w14 ⟨rfl, hS1⟩
    have E4 := E3.step hS1
    clear hS1
    go_wp2_with fail
    go_at_call 82
    refine (Ans.at_ h3 (paAgg_any 5 rfl E4.rd)).mono ?_
    rintro e w3 ⟨us, hl, rfl, hA, hS⟩
    obtain ⟨u0, u1, u2, u3, u4, u5, u6, u7, u8, rfl⟩ := len9 hl
    have hL := E4.leaf hA
    have E9 := E4.step hS
    go_wp2_with (first | ((with_reducible refine wp_putB E9.res hL ?_ ?_ ?_ ?_ ?_); (rfl); (exact infoI); (rfl); (rfl); intro w0 hV0 hw0; simp only [Act.put]) | fail)
    cases hM.out.symm.trans hE.out
    exact end_blk hV0 rfl rfl _ Tryz.underlying95 rfl infoI rfl (E9.fin hL rfl hw0.out)
  obtain ⟨⟨y, σ3⟩, h3⟩ : ∃ z, exprP l m 0 σ = z := ⟨_, rfl⟩
  have hE : plainI (toldP l m σ) = (itL 0 y [], σ3) := by simp only [plainI, toldP, hb1, hb2, hb3, hb4, h3, if_false, Bool.false_eq_true]
  replace hE := hid0 hE
  replace h3 := hid0 h3
  replace hb1 := hid0 hb1
  replace hb2 := hid0 hb2
  replace hb3 := hid0 hb3
  replace hb4 := hid0 hb4
  go_wp2_with fail
  go_at_call 17
  refine (paTake_no [99, 111, 117, 110, 116] E0.rd hb1.out).mono ?_
  rintro e w11 ⟨rfl, hS1⟩
  have E1 := E0.step hS1
  clear hS1
  go_wp2_with fail
  go_at_call 17
  refine (paTake_no [115, 117, 109] E1.rd hb2.out).mono ?_
  rintro e w12 ⟨rfl, hS1⟩
  have E2 := E1.step hS1
  clear hS1
  go_wp2_with fail
  go_at_call 17
  refine (paTake_no [109, 105, 110] E2.rd hb3.out).mono ?_
  rintro e w13 ⟨rfl, hS1⟩
  have E3 := E2.step hS1
  clear hS1
  go_wp2_with fail
  go_at_call 17
  refine (paTake_no [109, 97, 120] E3.rd hb4.out).mono ?_
  rintro e w14 ⟨rfl, hS1⟩
  have E4 := E3.step hS1
  clear hS1
  go_wp2_with fail
  go_at_call 63
  refine (Ans.at_ h3 (paExpr_any E4.rd)).mono ?_
  rintro e w3 ⟨us, hl, rfl, hA, hS⟩
  obtain ⟨u0, u1, u2, u3, u4, u5, u6, rfl⟩ := len7 hl
  have E9 := E4.step hS
  have hL : LsAt w3 (fr (w.heap.size + 1)) (itL 0 y []) [.int .i64 0, u0, u1, u2, u3, u4, u5, u6, .string ⟨#[]⟩] := .it rfl (E4.leaf hA) rfl
  go_wp2_with (first | ((with_reducible refine wp_putB E9.res hL ?_ ?_ ?_ ?_ ?_); (rfl); (exact infoI); (rfl); (rfl); intro w0 hV0 hw0; simp only [Act.put]) | fail)
  cases hM.out.symm.trans hE.out
  exact end_blk hV0 rfl rfl _ Tryz.underlying95 rfl infoI rfl (E9.fin hL rfl hw0.out)
/-- An item's name, in the place of none. -/
theorem itL_named {w : World} {P : Nat → Prop} {k : Nat} {y : List Lf} {s : List UInt8} {u0 u1 u2 u3 u4 u5 u6 u7 u8 : Value} (h : LsAt w P (itL k y []) [u0, u1, u2, u3, u4, u5, u6, u7, u8]) : LsAt w P (itL k y s) [u0, u1, u2, u3, u4, u5, u6, u7, .string (txt s)] := by
  have hl := h.len
  simp [itL] at hl
  obtain ⟨y0, y1, y2, y3, y4, y5, y6, rfl⟩ : ∃ y0 y1 y2 y3 y4 y5 y6, y = [y0, y1, y2, y3, y4, y5, y6] := by
    match y, hl with
    | [y0, y1, y2, y3, y4, y5, y6], _ => exact ⟨_, _, _, _, _, _, _, rfl⟩
  have g : ∀ (i : Nat) (x : Lf) (u : Value), (itL k [y0, y1, y2, y3, y4, y5, y6] [])[i]? = some x → [u0, u1, u2, u3, u4, u5, u6, u7, u8][i]? = some u → LfAt w P x u := h.out
  exact .cons (g 0 _ _ rfl rfl) (.cons (g 1 _ _ rfl rfl) (.cons (g 2 _ _ rfl rfl) (.cons (g 3 _ _ rfl rfl) (.cons (g 4 _ _ rfl rfl) (.cons (g 5 _ _ rfl rfl) (.cons (g 6 _ _ rfl rfl) (.cons (g 7 _ _ rfl rfl) (.cons (.str _ _ _ rfl) (.nil _ _)))))))))
set_option maxRecDepth 100000 in
set_option maxHeartbeats 4000000 in
theorem paItem_any {w : World} {a : Nat} {l : List Wd} {m : Int} {σ : PS} (hR : Rd w a l m 0 σ) :
    Calls Tryz.prog 53 #[.pointer (some ⟨a, 0, none⟩)] w (Ans w a l m 0 σ 9 (itemP l m σ).1 (itemP l m σ).2) := by
  have E0 := hR.start zIv 95
  obtain ⟨⟨x, τ⟩, hM⟩ : ∃ y, itemP l m σ = y := ⟨_, rfl⟩
  rw [hM]
  dsimp only
  replace hM := hid0 hM
  have han : a < w.heap.size + 1 := Nat.lt_succ_of_lt E0.lt
  go_enter Tryz.func53, Tryz.ntmps53
  obtain ⟨⟨⟨k, y⟩, σ1⟩, h1⟩ : ∃ z, toldP l m σ = z := ⟨_, rfl⟩
  have h1p : plainI (toldP l m σ) = (itL k y [], σ1) := by rw [h1]; rfl
  replace h1 := hid0 h1
  replace h1p := hid0 h1p
  go_wp2_with fail
  go_at_call 68
  refine (Ans.at_ h1p (paTold_any E0.rd)).mono ?_
  rintro e w1 ⟨us, hl, rfl, hA, hS⟩
  obtain ⟨u0, u1, u2, u3, u4, u5, u6, u7, u8, rfl⟩ := len9 hl
  have hwB : w.heap.size < w1.heap.size := (E0.step hS).z
  have haB : a < w1.heap.size := Nat.lt_trans E0.lt hwB
  have hA0 := (E0.leaf hA).allocx (Obj.cells #[.int .i64 0, .int .i64 0, .string ⟨#[]⟩, .string ⟨#[]⟩, .int .i64 0, .int .i64 0, .string ⟨#[]⟩, .slice none 0 0, .string ⟨#[]⟩] 95)
  have hX0 : VarB (w1.alloc (Obj.cells #[.int .i64 0, .int .i64 0, .string ⟨#[]⟩, .string ⟨#[]⟩, .int .i64 0, .int .i64 0, .string ⟨#[]⟩, .slice none 0 0, .string ⟨#[]⟩] 95)) w1.heap.size zIv := VarB.new w1 zIv 95
  have E10 := (E0.step hS).alloc (Obj.cells #[.int .i64 0, .int .i64 0, .string ⟨#[]⟩, .string ⟨#[]⟩, .int .i64 0, .int .i64 0, .string ⟨#[]⟩, .slice none 0 0, .string ⟨#[]⟩] 95)
  clear hS hA
  go_wp2_with (first | ((with_reducible refine wp_putB hX0 hA0 ?_ ?_ ?_ ?_ ?_); (rfl); (exact infoI); (rfl); (rfl); intro w11 hX1 hw11; simp only [Act.put]) | fail)
  have E1 : Env w a l m 0 σ σ1 zIv w11 := by rw [hw11.out]; exact E10.puts 0 _ hwB
  have hA1 : LsAt w11 (frx (w.heap.size + 1) w1.heap.size) (itL k y []) [u0, u1, u2, u3, u4, u5, u6, u7, u8] := by rw [hw11.out]; exact hA0.putsx
  clear hA0 hX0 E10 hw11
  rcases Bool.eq_false_or_eq_true (isP l [97, 115] σ1) with hb | hb
  · replace hb := hid0 hb
    go_at_call 17
    refine (paTake_yes [97, 115] E1.rd hb.out).mono ?_
    rintro e w2 ⟨rfl, hS⟩
    have hX2 := hX1.later hS.onl haB
    have hA2 := hA1.laterx hS.onl han
    have E2 := E1.step hS
    clear hS
    obtain ⟨⟨s, σ3⟩, h3⟩ : ∃ z, nameP l ⟨σ1.i + 1, σ1.e⟩ = z := ⟨_, rfl⟩
    replace h3 := hid0 h3
    go_wp2_with fail
    go_at_call 25
    refine (paName_at h3 E2.rd).mono ?_
    rintro e w3 ⟨rfl, hS⟩
    have hX3 := hX2.later hS.onl haB
    have hA3 := hA2.laterx hS.onl han
    have E3 := E2.step hS
    clear hS
    have c8 := hX3.cell 8 rfl
    have f8 := hX3.frz 8 (by simp)
    have hX4 : VarB (w3.setCell ⟨w1.heap.size, 8, none⟩ (.string (txt s))) w1.heap.size [u0, u1, u2, u3, u4, u5, u6, u7, .string (txt s)] := hX3.set (i := 8) (.string (txt s)) (by simp)
    have hA4 : LsAt (w3.setCell ⟨w1.heap.size, 8, none⟩ (.string (txt s))) (frx (w.heap.size + 1) w1.heap.size) (itL k y []) [u0, u1, u2, u3, u4, u5, u6, u7, u8] := hA3.putsx (o := 8) (vs := [.string (txt s)])
    have E4 := E3.set 8 (.string (txt s)) hwB
    have hL : LsAt (w3.setCell ⟨w1.heap.size, 8, none⟩ (.string (txt s))) (fr (w.heap.size + 1)) (itL k y s) [u0, u1, u2, u3, u4, u5, u6, u7, .string (txt s)] := itL_named hA4.unx
    go_wp2_with (first | ((with_reducible refine wp_getB hX4 Tryz.underlying95 ?_ ?_ ?_ ?_); (rfl); (exact infoI); (rfl)) | ((with_reducible refine wp_putB E4.res hL ?_ ?_ ?_ ?_ ?_); (rfl); (exact infoI); (rfl); (rfl); intro w0 hV0 hw0; simp only [Act.put]) | fail)
    have hE : itemP l m σ = (itL k y s, σ3) := by simp only [itemP, asP, h1.out, hb.out, h3.out, if_true]
    cases hM.out.symm.trans hE
    exact end_blk hV0 rfl rfl _ Tryz.underlying95 rfl infoI rfl (E4.fin hL rfl hw0.out)
  · replace hb := hid0 hb
    go_at_call 17
    refine (paTake_no [97, 115] E1.rd hb.out).mono ?_
    rintro e w2 ⟨rfl, hS⟩
    have hX2 := hX1.later hS.onl haB
    have hL := (hA1.laterx hS.onl han).unx
    have E2 := E1.step hS
    go_wp2_with (first | ((with_reducible refine wp_getB hX2 Tryz.underlying95 ?_ ?_ ?_ ?_); (rfl); (exact infoI); (rfl)) | ((with_reducible refine wp_putB E2.res hL ?_ ?_ ?_ ?_ ?_); (rfl); (exact infoI); (rfl); (rfl); intro w0 hV0 hw0; simp only [Act.put]) | fail)
    have hE : itemP l m σ = (itL k y [], σ1) := by simp only [itemP, asP, h1.out, hb.out, if_false, Bool.false_eq_true]
    cases hM.out.symm.trans hE
    exact end_blk hV0 rfl rfl _ Tryz.underlying95 rfl infoI rfl (E2.fin hL rfl hw0.out)
set_option maxRecDepth 100000 in
set_option maxHeartbeats 2000000 in
theorem paSource_any {w : World} {a : Nat} {l : List Wd} {m : Int} {d : Nat} {σ : PS} (hR : Rd w a l m d σ) :
    Calls Tryz.prog 55 #[.pointer (some ⟨a, 0, none⟩)] w (Ans w a l m d σ 2 (sourceP l σ).1 (sourceP l σ).2) := by
  have E0 := hR.start zSov 99
  obtain ⟨⟨x, τ⟩, hM⟩ : ∃ y, sourceP l σ = y := ⟨_, rfl⟩
  rw [hM]
  dsimp only
  replace hM := hid0 hM
  go_enter Tryz.func55, Tryz.ntmps55
  obtain ⟨⟨s, σ1⟩, h1⟩ : ∃ x, nameP l σ = x := ⟨_, rfl⟩
  replace h1 := hid0 h1
  go_wp2_with fail
  go_at_call 25
  refine (paName_at h1 E0.rd).mono ?_
  rintro e w1 ⟨rfl, hS⟩
  have E1 := E0.step hS
  clear hS
  rcases Bool.eq_false_or_eq_true (isP l [97, 115] σ1) with h2 | h2
  · replace h2 := hid0 h2
    go_wp2_with fail
    go_at_call 17
    refine (paTake_yes [97, 115] E1.rd h2.out).mono ?_
    rintro e w2 ⟨rfl, hS⟩
    have E2 := E1.step hS
    clear hS
    obtain ⟨⟨t, σ3⟩, h3⟩ : ∃ x, nameP l (⟨σ1.i + 1, σ1.e⟩ : PS) = x := ⟨_, rfl⟩
    replace h3 := hid0 h3
    go_wp2_with fail
    go_at_call 25
    refine (paName_at h3 E2.rd).mono ?_
    rintro e w3 ⟨rfl, hS⟩
    have E3 := E2.step hS
    clear hS
    have hL : LsAt w3 (fr (w.heap.size + 1)) ([sL s, sL t]) [.string (txt s), .string (txt t)] := .cons (.str _ _ _ rfl) (.cons (.str _ _ _ rfl) (.nil _ _))
    go_wp2_with (first | ((with_reducible refine wp_putB E3.res hL ?_ ?_ ?_ ?_ ?_); (rfl); (exact infoSo); (rfl); (rfl); intro w0 hV0 hw0) | fail)
    have hE : sourceP l σ = ([sL s, sL t], σ3) := by simp only [sourceP, asP, h1.out, h2.out, h3.out, if_true]
    cases hM.out.symm.trans hE
    exact end_blk hV0 rfl rfl _ Tryz.underlying99 rfl infoSo rfl (E3.fin hL rfl hw0.out)
  · replace h2 := hid0 h2
    go_wp2_with fail
    go_at_call 17
    refine (paTake_no [97, 115] E1.rd h2.out).mono ?_
    rintro e w2 ⟨rfl, hS⟩
    have E2 := E1.step hS
    clear hS
    have hL : LsAt w2 (fr (w.heap.size + 1)) ([sL s, sL s]) [.string (txt s), .string (txt s)] := .cons (.str _ _ _ rfl) (.cons (.str _ _ _ rfl) (.nil _ _))
    go_wp2_with (first | ((with_reducible refine wp_putB E2.res hL ?_ ?_ ?_ ?_ ?_); (rfl); (exact infoSo); (rfl); (rfl); intro w0 hV0 hw0) | fail)
    have hE : sourceP l σ = ([sL s, sL s], σ1) := by simp only [sourceP, asP, h1.out, h2.out, Bool.false_eq_true, if_false]
    cases hM.out.symm.trans hE
    exact end_blk hV0 rfl rfl _ Tryz.underlying99 rfl infoSo rfl (E2.fin hL rfl hw0.out)
end Go.Proofs.YtneebnankghhgacGreatDoor

/- The project's parser: rows of items, of sources; a select: contracts of the calls, in whatever memory that holds a reader. Conditions: none besides. -/
namespace Go.Proofs.YtneebnankghhgacGreatDoor
open Go.RowKit

theorem LsAt.vs {w : World} {P : Nat → Prop} {us : List Value} (h : us.all (·.oneCell') = true) : LsAt w P (us.map Lf.v) us := by
  refine ⟨by simp, fun i x u hx hu => ?_⟩
  rw [List.getElem?_map, hu] at hx
  cases hx
  exact .v u (List.all_eq_true.1 h u (List.mem_of_getElem? hu))
theorem paWithin_at {w : World} {a : Nat} {l : List Wd} {m : Int} {d : Nat} {σ σ' : PS} {n most : Nat} {y x : Int} (h : Hid (withinP l n most σ = σ')) (hy : y = (n : Int)) (hx : x = (most : Int)) (hR : Rd w a l m d σ) :
    Calls Tryz.prog 38 #[.pointer (some ⟨a, 0, none⟩), .int .i64 y, .int .i64 x] w fun e w' => e = .returned (.tuple #[]) ∧ Step w a l m d σ σ' w' := by
  subst hy
  have := paWithin_any n most x hR hx
  rw [h.out] at this
  exact this
theorem paTake_b {w : World} {a : Nat} {l : List Wd} {m : Int} {d : Nat} {σ σ' : PS} {b : Bool} {s : List UInt8} (h : Hid (takeP l s σ = (b, σ'))) (hR : Rd w a l m d σ) :
    Calls Tryz.prog 17 #[.pointer (some ⟨a, 0, none⟩), .string (txt s)] w fun e w' => e = .returned (.bool b) ∧ Step w a l m d σ σ' w' := by
  have h0 := h.out
  unfold takeP at h0
  cases hb : isP l s σ with
  | true => rw [hb, if_pos rfl] at h0; cases h0; exact paTake_yes s hR hb
  | false => rw [hb, if_neg (by simp)] at h0; cases h0; exact paTake_no s hR hb
theorem len21 {us : List Value} (h : us.length = 21) : ∃ u0 u1 u2 u3 u4 u5 u6 u7 u8 u9 u10 u11 u12 u13 u14 u15 u16 u17 u18 u19 u20, us = [u0, u1, u2, u3, u4, u5, u6, u7, u8, u9, u10, u11, u12, u13, u14, u15, u16, u17, u18, u19, u20] := by
  match us, h with
  | [u0, u1, u2, u3, u4, u5, u6, u7, u8, u9, u10, u11, u12, u13, u14, u15, u16, u17, u18, u19, u20], _ => exact ⟨_, _, _, _, _, _, _, _, _, _, _, _, _, _, _, _, _, _, _, _, _, rfl⟩
theorem LsAt.se {w : World} {P : Nat → Prop} {b : Bool} {wh : List Lf} {items from_ gr : List (List Lf)} {ui uf ug : Value} {us : List Value} (hi : LsAt w P [rL items] [ui]) (hf : LsAt w P [rL from_] [uf]) (hw : LsAt w P wh us) (hg : LfAt w P (rL gr) ug) :
    LsAt w P (seL b items from_ wh gr) (.bool b :: ui :: uf :: (us ++ [ug])) := .cons (.v _ rfl) (hi.app (hf.app (hw.app (.cons hg (.nil _ _)))))
theorem infoL_paListI_any : (Tryz.prog.info? 95).map (fun i => (i.zero, i.size, i.bytes)) = some (some (.agg #[.int .i64 0, .int .i64 0, .string ⟨#[]⟩, .string ⟨#[]⟩, .int .i64 0, .int .i64 0, .string ⟨#[]⟩, .slice none 0 0, .string ⟨#[]⟩]), 9, 120) := by kernel_rfl
set_option maxRecDepth 100000 in
set_option maxHeartbeats 4000000 in
theorem paListI_any {w : World} {a : Nat} {l : List Wd} {m : Int} {σ : PS} (hR : Rd w a l m 0 σ) :
    Calls Tryz.prog 52 #[.pointer (some ⟨a, 0, none⟩), .func (.func 53) #[.pointer (some ⟨a, 0, none⟩)] #[]] w (AnsL w a l m 0 σ (listP l (itemP l m) σ).1 (listP l (itemP l m) σ).2) := by
  have ha := hR.lt
  obtain ⟨⟨x, τ⟩, hM⟩ : ∃ y, listP l (itemP l m) σ = y := ⟨_, rfl⟩
  rw [hM]
  dsimp only
  obtain ⟨⟨y0, σ1⟩, h1⟩ : ∃ y, (itemP l m) σ = y := ⟨_, rfl⟩
  unfold listP at hM
  rw [h1] at hM
  dsimp only at hM
  replace hM := hid0 hM
  replace h1 := hid0 h1
  have HR := hid0 hR
  clear hR
  go_enter Tryz.func52, Tryz.ntmps52
  go_wp2_with fail
  go_at_call 53
  refine (Ans.at_ h1 (paItem_any HR.out)).mono ?_
  rintro e w1 ⟨us, hl, rfl, hA1, hS1⟩
  obtain ⟨u0, u1, u2, u3, u4, u5, u6, u7, u8, rfl⟩ := len9 hl
  have hz1 := hS1.onl.size
  have hG := GrowR.first (ty := 95) hA1 hz1
  replace hS1 := hS1.alloc (Obj.cells #[u0, u1, u2, u3, u4, u5, u6, u7, u8] 95)
  have hfew := HR.out.few
  have hrem : l.length - σ1.i ≤ l.length := Nat.sub_le _ _
  have HG : Hid (GrowR (w1.alloc (Obj.cells #[u0, u1, u2, u3, u4, u5, u6, u7, u8] 95)) w.heap.size 95 9 (.slice (some ⟨w1.heap.size, 0, none⟩) 1 1) [y0].length [y0].flatten) := hG
  clear hG hA1
  go_wp2_with fail
  go_loopw [5] (fun lv wr => ∃ (k : Nat) (acc : List (List Lf)) (ρ : PS), Hid (moreP l [44] (itemP l m) k acc ρ = (x, τ)) ∧ l.length - ρ.i ≤ k ∧ acc.length ≤ ρ.i + 1 ∧ Step w a l m 0 σ ρ wr ∧ Hid (GrowR wr w.heap.size 95 9 lv acc.length acc.flatten)) (fun _ wr => l.length - atOf wr a)
  case atStart => exact ⟨l.length, [y0], σ1, hM, hrem, by simp, hS1, HG⟩
  case round =>
    clear hM HG hS1 hrem h1
    obtain ⟨k, acc, ρ, hM, hk, hn, hS, hG⟩ := hrel
    have hat := hS.rd.at_
    rcases Bool.eq_false_or_eq_true (isP l [44] ρ) with hb | hb
    · have hmore := is_more hS.rd.ok hS.rd.hi hb
      obtain ⟨⟨y, ρ2⟩, h2⟩ : ∃ y, (itemP l m) ⟨ρ.i + 1, ρ.e⟩ = y := ⟨_, rfl⟩
      obtain ⟨k, rfl⟩ : ∃ k', k = k' + 1 := ⟨k - 1, by omega⟩
      have HM := hid0 ((moreP_yes (k := k) (acc := acc) hb h2).symm.trans hM.out)
      replace h2 := hid0 h2
      replace hb := hid0 hb
      replace hat := hid0 hat
      clear hM
      obtain ⟨N, hN⟩ : ∃ N, acc.length = N := ⟨_, rfl⟩
      rw [hN] at hG hn
      replace hN := hid0 hN
      go_wp2_with fail
      go_at_call 17
      refine (paTake_yes [44] hS.rd hb.out).mono ?_
      rintro e w2 ⟨rfl, hS2⟩
      have hG2 := hid0 (hG.out.later hS2.onl ha)
      go_wp2_with fail
      go_at_call 53
      refine (Ans.at_ h2 (paItem_any hS2.rd)).mono ?_
      rintro e w3 ⟨us, hl, rfl, hA3, hS3⟩
      obtain ⟨u0, u1, u2, u3, u4, u5, u6, u7, u8, rfl⟩ := len9 hl
      have hG3 := (hG2.out.later hS3.onl ha).alloc (Obj.cells #[u0, u1, u2, u3, u4, u5, u6, u7, u8] 95)
      have HG3 := hid0 hG3
      have hfar := hid0 (fun g hg => Nat.lt_of_lt_of_le (hG2.out.far g hg) (Nat.le_refl _))
      have HA := hid0 (hA3.alloc (Obj.cells #[u0, u1, u2, u3, u4, u5, u6, u7, u8] 95))
      have hzw := hid0 (And.intro (Nat.le_trans hS.onl.size hS2.onl.size) hS3.onl.size)
      have HST := hid0 (((hS.trans hS2).trans hS3).alloc (Obj.cells #[u0, u1, u2, u3, u4, u5, u6, u7, u8] 95))
      have hle3 := hS3.le
      dsimp only at hle3
      clear hG hG2 hG3 hA3
      obtain ⟨i0, hi0, hz0, hz1', hz2⟩ := info_parts infoL_paListI_any
      go_wp2_with (first
        | (at_builtin; refine wp_grow rfl _ _ _ rfl w.heap.size 95 i0 (.agg #[.int .i64 0, .int .i64 0, .string ⟨#[]⟩, .string ⟨#[]⟩, .int .i64 0, .int .i64 0, .string ⟨#[]⟩, .slice none 0 0, .string ⟨#[]⟩]) 9 120 Tryz.underlying49 hi0 hz0 hz1' hz2 rfl (by decide) _ N acc.flatten rfl HG3.out w3.heap.size 1 y [u0, u1, u2, u3, u4, u5, u6, u7, u8] rfl rfl (fun j u hj => (VarB.new w3 [u0, u1, u2, u3, u4, u5, u6, u7, u8] 95).cell j hj) w2.heap.size HA.out hzw.out.1 hfar.out (by omega) (by unfold maxLen; omega) (by have := hzw.out; simp; omega) ?_; intro v4 w4 hG4 hO4 hb4 hf4)
        | fail)
      have hS4 := hO4 _ a HST.out.onl (Nat.le_refl _)
      have HR4 : Step w a l m 0 σ ρ2 w4 := ⟨HST.out.rd.above (hb4.mono ha), hS4, HST.out.le⟩
      go_roundw
      case rel => exact ⟨k, acc ++ [y], ρ2, HM, by omega, by rw [List.length_append, hN.out]; simp; omega, HR4, by rw [List.length_append, hN.out, List.flatten_append]; simp only [List.flatten_cons, List.flatten_nil, List.append_nil]; exact hG4⟩
      case measure => rw [hat.out, HR4.rd.at_]; omega
    · have hE := (moreP_no (k := k) (acc := acc) (one := (itemP l m)) hb).symm.trans hM.out
      replace hE := hid0 hE
      replace hb := hid0 hb
      clear hM
      obtain ⟨p, c, rfl, hc⟩ := hG.out.slice
      go_wp2_with fail
      go_at_call 17
      refine (paTake_no [44] hS.rd hb.out).mono ?_
      rintro e w2 ⟨rfl, hS2⟩
      have hG2 := hid0 (hG.out.later hS2.onl ha)
      go_wp2_with fail
      go_ret
      cases hE.out
      exact ⟨p, c, rfl, hG2.out.leaf, by have := hS.rd.hi; omega, hS.trans hS2⟩
theorem infoL_paListS_any : (Tryz.prog.info? 99).map (fun i => (i.zero, i.size, i.bytes)) = some (some (.agg #[.string ⟨#[]⟩, .string ⟨#[]⟩]), 2, 32) := by kernel_rfl
set_option maxRecDepth 100000 in
set_option maxHeartbeats 4000000 in
theorem paListS_any {w : World} {a : Nat} {l : List Wd} {m : Int} {d : Nat} {σ : PS} (hR : Rd w a l m d σ) :
    Calls Tryz.prog 54 #[.pointer (some ⟨a, 0, none⟩), .func (.func 55) #[.pointer (some ⟨a, 0, none⟩)] #[]] w (AnsL w a l m d σ (listP l (sourceP l) σ).1 (listP l (sourceP l) σ).2) := by
  have ha := hR.lt
  obtain ⟨⟨x, τ⟩, hM⟩ : ∃ y, listP l (sourceP l) σ = y := ⟨_, rfl⟩
  rw [hM]
  dsimp only
  obtain ⟨⟨y0, σ1⟩, h1⟩ : ∃ y, (sourceP l) σ = y := ⟨_, rfl⟩
  unfold listP at hM
  rw [h1] at hM
  dsimp only at hM
  replace hM := hid0 hM
  replace h1 := hid0 h1
  have HR := hid0 hR
  clear hR
  go_enter Tryz.func54, Tryz.ntmps54
  go_wp2_with fail
  go_at_call 55
  refine (Ans.at_ h1 (paSource_any HR.out)).mono ?_
  rintro e w1 ⟨us, hl, rfl, hA1, hS1⟩
  obtain ⟨u0, u1, rfl⟩ := len2 hl
  have hz1 := hS1.onl.size
  have hG := GrowR.first (ty := 99) hA1 hz1
  replace hS1 := hS1.alloc (Obj.cells #[u0, u1] 99)
  have hfew := HR.out.few
  have hrem : l.length - σ1.i ≤ l.length := Nat.sub_le _ _
  have HG : Hid (GrowR (w1.alloc (Obj.cells #[u0, u1] 99)) w.heap.size 99 2 (.slice (some ⟨w1.heap.size, 0, none⟩) 1 1) [y0].length [y0].flatten) := hG
  clear hG hA1
  go_wp2_with fail
  go_loopw [5] (fun lv wr => ∃ (k : Nat) (acc : List (List Lf)) (ρ : PS), Hid (moreP l [44] (sourceP l) k acc ρ = (x, τ)) ∧ l.length - ρ.i ≤ k ∧ acc.length ≤ ρ.i + 1 ∧ Step w a l m d σ ρ wr ∧ Hid (GrowR wr w.heap.size 99 2 lv acc.length acc.flatten)) (fun _ wr => l.length - atOf wr a)
  case atStart => exact ⟨l.length, [y0], σ1, hM, hrem, by simp, hS1, HG⟩
  case round =>
    clear hM HG hS1 hrem h1
    obtain ⟨k, acc, ρ, hM, hk, hn, hS, hG⟩ := hrel
    have hat := hS.rd.at_
    rcases Bool.eq_false_or_eq_true (isP l [44] ρ) with hb | hb
    · have hmore := is_more hS.rd.ok hS.rd.hi hb
      obtain ⟨⟨y, ρ2⟩, h2⟩ : ∃ y, (sourceP l) ⟨ρ.i + 1, ρ.e⟩ = y := ⟨_, rfl⟩
      obtain ⟨k, rfl⟩ : ∃ k', k = k' + 1 := ⟨k - 1, by omega⟩
      have HM := hid0 ((moreP_yes (k := k) (acc := acc) hb h2).symm.trans hM.out)
      replace h2 := hid0 h2
      replace hb := hid0 hb
      replace hat := hid0 hat
      clear hM
      obtain ⟨N, hN⟩ : ∃ N, acc.length = N := ⟨_, rfl⟩
      rw [hN] at hG hn
      replace hN := hid0 hN
      go_wp2_with fail
      go_at_call 17
      refine (paTake_yes [44] hS.rd hb.out).mono ?_
      rintro e w2 ⟨rfl, hS2⟩
      have hG2 := hid0 (hG.out.later hS2.onl ha)
      go_wp2_with fail
      go_at_call 55
      refine (Ans.at_ h2 (paSource_any hS2.rd)).mono ?_
      rintro e w3 ⟨us, hl, rfl, hA3, hS3⟩
      obtain ⟨u0, u1, rfl⟩ := len2 hl
      have hG3 := (hG2.out.later hS3.onl ha).alloc (Obj.cells #[u0, u1] 99)
      have HG3 := hid0 hG3
      have hfar := hid0 (fun g hg => Nat.lt_of_lt_of_le (hG2.out.far g hg) (Nat.le_refl _))
      have HA := hid0 (hA3.alloc (Obj.cells #[u0, u1] 99))
      have hzw := hid0 (And.intro (Nat.le_trans hS.onl.size hS2.onl.size) hS3.onl.size)
      have HST := hid0 (((hS.trans hS2).trans hS3).alloc (Obj.cells #[u0, u1] 99))
      have hle3 := hS3.le
      dsimp only at hle3
      clear hG hG2 hG3 hA3
      obtain ⟨i0, hi0, hz0, hz1', hz2⟩ := info_parts infoL_paListS_any
      go_wp2_with (first
        | (at_builtin; refine wp_grow rfl _ _ _ rfl w.heap.size 99 i0 (.agg #[.string ⟨#[]⟩, .string ⟨#[]⟩]) 2 32 Tryz.underlying50 hi0 hz0 hz1' hz2 rfl (by decide) _ N acc.flatten rfl HG3.out w3.heap.size 1 y [u0, u1] rfl rfl (fun j u hj => (VarB.new w3 [u0, u1] 99).cell j hj) w2.heap.size HA.out hzw.out.1 hfar.out (by omega) (by unfold maxLen; omega) (by have := hzw.out; simp; omega) ?_; intro v4 w4 hG4 hO4 hb4 hf4)
        | fail)
      have hS4 := hO4 _ a HST.out.onl (Nat.le_refl _)
      have HR4 : Step w a l m d σ ρ2 w4 := ⟨HST.out.rd.above (hb4.mono ha), hS4, HST.out.le⟩
      go_roundw
      case rel => exact ⟨k, acc ++ [y], ρ2, HM, by omega, by rw [List.length_append, hN.out]; simp; omega, HR4, by rw [List.length_append, hN.out, List.flatten_append]; simp only [List.flatten_cons, List.flatten_nil, List.append_nil]; exact hG4⟩
      case measure => rw [hat.out, HR4.rd.at_]; omega
    · have hE := (moreP_no (k := k) (acc := acc) (one := (sourceP l)) hb).symm.trans hM.out
      replace hE := hid0 hE
      replace hb := hid0 hb
      clear hM
      obtain ⟨p, c, rfl, hc⟩ := hG.out.slice
      go_wp2_with fail
      go_at_call 17
      refine (paTake_no [44] hS.rd hb.out).mono ?_
      rintro e w2 ⟨rfl, hS2⟩
      have hG2 := hid0 (hG.out.later hS2.onl ha)
      go_wp2_with fail
      go_ret
      cases hE.out
      exact ⟨p, c, rfl, hG2.out.leaf, by have := hS.rd.hi; omega, hS.trans hS2⟩
set_option maxRecDepth 1000000 in
set_option maxHeartbeats 8000000 in
theorem paSelect_any {w : World} {a : Nat} {l : List Wd} {m : Int} {σ : PS} (hR : Rd w a l m 0 σ) :
    Calls Tryz.prog 37 #[.pointer (some ⟨a, 0, none⟩)] w (Ans w a l m 0 σ 21 (selectP l m σ).1 (selectP l m σ).2) := by
  have E0 := hR.start zSelv 52
  obtain ⟨⟨x, τ⟩, hM⟩ : ∃ y, selectP l m σ = y := ⟨_, rfl⟩
  rw [hM]
  dsimp only
  replace hM := hid0 hM
  have han : a < w.heap.size + 1 := Nat.lt_succ_of_lt E0.lt
  go_enter Tryz.func37, Tryz.ntmps37
  obtain ⟨σ1, h1⟩ : ∃ z, need1 l [115, 101, 108, 101, 99, 116] σ = z := ⟨_, rfl⟩
  replace h1 := hid0 h1
  (try go_wp2_with fail)
  go_at_call 24
  refine (paNeed1_B h1 _ _ (by simp) E0.rd).mono ?_
  rintro e w1 ⟨rfl, hS⟩
  have E1 := E0.step hS
  clear hS
  obtain ⟨⟨b, σ2⟩, h2⟩ : ∃ z, takeP l [100, 105, 115, 116, 105, 110, 99, 116] σ1 = z := ⟨_, rfl⟩
  replace h2 := hid0 h2
  (try go_wp2_with fail)
  go_at_call 17
  refine (paTake_b h2 E1.rd).mono ?_
  rintro e w2 ⟨rfl, hS⟩
  have E2 := E1.step hS
  clear hS
  have hwB : w.heap.size < w2.heap.size := E2.z
  have haB : a < w2.heap.size := Nat.lt_trans E0.lt hwB
  have hX0 : VarB (w2.alloc (Obj.cells #[.bool false, .slice none 0 0, .slice none 0 0, .int .i64 0, .int .i64 0, .int .i64 0, .string ⟨#[]⟩, .string ⟨#[]⟩, .int .i64 0, .int .i64 0, .string ⟨#[]⟩, .slice none 0 0, .int .i64 0, .string ⟨#[]⟩, .string ⟨#[]⟩, .int .i64 0, .int .i64 0, .string ⟨#[]⟩, .slice none 0 0, .slice none 0 0, .slice none 0 0] 52)) w2.heap.size zSelv := VarB.new w2 zSelv 52
  have hL0 : LsAt (w2.alloc (Obj.cells #[.bool false, .slice none 0 0, .slice none 0 0, .int .i64 0, .int .i64 0, .int .i64 0, .string ⟨#[]⟩, .string ⟨#[]⟩, .int .i64 0, .int .i64 0, .string ⟨#[]⟩, .slice none 0 0, .int .i64 0, .string ⟨#[]⟩, .string ⟨#[]⟩, .int .i64 0, .int .i64 0, .string ⟨#[]⟩, .slice none 0 0, .slice none 0 0, .slice none 0 0] 52)) (frx (w.heap.size + 1) w2.heap.size) ([.bool b, .slice none 0 0, .slice none 0 0, .int .i64 0, .int .i64 0, .int .i64 0, .string ⟨#[]⟩, .string ⟨#[]⟩, .int .i64 0, .int .i64 0, .string ⟨#[]⟩, .slice none 0 0, .int .i64 0, .string ⟨#[]⟩, .string ⟨#[]⟩, .int .i64 0, .int .i64 0, .string ⟨#[]⟩, .slice none 0 0, .slice none 0 0, .slice none 0 0].map Lf.v) [.bool b, .slice none 0 0, .slice none 0 0, .int .i64 0, .int .i64 0, .int .i64 0, .string ⟨#[]⟩, .string ⟨#[]⟩, .int .i64 0, .int .i64 0, .string ⟨#[]⟩, .slice none 0 0, .int .i64 0, .string ⟨#[]⟩, .string ⟨#[]⟩, .int .i64 0, .int .i64 0, .string ⟨#[]⟩, .slice none 0 0, .slice none 0 0, .slice none 0 0] := LsAt.vs rfl
  replace E2 := E2.alloc (Obj.cells #[.bool false, .slice none 0 0, .slice none 0 0, .int .i64 0, .int .i64 0, .int .i64 0, .string ⟨#[]⟩, .string ⟨#[]⟩, .int .i64 0, .int .i64 0, .string ⟨#[]⟩, .slice none 0 0, .int .i64 0, .string ⟨#[]⟩, .string ⟨#[]⟩, .int .i64 0, .int .i64 0, .string ⟨#[]⟩, .slice none 0 0, .slice none 0 0, .slice none 0 0] 52)
  go_wp2_with (first | ((with_reducible refine wp_putB hX0 hL0 ?_ ?_ ?_ ?_ ?_); (rfl); (exact infoSel); (rfl); (rfl); intro w3 hX hw; simp only [Act.put]) | fail)
  replace E2 : Env w a l m 0 σ σ2 zSelv w3 := by rw [hw.out]; exact E2.puts 0 _ hwB
  clear hw hL0 hX0
  obtain ⟨⟨its, σ3⟩, h3⟩ : ∃ z, listP l (itemP l m) σ2 = z := ⟨_, rfl⟩
  replace h3 := hid0 h3
  (try go_wp2_with fail)
  go_at_call 52
  refine (AnsL.at_ h3 (paListI_any E2.rd)).mono ?_
  rintro e w4 ⟨pits, cits, rfl, hA0, nits, hS⟩
  have hA := LsAt.cons hA0 (LsAt.nil _ _)
  clear hA0
  have hBl := hX.lt
  have Aits : LsAt w4 (frx (w.heap.size + 1) w2.heap.size) ([rL its]) [.slice pits its.length cits] := hA.tox hBl E2.z
  replace hX := hX.later hS.onl haB
  clear hBl
  have E4 := E2.step hS
  clear hA
  clear hS
  have c4 := hX.cell 1 rfl
  have f4 := hX.frz 1 (by simp)
  replace hX : VarB (w4.setCell ⟨w2.heap.size, 1, none⟩ (.slice pits its.length cits)) w2.heap.size [.bool b, .slice pits its.length cits, .slice none 0 0, .int .i64 0, .int .i64 0, .int .i64 0, .string ⟨#[]⟩, .string ⟨#[]⟩, .int .i64 0, .int .i64 0, .string ⟨#[]⟩, .slice none 0 0, .int .i64 0, .string ⟨#[]⟩, .string ⟨#[]⟩, .int .i64 0, .int .i64 0, .string ⟨#[]⟩, .slice none 0 0, .slice none 0 0, .slice none 0 0] := hX.set (i := 1) (.slice pits its.length cits) (by simp)
  replace Aits : LsAt (w4.setCell ⟨w2.heap.size, 1, none⟩ (.slice pits its.length cits)) (frx (w.heap.size + 1) w2.heap.size) ([rL its]) [.slice pits its.length cits] := Aits.putsx (o := 1) (vs := [.slice pits its.length cits])
  replace E4 := E4.set 1 (.slice pits its.length cits) hwB
  obtain ⟨σ5, h5⟩ : ∃ z, need1 l [102, 114, 111, 109] σ3 = z := ⟨_, rfl⟩
  replace h5 := hid0 h5
  (try go_wp2_with fail)
  go_at_call 24
  refine (paNeed1_B h5 _ _ (by simp) E4.rd).mono ?_
  rintro e w5 ⟨rfl, hS⟩
  have hBl := hX.lt
  replace Aits := Aits.laterx hS.onl han
  replace hX := hX.later hS.onl haB
  clear hBl
  have E5 := E4.step hS
  clear hS
  obtain ⟨⟨srcs, σ6⟩, h6⟩ : ∃ z, listP l (sourceP l) σ5 = z := ⟨_, rfl⟩
  replace h6 := hid0 h6
  (try go_wp2_with fail)
  go_at_call 54
  refine (AnsL.at_ h6 (paListS_any E5.rd)).mono ?_
  rintro e w6 ⟨psrcs, csrcs, rfl, hA0, nsrcs, hS⟩
  have hA := LsAt.cons hA0 (LsAt.nil _ _)
  clear hA0
  have hBl := hX.lt
  have Asrcs : LsAt w6 (frx (w.heap.size + 1) w2.heap.size) ([rL srcs]) [.slice psrcs srcs.length csrcs] := hA.tox hBl E5.z
  replace Aits := Aits.laterx hS.onl han
  replace hX := hX.later hS.onl haB
  clear hBl
  have E6 := E5.step hS
  clear hA
  clear hS
  have c7 := hX.cell 2 rfl
  have f7 := hX.frz 2 (by simp)
  replace hX : VarB (w6.setCell ⟨w2.heap.size, 2, none⟩ (.slice psrcs srcs.length csrcs)) w2.heap.size [.bool b, .slice pits its.length cits, .slice psrcs srcs.length csrcs, .int .i64 0, .int .i64 0, .int .i64 0, .string ⟨#[]⟩, .string ⟨#[]⟩, .int .i64 0, .int .i64 0, .string ⟨#[]⟩, .slice none 0 0, .int .i64 0, .string ⟨#[]⟩, .string ⟨#[]⟩, .int .i64 0, .int .i64 0, .string ⟨#[]⟩, .slice none 0 0, .slice none 0 0, .slice none 0 0] := hX.set (i := 2) (.slice psrcs srcs.length csrcs) (by simp)
  replace Aits : LsAt (w6.setCell ⟨w2.heap.size, 2, none⟩ (.slice psrcs srcs.length csrcs)) (frx (w.heap.size + 1) w2.heap.size) ([rL its]) [.slice pits its.length cits] := Aits.putsx (o := 2) (vs := [.slice psrcs srcs.length csrcs])
  replace Asrcs : LsAt (w6.setCell ⟨w2.heap.size, 2, none⟩ (.slice psrcs srcs.length csrcs)) (frx (w.heap.size + 1) w2.heap.size) ([rL srcs]) [.slice psrcs srcs.length csrcs] := Asrcs.putsx (o := 2) (vs := [.slice psrcs srcs.length csrcs])
  replace E6 := E6.set 2 (.slice psrcs srcs.length csrcs) hwB
  obtain ⟨⟨wh, σ8⟩, h8⟩ : ∃ z, whereP l m σ6 = z := ⟨_, rfl⟩
  replace h8 := hid0 h8
  (try go_wp2_with fail)
  go_at_call 43
  refine (Ans.at_ h8 (paWhere_any E6.rd)).mono ?_
  rintro e w7 ⟨us, hl, rfl, hA, hS⟩
  obtain ⟨u0, u1, u2, u3, u4, u5, u6, u7, u8, u9, u10, u11, u12, u13, u14, u15, u16, rfl⟩ := len17 hl
  clear hl
  have hBl := hX.lt
  have Awh : LsAt w7 (frx (w.heap.size + 1) w2.heap.size) (wh) [u0, u1, u2, u3, u4, u5, u6, u7, u8, u9, u10, u11, u12, u13, u14, u15, u16] := hA.tox hBl E6.z
  replace Aits := Aits.laterx hS.onl han
  replace Asrcs := Asrcs.laterx hS.onl han
  replace hX := hX.later hS.onl haB
  clear hBl
  have E7 := E6.step hS
  clear hA
  clear hS
  go_wp2_with (first | ((with_reducible refine wp_putM hX Awh 3 ?_ ?_ ?_ ?_ ?_); (simp); (exact infoC); (rfl); (rfl); intro w8 hX9 hw9; simp only [Act.put]; (have hX10 : VarB w8 w2.heap.size [.bool b, .slice pits its.length cits, .slice psrcs srcs.length csrcs, u0, u1, u2, u3, u4, u5, u6, u7, u8, u9, u10, u11, u12, u13, u14, u15, u16, .slice none 0 0] := hX9); (have E8 : Env w a l m 0 σ σ8 zSelv w8 := (by rw [hw9.out]; exact E7.puts 3 _ hwB)); (have NAits : LsAt w8 (frx (w.heap.size + 1) w2.heap.size) ([rL its]) [.slice pits its.length cits] := (by rw [hw9.out]; exact Aits.putsx)); (have NAsrcs : LsAt w8 (frx (w.heap.size + 1) w2.heap.size) ([rL srcs]) [.slice psrcs srcs.length csrcs] := (by rw [hw9.out]; exact Asrcs.putsx)); (have NAwh : LsAt w8 (frx (w.heap.size + 1) w2.heap.size) (wh) [u0, u1, u2, u3, u4, u5, u6, u7, u8, u9, u10, u11, u12, u13, u14, u15, u16] := (by rw [hw9.out]; exact Awh.putsx))) | fail)
  replace hX := hX10
  clear hX10 hX9 hw9
  replace Aits := NAits
  replace Asrcs := NAsrcs
  replace Awh := NAwh
  clear NAits
  clear NAsrcs
  clear NAwh
  rcases Bool.eq_false_or_eq_true (isP l [103, 114, 111, 117, 112] σ8) with h9 | h9
  · replace h9 := hid0 h9
    (try go_wp2_with fail)
    go_at_call 17
    refine (paTake_yes [103, 114, 111, 117, 112] E8.rd h9.out).mono ?_
    rintro e w9 ⟨rfl, hS⟩
    have hBl := hX.lt
    replace Aits := Aits.laterx hS.onl han
    replace Asrcs := Asrcs.laterx hS.onl han
    replace Awh := Awh.laterx hS.onl han
    replace hX := hX.later hS.onl haB
    clear hBl
    have E9 := E8.step hS
    clear hS
    obtain ⟨σ10, h10⟩ : ∃ z, need1 l [98, 121] (⟨σ8.i + 1, σ8.e⟩ : PS) = z := ⟨_, rfl⟩
    replace h10 := hid0 h10
    (try go_wp2_with fail)
    go_at_call 24
    refine (paNeed1_B h10 _ _ (by simp) E9.rd).mono ?_
    rintro e w10 ⟨rfl, hS⟩
    have hBl := hX.lt
    replace Aits := Aits.laterx hS.onl han
    replace Asrcs := Asrcs.laterx hS.onl han
    replace Awh := Awh.laterx hS.onl han
    replace hX := hX.later hS.onl haB
    clear hBl
    have E10 := E9.step hS
    clear hS
    obtain ⟨⟨gr, σ11⟩, h11⟩ : ∃ z, listP l (columnP l) σ10 = z := ⟨_, rfl⟩
    replace h11 := hid0 h11
    (try go_wp2_with fail)
    go_at_call 56
    refine (AnsL.at_ h11 (paListE_any E10.rd)).mono ?_
    rintro e w11 ⟨pgr, cgr, rfl, hA0, ngr, hS⟩
    have hA := LsAt.cons hA0 (LsAt.nil _ _)
    clear hA0
    have hBl := hX.lt
    have Agr : LsAt w11 (frx (w.heap.size + 1) w2.heap.size) ([rL gr]) [.slice pgr gr.length cgr] := hA.tox hBl E10.z
    replace Aits := Aits.laterx hS.onl han
    replace Asrcs := Asrcs.laterx hS.onl han
    replace Awh := Awh.laterx hS.onl han
    replace hX := hX.later hS.onl haB
    clear hBl
    have E11 := E10.step hS
    clear hA
    clear hS
    have c12 := hX.cell 20 rfl
    have f12 := hX.frz 20 (by simp)
    replace hX : VarB (w11.setCell ⟨w2.heap.size, 20, none⟩ (.slice pgr gr.length cgr)) w2.heap.size [.bool b, .slice pits its.length cits, .slice psrcs srcs.length csrcs, u0, u1, u2, u3, u4, u5, u6, u7, u8, u9, u10, u11, u12, u13, u14, u15, u16, .slice pgr gr.length cgr] := hX.set (i := 20) (.slice pgr gr.length cgr) (by simp)
    replace Aits : LsAt (w11.setCell ⟨w2.heap.size, 20, none⟩ (.slice pgr gr.length cgr)) (frx (w.heap.size + 1) w2.heap.size) ([rL its]) [.slice pits its.length cits] := Aits.putsx (o := 20) (vs := [.slice pgr gr.length cgr])
    replace Asrcs : LsAt (w11.setCell ⟨w2.heap.size, 20, none⟩ (.slice pgr gr.length cgr)) (frx (w.heap.size + 1) w2.heap.size) ([rL srcs]) [.slice psrcs srcs.length csrcs] := Asrcs.putsx (o := 20) (vs := [.slice pgr gr.length cgr])
    replace Awh : LsAt (w11.setCell ⟨w2.heap.size, 20, none⟩ (.slice pgr gr.length cgr)) (frx (w.heap.size + 1) w2.heap.size) (wh) [u0, u1, u2, u3, u4, u5, u6, u7, u8, u9, u10, u11, u12, u13, u14, u15, u16] := Awh.putsx (o := 20) (vs := [.slice pgr gr.length cgr])
    replace Agr : LsAt (w11.setCell ⟨w2.heap.size, 20, none⟩ (.slice pgr gr.length cgr)) (frx (w.heap.size + 1) w2.heap.size) ([rL gr]) [.slice pgr gr.length cgr] := Agr.putsx (o := 20) (vs := [.slice pgr gr.length cgr])
    replace E11 := E11.set 20 (.slice pgr gr.length cgr) hwB
    have cw1 := hX.cell 1 rfl
    obtain ⟨σ13, h13⟩ : ∃ z, withinP l its.length 8 σ11 = z := ⟨_, rfl⟩
    replace h13 := hid0 h13
    (try go_wp2_with fail)
    go_at_call 38
    refine (paWithin_at h13 rfl rfl E11.rd).mono ?_
    rintro e w12 ⟨rfl, hS⟩
    have hBl := hX.lt
    replace Aits := Aits.laterx hS.onl han
    replace Asrcs := Asrcs.laterx hS.onl han
    replace Awh := Awh.laterx hS.onl han
    replace Agr := Agr.laterx hS.onl han
    replace hX := hX.later hS.onl haB
    clear hBl
    have E12 := E11.step hS
    clear hS
    have cw2 := hX.cell 2 rfl
    obtain ⟨σ14, h14⟩ : ∃ z, withinP l srcs.length 3 σ13 = z := ⟨_, rfl⟩
    replace h14 := hid0 h14
    (try go_wp2_with fail)
    go_at_call 38
    refine (paWithin_at h14 rfl rfl E12.rd).mono ?_
    rintro e w13 ⟨rfl, hS⟩
    have hBl := hX.lt
    replace Aits := Aits.laterx hS.onl han
    replace Asrcs := Asrcs.laterx hS.onl han
    replace Awh := Awh.laterx hS.onl han
    replace Agr := Agr.laterx hS.onl han
    replace hX := hX.later hS.onl haB
    clear hBl
    have E13 := E12.step hS
    clear hS
    have cw20 := hX.cell 20 rfl
    obtain ⟨σ15, h15⟩ : ∃ z, withinP l gr.length 4 σ14 = z := ⟨_, rfl⟩
    replace h15 := hid0 h15
    (try go_wp2_with fail)
    go_at_call 38
    refine (paWithin_at h15 rfl rfl E13.rd).mono ?_
    rintro e w14 ⟨rfl, hS⟩
    have hBl := hX.lt
    replace Aits := Aits.laterx hS.onl han
    replace Asrcs := Asrcs.laterx hS.onl han
    replace Awh := Awh.laterx hS.onl han
    replace Agr := Agr.laterx hS.onl han
    replace hX := hX.later hS.onl haB
    clear hBl
    have E14 := E13.step hS
    clear hS
    have hL : LsAt w14 (fr (w.heap.size + 1)) (seL b its srcs wh gr) [.bool b, .slice pits its.length cits, .slice psrcs srcs.length csrcs, u0, u1, u2, u3, u4, u5, u6, u7, u8, u9, u10, u11, u12, u13, u14, u15, u16, .slice pgr gr.length cgr] := .se (Aits.unx) (Asrcs.unx) (Awh.unx) ((Agr.unx).out 0 _ _ rfl rfl)
    go_wp2_with (first | ((with_reducible refine wp_getB hX Tryz.underlying52 ?_ ?_ ?_ ?_); (rfl); (exact infoSel); (rfl)) | ((with_reducible refine wp_putB E14.res hL ?_ ?_ ?_ ?_ ?_); (rfl); (exact infoSel); (rfl); (rfl); intro w0 hV0 hw0; simp only [Act.put]) | fail)
    have hE : selectP l m σ = (seL b its srcs wh gr, σ15) := by simp only [selectP, groupP, h1.out, h2.out, h3.out, h5.out, h6.out, h8.out, h9.out, h10.out, h11.out, h13.out, h14.out, h15.out, if_true]
    cases hM.out.symm.trans hE
    exact end_blk hV0 rfl rfl _ Tryz.underlying52 rfl infoSel rfl (E14.fin hL rfl hw0.out)
  · replace h9 := hid0 h9
    (try go_wp2_with fail)
    go_at_call 17
    refine (paTake_no [103, 114, 111, 117, 112] E8.rd h9.out).mono ?_
    rintro e w15 ⟨rfl, hS⟩
    have hBl := hX.lt
    replace Aits := Aits.laterx hS.onl han
    replace Asrcs := Asrcs.laterx hS.onl han
    replace Awh := Awh.laterx hS.onl han
    replace hX := hX.later hS.onl haB
    clear hBl
    have E15 := E8.step hS
    clear hS
    have cw1 := hX.cell 1 rfl
    obtain ⟨σ16, h16⟩ : ∃ z, withinP l its.length 8 σ8 = z := ⟨_, rfl⟩
    replace h16 := hid0 h16
    (try go_wp2_with fail)
    go_at_call 38
    refine (paWithin_at h16 rfl rfl E15.rd).mono ?_
    rintro e w16 ⟨rfl, hS⟩
    have hBl := hX.lt
    replace Aits := Aits.laterx hS.onl han
    replace Asrcs := Asrcs.laterx hS.onl han
    replace Awh := Awh.laterx hS.onl han
    replace hX := hX.later hS.onl haB
    clear hBl
    have E16 := E15.step hS
    clear hS
    have cw2 := hX.cell 2 rfl
    obtain ⟨σ17, h17⟩ : ∃ z, withinP l srcs.length 3 σ16 = z := ⟨_, rfl⟩
    replace h17 := hid0 h17
    (try go_wp2_with fail)
    go_at_call 38
    refine (paWithin_at h17 rfl rfl E16.rd).mono ?_
    rintro e w17 ⟨rfl, hS⟩
    have hBl := hX.lt
    replace Aits := Aits.laterx hS.onl han
    replace Asrcs := Asrcs.laterx hS.onl han
    replace Awh := Awh.laterx hS.onl han
    replace hX := hX.later hS.onl haB
    clear hBl
    have E17 := E16.step hS
    clear hS
    have cw20 := hX.cell 20 rfl
    obtain ⟨σ18, h18⟩ : ∃ z, withinP l ([] : List (List Lf)).length 4 σ17 = z := ⟨_, rfl⟩
    replace h18 := hid0 h18
    (try go_wp2_with fail)
    go_at_call 38
    refine (paWithin_at h18 rfl rfl E17.rd).mono ?_
    rintro e w18 ⟨rfl, hS⟩
    have hBl := hX.lt
    replace Aits := Aits.laterx hS.onl han
    replace Asrcs := Asrcs.laterx hS.onl han
    replace Awh := Awh.laterx hS.onl han
    replace hX := hX.later hS.onl haB
    clear hBl
    have E18 := E17.step hS
    clear hS
    have hL : LsAt w18 (fr (w.heap.size + 1)) (seL b its srcs wh []) [.bool b, .slice pits its.length cits, .slice psrcs srcs.length csrcs, u0, u1, u2, u3, u4, u5, u6, u7, u8, u9, u10, u11, u12, u13, u14, u15, u16, .slice none 0 0] := .se (Aits.unx) (Asrcs.unx) (Awh.unx) (LfAt.nil _ _)
    go_wp2_with (first | ((with_reducible refine wp_getB hX Tryz.underlying52 ?_ ?_ ?_ ?_); (rfl); (exact infoSel); (rfl)) | ((with_reducible refine wp_putB E18.res hL ?_ ?_ ?_ ?_ ?_); (rfl); (exact infoSel); (rfl); (rfl); intro w0 hV0 hw0; simp only [Act.put]) | fail)
    have hE : selectP l m σ = (seL b its srcs wh [], σ18) := by simp only [selectP, groupP, h1.out, h2.out, h3.out, h5.out, h6.out, h8.out, h9.out, h16.out, h17.out, h18.out, Bool.false_eq_true, if_false]
    cases hM.out.symm.trans hE
    exact end_blk hV0 rfl rfl _ Tryz.underlying52 rfl infoSel rfl (E18.fin hL rfl hw0.out)
end Go.Proofs.YtneebnankghhgacGreatDoor

/- The project's parser: a query: a contract of the call, in whatever memory that holds a reader. Conditions: none besides. -/
namespace Go.Proofs.YtneebnankghhgacGreatDoor
open Go.RowKit

def zQv : List Value := [.slice none 0 0]
theorem infoQ : (Tryz.prog.info? 35).map (·.size) = some zQv.length := by kernel_rfl
theorem infoLSel : (Tryz.prog.info? 52).map (fun i => (i.zero, i.size, i.bytes)) = some (some (.agg #[.bool false, .slice none 0 0, .slice none 0 0, .int .i64 0, .int .i64 0, .int .i64 0, .string ⟨#[]⟩, .string ⟨#[]⟩, .int .i64 0, .int .i64 0, .string ⟨#[]⟩, .slice none 0 0, .int .i64 0, .string ⟨#[]⟩, .string ⟨#[]⟩, .int .i64 0, .int .i64 0, .string ⟨#[]⟩, .slice none 0 0, .slice none 0 0, .slice none 0 0]), 21, 312) := by kernel_rfl
/-- What a call answers that tells a query. -/
def AnsQ (w : World) (a : Nat) (l : List Wd) (m : Int) (d : Nat) (σ : PS) (els : List (List Lf)) (σ' : PS) (e : Ending) (w' : World) : Prop :=
  ∃ p c, e = .returned (.agg #[.slice p els.length c]) ∧ LfAt w' (fr w.heap.size) (rL els) (.slice p els.length c) ∧ els.length ≤ 513 ∧ Step w a l m d σ σ' w'
theorem AnsQ.at_ {P : Program} {f : Nat} {args : Array Value} {w : World} {a : Nat} {l : List Wd} {m : Int} {d : Nat} {σ σ' : PS} {x : List (List Lf)} {r : List (List Lf) × PS} (h : Hid (r = (x, σ'))) (hC : Calls P f args w (AnsQ w a l m d σ r.1 r.2)) : Calls P f args w (AnsQ w a l m d σ x σ') := by
  have := h.out
  subst this
  exact hC
theorem unionP_no {l : List Wd} {m : Int} {k : Nat} {acc : List (List Lf)} {ρ : PS} (h : isP l [117, 110, 105, 111, 110] ρ = false) : unionP l m k acc ρ = (acc, ρ) := by
  cases k with
  | zero => rfl
  | succ k => simp [unionP, h]
theorem unionP_yes {l : List Wd} {m : Int} {k : Nat} {acc : List (List Lf)} {ρ ρ1 ρ2 : PS} {y : List Lf} (h : isP l [117, 110, 105, 111, 110] ρ = true) (h0 : need1 l [97, 108, 108] ⟨ρ.i + 1, ρ.e⟩ = ρ1) (h1 : selectP l m ρ1 = (y, ρ2)) : unionP l m (k + 1) acc ρ = unionP l m k (acc ++ [y]) ρ2 := by
  simp [unionP, h, h0, h1]
set_option maxRecDepth 1000000 in
set_option maxHeartbeats 16000000 in
theorem paQuery_any {w : World} {a : Nat} {l : List Wd} {m : Int} {σ : PS} (hR : Rd w a l m 0 σ) :
    Calls Tryz.prog 16 #[.pointer (some ⟨a, 0, none⟩)] w (AnsQ w a l m 0 σ (queryP l m σ).1 (queryP l m σ).2) := by
  have E0 := hR.start zQv 35
  obtain ⟨⟨x, τ⟩, hM⟩ : ∃ y, queryP l m σ = y := ⟨_, rfl⟩
  rw [hM]
  dsimp only
  obtain ⟨⟨y0, σ1⟩, h1⟩ : ∃ y, selectP l m σ = y := ⟨_, rfl⟩
  unfold queryP at hM
  rw [h1] at hM
  dsimp only at hM
  have hfew := hR.few
  clear hR
  replace hM := hid0 hM
  replace h1 := hid0 h1
  go_enter Tryz.func16, Tryz.ntmps16
  go_wp2_with fail
  go_at_call 37
  refine (Ans.at_ h1 (paSelect_any E0.rd)).mono ?_
  rintro e w1 ⟨us, hl, rfl, hA, hS1⟩
  obtain ⟨u0, u1, u2, u3, u4, u5, u6, u7, u8, u9, u10, u11, u12, u13, u14, u15, u16, u17, u18, u19, u20, rfl⟩ := len21 hl
  clear hl h1
  have hle1 := hS1.le
  have E1 := E0.step hS1
  have hwB : w.heap.size < w1.heap.size := E1.z
  have hz1 : w.heap.size + 1 ≤ w1.heap.size := hwB
  have haB : a < w1.heap.size := Nat.lt_trans E0.lt hwB
  have hL2 := E0.leaf hA
  have hG2 : GrowP (w1.alloc (Obj.cells #[u0, u1, u2, u3, u4, u5, u6, u7, u8, u9, u10, u11, u12, u13, u14, u15, u16, u17, u18, u19, u20] 52)) (w.heap.size + 1) (fun b => w.heap.size + 1 ≤ b ∧ b ≠ w1.heap.size + 1) 52 21 (.slice (some ⟨w1.heap.size, 0, none⟩) 1 1) [y0].length ([y0].flatten) := GrowP.first hL2 (fun b (hb : w.heap.size + 1 ≤ b) hlt => ⟨hb, by omega⟩) ⟨hz1, by omega⟩ hz1
  have hY : VarB ((w1.alloc (Obj.cells #[u0, u1, u2, u3, u4, u5, u6, u7, u8, u9, u10, u11, u12, u13, u14, u15, u16, u17, u18, u19, u20] 52)).alloc (Obj.cells #[.slice (some ⟨w1.heap.size, 0, none⟩) 1 1] 35)) (w1.heap.size + 1) [.slice (some ⟨w1.heap.size, 0, none⟩) 1 1] := by have := VarB.new (w1.alloc (Obj.cells #[u0, u1, u2, u3, u4, u5, u6, u7, u8, u9, u10, u11, u12, u13, u14, u15, u16, u17, u18, u19, u20] 52)) [.slice (some ⟨w1.heap.size, 0, none⟩) 1 1] 35; rw [World.size_alloc] at this; exact this
  have E5 : Env w a l m 0 σ σ1 zQv ((w1.alloc (Obj.cells #[u0, u1, u2, u3, u4, u5, u6, u7, u8, u9, u10, u11, u12, u13, u14, u15, u16, u17, u18, u19, u20] 52)).alloc (Obj.cells #[.slice (some ⟨w1.heap.size, 0, none⟩) 1 1] 35)) := (E1.alloc _).alloc _
  have hG5 := hG2.alloc (Obj.cells #[.slice (some ⟨w1.heap.size, 0, none⟩) 1 1] 35)
  have haC : a < w1.heap.size + 1 := by omega
  clear hA hS1 E1 hL2 hG2
  go_wp2_with fail
  obtain ⟨C, hCC⟩ : ∃ C, w1.heap.size + 1 = C := ⟨_, rfl⟩
  have hBC : w1.heap.size < C := by omega
  rw [hCC] at hG5 hY haC
  replace hG5 := hid0 hG5
  replace hY := hid0 hY
  have hCC' := hid0 hCC
  simp only [hCC]
  clear hCC
  have hrem : l.length - σ1.i ≤ l.length := Nat.sub_le _ _
  have hPa : ¬ (w.heap.size + 1 ≤ a ∧ a ≠ C) := by have := E0.lt; omega
  go_loopw [] (fun wr => ∃ (k : Nat) (acc : List (List Lf)) (ρ : PS) (v : Value), Hid (((unionP l m k acc ρ).1, withinP l (unionP l m k acc ρ).1.length 4 (unionP l m k acc ρ).2) = (x, τ)) ∧ l.length - ρ.i ≤ k ∧ acc.length ≤ ρ.i + 1 ∧ Hid (VarB wr C [v]) ∧ Hid (GrowP wr (w.heap.size + 1) (fun b => w.heap.size + 1 ≤ b ∧ b ≠ C) 52 21 v acc.length acc.flatten) ∧ σ1.i ≤ ρ.i ∧ Env w a l m 0 σ ρ zQv wr) (fun wr => l.length - atOf wr a)
  case atStart => exact ⟨l.length, [y0], σ1, _, hM, hrem, by simp, hY, hG5, Nat.le_refl _, E5⟩
  case round =>
    clear hM hG5 hY E5 hrem
    obtain ⟨k, acc, ρ, v, hM, hk, hnn, hY, hG, hρ, E⟩ := hrel
    have hat := E.rd.at_
    rcases Bool.eq_false_or_eq_true (isP l [117, 110, 105, 111, 110] ρ) with hb | hb
    · have hmore := is_more E.rd.ok E.rd.hi hb
      obtain ⟨ρ1, h0⟩ : ∃ z, need1 l [97, 108, 108] ⟨ρ.i + 1, ρ.e⟩ = z := ⟨_, rfl⟩
      obtain ⟨⟨y, ρ2⟩, h2⟩ : ∃ y, selectP l m ρ1 = y := ⟨_, rfl⟩
      obtain ⟨k, rfl⟩ : ∃ k', k = k' + 1 := ⟨k - 1, by omega⟩
      have hM3 := hM.out
      rw [unionP_yes (k := k) (acc := acc) hb h0 h2] at hM3
      have HM := hid0 hM3
      replace h2 := hid0 h2
      replace h0 := hid0 h0
      replace hb := hid0 hb
      replace hat := hid0 hat
      clear hM hM3
      obtain ⟨N, hN⟩ : ∃ N, acc.length = N := ⟨_, rfl⟩
      rw [hN] at hG hnn
      replace hN := hid0 hN
      go_wp2_with fail
      go_at_call 17
      refine (paTake_yes [117, 110, 105, 111, 110] E.rd hb.out).mono ?_
      rintro e9 w2 ⟨rfl, hS3⟩
      have HY2 := hid0 (hY.out.later hS3.onl haC)
      have HG2 := hid0 (hG.out.later hS3.onl hPa)
      have E2 := E.step hS3
      clear hY hG hS3
      go_wp2_with fail
      go_at_call 24
      refine (paNeed1_B h0 _ _ (by simp) E2.rd).mono ?_
      rintro e9 w3 ⟨rfl, hS3⟩
      have HY3 := hid0 (HY2.out.later hS3.onl haC)
      have HG3 := hid0 (HG2.out.later hS3.onl hPa)
      have hle3 := hS3.le
      dsimp only at hle3
      have E3 := E2.step hS3
      clear HY2 HG2 hS3 E2
      go_wp2_with fail
      refine wp_region_last (S := fun w' => VarB w' C [v]) 7 (by kernel_rfl) (by kernel_rfl) HY3.out.drew (fun hHeld => ?_)
      simp only [List.take_succ_cons, List.take_zero, List.drop_succ_cons, List.drop_zero]
      refine wpAnyH_take (i := 0) (v := ?_) rfl (by kernel_rfl) (by kernel_rfl) (by kernel_rfl) (fun _ _ _ h => h) (Or.inl ⟨by rfl, ?_⟩) (by assumption) ?_
      rotate_left
      · (intro wx hSw; go_simp; (try with_reducible rfl))
      (try simp only [Act.put, List.setIfInBounds_toArray, List.set_cons_zero, List.set_cons_succ, List.getElem_toArray, List.getElem_cons_zero])
      refine wpAnyH_take (i := 1) (v := v) rfl (by kernel_rfl) (by kernel_rfl) (by kernel_rfl) (fun _ _ _ h => h) (Or.inl ⟨by rfl, ?_⟩) (by assumption) ?_
      · (intro wx hSw; have c16 := (show VarB wx C [v] from hSw).cell 0 rfl; go_simp; (try with_reducible rfl))
      (try simp only [Act.put, List.setIfInBounds_toArray, List.set_cons_zero, List.set_cons_succ, List.getElem_toArray, List.getElem_cons_zero, List.getElem_cons_succ])
      refine wpAnyH_take (i := 2) (v := ?_) rfl (by kernel_rfl) (by kernel_rfl) (by kernel_rfl) (fun _ _ _ h => h) (Or.inl ⟨by rfl, ?_⟩) (by assumption) ?_
      rotate_left
      · (intro wx hSw; go_simp; (try with_reducible rfl))
      (try simp only [Act.put, List.setIfInBounds_toArray, List.set_cons_zero, List.set_cons_succ, List.getElem_toArray, List.getElem_cons_zero, List.getElem_cons_succ])
      refine wpAnyH_ready (rs := [3]) (by kernel_rfl) (by simp) ?_
      refine AllReadyH.cons rfl (fun K hK => ?_) AllReadyH.nil
      go_simp
      refine (Ans.at_ h2 (paSelect_any E3.drew.rd)).mono ?_
      rintro e9 w4 ⟨vs, hl, rfl, hA4, hS4⟩
      obtain ⟨v0, v1, v2, v3, v4, v5, v6, v7, v8, v9, v10, v11, v12, v13, v14, v15, v16, v17, v18, v19, v20, rfl⟩ := len21 hl
      clear hl
      have hX4 := HY3.out.drew.later hS4.onl haC
      have hle4 := hS4.le
      have hz4 := hS4.onl.size
      have hzC : C < w3.heap.size := HY3.out.lt
      have HG4 := hid0 ((HG3.out.drew.later hS4.onl hPa).alloc (Obj.cells #[v0, v1, v2, v3, v4, v5, v6, v7, v8, v9, v10, v11, v12, v13, v14, v15, v16, v17, v18, v19, v20] 52))
      have hfar := hid0 HG3.out.far
      have HA4 := hid0 (hA4.allocP (Obj.cells #[v0, v1, v2, v3, v4, v5, v6, v7, v8, v9, v10, v11, v12, v13, v14, v15, v16, v17, v18, v19, v20] 52))
      have E4 := (E3.drew.step hS4).alloc (Obj.cells #[v0, v1, v2, v3, v4, v5, v6, v7, v8, v9, v10, v11, v12, v13, v14, v15, v16, v17, v18, v19, v20] 52)
      have hX5 := hX4.alloc (Obj.cells #[v0, v1, v2, v3, v4, v5, v6, v7, v8, v9, v10, v11, v12, v13, v14, v15, v16, v17, v18, v19, v20] 52)
      have HE4 := hid0 E4
      have hzE := E3.z
      clear hA4 hS4
      refine hK.out _ _ hX4 (fun hHeld => ?_)
      clear hK K
      (try simp only [Act.put, List.setIfInBounds_toArray, List.set_cons_zero, List.set_cons_succ, List.getElem_toArray, List.getElem_cons_zero, List.getElem_cons_succ])
      refine wpAnyH_ready (rs := [4]) (by kernel_rfl) (by simp) ?_
      refine AllReadyH.cons rfl (fun K hK => ?_) AllReadyH.nil
      go_simp
      refine hK.out _ _ hX5 (fun hHeld => ?_)
      clear hK K
      (try simp only [Act.put, List.setIfInBounds_toArray, List.set_cons_zero, List.set_cons_succ, List.getElem_toArray, List.getElem_cons_zero, List.getElem_cons_succ])
      obtain ⟨i0, hi0, hz0, hz1', hz2'⟩ := info_parts infoLSel
      refine wpAnyH_ready (rs := [5]) (by kernel_rfl) (by simp) ?_
      refine AllReadyH.cons rfl (fun K hK => ?_) AllReadyH.nil
      refine wp_growP rfl _ _ _ rfl (w.heap.size + 1) (fun b => w.heap.size + 1 ≤ b ∧ b ≠ C) 52 i0 (.agg #[.bool false, .slice none 0 0, .slice none 0 0, .int .i64 0, .int .i64 0, .int .i64 0, .string ⟨#[]⟩, .string ⟨#[]⟩, .int .i64 0, .int .i64 0, .string ⟨#[]⟩, .slice none 0 0, .int .i64 0, .string ⟨#[]⟩, .string ⟨#[]⟩, .int .i64 0, .int .i64 0, .string ⟨#[]⟩, .slice none 0 0, .slice none 0 0, .slice none 0 0]) 21 312 Tryz.underlying33 hi0 hz0 hz1' hz2' rfl (by decide) v N acc.flatten rfl HG4.out w4.heap.size 1 y [v0, v1, v2, v3, v4, v5, v6, v7, v8, v9, v10, v11, v12, v13, v14, v15, v16, v17, v18, v19, v20] rfl rfl (fun j u hj => (VarB.new w4 [v0, v1, v2, v3, v4, v5, v6, v7, v8, v9, v10, v11, v12, v13, v14, v15, v16, v17, v18, v19, v20] 52).cell j hj) w3.heap.size HA4.out (fun b hb => ⟨by omega, by omega⟩) hfar.out (by simp; exact Nat.le_succ_of_le hz4) (by omega) (by unfold maxLen; omega) (by simp; have : w3.heap.size ≤ w4.heap.size := hz4; omega) ?_
      intro v6 w6 hG6 hO6 hb6 hg6
      have hX6 : VarB w6 C [v] := hX5.keep (hg6.block C (by simp; have : w3.heap.size ≤ w4.heap.size := hz4; omega) (fun e => (HG3.out.out1 e).2 rfl)) hg6.size
      have E6 : Env w a l m 0 σ ρ2 zQv w6 := ⟨⟨HE4.out.st.rd.above (hb6.mono (by have := E0.lt; omega)), hO6 w a HE4.out.st.onl (by omega), HE4.out.st.le⟩, HE4.out.res.keep (hb6.block _ (by omega)) hb6.size, Nat.le_trans HE4.out.z hb6.size, HE4.out.lt⟩
      refine hK.out _ _ hX6 (fun hHeld => ?_)
      clear hK K
      (try simp only [Act.put, List.setIfInBounds_toArray, List.set_cons_zero, List.set_cons_succ, List.getElem_toArray, List.getElem_cons_zero, List.getElem_cons_succ])
      refine wpAnyH_take (i := 6) (v := ?_) rfl (by kernel_rfl) (by kernel_rfl) (by kernel_rfl) (fun _ _ _ h => h) (Or.inl ⟨by rfl, ?_⟩) (by assumption) ?_
      rotate_left
      · (intro wx hSw; go_simp; (try with_reducible rfl))
      (try simp only [Act.put, List.setIfInBounds_toArray, List.set_cons_zero, List.set_cons_succ, List.getElem_toArray, List.getElem_cons_zero, List.getElem_cons_succ])
      refine wpAnyH_done (by kernel_rfl) ?_ _
      show wpList _ _ _ _ _ _
      have c6 := hX6.cell 0 rfl
      have f6 := hX6.frz 0 (by simp)
      obtain ⟨p6, cc6, rfl, -⟩ := hG6.slice
      have hX7 : VarB (w6.setCell ⟨C, 0, none⟩ (.slice p6 (N + 1) cc6)) C [.slice p6 (N + 1) cc6] := hX6.set (i := 0) _ (by simp)
      have hG7 := hid0 (hG6.puts 0 [.slice p6 (N + 1) cc6] (fun h => h.2 rfl))
      have E7 := E6.set 0 (.slice p6 (N + 1) cc6) (by omega : w.heap.size < C)
      clear hX4 hX5 E4 hX6 hG6
      go_wp2_with fail
      go_roundw
      case rel => exact ⟨k, acc ++ [y], ρ2, _, HM, by omega, by rw [List.length_append, hN.out]; simp; omega, hid0 hX7, hid0 (by rw [List.length_append, hN.out, List.flatten_append]; simp only [List.flatten_cons, List.flatten_nil, List.append_nil]; exact hG7.out), by omega, E7⟩
      case measure => rw [hat.out, E7.rd.at_]; omega
    · have hM3 := hM.out
      rw [unionP_no (k := k) (acc := acc) hb] at hM3
      dsimp only at hM3
      obtain ⟨σ4, h4⟩ : ∃ z, withinP l acc.length 4 ρ = z := ⟨_, rfl⟩
      rw [h4] at hM3
      replace h4 := hid0 h4
      replace hb := hid0 hb
      replace hM3 := hid0 hM3
      clear hM
      go_wp2_with fail
      go_at_call 17
      refine (paTake_no [117, 110, 105, 111, 110] E.rd hb.out).mono ?_
      rintro e9 w3 ⟨rfl, hS3⟩
      have HY3 := hY.out.later hS3.onl haC
      have HG3 := hid0 (hG.out.later hS3.onl hPa)
      have E3 := E.step hS3
      have hi3 := E.rd.hi
      clear hS3
      obtain ⟨p6, cc6, rfl, -⟩ := HG3.out.slice
      have c6 := HY3.cell 0 rfl
      go_wp2_with fail
      go_at_call 38
      refine (paWithin_at h4 rfl rfl E3.rd).mono ?_
      rintro e9 w5 ⟨rfl, hS5⟩
      have HY5 := HY3.later hS5.onl haC
      have HG5 := HG3.out.later hS5.onl hPa
      have E5 := E3.step hS5
      have hL5 : LsAt w5 (fr (w.heap.size + 1)) [rL acc] [.slice p6 acc.length cc6] := .cons (HG5.leaf (fun b hb => hb.1)) (.nil _ _)
      go_wp2_with (first | ((with_reducible refine wp_getB HY5 Tryz.underlying35 ?_ ?_ ?_ ?_); (rfl); (exact infoQ); (rfl)) | ((with_reducible refine wp_putB E5.res hL5 ?_ ?_ ?_ ?_ ?_); (rfl); (exact infoQ); (rfl); (rfl); intro w0 hV0 hw0; simp only [Act.put]) | fail)
      cases hM3.out
      refine end_blk hV0 rfl rfl _ Tryz.underlying35 rfl infoQ rfl ?_
      obtain ⟨us, hu1, hu2, hu3, hu4⟩ := E5.fin hL5 rfl hw0.out
      cases hu2
      exact ⟨p6, cc6, rfl, hu3.out 0 _ _ rfl rfl, by omega, hu4⟩
end Go.Proofs.YtneebnankghhgacGreatDoor

/- The project's parser: names, values, rows of values, new values, a key, a column: contracts of the calls, in whatever memory that holds a reader. Conditions: none besides. -/
namespace Go.Proofs.YtneebnankghhgacGreatDoor
open Go.RowKit

theorem len8 {us : List Value} (h : us.length = 8) : ∃ u0 u1 u2 u3 u4 u5 u6 u7, us = [u0, u1, u2, u3, u4, u5, u6, u7] := by
  match us, h with
  | [u0, u1, u2, u3, u4, u5, u6, u7], _ => exact ⟨_, _, _, _, _, _, _, _, rfl⟩
theorem len26 {us : List Value} (h : us.length = 26) : ∃ u0 u1 u2 u3 u4 u5 u6 u7 u8 u9 u10 u11 u12 u13 u14 u15 u16 u17 u18 u19 u20 u21 u22 u23 u24 u25, us = [u0, u1, u2, u3, u4, u5, u6, u7, u8, u9, u10, u11, u12, u13, u14, u15, u16, u17, u18, u19, u20, u21, u22, u23, u24, u25] := by
  match us, h with
  | [u0, u1, u2, u3, u4, u5, u6, u7, u8, u9, u10, u11, u12, u13, u14, u15, u16, u17, u18, u19, u20, u21, u22, u23, u24, u25], _ => exact ⟨_, _, _, _, _, _, _, _, _, _, _, _, _, _, _, _, _, _, _, _, _, _, _, _, _, _, rfl⟩
theorem LfAt.rnil (w : World) (P : Nat → Prop) : LfAt w P (rL []) (.slice none 0 0) := .nil w P
theorem LsAt.st {w : World} {P : Nat → Prop} (x : SM) {k mo n : Int} {s : ByteArray} {u2 u3 u4 u6 u7 : Value} {us : List Value} (hk : k = (x.k : Int)) (hs : s = txt x.nam) (hmo : mo = (x.mode : Int)) (hn : n = (x.n : Int))
    (h2 : LfAt w P (rL x.cols) u2) (h3 : LfAt w P (rL x.keys) u3) (h4 : LfAt w P (rL x.parts) u4) (h6 : LfAt w P (rL x.rows) u6) (h7 : LfAt w P (rL x.sets) u7) (hw : LsAt w P x.wh us) :
    LsAt w P (stL x) (.int .i64 k :: .string s :: u2 :: u3 :: u4 :: .int .i64 mo :: u6 :: u7 :: (us ++ [.int .i64 n])) :=
  .cons (.lit _ _ hk) (.cons (.str _ _ _ hs) (.cons h2 (.cons h3 (.cons h4 (.cons (.lit _ _ hmo) (.cons h6 (.cons h7 (hw.app (.cons (.lit _ _ hn) (.nil _ _))))))))))
theorem LsAt.hd {w : World} {P : Nat → Prop} {x : Lf} {u : Value} (h : LsAt w P [x] [u]) : LfAt w P x u := h.out 0 _ _ rfl rfl
/-- A statement's leaves. -/
def stP (r : SM × PS) : List Lf × PS := (stL r.1, r.2)
/-- What a call answers that tells a name. -/
def AnsN (w : World) (a : Nat) (l : List Wd) (m : Int) (d : Nat) (σ : PS) (xs : List Lf) (σ' : PS) (e : Ending) (w' : World) : Prop := ∃ s : List UInt8, e = .returned (.string (txt s)) ∧ LsAt w' (fr w.heap.size) xs [.string (txt s)] ∧ Step w a l m d σ σ' w'
/-- What a call answers that tells a row as one leaf. -/
def AnsT (w : World) (a : Nat) (l : List Wd) (m : Int) (d : Nat) (σ : PS) (xs : List Lf) (σ' : PS) (e : Ending) (w' : World) : Prop := ∃ p n c, e = .returned (.slice p n c) ∧ LsAt w' (fr w.heap.size) xs [.slice p n c] ∧ Step w a l m d σ σ' w'
theorem paName1 {w : World} {a : Nat} {l : List Wd} {m : Int} {d : Nat} {σ σ' : PS} {x : List Lf} (h : Hid ((fun σ => ([sL (nameP l σ).1], (nameP l σ).2)) σ = (x, σ'))) (hR : Rd w a l m d σ) :
    Calls Tryz.prog 25 #[.pointer (some ⟨a, 0, none⟩)] w (AnsN w a l m d σ x σ') := by
  have h0 := h.out
  cases h0
  exact (paName_any hR).mono fun e w' ⟨he, hS⟩ => ⟨_, he, .cons (.str _ _ _ rfl) (.nil _ _), hS⟩
theorem infoL_paListN_any : (Tryz.prog.info? 9).map (fun i => (i.zero, i.size, i.bytes)) = some (some (.string ⟨#[]⟩), 1, 16) := by kernel_rfl
set_option maxRecDepth 100000 in
set_option maxHeartbeats 4000000 in
theorem paListN_any {w : World} {a : Nat} {l : List Wd} {m : Int} {d : Nat} {σ : PS} (hR : Rd w a l m d σ) :
    Calls Tryz.prog 69 #[.pointer (some ⟨a, 0, none⟩), .func (.func 25) #[.pointer (some ⟨a, 0, none⟩)] #[]] w (AnsL w a l m d σ (listP l (fun σ => ([sL (nameP l σ).1], (nameP l σ).2)) σ).1 (listP l (fun σ => ([sL (nameP l σ).1], (nameP l σ).2)) σ).2) := by
  have ha := hR.lt
  obtain ⟨⟨x, τ⟩, hM⟩ : ∃ y, listP l (fun σ => ([sL (nameP l σ).1], (nameP l σ).2)) σ = y := ⟨_, rfl⟩
  rw [hM]
  dsimp only
  obtain ⟨⟨y0, σ1⟩, h1⟩ : ∃ y, (fun σ => ([sL (nameP l σ).1], (nameP l σ).2)) σ = y := ⟨_, rfl⟩
  unfold listP at hM
  rw [h1] at hM
  dsimp only at hM
  replace hM := hid0 hM
  replace h1 := hid0 h1
  have HR := hid0 hR
  clear hR
  go_enter Tryz.func69, Tryz.ntmps69
  go_wp2_with fail
  go_at_call 25
  refine (paName1 h1 HR.out).mono ?_
  rintro e w1 ⟨s0, rfl, hA1, hS1⟩
  have hz1 := hS1.onl.size
  have hG := GrowR.first (ty := 9) hA1 hz1
  replace hS1 := hS1.alloc (Obj.cells #[.string (txt s0)] 9)
  have hfew := HR.out.few
  have hrem : l.length - σ1.i ≤ l.length := Nat.sub_le _ _
  have HG : Hid (GrowR (w1.alloc (Obj.cells #[.string (txt s0)] 9)) w.heap.size 9 1 (.slice (some ⟨w1.heap.size, 0, none⟩) 1 1) [y0].length [y0].flatten) := hG
  clear hG hA1
  go_wp2_with fail
  go_loopw [5] (fun lv wr => ∃ (k : Nat) (acc : List (List Lf)) (ρ : PS), Hid (moreP l [44] (fun σ => ([sL (nameP l σ).1], (nameP l σ).2)) k acc ρ = (x, τ)) ∧ l.length - ρ.i ≤ k ∧ acc.length ≤ ρ.i + 1 ∧ Step w a l m d σ ρ wr ∧ Hid (GrowR wr w.heap.size 9 1 lv acc.length acc.flatten)) (fun _ wr => l.length - atOf wr a)
  case atStart => exact ⟨l.length, [y0], σ1, hM, hrem, by simp, hS1, HG⟩
  case round =>
    clear hM HG hS1 hrem h1
    obtain ⟨k, acc, ρ, hM, hk, hn, hS, hG⟩ := hrel
    have hat := hS.rd.at_
    rcases Bool.eq_false_or_eq_true (isP l [44] ρ) with hb | hb
    · have hmore := is_more hS.rd.ok hS.rd.hi hb
      obtain ⟨⟨y, ρ2⟩, h2⟩ : ∃ y, (fun σ => ([sL (nameP l σ).1], (nameP l σ).2)) ⟨ρ.i + 1, ρ.e⟩ = y := ⟨_, rfl⟩
      obtain ⟨k, rfl⟩ : ∃ k', k = k' + 1 := ⟨k - 1, by omega⟩
      have HM := hid0 ((moreP_yes (k := k) (acc := acc) hb h2).symm.trans hM.out)
      replace h2 := hid0 h2
      replace hb := hid0 hb
      replace hat := hid0 hat
      clear hM
      obtain ⟨N, hN⟩ : ∃ N, acc.length = N := ⟨_, rfl⟩
      rw [hN] at hG hn
      replace hN := hid0 hN
      go_wp2_with fail
      go_at_call 17
      refine (paTake_yes [44] hS.rd hb.out).mono ?_
      rintro e w2 ⟨rfl, hS2⟩
      have hG2 := hid0 (hG.out.later hS2.onl ha)
      go_wp2_with fail
      go_at_call 25
      refine (paName1 h2 hS2.rd).mono ?_
      rintro e w3 ⟨s0, rfl, hA3, hS3⟩
      have hG3 := (hG2.out.later hS3.onl ha).alloc (Obj.cells #[.string (txt s0)] 9)
      have HG3 := hid0 hG3
      have hfar := hid0 (fun g hg => Nat.lt_of_lt_of_le (hG2.out.far g hg) (Nat.le_refl _))
      have HA := hid0 (hA3.alloc (Obj.cells #[.string (txt s0)] 9))
      have hzw := hid0 (And.intro (Nat.le_trans hS.onl.size hS2.onl.size) hS3.onl.size)
      have HST := hid0 (((hS.trans hS2).trans hS3).alloc (Obj.cells #[.string (txt s0)] 9))
      have hle3 := hS3.le
      dsimp only at hle3
      clear hG hG2 hG3 hA3
      obtain ⟨i0, hi0, hz0, hz1', hz2⟩ := info_parts infoL_paListN_any
      go_wp2_with (first
        | (at_builtin; refine wp_grow rfl _ _ _ rfl w.heap.size 9 i0 (.string ⟨#[]⟩) 1 16 Tryz.underlying32 hi0 hz0 hz1' hz2 rfl (by decide) _ N acc.flatten rfl HG3.out w3.heap.size 1 y [.string (txt s0)] rfl rfl (fun j u hj => (VarB.new w3 [.string (txt s0)] 9).cell j hj) w2.heap.size HA.out hzw.out.1 hfar.out (by omega) (by unfold maxLen; omega) (by have := hzw.out; simp; omega) ?_; intro v4 w4 hG4 hO4 hb4 hf4)
        | fail)
      have hS4 := hO4 _ a HST.out.onl (Nat.le_refl _)
      have HR4 : Step w a l m d σ ρ2 w4 := ⟨HST.out.rd.above (hb4.mono ha), hS4, HST.out.le⟩
      go_roundw
      case rel => exact ⟨k, acc ++ [y], ρ2, HM, by omega, by rw [List.length_append, hN.out]; simp; omega, HR4, by rw [List.length_append, hN.out, List.flatten_append]; simp only [List.flatten_cons, List.flatten_nil, List.append_nil]; exact hG4⟩
      case measure => rw [hat.out, HR4.rd.at_]; omega
    · have hE := (moreP_no (k := k) (acc := acc) (one := (fun σ => ([sL (nameP l σ).1], (nameP l σ).2))) hb).symm.trans hM.out
      replace hE := hid0 hE
      replace hb := hid0 hb
      clear hM
      obtain ⟨p, c, rfl, hc⟩ := hG.out.slice
      go_wp2_with fail
      go_at_call 17
      refine (paTake_no [44] hS.rd hb.out).mono ?_
      rintro e w2 ⟨rfl, hS2⟩
      have hG2 := hid0 (hG.out.later hS2.onl ha)
      go_wp2_with fail
      go_ret
      cases hE.out
      exact ⟨p, c, rfl, hG2.out.leaf, by have := hS.rd.hi; omega, hS.trans hS2⟩
theorem infoL_paListV_any : (Tryz.prog.info? 28).map (fun i => (i.zero, i.size, i.bytes)) = some (some (.agg #[.int .i64 0, .int .i64 0, .string ⟨#[]⟩]), 3, 32) := by kernel_rfl
set_option maxRecDepth 100000 in
set_option maxHeartbeats 4000000 in
theorem paListV_any {w : World} {a : Nat} {l : List Wd} {m : Int} {d : Nat} {σ : PS} (hR : Rd w a l m d σ) :
    Calls Tryz.prog 60 #[.pointer (some ⟨a, 0, none⟩), .func (.func 61) #[.pointer (some ⟨a, 0, none⟩)] #[]] w (AnsL w a l m d σ (listP l (valueP l) σ).1 (listP l (valueP l) σ).2) := by
  have ha := hR.lt
  obtain ⟨⟨x, τ⟩, hM⟩ : ∃ y, listP l (valueP l) σ = y := ⟨_, rfl⟩
  rw [hM]
  dsimp only
  obtain ⟨⟨y0, σ1⟩, h1⟩ : ∃ y, (valueP l) σ = y := ⟨_, rfl⟩
  unfold listP at hM
  rw [h1] at hM
  dsimp only at hM
  replace hM := hid0 hM
  replace h1 := hid0 h1
  have HR := hid0 hR
  clear hR
  go_enter Tryz.func60, Tryz.ntmps60
  go_wp2_with fail
  go_at_call 61
  refine (Ans.at_ h1 (paValue_any HR.out)).mono ?_
  rintro e w1 ⟨us, hl, rfl, hA1, hS1⟩
  obtain ⟨u0, u1, u2, rfl⟩ := len3 hl
  have hz1 := hS1.onl.size
  have hG := GrowR.first (ty := 28) hA1 hz1
  replace hS1 := hS1.alloc (Obj.cells #[u0, u1, u2] 28)
  have hfew := HR.out.few
  have hrem : l.length - σ1.i ≤ l.length := Nat.sub_le _ _
  have HG : Hid (GrowR (w1.alloc (Obj.cells #[u0, u1, u2] 28)) w.heap.size 28 3 (.slice (some ⟨w1.heap.size, 0, none⟩) 1 1) [y0].length [y0].flatten) := hG
  clear hG hA1
  go_wp2_with fail
  go_loopw [5] (fun lv wr => ∃ (k : Nat) (acc : List (List Lf)) (ρ : PS), Hid (moreP l [44] (valueP l) k acc ρ = (x, τ)) ∧ l.length - ρ.i ≤ k ∧ acc.length ≤ ρ.i + 1 ∧ Step w a l m d σ ρ wr ∧ Hid (GrowR wr w.heap.size 28 3 lv acc.length acc.flatten)) (fun _ wr => l.length - atOf wr a)
  case atStart => exact ⟨l.length, [y0], σ1, hM, hrem, by simp, hS1, HG⟩
  case round =>
    clear hM HG hS1 hrem h1
    obtain ⟨k, acc, ρ, hM, hk, hn, hS, hG⟩ := hrel
    have hat := hS.rd.at_
    rcases Bool.eq_false_or_eq_true (isP l [44] ρ) with hb | hb
    · have hmore := is_more hS.rd.ok hS.rd.hi hb
      obtain ⟨⟨y, ρ2⟩, h2⟩ : ∃ y, (valueP l) ⟨ρ.i + 1, ρ.e⟩ = y := ⟨_, rfl⟩
      obtain ⟨k, rfl⟩ : ∃ k', k = k' + 1 := ⟨k - 1, by omega⟩
      have HM := hid0 ((moreP_yes (k := k) (acc := acc) hb h2).symm.trans hM.out)
      replace h2 := hid0 h2
      replace hb := hid0 hb
      replace hat := hid0 hat
      clear hM
      obtain ⟨N, hN⟩ : ∃ N, acc.length = N := ⟨_, rfl⟩
      rw [hN] at hG hn
      replace hN := hid0 hN
      go_wp2_with fail
      go_at_call 17
      refine (paTake_yes [44] hS.rd hb.out).mono ?_
      rintro e w2 ⟨rfl, hS2⟩
      have hG2 := hid0 (hG.out.later hS2.onl ha)
      go_wp2_with fail
      go_at_call 61
      refine (Ans.at_ h2 (paValue_any hS2.rd)).mono ?_
      rintro e w3 ⟨us, hl, rfl, hA3, hS3⟩
      obtain ⟨u0, u1, u2, rfl⟩ := len3 hl
      have hG3 := (hG2.out.later hS3.onl ha).alloc (Obj.cells #[u0, u1, u2] 28)
      have HG3 := hid0 hG3
      have hfar := hid0 (fun g hg => Nat.lt_of_lt_of_le (hG2.out.far g hg) (Nat.le_refl _))
      have HA := hid0 (hA3.alloc (Obj.cells #[u0, u1, u2] 28))
      have hzw := hid0 (And.intro (Nat.le_trans hS.onl.size hS2.onl.size) hS3.onl.size)
      have HST := hid0 (((hS.trans hS2).trans hS3).alloc (Obj.cells #[u0, u1, u2] 28))
      have hle3 := hS3.le
      dsimp only at hle3
      clear hG hG2 hG3 hA3
      obtain ⟨i0, hi0, hz0, hz1', hz2⟩ := info_parts infoL_paListV_any
      go_wp2_with (first
        | (at_builtin; refine wp_grow rfl _ _ _ rfl w.heap.size 28 i0 (.agg #[.int .i64 0, .int .i64 0, .string ⟨#[]⟩]) 3 32 Tryz.underlying23 hi0 hz0 hz1' hz2 rfl (by decide) _ N acc.flatten rfl HG3.out w3.heap.size 1 y [u0, u1, u2] rfl rfl (fun j u hj => (VarB.new w3 [u0, u1, u2] 28).cell j hj) w2.heap.size HA.out hzw.out.1 hfar.out (by omega) (by unfold maxLen; omega) (by have := hzw.out; simp; omega) ?_; intro v4 w4 hG4 hO4 hb4 hf4)
        | fail)
      have hS4 := hO4 _ a HST.out.onl (Nat.le_refl _)
      have HR4 : Step w a l m d σ ρ2 w4 := ⟨HST.out.rd.above (hb4.mono ha), hS4, HST.out.le⟩
      go_roundw
      case rel => exact ⟨k, acc ++ [y], ρ2, HM, by omega, by rw [List.length_append, hN.out]; simp; omega, HR4, by rw [List.length_append, hN.out, List.flatten_append]; simp only [List.flatten_cons, List.flatten_nil, List.append_nil]; exact hG4⟩
      case measure => rw [hat.out, HR4.rd.at_]; omega
    · have hE := (moreP_no (k := k) (acc := acc) (one := (valueP l)) hb).symm.trans hM.out
      replace hE := hid0 hE
      replace hb := hid0 hb
      clear hM
      obtain ⟨p, c, rfl, hc⟩ := hG.out.slice
      go_wp2_with fail
      go_at_call 17
      refine (paTake_no [44] hS.rd hb.out).mono ?_
      rintro e w2 ⟨rfl, hS2⟩
      have hG2 := hid0 (hG.out.later hS2.onl ha)
      go_wp2_with fail
      go_ret
      cases hE.out
      exact ⟨p, c, rfl, hG2.out.leaf, by have := hS.rd.hi; omega, hS.trans hS2⟩
set_option maxRecDepth 1000000 in
set_option maxHeartbeats 8000000 in
theorem paNewValue_any {w : World} {a : Nat} {l : List Wd} {m : Int} {σ : PS} (hR : Rd w a l m 0 σ) :
    Calls Tryz.prog 45 #[.pointer (some ⟨a, 0, none⟩)] w (Ans w a l m 0 σ 8 (setP l m σ).1 (setP l m σ).2) := by
  have E0 := hR.start zSetv 84
  obtain ⟨⟨x, τ⟩, hM⟩ : ∃ y, setP l m σ = y := ⟨_, rfl⟩
  rw [hM]
  dsimp only
  replace hM := hid0 hM
  have han : a < w.heap.size + 1 := Nat.lt_succ_of_lt E0.lt
  go_enter Tryz.func45, Tryz.ntmps45
  obtain ⟨⟨s, σ1⟩, h1⟩ : ∃ z, nameP l σ = z := ⟨_, rfl⟩
  replace h1 := hid0 h1
  (try go_wp2_with fail)
  go_at_call 25
  refine (paName_at h1 E0.rd).mono ?_
  rintro e w1 ⟨rfl, hS⟩
  have E1 := E0.step hS
  clear hS
  have hwB : w.heap.size < w1.heap.size := E1.z
  have haB : a < w1.heap.size := Nat.lt_trans E0.lt hwB
  have hX : VarB (w1.alloc (Obj.cells #[.string (txt s), .int .i64 0, .string ⟨#[]⟩, .string ⟨#[]⟩, .int .i64 0, .int .i64 0, .string ⟨#[]⟩, .slice none 0 0] 84)) w1.heap.size [.string (txt s), .int .i64 0, .string ⟨#[]⟩, .string ⟨#[]⟩, .int .i64 0, .int .i64 0, .string ⟨#[]⟩, .slice none 0 0] := VarB.new w1 [.string (txt s), .int .i64 0, .string ⟨#[]⟩, .string ⟨#[]⟩, .int .i64 0, .int .i64 0, .string ⟨#[]⟩, .slice none 0 0] 84
  replace E1 := E1.alloc (Obj.cells #[.string (txt s), .int .i64 0, .string ⟨#[]⟩, .string ⟨#[]⟩, .int .i64 0, .int .i64 0, .string ⟨#[]⟩, .slice none 0 0] 84)
  obtain ⟨σ2, h2⟩ : ∃ z, need1 l [61] σ1 = z := ⟨_, rfl⟩
  replace h2 := hid0 h2
  (try go_wp2_with fail)
  go_at_call 24
  refine (paNeed1_B h2 _ _ (by simp) E1.rd).mono ?_
  rintro e w2 ⟨rfl, hS⟩
  have hBl := hX.lt
  replace hX := hX.later hS.onl haB
  clear hBl
  have E2 := E1.step hS
  clear hS
  obtain ⟨⟨ex, σ3⟩, h3⟩ : ∃ z, exprP l m 0 σ2 = z := ⟨_, rfl⟩
  replace h3 := hid0 h3
  (try go_wp2_with fail)
  go_at_call 63
  refine (Ans.at_ h3 (paExpr_any E2.rd)).mono ?_
  rintro e w3 ⟨us, hl, rfl, hA, hS⟩
  obtain ⟨u0, u1, u2, u3, u4, u5, u6, rfl⟩ := len7 hl
  clear hl
  have hBl := hX.lt
  have Aex : LsAt w3 (frx (w.heap.size + 1) w1.heap.size) (ex) [u0, u1, u2, u3, u4, u5, u6] := hA.tox hBl E2.z
  replace hX := hX.later hS.onl haB
  clear hBl
  have E3 := E2.step hS
  clear hA
  clear hS
  go_wp2_with (first | ((with_reducible refine wp_putM hX Aex 1 ?_ ?_ ?_ ?_ ?_); (simp); (exact infoE); (rfl); (rfl); intro w4 hX9 hw9; simp only [Act.put]; (have hX10 : VarB w4 w1.heap.size [.string (txt s), u0, u1, u2, u3, u4, u5, u6] := hX9); (have E4 : Env w a l m 0 σ σ3 zSetv w4 := (by rw [hw9.out]; exact E3.puts 1 _ hwB)); (have NAex : LsAt w4 (frx (w.heap.size + 1) w1.heap.size) (ex) [u0, u1, u2, u3, u4, u5, u6] := (by rw [hw9.out]; exact Aex.putsx)); (have hL : LsAt w4 (fr (w.heap.size + 1)) (sL s :: ex) [.string (txt s), u0, u1, u2, u3, u4, u5, u6] := .cons (.str _ _ _ rfl) (NAex.unx))) | ((with_reducible refine wp_getB hX10 Tryz.underlying84 ?_ ?_ ?_ ?_); (rfl); (exact infoSet); (rfl)) | ((with_reducible refine wp_putB E4.res hL ?_ ?_ ?_ ?_ ?_); (rfl); (exact infoSet); (rfl); (rfl); intro w0 hV0 hw0; simp only [Act.put]) | fail)
  have hE : setP l m σ = (sL s :: ex, σ3) := by simp only [setP, h1.out, h2.out, h3.out]
  cases hM.out.symm.trans hE
  exact end_blk hV0 rfl rfl _ Tryz.underlying84 rfl infoSet rfl (E4.fin hL rfl hw0.out)
theorem infoL_paListU_any : (Tryz.prog.info? 84).map (fun i => (i.zero, i.size, i.bytes)) = some (some (.agg #[.string ⟨#[]⟩, .int .i64 0, .string ⟨#[]⟩, .string ⟨#[]⟩, .int .i64 0, .int .i64 0, .string ⟨#[]⟩, .slice none 0 0]), 8, 112) := by kernel_rfl
set_option maxRecDepth 100000 in
set_option maxHeartbeats 4000000 in
theorem paListU_any {w : World} {a : Nat} {l : List Wd} {m : Int} {σ : PS} (hR : Rd w a l m 0 σ) :
    Calls Tryz.prog 44 #[.pointer (some ⟨a, 0, none⟩), .func (.func 45) #[.pointer (some ⟨a, 0, none⟩)] #[]] w (AnsL w a l m 0 σ (listP l (setP l m) σ).1 (listP l (setP l m) σ).2) := by
  have ha := hR.lt
  obtain ⟨⟨x, τ⟩, hM⟩ : ∃ y, listP l (setP l m) σ = y := ⟨_, rfl⟩
  rw [hM]
  dsimp only
  obtain ⟨⟨y0, σ1⟩, h1⟩ : ∃ y, (setP l m) σ = y := ⟨_, rfl⟩
  unfold listP at hM
  rw [h1] at hM
  dsimp only at hM
  replace hM := hid0 hM
  replace h1 := hid0 h1
  have HR := hid0 hR
  clear hR
  go_enter Tryz.func44, Tryz.ntmps44
  go_wp2_with fail
  go_at_call 45
  refine (Ans.at_ h1 (paNewValue_any HR.out)).mono ?_
  rintro e w1 ⟨us, hl, rfl, hA1, hS1⟩
  obtain ⟨u0, u1, u2, u3, u4, u5, u6, u7, rfl⟩ := len8 hl
  have hz1 := hS1.onl.size
  have hG := GrowR.first (ty := 84) hA1 hz1
  replace hS1 := hS1.alloc (Obj.cells #[u0, u1, u2, u3, u4, u5, u6, u7] 84)
  have hfew := HR.out.few
  have hrem : l.length - σ1.i ≤ l.length := Nat.sub_le _ _
  have HG : Hid (GrowR (w1.alloc (Obj.cells #[u0, u1, u2, u3, u4, u5, u6, u7] 84)) w.heap.size 84 8 (.slice (some ⟨w1.heap.size, 0, none⟩) 1 1) [y0].length [y0].flatten) := hG
  clear hG hA1
  go_wp2_with fail
  go_loopw [5] (fun lv wr => ∃ (k : Nat) (acc : List (List Lf)) (ρ : PS), Hid (moreP l [44] (setP l m) k acc ρ = (x, τ)) ∧ l.length - ρ.i ≤ k ∧ acc.length ≤ ρ.i + 1 ∧ Step w a l m 0 σ ρ wr ∧ Hid (GrowR wr w.heap.size 84 8 lv acc.length acc.flatten)) (fun _ wr => l.length - atOf wr a)
  case atStart => exact ⟨l.length, [y0], σ1, hM, hrem, by simp, hS1, HG⟩
  case round =>
    clear hM HG hS1 hrem h1
    obtain ⟨k, acc, ρ, hM, hk, hn, hS, hG⟩ := hrel
    have hat := hS.rd.at_
    rcases Bool.eq_false_or_eq_true (isP l [44] ρ) with hb | hb
    · have hmore := is_more hS.rd.ok hS.rd.hi hb
      obtain ⟨⟨y, ρ2⟩, h2⟩ : ∃ y, (setP l m) ⟨ρ.i + 1, ρ.e⟩ = y := ⟨_, rfl⟩
      obtain ⟨k, rfl⟩ : ∃ k', k = k' + 1 := ⟨k - 1, by omega⟩
      have HM := hid0 ((moreP_yes (k := k) (acc := acc) hb h2).symm.trans hM.out)
      replace h2 := hid0 h2
      replace hb := hid0 hb
      replace hat := hid0 hat
      clear hM
      obtain ⟨N, hN⟩ : ∃ N, acc.length = N := ⟨_, rfl⟩
      rw [hN] at hG hn
      replace hN := hid0 hN
      go_wp2_with fail
      go_at_call 17
      refine (paTake_yes [44] hS.rd hb.out).mono ?_
      rintro e w2 ⟨rfl, hS2⟩
      have hG2 := hid0 (hG.out.later hS2.onl ha)
      go_wp2_with fail
      go_at_call 45
      refine (Ans.at_ h2 (paNewValue_any hS2.rd)).mono ?_
      rintro e w3 ⟨us, hl, rfl, hA3, hS3⟩
      obtain ⟨u0, u1, u2, u3, u4, u5, u6, u7, rfl⟩ := len8 hl
      have hG3 := (hG2.out.later hS3.onl ha).alloc (Obj.cells #[u0, u1, u2, u3, u4, u5, u6, u7] 84)
      have HG3 := hid0 hG3
      have hfar := hid0 (fun g hg => Nat.lt_of_lt_of_le (hG2.out.far g hg) (Nat.le_refl _))
      have HA := hid0 (hA3.alloc (Obj.cells #[u0, u1, u2, u3, u4, u5, u6, u7] 84))
      have hzw := hid0 (And.intro (Nat.le_trans hS.onl.size hS2.onl.size) hS3.onl.size)
      have HST := hid0 (((hS.trans hS2).trans hS3).alloc (Obj.cells #[u0, u1, u2, u3, u4, u5, u6, u7] 84))
      have hle3 := hS3.le
      dsimp only at hle3
      clear hG hG2 hG3 hA3
      obtain ⟨i0, hi0, hz0, hz1', hz2⟩ := info_parts infoL_paListU_any
      go_wp2_with (first
        | (at_builtin; refine wp_grow rfl _ _ _ rfl w.heap.size 84 i0 (.agg #[.string ⟨#[]⟩, .int .i64 0, .string ⟨#[]⟩, .string ⟨#[]⟩, .int .i64 0, .int .i64 0, .string ⟨#[]⟩, .slice none 0 0]) 8 112 Tryz.underlying36 hi0 hz0 hz1' hz2 rfl (by decide) _ N acc.flatten rfl HG3.out w3.heap.size 1 y [u0, u1, u2, u3, u4, u5, u6, u7] rfl rfl (fun j u hj => (VarB.new w3 [u0, u1, u2, u3, u4, u5, u6, u7] 84).cell j hj) w2.heap.size HA.out hzw.out.1 hfar.out (by omega) (by unfold maxLen; omega) (by have := hzw.out; simp; omega) ?_; intro v4 w4 hG4 hO4 hb4 hf4)
        | fail)
      have hS4 := hO4 _ a HST.out.onl (Nat.le_refl _)
      have HR4 : Step w a l m 0 σ ρ2 w4 := ⟨HST.out.rd.above (hb4.mono ha), hS4, HST.out.le⟩
      go_roundw
      case rel => exact ⟨k, acc ++ [y], ρ2, HM, by omega, by rw [List.length_append, hN.out]; simp; omega, HR4, by rw [List.length_append, hN.out, List.flatten_append]; simp only [List.flatten_cons, List.flatten_nil, List.append_nil]; exact hG4⟩
      case measure => rw [hat.out, HR4.rd.at_]; omega
    · have hE := (moreP_no (k := k) (acc := acc) (one := (setP l m)) hb).symm.trans hM.out
      replace hE := hid0 hE
      replace hb := hid0 hb
      clear hM
      obtain ⟨p, c, rfl, hc⟩ := hG.out.slice
      go_wp2_with fail
      go_at_call 17
      refine (paTake_no [44] hS.rd hb.out).mono ?_
      rintro e w2 ⟨rfl, hS2⟩
      have hG2 := hid0 (hG.out.later hS2.onl ha)
      go_wp2_with fail
      go_ret
      cases hE.out
      exact ⟨p, c, rfl, hG2.out.leaf, by have := hS.rd.hi; omega, hS.trans hS2⟩
set_option maxRecDepth 100000 in
set_option maxHeartbeats 4000000 in
theorem paTuple_any {w : World} {a : Nat} {l : List Wd} {m : Int} {d : Nat} {σ : PS} (hR : Rd w a l m d σ) :
    Calls Tryz.prog 42 #[.pointer (some ⟨a, 0, none⟩)] w (AnsL w a l m d σ (tupleP l σ).1 (tupleP l σ).2) := by
  have ha := hR.lt
  have E0 := Step.refl hR
  obtain ⟨⟨x, τ⟩, hM⟩ : ∃ y, tupleP l σ = y := ⟨_, rfl⟩
  rw [hM]
  dsimp only
  obtain ⟨σ1, h1⟩ : ∃ z, need1 l [40] σ = z := ⟨_, rfl⟩
  obtain ⟨⟨y, σ2⟩, h2⟩ : ∃ z, listP l (valueP l) σ1 = z := ⟨_, rfl⟩
  obtain ⟨σ3, h3⟩ : ∃ z, need1 l [41] σ2 = z := ⟨_, rfl⟩
  obtain ⟨σ4, h4⟩ : ∃ z, withinP l y.length 8 σ3 = z := ⟨_, rfl⟩
  have hE : tupleP l σ = (y, σ4) := by simp only [tupleP, h1, h2, h3, h4]
  have HE := hid0 (hM.symm.trans hE)
  replace h1 := hid0 h1
  replace h2 := hid0 h2
  replace h3 := hid0 h3
  replace h4 := hid0 h4
  clear hM hE
  go_enter Tryz.func42, Tryz.ntmps42
  go_wp2_with fail
  go_at_call 24
  refine (paNeed1_B h1 _ _ (by simp) E0.rd).mono ?_
  rintro e w1 ⟨rfl, hS1⟩
  go_wp2_with fail
  go_at_call 60
  refine (AnsL.at_ h2 (paListV_any hS1.rd)).mono ?_
  rintro e w2 ⟨p, c, rfl, hA, hn, hS2⟩
  have hz1 := hS1.onl.size
  go_wp2_with fail
  go_at_call 24
  refine (paNeed1_B h3 _ _ (by simp) hS2.rd).mono ?_
  rintro e w3 ⟨rfl, hS3⟩
  go_wp2_with fail
  go_at_call 38
  refine (paWithin_at h4 rfl rfl hS3.rd).mono ?_
  rintro e w4 ⟨rfl, hS4⟩
  go_wp2_with fail
  go_ret
  cases HE.out
  exact ⟨p, c, rfl, ((hA.later hS3.onl (Nat.lt_of_lt_of_le ha hz1) (Nat.le_refl _)).later hS4.onl (Nat.lt_of_lt_of_le ha hz1) hz1), hn, ((hS1.trans hS2).trans hS3).trans hS4⟩
theorem paTuple1 {w : World} {a : Nat} {l : List Wd} {m : Int} {d : Nat} {σ σ' : PS} {x : List Lf} (h : Hid (tup1P l σ = (x, σ'))) (hR : Rd w a l m d σ) :
    Calls Tryz.prog 42 #[.pointer (some ⟨a, 0, none⟩)] w (AnsT w a l m d σ x σ') := by
  have h0 := h.out
  cases h0
  exact (paTuple_any hR).mono fun e w' ⟨p, c, he, hA, _, hS⟩ => ⟨_, _, _, he, .cons hA (.nil _ _), hS⟩
theorem infoL_paListT_any : (Tryz.prog.info? 23).map (fun i => (i.zero, i.size, i.bytes)) = some (some (.slice none 0 0), 1, 24) := by kernel_rfl
set_option maxRecDepth 100000 in
set_option maxHeartbeats 4000000 in
theorem paListT_any {w : World} {a : Nat} {l : List Wd} {m : Int} {d : Nat} {σ : PS} (hR : Rd w a l m d σ) :
    Calls Tryz.prog 41 #[.pointer (some ⟨a, 0, none⟩), .func (.func 42) #[.pointer (some ⟨a, 0, none⟩)] #[]] w (AnsL w a l m d σ (listP l (tup1P l) σ).1 (listP l (tup1P l) σ).2) := by
  have ha := hR.lt
  obtain ⟨⟨x, τ⟩, hM⟩ : ∃ y, listP l (tup1P l) σ = y := ⟨_, rfl⟩
  rw [hM]
  dsimp only
  obtain ⟨⟨y0, σ1⟩, h1⟩ : ∃ y, (tup1P l) σ = y := ⟨_, rfl⟩
  unfold listP at hM
  rw [h1] at hM
  dsimp only at hM
  replace hM := hid0 hM
  replace h1 := hid0 h1
  have HR := hid0 hR
  clear hR
  go_enter Tryz.func41, Tryz.ntmps41
  go_wp2_with fail
  go_at_call 42
  refine (paTuple1 h1 HR.out).mono ?_
  rintro e w1 ⟨p0, n0, c0, rfl, hA1, hS1⟩
  have hz1 := hS1.onl.size
  have hG := GrowR.first (ty := 23) hA1 hz1
  replace hS1 := hS1.alloc (Obj.cells #[.slice p0 n0 c0] 23)
  have hfew := HR.out.few
  have hrem : l.length - σ1.i ≤ l.length := Nat.sub_le _ _
  have HG : Hid (GrowR (w1.alloc (Obj.cells #[.slice p0 n0 c0] 23)) w.heap.size 23 1 (.slice (some ⟨w1.heap.size, 0, none⟩) 1 1) [y0].length [y0].flatten) := hG
  clear hG hA1
  go_wp2_with fail
  go_loopw [5] (fun lv wr => ∃ (k : Nat) (acc : List (List Lf)) (ρ : PS), Hid (moreP l [44] (tup1P l) k acc ρ = (x, τ)) ∧ l.length - ρ.i ≤ k ∧ acc.length ≤ ρ.i + 1 ∧ Step w a l m d σ ρ wr ∧ Hid (GrowR wr w.heap.size 23 1 lv acc.length acc.flatten)) (fun _ wr => l.length - atOf wr a)
  case atStart => exact ⟨l.length, [y0], σ1, hM, hrem, by simp, hS1, HG⟩
  case round =>
    clear hM HG hS1 hrem h1
    obtain ⟨k, acc, ρ, hM, hk, hn, hS, hG⟩ := hrel
    have hat := hS.rd.at_
    rcases Bool.eq_false_or_eq_true (isP l [44] ρ) with hb | hb
    · have hmore := is_more hS.rd.ok hS.rd.hi hb
      obtain ⟨⟨y, ρ2⟩, h2⟩ : ∃ y, (tup1P l) ⟨ρ.i + 1, ρ.e⟩ = y := ⟨_, rfl⟩
      obtain ⟨k, rfl⟩ : ∃ k', k = k' + 1 := ⟨k - 1, by omega⟩
      have HM := hid0 ((moreP_yes (k := k) (acc := acc) hb h2).symm.trans hM.out)
      replace h2 := hid0 h2
      replace hb := hid0 hb
      replace hat := hid0 hat
      clear hM
      obtain ⟨N, hN⟩ : ∃ N, acc.length = N := ⟨_, rfl⟩
      rw [hN] at hG hn
      replace hN := hid0 hN
      go_wp2_with fail
      go_at_call 17
      refine (paTake_yes [44] hS.rd hb.out).mono ?_
      rintro e w2 ⟨rfl, hS2⟩
      have hG2 := hid0 (hG.out.later hS2.onl ha)
      go_wp2_with fail
      go_at_call 42
      refine (paTuple1 h2 hS2.rd).mono ?_
      rintro e w3 ⟨p0, n0, c0, rfl, hA3, hS3⟩
      have hG3 := (hG2.out.later hS3.onl ha).alloc (Obj.cells #[.slice p0 n0 c0] 23)
      have HG3 := hid0 hG3
      have hfar := hid0 (fun g hg => Nat.lt_of_lt_of_le (hG2.out.far g hg) (Nat.le_refl _))
      have HA := hid0 (hA3.alloc (Obj.cells #[.slice p0 n0 c0] 23))
      have hzw := hid0 (And.intro (Nat.le_trans hS.onl.size hS2.onl.size) hS3.onl.size)
      have HST := hid0 (((hS.trans hS2).trans hS3).alloc (Obj.cells #[.slice p0 n0 c0] 23))
      have hle3 := hS3.le
      dsimp only at hle3
      clear hG hG2 hG3 hA3
      obtain ⟨i0, hi0, hz0, hz1', hz2⟩ := info_parts infoL_paListT_any
      go_wp2_with (first
        | (at_builtin; refine wp_grow rfl _ _ _ rfl w.heap.size 23 i0 (.slice none 0 0) 1 24 Tryz.underlying22 hi0 hz0 hz1' hz2 rfl (by decide) _ N acc.flatten rfl HG3.out w3.heap.size 1 y [.slice p0 n0 c0] rfl rfl (fun j u hj => (VarB.new w3 [.slice p0 n0 c0] 23).cell j hj) w2.heap.size HA.out hzw.out.1 hfar.out (by omega) (by unfold maxLen; omega) (by have := hzw.out; simp; omega) ?_; intro v4 w4 hG4 hO4 hb4 hf4)
        | fail)
      have hS4 := hO4 _ a HST.out.onl (Nat.le_refl _)
      have HR4 : Step w a l m d σ ρ2 w4 := ⟨HST.out.rd.above (hb4.mono ha), hS4, HST.out.le⟩
      go_roundw
      case rel => exact ⟨k, acc ++ [y], ρ2, HM, by omega, by rw [List.length_append, hN.out]; simp; omega, HR4, by rw [List.length_append, hN.out, List.flatten_append]; simp only [List.flatten_cons, List.flatten_nil, List.append_nil]; exact hG4⟩
      case measure => rw [hat.out, HR4.rd.at_]; omega
    · have hE := (moreP_no (k := k) (acc := acc) (one := (tup1P l)) hb).symm.trans hM.out
      replace hE := hid0 hE
      replace hb := hid0 hb
      clear hM
      obtain ⟨p, c, rfl, hc⟩ := hG.out.slice
      go_wp2_with fail
      go_at_call 17
      refine (paTake_no [44] hS.rd hb.out).mono ?_
      rintro e w2 ⟨rfl, hS2⟩
      have hG2 := hid0 (hG.out.later hS2.onl ha)
      go_wp2_with fail
      go_ret
      cases hE.out
      exact ⟨p, c, rfl, hG2.out.leaf, by have := hS.rd.hi; omega, hS.trans hS2⟩
set_option maxRecDepth 100000 in
set_option maxHeartbeats 4000000 in
theorem paKey_any {w : World} {a : Nat} {l : List Wd} {m : Int} {d : Nat} {σ : PS} (hR : Rd w a l m d σ) :
    Calls Tryz.prog 58 #[.pointer (some ⟨a, 0, none⟩)] w (AnsL w a l m d σ (keyP l σ).1 (keyP l σ).2) := by
  have ha := hR.lt
  obtain ⟨⟨x, τ⟩, hM⟩ : ∃ y, keyP l σ = y := ⟨_, rfl⟩
  rw [hM]
  dsimp only
  obtain ⟨σ1, h1⟩ : ∃ z, need1 l [40] (need1 l [107, 101, 121] σ) = z := ⟨_, rfl⟩
  obtain ⟨⟨y, σ2⟩, h2⟩ : ∃ z, listP l (fun σ => ([sL (nameP l σ).1], (nameP l σ).2)) σ1 = z := ⟨_, rfl⟩
  obtain ⟨σ3, h3⟩ : ∃ z, need1 l [41] σ2 = z := ⟨_, rfl⟩
  have hE : keyP l σ = (y, σ3) := by simp only [keyP, h1, h2, h3]
  have HE := hid0 (hM.symm.trans hE)
  have C1 := paNeed2 [107, 101, 121] [40] 9 hR
  rw [h1] at C1
  replace h1 := hid0 h1
  replace h2 := hid0 h2
  replace h3 := hid0 h3
  clear hM hE hR
  go_enter Tryz.func58, Tryz.ntmps58
  go_wp2_with fail
  go_at_call 24
  refine C1.mono ?_
  rintro e w1 ⟨rfl, hS1⟩
  go_wp2_with fail
  go_at_call 69
  refine (AnsL.at_ h2 (paListN_any hS1.rd)).mono ?_
  rintro e w2 ⟨p, c, rfl, hA, hn, hS2⟩
  have hz1 := hS1.onl.size
  go_wp2_with fail
  go_at_call 24
  refine (paNeed1_B h3 _ _ (by simp) hS2.rd).mono ?_
  rintro e w3 ⟨rfl, hS3⟩
  go_wp2_with fail
  go_ret
  cases HE.out
  exact ⟨p, c, rfl, hA.later hS3.onl (Nat.lt_of_lt_of_le ha hz1) hz1, hn, (hS1.trans hS2).trans hS3⟩
set_option maxRecDepth 1000000 in
set_option maxHeartbeats 8000000 in
theorem paCol_any {w : World} {a : Nat} {l : List Wd} {m : Int} {d : Nat} {σ : PS} (hR : Rd w a l m d σ) :
    Calls Tryz.prog 59 #[.pointer (some ⟨a, 0, none⟩)] w (Ans w a l m d σ 3 (colP l σ).1 (colP l σ).2) := by
  have E0 := hR.start zColv 105
  obtain ⟨⟨x, τ⟩, hM⟩ : ∃ y, colP l σ = y := ⟨_, rfl⟩
  rw [hM]
  dsimp only
  replace hM := hid0 hM
  have han : a < w.heap.size + 1 := Nat.lt_succ_of_lt E0.lt
  go_enter Tryz.func59, Tryz.ntmps59
  obtain ⟨⟨s, σ1⟩, h1⟩ : ∃ z, nameP l σ = z := ⟨_, rfl⟩
  replace h1 := hid0 h1
  (try go_wp2_with fail)
  go_at_call 25
  refine (paName_at h1 E0.rd).mono ?_
  rintro e w1 ⟨rfl, hS⟩
  have E1 := E0.step hS
  clear hS
  have hwB : w.heap.size < w1.heap.size := E1.z
  have haB : a < w1.heap.size := Nat.lt_trans E0.lt hwB
  have hX : VarB (w1.alloc (Obj.cells #[.string (txt s), .int .i64 0, .bool false] 105)) w1.heap.size [.string (txt s), .int .i64 0, .bool false] := VarB.new w1 [.string (txt s), .int .i64 0, .bool false] 105
  replace E1 := E1.alloc (Obj.cells #[.string (txt s), .int .i64 0, .bool false] 105)
  (try go_wp2_with fail)
  rcases Bool.eq_false_or_eq_true (isP l [105, 110, 116] σ1) with h2 | h2
  · replace h2 := hid0 h2
    (try go_wp2_with fail)
    go_at_call 17
    refine (paTake_yes [105, 110, 116] E1.rd h2.out).mono ?_
    rintro e w2 ⟨rfl, hS⟩
    have hBl := hX.lt
    replace hX := hX.later hS.onl haB
    clear hBl
    have E2 := E1.step hS
    clear hS
    have c3 := hX.cell 1 rfl
    have f3 := hX.frz 1 (by simp)
    replace hX : VarB (w2.setCell ⟨w1.heap.size, 1, none⟩ (.int .i64 1)) w1.heap.size [.string (txt s), .int .i64 1, .bool false] := hX.set (i := 1) (.int .i64 1) (by simp)
    replace E2 := E2.set 1 (.int .i64 1) hwB
    (try go_wp2_with fail)
    rcases Bool.eq_false_or_eq_true (isP l [110, 111, 116] (⟨σ1.i + 1, σ1.e⟩ : PS)) with h4 | h4
    · replace h4 := hid0 h4
      (try go_wp2_with fail)
      go_at_call 17
      refine (paTake_yes [110, 111, 116] E2.rd h4.out).mono ?_
      rintro e w3 ⟨rfl, hS⟩
      have hBl := hX.lt
      replace hX := hX.later hS.onl haB
      clear hBl
      have E3 := E2.step hS
      clear hS
      obtain ⟨σ5, h5⟩ : ∃ z, need1 l [110, 117, 108, 108] (⟨(⟨σ1.i + 1, σ1.e⟩ : PS).i + 1, (⟨σ1.i + 1, σ1.e⟩ : PS).e⟩ : PS) = z := ⟨_, rfl⟩
      replace h5 := hid0 h5
      (try go_wp2_with fail)
      go_at_call 24
      refine (paNeed1_B h5 _ _ (by simp) E3.rd).mono ?_
      rintro e w4 ⟨rfl, hS⟩
      have hBl := hX.lt
      replace hX := hX.later hS.onl haB
      clear hBl
      have E4 := E3.step hS
      clear hS
      have c6 := hX.cell 2 rfl
      have f6 := hX.frz 2 (by simp)
      replace hX : VarB (w4.setCell ⟨w1.heap.size, 2, none⟩ (.bool true)) w1.heap.size [.string (txt s), .int .i64 1, .bool true] := hX.set (i := 2) (.bool true) (by simp)
      replace E4 := E4.set 2 (.bool true) hwB
      have hL : LsAt (w4.setCell ⟨w1.heap.size, 2, none⟩ (.bool true)) (fr (w.heap.size + 1)) ([sL s, iL 1, .v (.bool true)]) [.string (txt s), .int .i64 1, .bool true] := .cons (.str _ _ _ rfl) (.cons (.lit _ _ rfl) (.cons (.v _ rfl) (.nil _ _)))
      go_wp2_with (first | ((with_reducible refine wp_getB hX Tryz.underlying105 ?_ ?_ ?_ ?_); (rfl); (exact infoCol); (rfl)) | ((with_reducible refine wp_putB E4.res hL ?_ ?_ ?_ ?_ ?_); (rfl); (exact infoCol); (rfl); (rfl); intro w0 hV0 hw0; simp only [Act.put]) | fail)
      have hE : colP l σ = ([sL s, iL 1, .v (.bool true)], σ5) := by simp only [colP, typeP, mustP, h1.out, h2.out, h4.out, h5.out, if_true]
      cases hM.out.symm.trans hE
      exact end_blk hV0 rfl rfl _ Tryz.underlying105 rfl infoCol rfl (E4.fin hL rfl hw0.out)
    · replace h4 := hid0 h4
      (try go_wp2_with fail)
      go_at_call 17
      refine (paTake_no [110, 111, 116] E2.rd h4.out).mono ?_
      rintro e w5 ⟨rfl, hS⟩
      have hBl := hX.lt
      replace hX := hX.later hS.onl haB
      clear hBl
      have E5 := E2.step hS
      clear hS
      have hL : LsAt w5 (fr (w.heap.size + 1)) ([sL s, iL 1, .v (.bool false)]) [.string (txt s), .int .i64 1, .bool false] := .cons (.str _ _ _ rfl) (.cons (.lit _ _ rfl) (.cons (.v _ rfl) (.nil _ _)))
      go_wp2_with (first | ((with_reducible refine wp_getB hX Tryz.underlying105 ?_ ?_ ?_ ?_); (rfl); (exact infoCol); (rfl)) | ((with_reducible refine wp_putB E5.res hL ?_ ?_ ?_ ?_ ?_); (rfl); (exact infoCol); (rfl); (rfl); intro w0 hV0 hw0; simp only [Act.put]) | fail)
      have hE : colP l σ = ([sL s, iL 1, .v (.bool false)], (⟨σ1.i + 1, σ1.e⟩ : PS)) := by simp only [colP, typeP, mustP, h1.out, h2.out, h4.out, Bool.false_eq_true, if_false, if_true]
      cases hM.out.symm.trans hE
      exact end_blk hV0 rfl rfl _ Tryz.underlying105 rfl infoCol rfl (E5.fin hL rfl hw0.out)
  · replace h2 := hid0 h2
    (try go_wp2_with fail)
    go_at_call 17
    refine (paTake_no [105, 110, 116] E1.rd h2.out).mono ?_
    rintro e w6 ⟨rfl, hS⟩
    have hBl := hX.lt
    replace hX := hX.later hS.onl haB
    clear hBl
    have E6 := E1.step hS
    clear hS
    (try go_wp2_with fail)
    rcases Bool.eq_false_or_eq_true (isP l [98, 111, 111, 108] σ1) with h7 | h7
    · replace h7 := hid0 h7
      (try go_wp2_with fail)
      go_at_call 17
      refine (paTake_yes [98, 111, 111, 108] E6.rd h7.out).mono ?_
      rintro e w7 ⟨rfl, hS⟩
      have hBl := hX.lt
      replace hX := hX.later hS.onl haB
      clear hBl
      have E7 := E6.step hS
      clear hS
      have c8 := hX.cell 1 rfl
      have f8 := hX.frz 1 (by simp)
      replace hX : VarB (w7.setCell ⟨w1.heap.size, 1, none⟩ (.int .i64 2)) w1.heap.size [.string (txt s), .int .i64 2, .bool false] := hX.set (i := 1) (.int .i64 2) (by simp)
      replace E7 := E7.set 1 (.int .i64 2) hwB
      (try go_wp2_with fail)
      rcases Bool.eq_false_or_eq_true (isP l [110, 111, 116] (⟨σ1.i + 1, σ1.e⟩ : PS)) with h9 | h9
      · replace h9 := hid0 h9
        (try go_wp2_with fail)
        go_at_call 17
        refine (paTake_yes [110, 111, 116] E7.rd h9.out).mono ?_
        rintro e w8 ⟨rfl, hS⟩
        have hBl := hX.lt
        replace hX := hX.later hS.onl haB
        clear hBl
        have E8 := E7.step hS
        clear hS
        obtain ⟨σ10, h10⟩ : ∃ z, need1 l [110, 117, 108, 108] (⟨(⟨σ1.i + 1, σ1.e⟩ : PS).i + 1, (⟨σ1.i + 1, σ1.e⟩ : PS).e⟩ : PS) = z := ⟨_, rfl⟩
        replace h10 := hid0 h10
        (try go_wp2_with fail)
        go_at_call 24
        refine (paNeed1_B h10 _ _ (by simp) E8.rd).mono ?_
        rintro e w9 ⟨rfl, hS⟩
        have hBl := hX.lt
        replace hX := hX.later hS.onl haB
        clear hBl
        have E9 := E8.step hS
        clear hS
        have c11 := hX.cell 2 rfl
        have f11 := hX.frz 2 (by simp)
        replace hX : VarB (w9.setCell ⟨w1.heap.size, 2, none⟩ (.bool true)) w1.heap.size [.string (txt s), .int .i64 2, .bool true] := hX.set (i := 2) (.bool true) (by simp)
        replace E9 := E9.set 2 (.bool true) hwB
        have hL : LsAt (w9.setCell ⟨w1.heap.size, 2, none⟩ (.bool true)) (fr (w.heap.size + 1)) ([sL s, iL 2, .v (.bool true)]) [.string (txt s), .int .i64 2, .bool true] := .cons (.str _ _ _ rfl) (.cons (.lit _ _ rfl) (.cons (.v _ rfl) (.nil _ _)))
        go_wp2_with (first | ((with_reducible refine wp_getB hX Tryz.underlying105 ?_ ?_ ?_ ?_); (rfl); (exact infoCol); (rfl)) | ((with_reducible refine wp_putB E9.res hL ?_ ?_ ?_ ?_ ?_); (rfl); (exact infoCol); (rfl); (rfl); intro w0 hV0 hw0; simp only [Act.put]) | fail)
        have hE : colP l σ = ([sL s, iL 2, .v (.bool true)], σ10) := by simp only [colP, typeP, mustP, h1.out, h2.out, h7.out, h9.out, h10.out, Bool.false_eq_true, if_false, if_true]
        cases hM.out.symm.trans hE
        exact end_blk hV0 rfl rfl _ Tryz.underlying105 rfl infoCol rfl (E9.fin hL rfl hw0.out)
      · replace h9 := hid0 h9
        (try go_wp2_with fail)
        go_at_call 17
        refine (paTake_no [110, 111, 116] E7.rd h9.out).mono ?_
        rintro e w10 ⟨rfl, hS⟩
        have hBl := hX.lt
        replace hX := hX.later hS.onl haB
        clear hBl
        have E10 := E7.step hS
        clear hS
        have hL : LsAt w10 (fr (w.heap.size + 1)) ([sL s, iL 2, .v (.bool false)]) [.string (txt s), .int .i64 2, .bool false] := .cons (.str _ _ _ rfl) (.cons (.lit _ _ rfl) (.cons (.v _ rfl) (.nil _ _)))
        go_wp2_with (first | ((with_reducible refine wp_getB hX Tryz.underlying105 ?_ ?_ ?_ ?_); (rfl); (exact infoCol); (rfl)) | ((with_reducible refine wp_putB E10.res hL ?_ ?_ ?_ ?_ ?_); (rfl); (exact infoCol); (rfl); (rfl); intro w0 hV0 hw0; simp only [Act.put]) | fail)
        have hE : colP l σ = ([sL s, iL 2, .v (.bool false)], (⟨σ1.i + 1, σ1.e⟩ : PS)) := by simp only [colP, typeP, mustP, h1.out, h2.out, h7.out, h9.out, Bool.false_eq_true, if_false, if_true]
        cases hM.out.symm.trans hE
        exact end_blk hV0 rfl rfl _ Tryz.underlying105 rfl infoCol rfl (E10.fin hL rfl hw0.out)
    · replace h7 := hid0 h7
      (try go_wp2_with fail)
      go_at_call 17
      refine (paTake_no [98, 111, 111, 108] E6.rd h7.out).mono ?_
      rintro e w11 ⟨rfl, hS⟩
      have hBl := hX.lt
      replace hX := hX.later hS.onl haB
      clear hBl
      have E11 := E6.step hS
      clear hS
      (try go_wp2_with fail)
      rcases Bool.eq_false_or_eq_true (isP l [116, 101, 120, 116] σ1) with h12 | h12
      · replace h12 := hid0 h12
        (try go_wp2_with fail)
        go_at_call 17
        refine (paTake_yes [116, 101, 120, 116] E11.rd h12.out).mono ?_
        rintro e w12 ⟨rfl, hS⟩
        have hBl := hX.lt
        replace hX := hX.later hS.onl haB
        clear hBl
        have E12 := E11.step hS
        clear hS
        have c13 := hX.cell 1 rfl
        have f13 := hX.frz 1 (by simp)
        replace hX : VarB (w12.setCell ⟨w1.heap.size, 1, none⟩ (.int .i64 3)) w1.heap.size [.string (txt s), .int .i64 3, .bool false] := hX.set (i := 1) (.int .i64 3) (by simp)
        replace E12 := E12.set 1 (.int .i64 3) hwB
        (try go_wp2_with fail)
        rcases Bool.eq_false_or_eq_true (isP l [110, 111, 116] (⟨σ1.i + 1, σ1.e⟩ : PS)) with h14 | h14
        · replace h14 := hid0 h14
          (try go_wp2_with fail)
          go_at_call 17
          refine (paTake_yes [110, 111, 116] E12.rd h14.out).mono ?_
          rintro e w13 ⟨rfl, hS⟩
          have hBl := hX.lt
          replace hX := hX.later hS.onl haB
          clear hBl
          have E13 := E12.step hS
          clear hS
          obtain ⟨σ15, h15⟩ : ∃ z, need1 l [110, 117, 108, 108] (⟨(⟨σ1.i + 1, σ1.e⟩ : PS).i + 1, (⟨σ1.i + 1, σ1.e⟩ : PS).e⟩ : PS) = z := ⟨_, rfl⟩
          replace h15 := hid0 h15
          (try go_wp2_with fail)
          go_at_call 24
          refine (paNeed1_B h15 _ _ (by simp) E13.rd).mono ?_
          rintro e w14 ⟨rfl, hS⟩
          have hBl := hX.lt
          replace hX := hX.later hS.onl haB
          clear hBl
          have E14 := E13.step hS
          clear hS
          have c16 := hX.cell 2 rfl
          have f16 := hX.frz 2 (by simp)
          replace hX : VarB (w14.setCell ⟨w1.heap.size, 2, none⟩ (.bool true)) w1.heap.size [.string (txt s), .int .i64 3, .bool true] := hX.set (i := 2) (.bool true) (by simp)
          replace E14 := E14.set 2 (.bool true) hwB
          have hL : LsAt (w14.setCell ⟨w1.heap.size, 2, none⟩ (.bool true)) (fr (w.heap.size + 1)) ([sL s, iL 3, .v (.bool true)]) [.string (txt s), .int .i64 3, .bool true] := .cons (.str _ _ _ rfl) (.cons (.lit _ _ rfl) (.cons (.v _ rfl) (.nil _ _)))
          go_wp2_with (first | ((with_reducible refine wp_getB hX Tryz.underlying105 ?_ ?_ ?_ ?_); (rfl); (exact infoCol); (rfl)) | ((with_reducible refine wp_putB E14.res hL ?_ ?_ ?_ ?_ ?_); (rfl); (exact infoCol); (rfl); (rfl); intro w0 hV0 hw0; simp only [Act.put]) | fail)
          have hE : colP l σ = ([sL s, iL 3, .v (.bool true)], σ15) := by simp only [colP, typeP, mustP, h1.out, h2.out, h7.out, h12.out, h14.out, h15.out, Bool.false_eq_true, if_false, if_true]
          cases hM.out.symm.trans hE
          exact end_blk hV0 rfl rfl _ Tryz.underlying105 rfl infoCol rfl (E14.fin hL rfl hw0.out)
        · replace h14 := hid0 h14
          (try go_wp2_with fail)
          go_at_call 17
          refine (paTake_no [110, 111, 116] E12.rd h14.out).mono ?_
          rintro e w15 ⟨rfl, hS⟩
          have hBl := hX.lt
          replace hX := hX.later hS.onl haB
          clear hBl
          have E15 := E12.step hS
          clear hS
          have hL : LsAt w15 (fr (w.heap.size + 1)) ([sL s, iL 3, .v (.bool false)]) [.string (txt s), .int .i64 3, .bool false] := .cons (.str _ _ _ rfl) (.cons (.lit _ _ rfl) (.cons (.v _ rfl) (.nil _ _)))
          go_wp2_with (first | ((with_reducible refine wp_getB hX Tryz.underlying105 ?_ ?_ ?_ ?_); (rfl); (exact infoCol); (rfl)) | ((with_reducible refine wp_putB E15.res hL ?_ ?_ ?_ ?_ ?_); (rfl); (exact infoCol); (rfl); (rfl); intro w0 hV0 hw0; simp only [Act.put]) | fail)
          have hE : colP l σ = ([sL s, iL 3, .v (.bool false)], (⟨σ1.i + 1, σ1.e⟩ : PS)) := by simp only [colP, typeP, mustP, h1.out, h2.out, h7.out, h12.out, h14.out, Bool.false_eq_true, if_false, if_true]
          cases hM.out.symm.trans hE
          exact end_blk hV0 rfl rfl _ Tryz.underlying105 rfl infoCol rfl (E15.fin hL rfl hw0.out)
      · replace h12 := hid0 h12
        (try go_wp2_with fail)
        go_at_call 17
        refine (paTake_no [116, 101, 120, 116] E11.rd h12.out).mono ?_
        rintro e w16 ⟨rfl, hS⟩
        have hBl := hX.lt
        replace hX := hX.later hS.onl haB
        clear hBl
        have E16 := E11.step hS
        clear hS
        obtain ⟨σ17, h17⟩ : ∃ z, faultP l 4 σ1 = z := ⟨_, rfl⟩
        replace h17 := hid0 h17
        (try go_wp2_with fail)
        go_at_call 27
        refine (paFault_at 4 h17 E16.rd (by decide)).mono ?_
        rintro e w17 ⟨rfl, hS⟩
        have hBl := hX.lt
        replace hX := hX.later hS.onl haB
        clear hBl
        have E17 := E16.step hS
        clear hS
        (try go_wp2_with fail)
        rcases Bool.eq_false_or_eq_true (isP l [110, 111, 116] σ17) with h18 | h18
        · replace h18 := hid0 h18
          (try go_wp2_with fail)
          go_at_call 17
          refine (paTake_yes [110, 111, 116] E17.rd h18.out).mono ?_
          rintro e w18 ⟨rfl, hS⟩
          have hBl := hX.lt
          replace hX := hX.later hS.onl haB
          clear hBl
          have E18 := E17.step hS
          clear hS
          obtain ⟨σ19, h19⟩ : ∃ z, need1 l [110, 117, 108, 108] (⟨σ17.i + 1, σ17.e⟩ : PS) = z := ⟨_, rfl⟩
          replace h19 := hid0 h19
          (try go_wp2_with fail)
          go_at_call 24
          refine (paNeed1_B h19 _ _ (by simp) E18.rd).mono ?_
          rintro e w19 ⟨rfl, hS⟩
          have hBl := hX.lt
          replace hX := hX.later hS.onl haB
          clear hBl
          have E19 := E18.step hS
          clear hS
          have c20 := hX.cell 2 rfl
          have f20 := hX.frz 2 (by simp)
          replace hX : VarB (w19.setCell ⟨w1.heap.size, 2, none⟩ (.bool true)) w1.heap.size [.string (txt s), .int .i64 0, .bool true] := hX.set (i := 2) (.bool true) (by simp)
          replace E19 := E19.set 2 (.bool true) hwB
          have hL : LsAt (w19.setCell ⟨w1.heap.size, 2, none⟩ (.bool true)) (fr (w.heap.size + 1)) ([sL s, iL 0, .v (.bool true)]) [.string (txt s), .int .i64 0, .bool true] := .cons (.str _ _ _ rfl) (.cons (.lit _ _ rfl) (.cons (.v _ rfl) (.nil _ _)))
          go_wp2_with (first | ((with_reducible refine wp_getB hX Tryz.underlying105 ?_ ?_ ?_ ?_); (rfl); (exact infoCol); (rfl)) | ((with_reducible refine wp_putB E19.res hL ?_ ?_ ?_ ?_ ?_); (rfl); (exact infoCol); (rfl); (rfl); intro w0 hV0 hw0; simp only [Act.put]) | fail)
          have hE : colP l σ = ([sL s, iL 0, .v (.bool true)], σ19) := by simp only [colP, typeP, mustP, h1.out, h2.out, h7.out, h12.out, h17.out, h18.out, h19.out, Bool.false_eq_true, if_false, if_true]
          cases hM.out.symm.trans hE
          exact end_blk hV0 rfl rfl _ Tryz.underlying105 rfl infoCol rfl (E19.fin hL rfl hw0.out)
        · replace h18 := hid0 h18
          (try go_wp2_with fail)
          go_at_call 17
          refine (paTake_no [110, 111, 116] E17.rd h18.out).mono ?_
          rintro e w20 ⟨rfl, hS⟩
          have hBl := hX.lt
          replace hX := hX.later hS.onl haB
          clear hBl
          have E20 := E17.step hS
          clear hS
          have hL : LsAt w20 (fr (w.heap.size + 1)) ([sL s, iL 0, .v (.bool false)]) [.string (txt s), .int .i64 0, .bool false] := .cons (.str _ _ _ rfl) (.cons (.lit _ _ rfl) (.cons (.v _ rfl) (.nil _ _)))
          go_wp2_with (first | ((with_reducible refine wp_getB hX Tryz.underlying105 ?_ ?_ ?_ ?_); (rfl); (exact infoCol); (rfl)) | ((with_reducible refine wp_putB E20.res hL ?_ ?_ ?_ ?_ ?_); (rfl); (exact infoCol); (rfl); (rfl); intro w0 hV0 hw0; simp only [Act.put]) | fail)
          have hE : colP l σ = ([sL s, iL 0, .v (.bool false)], σ17) := by simp only [colP, typeP, mustP, h1.out, h2.out, h7.out, h12.out, h17.out, h18.out, Bool.false_eq_true, if_false]
          cases hM.out.symm.trans hE
          exact end_blk hV0 rfl rfl _ Tryz.underlying105 rfl infoCol rfl (E20.fin hL rfl hw0.out)
end Go.Proofs.YtneebnankghhgacGreatDoor
