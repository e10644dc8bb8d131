/- Several of my texts laid together, each as it was: Gu, Gv, Gw, Gx, Gy, Gz. Conditions: each names its own. -/
import Derived.Test.YtneebnankghhgacGreatDoorGC
import Derived.Lib.MinMax
import Derived.Deep.RegionHeld3
/- The project's parser: a mode, a choice, a view, an insertion, a deletion, an update, a refresh, what is dropped, what is set: contracts of the calls, in whatever memory that holds a reader. Conditions: none besides. -/
namespace Go.Proofs.YtneebnankghhgacGreatDoor
open Go.RowKit

set_option maxRecDepth 100000 in
set_option maxHeartbeats 2000000 in
theorem paMode_at {w : World} {a : Nat} {l : List Wd} {m : Int} {d : Nat} {σ : PS} {n : Nat} {σ' : PS} (hM : Hid (modeP l σ = (n, σ'))) (hR : Rd w a l m d σ) :
    Calls Tryz.prog 46 #[.pointer (some ⟨a, 0, none⟩)] w fun e w' => e = .returned (.int .i64 (n : Int)) ∧ Step w a l m d σ σ' w' := by
  have E0 := Step.refl hR
  go_enter Tryz.func46, Tryz.ntmps46
  rcases Bool.eq_false_or_eq_true (isP l [102, 97, 115, 116] σ) with h1 | h1
  · replace h1 := hid0 h1
    go_wp2_with fail
    go_at_call 17
    refine (paTake_yes [102, 97, 115, 116] E0.rd h1.out).mono ?_
    rintro e w1 ⟨rfl, hS⟩
    have E1 := E0.step hS
    clear hS
    go_wp2_with fail
    have hE : modeP l σ = (1, (⟨σ.i + 1, σ.e⟩ : PS)) := by simp only [modeP, h1.out, if_true]
    cases hM.out.symm.trans hE
    go_ret
    exact ⟨rfl, E1⟩
  · replace h1 := hid0 h1
    go_wp2_with fail
    go_at_call 17
    refine (paTake_no [102, 97, 115, 116] E0.rd h1.out).mono ?_
    rintro e w1 ⟨rfl, hS⟩
    have E1 := E0.step hS
    clear hS
    rcases Bool.eq_false_or_eq_true (isP l [99, 111, 109, 112, 108, 101, 116, 101] σ) with h3 | h3
    · replace h3 := hid0 h3
      go_wp2_with fail
      go_at_call 17
      refine (paTake_yes [99, 111, 109, 112, 108, 101, 116, 101] E1.rd h3.out).mono ?_
      rintro e w2 ⟨rfl, hS⟩
      have E2 := E1.step hS
      clear hS
      go_wp2_with fail
      have hE : modeP l σ = (2, (⟨σ.i + 1, σ.e⟩ : PS)) := by simp only [modeP, h1.out, h3.out, Bool.false_eq_true, if_false, if_true]
      cases hM.out.symm.trans hE
      go_ret
      exact ⟨rfl, E2⟩
    · replace h3 := hid0 h3
      go_wp2_with fail
      go_at_call 17
      refine (paTake_no [99, 111, 109, 112, 108, 101, 116, 101] E1.rd h3.out).mono ?_
      rintro e w2 ⟨rfl, hS⟩
      have E2 := E1.step hS
      clear hS
      rcases Bool.eq_false_or_eq_true (isP l [102, 111, 114, 99, 101] σ) with h5 | h5
      · replace h5 := hid0 h5
        go_wp2_with fail
        go_at_call 17
        refine (paTake_yes [102, 111, 114, 99, 101] E2.rd h5.out).mono ?_
        rintro e w3 ⟨rfl, hS⟩
        have E3 := E2.step hS
        clear hS
        go_wp2_with fail
        have hE : modeP l σ = (3, (⟨σ.i + 1, σ.e⟩ : PS)) := by simp only [modeP, h1.out, h3.out, h5.out, Bool.false_eq_true, if_false, if_true]
        cases hM.out.symm.trans hE
        go_ret
        exact ⟨rfl, E3⟩
      · replace h5 := hid0 h5
        go_wp2_with fail
        go_at_call 17
        refine (paTake_no [102, 111, 114, 99, 101] E2.rd h5.out).mono ?_
        rintro e w3 ⟨rfl, hS⟩
        have E3 := E2.step hS
        clear hS
        go_wp2_with fail
        have hE : modeP l σ = (0, σ) := by simp only [modeP, h1.out, h3.out, h5.out, Bool.false_eq_true, if_false]
        cases hM.out.symm.trans hE
        go_ret
        exact ⟨rfl, E3⟩
set_option maxRecDepth 100000 in
set_option maxHeartbeats 2000000 in
theorem paChoice_at {w : World} {a : Nat} {l : List Wd} {m : Int} {d : Nat} {σ : PS} {n : Nat} {σ' : PS} {s t : List UInt8} (hM : Hid (choiceP l s t σ = (n, σ'))) (hR : Rd w a l m d σ) :
    Calls Tryz.prog 48 #[.pointer (some ⟨a, 0, none⟩), .string (txt s), .string (txt t)] w fun e w' => e = .returned (.int .i64 (n : Int)) ∧ Step w a l m d σ σ' w' := by
  have E0 := Step.refl hR
  go_enter Tryz.func48, Tryz.ntmps48
  rcases Bool.eq_false_or_eq_true (isP l s σ) with hb | hb
  · have hE : choiceP l s t σ = (0, ⟨σ.i + 1, σ.e⟩) := by simp only [choiceP, hb, if_true]
    replace hE := hid0 (hM.out.symm.trans hE)
    replace hb := hid0 hb
    go_wp2_with fail
    go_at_call 17
    refine (paTake_yes s E0.rd hb.out).mono ?_
    rintro e w1 ⟨rfl, hS⟩
    go_wp2_with fail
    cases hE.out
    go_ret
    exact ⟨rfl, hS⟩
  · obtain ⟨σ1, h1⟩ : ∃ z, need1 l t σ = z := ⟨_, rfl⟩
    have hE : choiceP l s t σ = (1, σ1) := by simp only [choiceP, hb, h1, if_false, Bool.false_eq_true]
    replace hE := hid0 (hM.out.symm.trans hE)
    replace hb := hid0 hb
    replace h1 := hid0 h1
    go_wp2_with fail
    go_at_call 17
    refine (paTake_no s E0.rd hb.out).mono ?_
    rintro e w1 ⟨rfl, hS⟩
    go_wp2_with fail
    go_at_call 24
    refine (paNeed1_B h1 _ _ (by simp) hS.rd).mono ?_
    rintro e w2 ⟨rfl, hS2⟩
    go_wp2_with fail
    cases hE.out
    go_ret
    exact ⟨rfl, hS.trans hS2⟩
set_option maxRecDepth 1000000 in
set_option maxHeartbeats 8000000 in
theorem paView_any {w : World} {a : Nat} {l : List Wd} {m : Int} {σ : PS} (hR : Rd w a l m 0 σ) :
    Calls Tryz.prog 40 #[.pointer (some ⟨a, 0, none⟩)] w (Ans w a l m 0 σ 26 (stP (viewP l m σ)).1 (stP (viewP l m σ)).2) := by
  have E0 := hR.start zStv 44
  obtain ⟨⟨x, τ⟩, hM⟩ : ∃ y, stP (viewP l m σ) = y := ⟨_, rfl⟩
  rw [hM]
  dsimp only
  replace hM := hid0 hM
  have han : a < w.heap.size + 1 := Nat.lt_succ_of_lt E0.lt
  go_enter Tryz.func40, Tryz.ntmps40
  obtain ⟨⟨s, σ1⟩, h1⟩ : ∃ z, nameP l σ = z := ⟨_, rfl⟩
  replace h1 := hid0 h1
  (try go_wp2_with fail)
  go_at_call 25
  refine (paName_at h1 E0.rd).mono ?_
  rintro e w1 ⟨rfl, hS⟩
  have E1 := E0.step hS
  clear hS
  have hwB : w.heap.size < w1.heap.size := E1.z
  have haB : a < w1.heap.size := Nat.lt_trans E0.lt hwB
  have hX0 : VarB (w1.alloc (Obj.cells #[.int .i64 0, .string ⟨#[]⟩, .slice none 0 0, .slice none 0 0, .slice none 0 0, .int .i64 0, .slice none 0 0, .slice none 0 0, .int .i64 0, .int .i64 0, .int .i64 0, .string ⟨#[]⟩, .string ⟨#[]⟩, .int .i64 0, .int .i64 0, .string ⟨#[]⟩, .slice none 0 0, .int .i64 0, .string ⟨#[]⟩, .string ⟨#[]⟩, .int .i64 0, .int .i64 0, .string ⟨#[]⟩, .slice none 0 0, .slice none 0 0, .int .i64 0] 44)) w1.heap.size zStv := VarB.new w1 zStv 44
  have hL0 : LsAt (w1.alloc (Obj.cells #[.int .i64 0, .string ⟨#[]⟩, .slice none 0 0, .slice none 0 0, .slice none 0 0, .int .i64 0, .slice none 0 0, .slice none 0 0, .int .i64 0, .int .i64 0, .int .i64 0, .string ⟨#[]⟩, .string ⟨#[]⟩, .int .i64 0, .int .i64 0, .string ⟨#[]⟩, .slice none 0 0, .int .i64 0, .string ⟨#[]⟩, .string ⟨#[]⟩, .int .i64 0, .int .i64 0, .string ⟨#[]⟩, .slice none 0 0, .slice none 0 0, .int .i64 0] 44)) (frx (w.heap.size + 1) w1.heap.size) ([.int .i64 6, .string (txt s), .slice none 0 0, .slice none 0 0, .slice none 0 0, .int .i64 0, .slice none 0 0, .slice none 0 0, .int .i64 0, .int .i64 0, .int .i64 0, .string ⟨#[]⟩, .string ⟨#[]⟩, .int .i64 0, .int .i64 0, .string ⟨#[]⟩, .slice none 0 0, .int .i64 0, .string ⟨#[]⟩, .string ⟨#[]⟩, .int .i64 0, .int .i64 0, .string ⟨#[]⟩, .slice none 0 0, .slice none 0 0, .int .i64 0].map Lf.v) [.int .i64 6, .string (txt s), .slice none 0 0, .slice none 0 0, .slice none 0 0, .int .i64 0, .slice none 0 0, .slice none 0 0, .int .i64 0, .int .i64 0, .int .i64 0, .string ⟨#[]⟩, .string ⟨#[]⟩, .int .i64 0, .int .i64 0, .string ⟨#[]⟩, .slice none 0 0, .int .i64 0, .string ⟨#[]⟩, .string ⟨#[]⟩, .int .i64 0, .int .i64 0, .string ⟨#[]⟩, .slice none 0 0, .slice none 0 0, .int .i64 0] := LsAt.vs rfl
  replace E1 := E1.alloc (Obj.cells #[.int .i64 0, .string ⟨#[]⟩, .slice none 0 0, .slice none 0 0, .slice none 0 0, .int .i64 0, .slice none 0 0, .slice none 0 0, .int .i64 0, .int .i64 0, .int .i64 0, .string ⟨#[]⟩, .string ⟨#[]⟩, .int .i64 0, .int .i64 0, .string ⟨#[]⟩, .slice none 0 0, .int .i64 0, .string ⟨#[]⟩, .string ⟨#[]⟩, .int .i64 0, .int .i64 0, .string ⟨#[]⟩, .slice none 0 0, .slice none 0 0, .int .i64 0] 44)
  go_wp2_with (first | ((with_reducible refine wp_putB hX0 hL0 ?_ ?_ ?_ ?_ ?_); (rfl); (exact infoSt); (rfl); (rfl); intro w2 hX hw; simp only [Act.put]) | fail)
  replace E1 : Env w a l m 0 σ σ1 zStv w2 := by rw [hw.out]; exact E1.puts 0 _ hwB
  clear hw hL0 hX0
  obtain ⟨σ2, h2⟩ : ∃ z, need1 l [114, 101, 102, 114, 101, 115, 104] σ1 = z := ⟨_, rfl⟩
  replace h2 := hid0 h2
  (try go_wp2_with fail)
  go_at_call 24
  refine (paNeed1_B h2 _ _ (by simp) E1.rd).mono ?_
  rintro e w3 ⟨rfl, hS⟩
  have hBl := hX.lt
  replace hX := hX.later hS.onl haB
  clear hBl
  have E3 := E1.step hS
  clear hS
  obtain ⟨⟨mo, σ3⟩, h3⟩ : ∃ z, modeP l σ2 = z := ⟨_, rfl⟩
  replace h3 := hid0 h3
  (try go_wp2_with fail)
  go_at_call 46
  refine (paMode_at h3 E3.rd).mono ?_
  rintro e w4 ⟨rfl, hS⟩
  have hBl := hX.lt
  replace hX := hX.later hS.onl haB
  clear hBl
  have E4 := E3.step hS
  clear hS
  have c4 := hX.cell 5 rfl
  have f4 := hX.frz 5 (by simp)
  replace hX : VarB (w4.setCell ⟨w1.heap.size, 5, none⟩ (.int .i64 (mo : Int))) w1.heap.size [.int .i64 6, .string (txt s), .slice none 0 0, .slice none 0 0, .slice none 0 0, .int .i64 (mo : Int), .slice none 0 0, .slice none 0 0, .int .i64 0, .int .i64 0, .int .i64 0, .string ⟨#[]⟩, .string ⟨#[]⟩, .int .i64 0, .int .i64 0, .string ⟨#[]⟩, .slice none 0 0, .int .i64 0, .string ⟨#[]⟩, .string ⟨#[]⟩, .int .i64 0, .int .i64 0, .string ⟨#[]⟩, .slice none 0 0, .slice none 0 0, .int .i64 0] := hX.set (i := 5) (.int .i64 (mo : Int)) (by simp)
  replace E4 := E4.set 5 (.int .i64 (mo : Int)) hwB
  have cm := hX.cell 5 rfl
  rcases Nat.eq_zero_or_pos mo with hm0 | hm0
  · subst hm0
    (try go_wp2_with fail)
    obtain ⟨σ5, h5⟩ : ∃ z, faultP l 4 σ3 = z := ⟨_, rfl⟩
    have hm9 : emptyP l 0 σ3 = σ5 := by rw [← h5]; rfl
    replace hm9 := hid0 hm9
    replace h5 := hid0 h5
    (try go_wp2_with fail)
    go_at_call 27
    refine (paFault_at 4 h5 E4.rd (by decide)).mono ?_
    rintro e w5 ⟨rfl, hS⟩
    have hBl := hX.lt
    replace hX := hX.later hS.onl haB
    clear hBl
    have E5 := E4.step hS
    clear hS
    obtain ⟨σ6, h6⟩ : ∃ z, need1 l [97, 115] σ5 = z := ⟨_, rfl⟩
    replace h6 := hid0 h6
    (try go_wp2_with fail)
    go_at_call 24
    refine (paNeed1_B h6 _ _ (by simp) E5.rd).mono ?_
    rintro e w6 ⟨rfl, hS⟩
    have hBl := hX.lt
    replace hX := hX.later hS.onl haB
    clear hBl
    have E6 := E5.step hS
    clear hS
    obtain ⟨⟨qs, σ7⟩, h7⟩ : ∃ z, queryP l m σ6 = z := ⟨_, rfl⟩
    replace h7 := hid0 h7
    (try go_wp2_with fail)
    go_at_call 16
    refine (AnsQ.at_ h7 (paQuery_any E6.rd)).mono ?_
    rintro e w7 ⟨pqs, cqs, rfl, hA0, nqs, hS⟩
    have hA := LsAt.cons hA0 (LsAt.nil _ _)
    clear hA0
    have hBl := hX.lt
    have Aqs : LsAt w7 (frx (w.heap.size + 1) w1.heap.size) ([rL qs]) [.slice pqs qs.length cqs] := hA.tox hBl E6.z
    replace hX := hX.later hS.onl haB
    clear hBl
    have E7 := E6.step hS
    clear hA
    clear hS
    have c8 := hX.cell 4 rfl
    have f8 := hX.frz 4 (by simp)
    replace hX : VarB (w7.setCell ⟨w1.heap.size, 4, none⟩ (.slice pqs qs.length cqs)) w1.heap.size [.int .i64 6, .string (txt s), .slice none 0 0, .slice none 0 0, .slice pqs qs.length cqs, .int .i64 ((0 : Nat) : Int), .slice none 0 0, .slice none 0 0, .int .i64 0, .int .i64 0, .int .i64 0, .string ⟨#[]⟩, .string ⟨#[]⟩, .int .i64 0, .int .i64 0, .string ⟨#[]⟩, .slice none 0 0, .int .i64 0, .string ⟨#[]⟩, .string ⟨#[]⟩, .int .i64 0, .int .i64 0, .string ⟨#[]⟩, .slice none 0 0, .slice none 0 0, .int .i64 0] := hX.set (i := 4) (.slice pqs qs.length cqs) (by simp)
    replace Aqs : LsAt (w7.setCell ⟨w1.heap.size, 4, none⟩ (.slice pqs qs.length cqs)) (frx (w.heap.size + 1) w1.heap.size) ([rL qs]) [.slice pqs qs.length cqs] := Aqs.putsx (o := 4) (vs := [.slice pqs qs.length cqs])
    replace E7 := E7.set 4 (.slice pqs qs.length cqs) hwB
    have hL : LsAt (w7.setCell ⟨w1.heap.size, 4, none⟩ (.slice pqs qs.length cqs)) (fr (w.heap.size + 1)) (stL { zS with k := 6, nam := s, mode := 0, parts := qs }) [.int .i64 6, .string (txt s), .slice none 0 0, .slice none 0 0, .slice pqs qs.length cqs, .int .i64 ((0 : Nat) : Int), .slice none 0 0, .slice none 0 0, .int .i64 0, .int .i64 0, .int .i64 0, .string ⟨#[]⟩, .string ⟨#[]⟩, .int .i64 0, .int .i64 0, .string ⟨#[]⟩, .slice none 0 0, .int .i64 0, .string ⟨#[]⟩, .string ⟨#[]⟩, .int .i64 0, .int .i64 0, .string ⟨#[]⟩, .slice none 0 0, .slice none 0 0, .int .i64 0] := .st (us := [.int .i64 0, .int .i64 0, .int .i64 0, .string ⟨#[]⟩, .string ⟨#[]⟩, .int .i64 0, .int .i64 0, .string ⟨#[]⟩, .slice none 0 0, .int .i64 0, .string ⟨#[]⟩, .string ⟨#[]⟩, .int .i64 0, .int .i64 0, .string ⟨#[]⟩, .slice none 0 0, .slice none 0 0]) ({ zS with k := 6, nam := s, mode := 0, parts := qs }) rfl rfl rfl rfl (.rnil _ _) (.rnil _ _) (Aqs.unx).hd (.rnil _ _) (.rnil _ _) (.zC _ _)
    go_wp2_with (first | ((with_reducible refine wp_getB hX Tryz.underlying44 ?_ ?_ ?_ ?_); (rfl); (exact infoSt); (rfl)) | ((with_reducible refine wp_putB E7.res hL ?_ ?_ ?_ ?_ ?_); (rfl); (exact infoSt); (rfl); (rfl); intro w0 hV0 hw0; simp only [Act.put]) | fail)
    have hE : stP (viewP l m σ) = (stL { zS with k := 6, nam := s, mode := 0, parts := qs }, σ7) := by simp only [stP, viewP, h1.out, h2.out, h3.out, hm9.out, h6.out, h7.out]
    cases hM.out.symm.trans hE
    exact end_blk hV0 rfl rfl _ Tryz.underlying44 rfl infoSt rfl (E7.fin hL rfl hw0.out)
  · have hmb : ((mo : Int) == 0) = false := by rw [beq_eq_false_iff_ne]; omega
    have hm9 : emptyP l mo σ3 = σ3 := by unfold emptyP; rw [if_neg (by omega)]
    replace hm9 := hid0 hm9
    clear hm0
    obtain ⟨σ5, h5⟩ : ∃ z, need1 l [97, 115] σ3 = z := ⟨_, rfl⟩
    replace h5 := hid0 h5
    (try go_wp2_with fail)
    go_at_call 24
    refine (paNeed1_B h5 _ _ (by simp) E4.rd).mono ?_
    rintro e w5 ⟨rfl, hS⟩
    have hBl := hX.lt
    replace hX := hX.later hS.onl haB
    clear hBl
    have E5 := E4.step hS
    clear hS
    obtain ⟨⟨qs, σ6⟩, h6⟩ : ∃ z, queryP l m σ5 = z := ⟨_, rfl⟩
    replace h6 := hid0 h6
    (try go_wp2_with fail)
    go_at_call 16
    refine (AnsQ.at_ h6 (paQuery_any E5.rd)).mono ?_
    rintro e w6 ⟨pqs, cqs, rfl, hA0, nqs, hS⟩
    have hA := LsAt.cons hA0 (LsAt.nil _ _)
    clear hA0
    have hBl := hX.lt
    have Aqs : LsAt w6 (frx (w.heap.size + 1) w1.heap.size) ([rL qs]) [.slice pqs qs.length cqs] := hA.tox hBl E5.z
    replace hX := hX.later hS.onl haB
    clear hBl
    have E6 := E5.step hS
    clear hA
    clear hS
    have c7 := hX.cell 4 rfl
    have f7 := hX.frz 4 (by simp)
    replace hX : VarB (w6.setCell ⟨w1.heap.size, 4, none⟩ (.slice pqs qs.length cqs)) w1.heap.size [.int .i64 6, .string (txt s), .slice none 0 0, .slice none 0 0, .slice pqs qs.length cqs, .int .i64 (mo : Int), .slice none 0 0, .slice none 0 0, .int .i64 0, .int .i64 0, .int .i64 0, .string ⟨#[]⟩, .string ⟨#[]⟩, .int .i64 0, .int .i64 0, .string ⟨#[]⟩, .slice none 0 0, .int .i64 0, .string ⟨#[]⟩, .string ⟨#[]⟩, .int .i64 0, .int .i64 0, .string ⟨#[]⟩, .slice none 0 0, .slice none 0 0, .int .i64 0] := hX.set (i := 4) (.slice pqs qs.length cqs) (by simp)
    replace Aqs : LsAt (w6.setCell ⟨w1.heap.size, 4, none⟩ (.slice pqs qs.length cqs)) (frx (w.heap.size + 1) w1.heap.size) ([rL qs]) [.slice pqs qs.length cqs] := Aqs.putsx (o := 4) (vs := [.slice pqs qs.length cqs])
    replace E6 := E6.set 4 (.slice pqs qs.length cqs) hwB
    have hL : LsAt (w6.setCell ⟨w1.heap.size, 4, none⟩ (.slice pqs qs.length cqs)) (fr (w.heap.size + 1)) (stL { zS with k := 6, nam := s, mode := mo, parts := qs }) [.int .i64 6, .string (txt s), .slice none 0 0, .slice none 0 0, .slice pqs qs.length cqs, .int .i64 (mo : Int), .slice none 0 0, .slice none 0 0, .int .i64 0, .int .i64 0, .int .i64 0, .string ⟨#[]⟩, .string ⟨#[]⟩, .int .i64 0, .int .i64 0, .string ⟨#[]⟩, .slice none 0 0, .int .i64 0, .string ⟨#[]⟩, .string ⟨#[]⟩, .int .i64 0, .int .i64 0, .string ⟨#[]⟩, .slice none 0 0, .slice none 0 0, .int .i64 0] := .st (us := [.int .i64 0, .int .i64 0, .int .i64 0, .string ⟨#[]⟩, .string ⟨#[]⟩, .int .i64 0, .int .i64 0, .string ⟨#[]⟩, .slice none 0 0, .int .i64 0, .string ⟨#[]⟩, .string ⟨#[]⟩, .int .i64 0, .int .i64 0, .string ⟨#[]⟩, .slice none 0 0, .slice none 0 0]) ({ zS with k := 6, nam := s, mode := mo, parts := qs }) rfl rfl rfl rfl (.rnil _ _) (.rnil _ _) (Aqs.unx).hd (.rnil _ _) (.rnil _ _) (.zC _ _)
    go_wp2_with (first | ((with_reducible refine wp_getB hX Tryz.underlying44 ?_ ?_ ?_ ?_); (rfl); (exact infoSt); (rfl)) | ((with_reducible refine wp_putB E6.res hL ?_ ?_ ?_ ?_ ?_); (rfl); (exact infoSt); (rfl); (rfl); intro w0 hV0 hw0; simp only [Act.put]) | fail)
    have hE : stP (viewP l m σ) = (stL { zS with k := 6, nam := s, mode := mo, parts := qs }, σ6) := by simp only [stP, viewP, h1.out, h2.out, h3.out, hm9.out, h5.out, h6.out]
    cases hM.out.symm.trans hE
    exact end_blk hV0 rfl rfl _ Tryz.underlying44 rfl infoSt rfl (E6.fin hL rfl hw0.out)
set_option maxRecDepth 1000000 in
set_option maxHeartbeats 8000000 in
theorem paInsert_any {w : World} {a : Nat} {l : List Wd} {m : Int} {σ : PS} (hR : Rd w a l m 0 σ) :
    Calls Tryz.prog 20 #[.pointer (some ⟨a, 0, none⟩)] w (Ans w a l m 0 σ 26 (stP (insertP l σ)).1 (stP (insertP l σ)).2) := by
  have E0 := hR.start zStv 44
  obtain ⟨⟨x, τ⟩, hM⟩ : ∃ y, stP (insertP l σ) = y := ⟨_, rfl⟩
  rw [hM]
  dsimp only
  replace hM := hid0 hM
  have han : a < w.heap.size + 1 := Nat.lt_succ_of_lt E0.lt
  go_enter Tryz.func20, Tryz.ntmps20
  obtain ⟨σ1, h1⟩ : ∃ z, need1 l [105, 110, 116, 111] σ = z := ⟨_, rfl⟩
  replace h1 := hid0 h1
  (try go_wp2_with fail)
  go_at_call 24
  refine (paNeed1_B h1 _ _ (by simp) E0.rd).mono ?_
  rintro e w1 ⟨rfl, hS⟩
  have E1 := E0.step hS
  clear hS
  obtain ⟨⟨s, σ2⟩, h2⟩ : ∃ z, nameP l σ1 = z := ⟨_, rfl⟩
  replace h2 := hid0 h2
  (try go_wp2_with fail)
  go_at_call 25
  refine (paName_at h2 E1.rd).mono ?_
  rintro e w2 ⟨rfl, hS⟩
  have E2 := E1.step hS
  clear hS
  have hwB : w.heap.size < w2.heap.size := E2.z
  have haB : a < w2.heap.size := Nat.lt_trans E0.lt hwB
  have hX0 : VarB (w2.alloc (Obj.cells #[.int .i64 0, .string ⟨#[]⟩, .slice none 0 0, .slice none 0 0, .slice none 0 0, .int .i64 0, .slice none 0 0, .slice none 0 0, .int .i64 0, .int .i64 0, .int .i64 0, .string ⟨#[]⟩, .string ⟨#[]⟩, .int .i64 0, .int .i64 0, .string ⟨#[]⟩, .slice none 0 0, .int .i64 0, .string ⟨#[]⟩, .string ⟨#[]⟩, .int .i64 0, .int .i64 0, .string ⟨#[]⟩, .slice none 0 0, .slice none 0 0, .int .i64 0] 44)) w2.heap.size zStv := VarB.new w2 zStv 44
  have hL0 : LsAt (w2.alloc (Obj.cells #[.int .i64 0, .string ⟨#[]⟩, .slice none 0 0, .slice none 0 0, .slice none 0 0, .int .i64 0, .slice none 0 0, .slice none 0 0, .int .i64 0, .int .i64 0, .int .i64 0, .string ⟨#[]⟩, .string ⟨#[]⟩, .int .i64 0, .int .i64 0, .string ⟨#[]⟩, .slice none 0 0, .int .i64 0, .string ⟨#[]⟩, .string ⟨#[]⟩, .int .i64 0, .int .i64 0, .string ⟨#[]⟩, .slice none 0 0, .slice none 0 0, .int .i64 0] 44)) (frx (w.heap.size + 1) w2.heap.size) ([.int .i64 8, .string (txt s), .slice none 0 0, .slice none 0 0, .slice none 0 0, .int .i64 0, .slice none 0 0, .slice none 0 0, .int .i64 0, .int .i64 0, .int .i64 0, .string ⟨#[]⟩, .string ⟨#[]⟩, .int .i64 0, .int .i64 0, .string ⟨#[]⟩, .slice none 0 0, .int .i64 0, .string ⟨#[]⟩, .string ⟨#[]⟩, .int .i64 0, .int .i64 0, .string ⟨#[]⟩, .slice none 0 0, .slice none 0 0, .int .i64 0].map Lf.v) [.int .i64 8, .string (txt s), .slice none 0 0, .slice none 0 0, .slice none 0 0, .int .i64 0, .slice none 0 0, .slice none 0 0, .int .i64 0, .int .i64 0, .int .i64 0, .string ⟨#[]⟩, .string ⟨#[]⟩, .int .i64 0, .int .i64 0, .string ⟨#[]⟩, .slice none 0 0, .int .i64 0, .string ⟨#[]⟩, .string ⟨#[]⟩, .int .i64 0, .int .i64 0, .string ⟨#[]⟩, .slice none 0 0, .slice none 0 0, .int .i64 0] := LsAt.vs rfl
  replace E2 := E2.alloc (Obj.cells #[.int .i64 0, .string ⟨#[]⟩, .slice none 0 0, .slice none 0 0, .slice none 0 0, .int .i64 0, .slice none 0 0, .slice none 0 0, .int .i64 0, .int .i64 0, .int .i64 0, .string ⟨#[]⟩, .string ⟨#[]⟩, .int .i64 0, .int .i64 0, .string ⟨#[]⟩, .slice none 0 0, .int .i64 0, .string ⟨#[]⟩, .string ⟨#[]⟩, .int .i64 0, .int .i64 0, .string ⟨#[]⟩, .slice none 0 0, .slice none 0 0, .int .i64 0] 44)
  go_wp2_with (first | ((with_reducible refine wp_putB hX0 hL0 ?_ ?_ ?_ ?_ ?_); (rfl); (exact infoSt); (rfl); (rfl); intro w3 hX hw; simp only [Act.put]) | fail)
  replace E2 : Env w a l m 0 σ σ2 zStv w3 := by rw [hw.out]; exact E2.puts 0 _ hwB
  clear hw hL0 hX0
  obtain ⟨σ3, h3⟩ : ∃ z, need1 l [118, 97, 108, 117, 101, 115] σ2 = z := ⟨_, rfl⟩
  replace h3 := hid0 h3
  (try go_wp2_with fail)
  go_at_call 24
  refine (paNeed1_B h3 _ _ (by simp) E2.rd).mono ?_
  rintro e w4 ⟨rfl, hS⟩
  have hBl := hX.lt
  replace hX := hX.later hS.onl haB
  clear hBl
  have E4 := E2.step hS
  clear hS
  obtain ⟨⟨rs, σ4⟩, h4⟩ : ∃ z, listP l (tup1P l) σ3 = z := ⟨_, rfl⟩
  replace h4 := hid0 h4
  (try go_wp2_with fail)
  go_at_call 41
  refine (AnsL.at_ h4 (paListT_any E4.rd)).mono ?_
  rintro e w5 ⟨prs, crs, rfl, hA0, nrs, hS⟩
  have hA := LsAt.cons hA0 (LsAt.nil _ _)
  clear hA0
  have hBl := hX.lt
  have Ars : LsAt w5 (frx (w.heap.size + 1) w2.heap.size) ([rL rs]) [.slice prs rs.length crs] := hA.tox hBl E4.z
  replace hX := hX.later hS.onl haB
  clear hBl
  have E5 := E4.step hS
  clear hA
  clear hS
  have c5 := hX.cell 6 rfl
  have f5 := hX.frz 6 (by simp)
  replace hX : VarB (w5.setCell ⟨w2.heap.size, 6, none⟩ (.slice prs rs.length crs)) w2.heap.size [.int .i64 8, .string (txt s), .slice none 0 0, .slice none 0 0, .slice none 0 0, .int .i64 0, .slice prs rs.length crs, .slice none 0 0, .int .i64 0, .int .i64 0, .int .i64 0, .string ⟨#[]⟩, .string ⟨#[]⟩, .int .i64 0, .int .i64 0, .string ⟨#[]⟩, .slice none 0 0, .int .i64 0, .string ⟨#[]⟩, .string ⟨#[]⟩, .int .i64 0, .int .i64 0, .string ⟨#[]⟩, .slice none 0 0, .slice none 0 0, .int .i64 0] := hX.set (i := 6) (.slice prs rs.length crs) (by simp)
  replace Ars : LsAt (w5.setCell ⟨w2.heap.size, 6, none⟩ (.slice prs rs.length crs)) (frx (w.heap.size + 1) w2.heap.size) ([rL rs]) [.slice prs rs.length crs] := Ars.putsx (o := 6) (vs := [.slice prs rs.length crs])
  replace E5 := E5.set 6 (.slice prs rs.length crs) hwB
  have cw := hX.cell 6 rfl
  obtain ⟨σ6, h6⟩ : ∃ z, withinP l rs.length 16 σ4 = z := ⟨_, rfl⟩
  replace h6 := hid0 h6
  (try go_wp2_with fail)
  go_at_call 38
  refine (paWithin_at h6 rfl rfl E5.rd).mono ?_
  rintro e w6 ⟨rfl, hS⟩
  have hBl := hX.lt
  replace Ars := Ars.laterx hS.onl han
  replace hX := hX.later hS.onl haB
  clear hBl
  have E6 := E5.step hS
  clear hS
  have hL : LsAt w6 (fr (w.heap.size + 1)) (stL { zS with k := 8, nam := s, rows := rs }) [.int .i64 8, .string (txt s), .slice none 0 0, .slice none 0 0, .slice none 0 0, .int .i64 0, .slice prs rs.length crs, .slice none 0 0, .int .i64 0, .int .i64 0, .int .i64 0, .string ⟨#[]⟩, .string ⟨#[]⟩, .int .i64 0, .int .i64 0, .string ⟨#[]⟩, .slice none 0 0, .int .i64 0, .string ⟨#[]⟩, .string ⟨#[]⟩, .int .i64 0, .int .i64 0, .string ⟨#[]⟩, .slice none 0 0, .slice none 0 0, .int .i64 0] := .st (us := [.int .i64 0, .int .i64 0, .int .i64 0, .string ⟨#[]⟩, .string ⟨#[]⟩, .int .i64 0, .int .i64 0, .string ⟨#[]⟩, .slice none 0 0, .int .i64 0, .string ⟨#[]⟩, .string ⟨#[]⟩, .int .i64 0, .int .i64 0, .string ⟨#[]⟩, .slice none 0 0, .slice none 0 0]) ({ zS with k := 8, nam := s, rows := rs }) rfl rfl rfl rfl (.rnil _ _) (.rnil _ _) (.rnil _ _) (Ars.unx).hd (.rnil _ _) (.zC _ _)
  go_wp2_with (first | ((with_reducible refine wp_getB hX Tryz.underlying44 ?_ ?_ ?_ ?_); (rfl); (exact infoSt); (rfl)) | ((with_reducible refine wp_putB E6.res hL ?_ ?_ ?_ ?_ ?_); (rfl); (exact infoSt); (rfl); (rfl); intro w0 hV0 hw0; simp only [Act.put]) | fail)
  have hE : stP (insertP l σ) = (stL { zS with k := 8, nam := s, rows := rs }, σ6) := by simp only [stP, insertP, h1.out, h2.out, h3.out, h4.out, h6.out]
  cases hM.out.symm.trans hE
  exact end_blk hV0 rfl rfl _ Tryz.underlying44 rfl infoSt rfl (E6.fin hL rfl hw0.out)
set_option maxRecDepth 1000000 in
set_option maxHeartbeats 8000000 in
theorem paDelete_any {w : World} {a : Nat} {l : List Wd} {m : Int} {σ : PS} (hR : Rd w a l m 0 σ) :
    Calls Tryz.prog 21 #[.pointer (some ⟨a, 0, none⟩)] w (Ans w a l m 0 σ 26 (stP (deleteP l m σ)).1 (stP (deleteP l m σ)).2) := by
  have E0 := hR.start zStv 44
  obtain ⟨⟨x, τ⟩, hM⟩ : ∃ y, stP (deleteP l m σ) = y := ⟨_, rfl⟩
  rw [hM]
  dsimp only
  replace hM := hid0 hM
  have han : a < w.heap.size + 1 := Nat.lt_succ_of_lt E0.lt
  go_enter Tryz.func21, Tryz.ntmps21
  obtain ⟨σ1, h1⟩ : ∃ z, need1 l [102, 114, 111, 109] σ = z := ⟨_, rfl⟩
  replace h1 := hid0 h1
  (try go_wp2_with fail)
  go_at_call 24
  refine (paNeed1_B h1 _ _ (by simp) E0.rd).mono ?_
  rintro e w1 ⟨rfl, hS⟩
  have E1 := E0.step hS
  clear hS
  obtain ⟨⟨s, σ2⟩, h2⟩ : ∃ z, nameP l σ1 = z := ⟨_, rfl⟩
  replace h2 := hid0 h2
  (try go_wp2_with fail)
  go_at_call 25
  refine (paName_at h2 E1.rd).mono ?_
  rintro e w2 ⟨rfl, hS⟩
  have E2 := E1.step hS
  clear hS
  have hwB : w.heap.size < w2.heap.size := E2.z
  have haB : a < w2.heap.size := Nat.lt_trans E0.lt hwB
  have hX0 : VarB (w2.alloc (Obj.cells #[.int .i64 0, .string ⟨#[]⟩, .slice none 0 0, .slice none 0 0, .slice none 0 0, .int .i64 0, .slice none 0 0, .slice none 0 0, .int .i64 0, .int .i64 0, .int .i64 0, .string ⟨#[]⟩, .string ⟨#[]⟩, .int .i64 0, .int .i64 0, .string ⟨#[]⟩, .slice none 0 0, .int .i64 0, .string ⟨#[]⟩, .string ⟨#[]⟩, .int .i64 0, .int .i64 0, .string ⟨#[]⟩, .slice none 0 0, .slice none 0 0, .int .i64 0] 44)) w2.heap.size zStv := VarB.new w2 zStv 44
  have hL0 : LsAt (w2.alloc (Obj.cells #[.int .i64 0, .string ⟨#[]⟩, .slice none 0 0, .slice none 0 0, .slice none 0 0, .int .i64 0, .slice none 0 0, .slice none 0 0, .int .i64 0, .int .i64 0, .int .i64 0, .string ⟨#[]⟩, .string ⟨#[]⟩, .int .i64 0, .int .i64 0, .string ⟨#[]⟩, .slice none 0 0, .int .i64 0, .string ⟨#[]⟩, .string ⟨#[]⟩, .int .i64 0, .int .i64 0, .string ⟨#[]⟩, .slice none 0 0, .slice none 0 0, .int .i64 0] 44)) (frx (w.heap.size + 1) w2.heap.size) ([.int .i64 9, .string (txt s), .slice none 0 0, .slice none 0 0, .slice none 0 0, .int .i64 0, .slice none 0 0, .slice none 0 0, .int .i64 0, .int .i64 0, .int .i64 0, .string ⟨#[]⟩, .string ⟨#[]⟩, .int .i64 0, .int .i64 0, .string ⟨#[]⟩, .slice none 0 0, .int .i64 0, .string ⟨#[]⟩, .string ⟨#[]⟩, .int .i64 0, .int .i64 0, .string ⟨#[]⟩, .slice none 0 0, .slice none 0 0, .int .i64 0].map Lf.v) [.int .i64 9, .string (txt s), .slice none 0 0, .slice none 0 0, .slice none 0 0, .int .i64 0, .slice none 0 0, .slice none 0 0, .int .i64 0, .int .i64 0, .int .i64 0, .string ⟨#[]⟩, .string ⟨#[]⟩, .int .i64 0, .int .i64 0, .string ⟨#[]⟩, .slice none 0 0, .int .i64 0, .string ⟨#[]⟩, .string ⟨#[]⟩, .int .i64 0, .int .i64 0, .string ⟨#[]⟩, .slice none 0 0, .slice none 0 0, .int .i64 0] := LsAt.vs rfl
  replace E2 := E2.alloc (Obj.cells #[.int .i64 0, .string ⟨#[]⟩, .slice none 0 0, .slice none 0 0, .slice none 0 0, .int .i64 0, .slice none 0 0, .slice none 0 0, .int .i64 0, .int .i64 0, .int .i64 0, .string ⟨#[]⟩, .string ⟨#[]⟩, .int .i64 0, .int .i64 0, .string ⟨#[]⟩, .slice none 0 0, .int .i64 0, .string ⟨#[]⟩, .string ⟨#[]⟩, .int .i64 0, .int .i64 0, .string ⟨#[]⟩, .slice none 0 0, .slice none 0 0, .int .i64 0] 44)
  go_wp2_with (first | ((with_reducible refine wp_putB hX0 hL0 ?_ ?_ ?_ ?_ ?_); (rfl); (exact infoSt); (rfl); (rfl); intro w3 hX hw; simp only [Act.put]) | fail)
  replace E2 : Env w a l m 0 σ σ2 zStv w3 := by rw [hw.out]; exact E2.puts 0 _ hwB
  clear hw hL0 hX0
  obtain ⟨⟨wh, σ3⟩, h3⟩ : ∃ z, whereP l m σ2 = z := ⟨_, rfl⟩
  replace h3 := hid0 h3
  (try go_wp2_with fail)
  go_at_call 43
  refine (Ans.at_ h3 (paWhere_any E2.rd)).mono ?_
  rintro e w4 ⟨us, hl, rfl, hA, hS⟩
  obtain ⟨u0, u1, u2, u3, u4, u5, u6, u7, u8, u9, u10, u11, u12, u13, u14, u15, u16, rfl⟩ := len17 hl
  clear hl
  have hBl := hX.lt
  have Awh : LsAt w4 (frx (w.heap.size + 1) w2.heap.size) (wh) [u0, u1, u2, u3, u4, u5, u6, u7, u8, u9, u10, u11, u12, u13, u14, u15, u16] := hA.tox hBl E2.z
  replace hX := hX.later hS.onl haB
  clear hBl
  have E4 := E2.step hS
  clear hA
  clear hS
  go_wp2_with (first | ((with_reducible refine wp_putM hX Awh 8 ?_ ?_ ?_ ?_ ?_); (simp); (exact infoC); (rfl); (rfl); intro w5 hX9 hw9; simp only [Act.put]; (have hX10 : VarB w5 w2.heap.size [.int .i64 9, .string (txt s), .slice none 0 0, .slice none 0 0, .slice none 0 0, .int .i64 0, .slice none 0 0, .slice none 0 0, u0, u1, u2, u3, u4, u5, u6, u7, u8, u9, u10, u11, u12, u13, u14, u15, u16, .int .i64 0] := hX9); (have E5 : Env w a l m 0 σ σ3 zStv w5 := (by rw [hw9.out]; exact E4.puts 8 _ hwB)); (have NAwh : LsAt w5 (frx (w.heap.size + 1) w2.heap.size) (wh) [u0, u1, u2, u3, u4, u5, u6, u7, u8, u9, u10, u11, u12, u13, u14, u15, u16] := (by rw [hw9.out]; exact Awh.putsx)); (have hL : LsAt w5 (fr (w.heap.size + 1)) (stL { zS with k := 9, nam := s, wh := wh }) [.int .i64 9, .string (txt s), .slice none 0 0, .slice none 0 0, .slice none 0 0, .int .i64 0, .slice none 0 0, .slice none 0 0, u0, u1, u2, u3, u4, u5, u6, u7, u8, u9, u10, u11, u12, u13, u14, u15, u16, .int .i64 0] := .st (us := [u0, u1, u2, u3, u4, u5, u6, u7, u8, u9, u10, u11, u12, u13, u14, u15, u16]) ({ zS with k := 9, nam := s, wh := wh }) rfl rfl rfl rfl (.rnil _ _) (.rnil _ _) (.rnil _ _) (.rnil _ _) (.rnil _ _) (NAwh.unx))) | ((with_reducible refine wp_getB hX10 Tryz.underlying44 ?_ ?_ ?_ ?_); (rfl); (exact infoSt); (rfl)) | ((with_reducible refine wp_putB E5.res hL ?_ ?_ ?_ ?_ ?_); (rfl); (exact infoSt); (rfl); (rfl); intro w0 hV0 hw0; simp only [Act.put]) | fail)
  have hE : stP (deleteP l m σ) = (stL { zS with k := 9, nam := s, wh := wh }, σ3) := by simp only [stP, deleteP, h1.out, h2.out, h3.out]
  cases hM.out.symm.trans hE
  exact end_blk hV0 rfl rfl _ Tryz.underlying44 rfl infoSt rfl (E5.fin hL rfl hw0.out)
end Go.Proofs.YtneebnankghhgacGreatDoor

/- The project's parser: an update, a refresh, what is dropped, what is set: contracts of the calls, in whatever memory that holds a reader. Conditions: none besides. -/
namespace Go.Proofs.YtneebnankghhgacGreatDoor
open Go.RowKit

set_option maxRecDepth 1000000 in
set_option maxHeartbeats 8000000 in
theorem paUpdate_any {w : World} {a : Nat} {l : List Wd} {m : Int} {σ : PS} (hR : Rd w a l m 0 σ) :
    Calls Tryz.prog 22 #[.pointer (some ⟨a, 0, none⟩)] w (Ans w a l m 0 σ 26 (stP (updateP l m σ)).1 (stP (updateP l m σ)).2) := by
  have E0 := hR.start zStv 44
  obtain ⟨⟨x, τ⟩, hM⟩ : ∃ y, stP (updateP l m σ) = y := ⟨_, rfl⟩
  rw [hM]
  dsimp only
  replace hM := hid0 hM
  have han : a < w.heap.size + 1 := Nat.lt_succ_of_lt E0.lt
  go_enter Tryz.func22, Tryz.ntmps22
  obtain ⟨⟨s, σ1⟩, h1⟩ : ∃ z, nameP l σ = z := ⟨_, rfl⟩
  replace h1 := hid0 h1
  (try go_wp2_with fail)
  go_at_call 25
  refine (paName_at h1 E0.rd).mono ?_
  rintro e w1 ⟨rfl, hS⟩
  have E1 := E0.step hS
  clear hS
  have hwB : w.heap.size < w1.heap.size := E1.z
  have haB : a < w1.heap.size := Nat.lt_trans E0.lt hwB
  have hX0 : VarB (w1.alloc (Obj.cells #[.int .i64 0, .string ⟨#[]⟩, .slice none 0 0, .slice none 0 0, .slice none 0 0, .int .i64 0, .slice none 0 0, .slice none 0 0, .int .i64 0, .int .i64 0, .int .i64 0, .string ⟨#[]⟩, .string ⟨#[]⟩, .int .i64 0, .int .i64 0, .string ⟨#[]⟩, .slice none 0 0, .int .i64 0, .string ⟨#[]⟩, .string ⟨#[]⟩, .int .i64 0, .int .i64 0, .string ⟨#[]⟩, .slice none 0 0, .slice none 0 0, .int .i64 0] 44)) w1.heap.size zStv := VarB.new w1 zStv 44
  have hL0 : LsAt (w1.alloc (Obj.cells #[.int .i64 0, .string ⟨#[]⟩, .slice none 0 0, .slice none 0 0, .slice none 0 0, .int .i64 0, .slice none 0 0, .slice none 0 0, .int .i64 0, .int .i64 0, .int .i64 0, .string ⟨#[]⟩, .string ⟨#[]⟩, .int .i64 0, .int .i64 0, .string ⟨#[]⟩, .slice none 0 0, .int .i64 0, .string ⟨#[]⟩, .string ⟨#[]⟩, .int .i64 0, .int .i64 0, .string ⟨#[]⟩, .slice none 0 0, .slice none 0 0, .int .i64 0] 44)) (frx (w.heap.size + 1) w1.heap.size) ([.int .i64 10, .string (txt s), .slice none 0 0, .slice none 0 0, .slice none 0 0, .int .i64 0, .slice none 0 0, .slice none 0 0, .int .i64 0, .int .i64 0, .int .i64 0, .string ⟨#[]⟩, .string ⟨#[]⟩, .int .i64 0, .int .i64 0, .string ⟨#[]⟩, .slice none 0 0, .int .i64 0, .string ⟨#[]⟩, .string ⟨#[]⟩, .int .i64 0, .int .i64 0, .string ⟨#[]⟩, .slice none 0 0, .slice none 0 0, .int .i64 0].map Lf.v) [.int .i64 10, .string (txt s), .slice none 0 0, .slice none 0 0, .slice none 0 0, .int .i64 0, .slice none 0 0, .slice none 0 0, .int .i64 0, .int .i64 0, .int .i64 0, .string ⟨#[]⟩, .string ⟨#[]⟩, .int .i64 0, .int .i64 0, .string ⟨#[]⟩, .slice none 0 0, .int .i64 0, .string ⟨#[]⟩, .string ⟨#[]⟩, .int .i64 0, .int .i64 0, .string ⟨#[]⟩, .slice none 0 0, .slice none 0 0, .int .i64 0] := LsAt.vs rfl
  replace E1 := E1.alloc (Obj.cells #[.int .i64 0, .string ⟨#[]⟩, .slice none 0 0, .slice none 0 0, .slice none 0 0, .int .i64 0, .slice none 0 0, .slice none 0 0, .int .i64 0, .int .i64 0, .int .i64 0, .string ⟨#[]⟩, .string ⟨#[]⟩, .int .i64 0, .int .i64 0, .string ⟨#[]⟩, .slice none 0 0, .int .i64 0, .string ⟨#[]⟩, .string ⟨#[]⟩, .int .i64 0, .int .i64 0, .string ⟨#[]⟩, .slice none 0 0, .slice none 0 0, .int .i64 0] 44)
  go_wp2_with (first | ((with_reducible refine wp_putB hX0 hL0 ?_ ?_ ?_ ?_ ?_); (rfl); (exact infoSt); (rfl); (rfl); intro w2 hX hw; simp only [Act.put]) | fail)
  replace E1 : Env w a l m 0 σ σ1 zStv w2 := by rw [hw.out]; exact E1.puts 0 _ hwB
  clear hw hL0 hX0
  obtain ⟨σ2, h2⟩ : ∃ z, need1 l [115, 101, 116] σ1 = z := ⟨_, rfl⟩
  replace h2 := hid0 h2
  (try go_wp2_with fail)
  go_at_call 24
  refine (paNeed1_B h2 _ _ (by simp) E1.rd).mono ?_
  rintro e w3 ⟨rfl, hS⟩
  have hBl := hX.lt
  replace hX := hX.later hS.onl haB
  clear hBl
  have E3 := E1.step hS
  clear hS
  obtain ⟨⟨ss, σ3⟩, h3⟩ : ∃ z, listP l (setP l m) σ2 = z := ⟨_, rfl⟩
  replace h3 := hid0 h3
  (try go_wp2_with fail)
  go_at_call 44
  refine (AnsL.at_ h3 (paListU_any E3.rd)).mono ?_
  rintro e w4 ⟨pss, css, rfl, hA0, nss, hS⟩
  have hA := LsAt.cons hA0 (LsAt.nil _ _)
  clear hA0
  have hBl := hX.lt
  have Ass : LsAt w4 (frx (w.heap.size + 1) w1.heap.size) ([rL ss]) [.slice pss ss.length css] := hA.tox hBl E3.z
  replace hX := hX.later hS.onl haB
  clear hBl
  have E4 := E3.step hS
  clear hA
  clear hS
  have c4 := hX.cell 7 rfl
  have f4 := hX.frz 7 (by simp)
  replace hX : VarB (w4.setCell ⟨w1.heap.size, 7, none⟩ (.slice pss ss.length css)) w1.heap.size [.int .i64 10, .string (txt s), .slice none 0 0, .slice none 0 0, .slice none 0 0, .int .i64 0, .slice none 0 0, .slice pss ss.length css, .int .i64 0, .int .i64 0, .int .i64 0, .string ⟨#[]⟩, .string ⟨#[]⟩, .int .i64 0, .int .i64 0, .string ⟨#[]⟩, .slice none 0 0, .int .i64 0, .string ⟨#[]⟩, .string ⟨#[]⟩, .int .i64 0, .int .i64 0, .string ⟨#[]⟩, .slice none 0 0, .slice none 0 0, .int .i64 0] := hX.set (i := 7) (.slice pss ss.length css) (by simp)
  replace Ass : LsAt (w4.setCell ⟨w1.heap.size, 7, none⟩ (.slice pss ss.length css)) (frx (w.heap.size + 1) w1.heap.size) ([rL ss]) [.slice pss ss.length css] := Ass.putsx (o := 7) (vs := [.slice pss ss.length css])
  replace E4 := E4.set 7 (.slice pss ss.length css) hwB
  have cw := hX.cell 7 rfl
  obtain ⟨σ5, h5⟩ : ∃ z, withinP l ss.length 8 σ3 = z := ⟨_, rfl⟩
  replace h5 := hid0 h5
  (try go_wp2_with fail)
  go_at_call 38
  refine (paWithin_at h5 rfl rfl E4.rd).mono ?_
  rintro e w5 ⟨rfl, hS⟩
  have hBl := hX.lt
  replace Ass := Ass.laterx hS.onl han
  replace hX := hX.later hS.onl haB
  clear hBl
  have E5 := E4.step hS
  clear hS
  obtain ⟨⟨wh, σ6⟩, h6⟩ : ∃ z, whereP l m σ5 = z := ⟨_, rfl⟩
  replace h6 := hid0 h6
  (try go_wp2_with fail)
  go_at_call 43
  refine (Ans.at_ h6 (paWhere_any E5.rd)).mono ?_
  rintro e w6 ⟨us, hl, rfl, hA, hS⟩
  obtain ⟨u0, u1, u2, u3, u4, u5, u6, u7, u8, u9, u10, u11, u12, u13, u14, u15, u16, rfl⟩ := len17 hl
  clear hl
  have hBl := hX.lt
  have Awh : LsAt w6 (frx (w.heap.size + 1) w1.heap.size) (wh) [u0, u1, u2, u3, u4, u5, u6, u7, u8, u9, u10, u11, u12, u13, u14, u15, u16] := hA.tox hBl E5.z
  replace Ass := Ass.laterx hS.onl han
  replace hX := hX.later hS.onl haB
  clear hBl
  have E6 := E5.step hS
  clear hA
  clear hS
  go_wp2_with (first | ((with_reducible refine wp_putM hX Awh 8 ?_ ?_ ?_ ?_ ?_); (simp); (exact infoC); (rfl); (rfl); intro w7 hX9 hw9; simp only [Act.put]; (have hX10 : VarB w7 w1.heap.size [.int .i64 10, .string (txt s), .slice none 0 0, .slice none 0 0, .slice none 0 0, .int .i64 0, .slice none 0 0, .slice pss ss.length css, u0, u1, u2, u3, u4, u5, u6, u7, u8, u9, u10, u11, u12, u13, u14, u15, u16, .int .i64 0] := hX9); (have E7 : Env w a l m 0 σ σ6 zStv w7 := (by rw [hw9.out]; exact E6.puts 8 _ hwB)); (have NAss : LsAt w7 (frx (w.heap.size + 1) w1.heap.size) ([rL ss]) [.slice pss ss.length css] := (by rw [hw9.out]; exact Ass.putsx)); (have NAwh : LsAt w7 (frx (w.heap.size + 1) w1.heap.size) (wh) [u0, u1, u2, u3, u4, u5, u6, u7, u8, u9, u10, u11, u12, u13, u14, u15, u16] := (by rw [hw9.out]; exact Awh.putsx)); (have hL : LsAt w7 (fr (w.heap.size + 1)) (stL { zS with k := 10, nam := s, sets := ss, wh := wh }) [.int .i64 10, .string (txt s), .slice none 0 0, .slice none 0 0, .slice none 0 0, .int .i64 0, .slice none 0 0, .slice pss ss.length css, u0, u1, u2, u3, u4, u5, u6, u7, u8, u9, u10, u11, u12, u13, u14, u15, u16, .int .i64 0] := .st (us := [u0, u1, u2, u3, u4, u5, u6, u7, u8, u9, u10, u11, u12, u13, u14, u15, u16]) ({ zS with k := 10, nam := s, sets := ss, wh := wh }) rfl rfl rfl rfl (.rnil _ _) (.rnil _ _) (.rnil _ _) (.rnil _ _) (NAss.unx).hd (NAwh.unx))) | ((with_reducible refine wp_getB hX10 Tryz.underlying44 ?_ ?_ ?_ ?_); (rfl); (exact infoSt); (rfl)) | ((with_reducible refine wp_putB E7.res hL ?_ ?_ ?_ ?_ ?_); (rfl); (exact infoSt); (rfl); (rfl); intro w0 hV0 hw0; simp only [Act.put]) | fail)
  have hE : stP (updateP l m σ) = (stL { zS with k := 10, nam := s, sets := ss, wh := wh }, σ6) := by simp only [stP, updateP, h1.out, h2.out, h3.out, h5.out, h6.out]
  cases hM.out.symm.trans hE
  exact end_blk hV0 rfl rfl _ Tryz.underlying44 rfl infoSt rfl (E7.fin hL rfl hw0.out)
set_option maxRecDepth 1000000 in
set_option maxHeartbeats 8000000 in
theorem paRefresh_any {w : World} {a : Nat} {l : List Wd} {m : Int} {σ : PS} (hR : Rd w a l m 0 σ) :
    Calls Tryz.prog 23 #[.pointer (some ⟨a, 0, none⟩)] w (Ans w a l m 0 σ 26 (stP (refreshP l σ)).1 (stP (refreshP l σ)).2) := by
  have E0 := hR.start zStv 44
  obtain ⟨⟨x, τ⟩, hM⟩ : ∃ y, stP (refreshP l σ) = y := ⟨_, rfl⟩
  rw [hM]
  dsimp only
  replace hM := hid0 hM
  have han : a < w.heap.size + 1 := Nat.lt_succ_of_lt E0.lt
  go_enter Tryz.func23, Tryz.ntmps23
  obtain ⟨⟨s, σ1⟩, h1⟩ : ∃ z, nameP l σ = z := ⟨_, rfl⟩
  replace h1 := hid0 h1
  (try go_wp2_with fail)
  go_at_call 25
  refine (paName_at h1 E0.rd).mono ?_
  rintro e w1 ⟨rfl, hS⟩
  have E1 := E0.step hS
  clear hS
  have hwB : w.heap.size < w1.heap.size := E1.z
  have haB : a < w1.heap.size := Nat.lt_trans E0.lt hwB
  have hX0 : VarB (w1.alloc (Obj.cells #[.int .i64 0, .string ⟨#[]⟩, .slice none 0 0, .slice none 0 0, .slice none 0 0, .int .i64 0, .slice none 0 0, .slice none 0 0, .int .i64 0, .int .i64 0, .int .i64 0, .string ⟨#[]⟩, .string ⟨#[]⟩, .int .i64 0, .int .i64 0, .string ⟨#[]⟩, .slice none 0 0, .int .i64 0, .string ⟨#[]⟩, .string ⟨#[]⟩, .int .i64 0, .int .i64 0, .string ⟨#[]⟩, .slice none 0 0, .slice none 0 0, .int .i64 0] 44)) w1.heap.size zStv := VarB.new w1 zStv 44
  have hL0 : LsAt (w1.alloc (Obj.cells #[.int .i64 0, .string ⟨#[]⟩, .slice none 0 0, .slice none 0 0, .slice none 0 0, .int .i64 0, .slice none 0 0, .slice none 0 0, .int .i64 0, .int .i64 0, .int .i64 0, .string ⟨#[]⟩, .string ⟨#[]⟩, .int .i64 0, .int .i64 0, .string ⟨#[]⟩, .slice none 0 0, .int .i64 0, .string ⟨#[]⟩, .string ⟨#[]⟩, .int .i64 0, .int .i64 0, .string ⟨#[]⟩, .slice none 0 0, .slice none 0 0, .int .i64 0] 44)) (frx (w.heap.size + 1) w1.heap.size) ([.int .i64 11, .string (txt s), .slice none 0 0, .slice none 0 0, .slice none 0 0, .int .i64 0, .slice none 0 0, .slice none 0 0, .int .i64 0, .int .i64 0, .int .i64 0, .string ⟨#[]⟩, .string ⟨#[]⟩, .int .i64 0, .int .i64 0, .string ⟨#[]⟩, .slice none 0 0, .int .i64 0, .string ⟨#[]⟩, .string ⟨#[]⟩, .int .i64 0, .int .i64 0, .string ⟨#[]⟩, .slice none 0 0, .slice none 0 0, .int .i64 0].map Lf.v) [.int .i64 11, .string (txt s), .slice none 0 0, .slice none 0 0, .slice none 0 0, .int .i64 0, .slice none 0 0, .slice none 0 0, .int .i64 0, .int .i64 0, .int .i64 0, .string ⟨#[]⟩, .string ⟨#[]⟩, .int .i64 0, .int .i64 0, .string ⟨#[]⟩, .slice none 0 0, .int .i64 0, .string ⟨#[]⟩, .string ⟨#[]⟩, .int .i64 0, .int .i64 0, .string ⟨#[]⟩, .slice none 0 0, .slice none 0 0, .int .i64 0] := LsAt.vs rfl
  replace E1 := E1.alloc (Obj.cells #[.int .i64 0, .string ⟨#[]⟩, .slice none 0 0, .slice none 0 0, .slice none 0 0, .int .i64 0, .slice none 0 0, .slice none 0 0, .int .i64 0, .int .i64 0, .int .i64 0, .string ⟨#[]⟩, .string ⟨#[]⟩, .int .i64 0, .int .i64 0, .string ⟨#[]⟩, .slice none 0 0, .int .i64 0, .string ⟨#[]⟩, .string ⟨#[]⟩, .int .i64 0, .int .i64 0, .string ⟨#[]⟩, .slice none 0 0, .slice none 0 0, .int .i64 0] 44)
  go_wp2_with (first | ((with_reducible refine wp_putB hX0 hL0 ?_ ?_ ?_ ?_ ?_); (rfl); (exact infoSt); (rfl); (rfl); intro w2 hX hw; simp only [Act.put]) | fail)
  replace E1 : Env w a l m 0 σ σ1 zStv w2 := by rw [hw.out]; exact E1.puts 0 _ hwB
  clear hw hL0 hX0
  obtain ⟨⟨mo, σ2⟩, h2⟩ : ∃ z, modeP l σ1 = z := ⟨_, rfl⟩
  replace h2 := hid0 h2
  (try go_wp2_with fail)
  go_at_call 46
  refine (paMode_at h2 E1.rd).mono ?_
  rintro e w3 ⟨rfl, hS⟩
  have hBl := hX.lt
  replace hX := hX.later hS.onl haB
  clear hBl
  have E3 := E1.step hS
  clear hS
  have c3 := hX.cell 5 rfl
  have f3 := hX.frz 5 (by simp)
  replace hX : VarB (w3.setCell ⟨w1.heap.size, 5, none⟩ (.int .i64 (mo : Int))) w1.heap.size [.int .i64 11, .string (txt s), .slice none 0 0, .slice none 0 0, .slice none 0 0, .int .i64 (mo : Int), .slice none 0 0, .slice none 0 0, .int .i64 0, .int .i64 0, .int .i64 0, .string ⟨#[]⟩, .string ⟨#[]⟩, .int .i64 0, .int .i64 0, .string ⟨#[]⟩, .slice none 0 0, .int .i64 0, .string ⟨#[]⟩, .string ⟨#[]⟩, .int .i64 0, .int .i64 0, .string ⟨#[]⟩, .slice none 0 0, .slice none 0 0, .int .i64 0] := hX.set (i := 5) (.int .i64 (mo : Int)) (by simp)
  replace E3 := E3.set 5 (.int .i64 (mo : Int)) hwB
  (try go_wp2_with fail)
  rcases Bool.eq_false_or_eq_true (isP l [110, 101, 115, 116, 101, 100] σ2) with h4 | h4
  · replace h4 := hid0 h4
    (try go_wp2_with fail)
    go_at_call 17
    refine (paTake_yes [110, 101, 115, 116, 101, 100] E3.rd h4.out).mono ?_
    rintro e w4 ⟨rfl, hS⟩
    have hBl := hX.lt
    replace hX := hX.later hS.onl haB
    clear hBl
    have E4 := E3.step hS
    clear hS
    have c5 := hX.cell 0 rfl
    have f5 := hX.frz 0 (by simp)
    replace hX : VarB (w4.setCell ⟨w1.heap.size, 0, none⟩ (.int .i64 16)) w1.heap.size [.int .i64 16, .string (txt s), .slice none 0 0, .slice none 0 0, .slice none 0 0, .int .i64 (mo : Int), .slice none 0 0, .slice none 0 0, .int .i64 0, .int .i64 0, .int .i64 0, .string ⟨#[]⟩, .string ⟨#[]⟩, .int .i64 0, .int .i64 0, .string ⟨#[]⟩, .slice none 0 0, .int .i64 0, .string ⟨#[]⟩, .string ⟨#[]⟩, .int .i64 0, .int .i64 0, .string ⟨#[]⟩, .slice none 0 0, .slice none 0 0, .int .i64 0] := hX.set (i := 0) (.int .i64 16) (by simp)
    replace E4 := E4.set 0 (.int .i64 16) hwB
    have hL : LsAt (w4.setCell ⟨w1.heap.size, 0, none⟩ (.int .i64 16)) (fr (w.heap.size + 1)) (stL { zS with k := 16, nam := s, mode := mo }) [.int .i64 16, .string (txt s), .slice none 0 0, .slice none 0 0, .slice none 0 0, .int .i64 (mo : Int), .slice none 0 0, .slice none 0 0, .int .i64 0, .int .i64 0, .int .i64 0, .string ⟨#[]⟩, .string ⟨#[]⟩, .int .i64 0, .int .i64 0, .string ⟨#[]⟩, .slice none 0 0, .int .i64 0, .string ⟨#[]⟩, .string ⟨#[]⟩, .int .i64 0, .int .i64 0, .string ⟨#[]⟩, .slice none 0 0, .slice none 0 0, .int .i64 0] := .st (us := [.int .i64 0, .int .i64 0, .int .i64 0, .string ⟨#[]⟩, .string ⟨#[]⟩, .int .i64 0, .int .i64 0, .string ⟨#[]⟩, .slice none 0 0, .int .i64 0, .string ⟨#[]⟩, .string ⟨#[]⟩, .int .i64 0, .int .i64 0, .string ⟨#[]⟩, .slice none 0 0, .slice none 0 0]) ({ zS with k := 16, nam := s, mode := mo }) rfl rfl rfl rfl (.rnil _ _) (.rnil _ _) (.rnil _ _) (.rnil _ _) (.rnil _ _) (.zC _ _)
    go_wp2_with (first | ((with_reducible refine wp_getB hX Tryz.underlying44 ?_ ?_ ?_ ?_); (rfl); (exact infoSt); (rfl)) | ((with_reducible refine wp_putB E4.res hL ?_ ?_ ?_ ?_ ?_); (rfl); (exact infoSt); (rfl); (rfl); intro w0 hV0 hw0; simp only [Act.put]) | fail)
    have hE : stP (refreshP l σ) = (stL { zS with k := 16, nam := s, mode := mo }, (⟨σ2.i + 1, σ2.e⟩ : PS)) := by simp only [stP, refreshP, takeP, h1.out, h2.out, h4.out, if_true]
    cases hM.out.symm.trans hE
    exact end_blk hV0 rfl rfl _ Tryz.underlying44 rfl infoSt rfl (E4.fin hL rfl hw0.out)
  · replace h4 := hid0 h4
    (try go_wp2_with fail)
    go_at_call 17
    refine (paTake_no [110, 101, 115, 116, 101, 100] E3.rd h4.out).mono ?_
    rintro e w5 ⟨rfl, hS⟩
    have hBl := hX.lt
    replace hX := hX.later hS.onl haB
    clear hBl
    have E5 := E3.step hS
    clear hS
    have hL : LsAt w5 (fr (w.heap.size + 1)) (stL { zS with k := 11, nam := s, mode := mo }) [.int .i64 11, .string (txt s), .slice none 0 0, .slice none 0 0, .slice none 0 0, .int .i64 (mo : Int), .slice none 0 0, .slice none 0 0, .int .i64 0, .int .i64 0, .int .i64 0, .string ⟨#[]⟩, .string ⟨#[]⟩, .int .i64 0, .int .i64 0, .string ⟨#[]⟩, .slice none 0 0, .int .i64 0, .string ⟨#[]⟩, .string ⟨#[]⟩, .int .i64 0, .int .i64 0, .string ⟨#[]⟩, .slice none 0 0, .slice none 0 0, .int .i64 0] := .st (us := [.int .i64 0, .int .i64 0, .int .i64 0, .string ⟨#[]⟩, .string ⟨#[]⟩, .int .i64 0, .int .i64 0, .string ⟨#[]⟩, .slice none 0 0, .int .i64 0, .string ⟨#[]⟩, .string ⟨#[]⟩, .int .i64 0, .int .i64 0, .string ⟨#[]⟩, .slice none 0 0, .slice none 0 0]) ({ zS with k := 11, nam := s, mode := mo }) rfl rfl rfl rfl (.rnil _ _) (.rnil _ _) (.rnil _ _) (.rnil _ _) (.rnil _ _) (.zC _ _)
    go_wp2_with (first | ((with_reducible refine wp_getB hX Tryz.underlying44 ?_ ?_ ?_ ?_); (rfl); (exact infoSt); (rfl)) | ((with_reducible refine wp_putB E5.res hL ?_ ?_ ?_ ?_ ?_); (rfl); (exact infoSt); (rfl); (rfl); intro w0 hV0 hw0; simp only [Act.put]) | fail)
    have hE : stP (refreshP l σ) = (stL { zS with k := 11, nam := s, mode := mo }, σ2) := by simp only [stP, refreshP, takeP, h1.out, h2.out, h4.out, Bool.false_eq_true, if_false]
    cases hM.out.symm.trans hE
    exact end_blk hV0 rfl rfl _ Tryz.underlying44 rfl infoSt rfl (E5.fin hL rfl hw0.out)
set_option maxRecDepth 1000000 in
set_option maxHeartbeats 8000000 in
theorem paDrop_any {w : World} {a : Nat} {l : List Wd} {m : Int} {σ : PS} (hR : Rd w a l m 0 σ) :
    Calls Tryz.prog 19 #[.pointer (some ⟨a, 0, none⟩)] w (Ans w a l m 0 σ 26 (stP (dropP l σ)).1 (stP (dropP l σ)).2) := by
  have E0 := hR.start zStv 44
  obtain ⟨⟨x, τ⟩, hM⟩ : ∃ y, stP (dropP l σ) = y := ⟨_, rfl⟩
  rw [hM]
  dsimp only
  replace hM := hid0 hM
  have han : a < w.heap.size + 1 := Nat.lt_succ_of_lt E0.lt
  go_enter Tryz.func19, Tryz.ntmps19
  (try go_wp2_with fail)
  rcases Bool.eq_false_or_eq_true (isP l [116, 97, 98, 108, 101] σ) with h1 | h1
  · replace h1 := hid0 h1
    (try go_wp2_with fail)
    go_at_call 17
    refine (paTake_yes [116, 97, 98, 108, 101] E0.rd h1.out).mono ?_
    rintro e w1 ⟨rfl, hS⟩
    have E1 := E0.step hS
    clear hS
    obtain ⟨⟨s, σ2⟩, h2⟩ : ∃ z, nameP l (⟨σ.i + 1, σ.e⟩ : PS) = z := ⟨_, rfl⟩
    replace h2 := hid0 h2
    (try go_wp2_with fail)
    go_at_call 25
    refine (paName_at h2 E1.rd).mono ?_
    rintro e w2 ⟨rfl, hS⟩
    have E2 := E1.step hS
    clear hS
    have hL : LsAt w2 (fr (w.heap.size + 1)) (stL { zS with k := 3, nam := s }) [.int .i64 3, .string (txt s), .slice none 0 0, .slice none 0 0, .slice none 0 0, .int .i64 0, .slice none 0 0, .slice none 0 0, .int .i64 0, .int .i64 0, .int .i64 0, .string ⟨#[]⟩, .string ⟨#[]⟩, .int .i64 0, .int .i64 0, .string ⟨#[]⟩, .slice none 0 0, .int .i64 0, .string ⟨#[]⟩, .string ⟨#[]⟩, .int .i64 0, .int .i64 0, .string ⟨#[]⟩, .slice none 0 0, .slice none 0 0, .int .i64 0] := .st (us := [.int .i64 0, .int .i64 0, .int .i64 0, .string ⟨#[]⟩, .string ⟨#[]⟩, .int .i64 0, .int .i64 0, .string ⟨#[]⟩, .slice none 0 0, .int .i64 0, .string ⟨#[]⟩, .string ⟨#[]⟩, .int .i64 0, .int .i64 0, .string ⟨#[]⟩, .slice none 0 0, .slice none 0 0]) ({ zS with k := 3, nam := s }) rfl rfl rfl rfl (.rnil _ _) (.rnil _ _) (.rnil _ _) (.rnil _ _) (.rnil _ _) (.zC _ _)
    go_wp2_with (first | ((with_reducible refine wp_putB E2.res hL ?_ ?_ ?_ ?_ ?_); (rfl); (exact infoSt); (rfl); (rfl); intro w0 hV0 hw0; simp only [Act.put]) | fail)
    have hE : stP (dropP l σ) = (stL { zS with k := 3, nam := s }, σ2) := by simp only [stP, dropP, namedP, h1.out, h2.out, if_true]
    cases hM.out.symm.trans hE
    exact end_blk hV0 rfl rfl _ Tryz.underlying44 rfl infoSt rfl (E2.fin hL rfl hw0.out)
  · replace h1 := hid0 h1
    (try go_wp2_with fail)
    go_at_call 17
    refine (paTake_no [116, 97, 98, 108, 101] E0.rd h1.out).mono ?_
    rintro e w3 ⟨rfl, hS⟩
    have E3 := E0.step hS
    clear hS
    (try go_wp2_with fail)
    rcases Bool.eq_false_or_eq_true (isP l [108, 111, 103] σ) with h3 | h3
    · replace h3 := hid0 h3
      (try go_wp2_with fail)
      go_at_call 17
      refine (paTake_yes [108, 111, 103] E3.rd h3.out).mono ?_
      rintro e w4 ⟨rfl, hS⟩
      have E4 := E3.step hS
      clear hS
      obtain ⟨σ4, h4⟩ : ∃ z, need1 l [111, 110] (⟨σ.i + 1, σ.e⟩ : PS) = z := ⟨_, rfl⟩
      replace h4 := hid0 h4
      (try go_wp2_with fail)
      go_at_call 24
      refine (paNeed1_B h4 _ _ (by simp) E4.rd).mono ?_
      rintro e w5 ⟨rfl, hS⟩
      have E5 := E4.step hS
      clear hS
      obtain ⟨⟨s, σ5⟩, h5⟩ : ∃ z, nameP l σ4 = z := ⟨_, rfl⟩
      replace h5 := hid0 h5
      (try go_wp2_with fail)
      go_at_call 25
      refine (paName_at h5 E5.rd).mono ?_
      rintro e w6 ⟨rfl, hS⟩
      have E6 := E5.step hS
      clear hS
      have hL : LsAt w6 (fr (w.heap.size + 1)) (stL { zS with k := 5, nam := s }) [.int .i64 5, .string (txt s), .slice none 0 0, .slice none 0 0, .slice none 0 0, .int .i64 0, .slice none 0 0, .slice none 0 0, .int .i64 0, .int .i64 0, .int .i64 0, .string ⟨#[]⟩, .string ⟨#[]⟩, .int .i64 0, .int .i64 0, .string ⟨#[]⟩, .slice none 0 0, .int .i64 0, .string ⟨#[]⟩, .string ⟨#[]⟩, .int .i64 0, .int .i64 0, .string ⟨#[]⟩, .slice none 0 0, .slice none 0 0, .int .i64 0] := .st (us := [.int .i64 0, .int .i64 0, .int .i64 0, .string ⟨#[]⟩, .string ⟨#[]⟩, .int .i64 0, .int .i64 0, .string ⟨#[]⟩, .slice none 0 0, .int .i64 0, .string ⟨#[]⟩, .string ⟨#[]⟩, .int .i64 0, .int .i64 0, .string ⟨#[]⟩, .slice none 0 0, .slice none 0 0]) ({ zS with k := 5, nam := s }) rfl rfl rfl rfl (.rnil _ _) (.rnil _ _) (.rnil _ _) (.rnil _ _) (.rnil _ _) (.zC _ _)
      go_wp2_with (first | ((with_reducible refine wp_putB E6.res hL ?_ ?_ ?_ ?_ ?_); (rfl); (exact infoSt); (rfl); (rfl); intro w0 hV0 hw0; simp only [Act.put]) | fail)
      have hE : stP (dropP l σ) = (stL { zS with k := 5, nam := s }, σ5) := by simp only [stP, dropP, namedP, h1.out, h3.out, h4.out, h5.out, Bool.false_eq_true, if_false, if_true]
      cases hM.out.symm.trans hE
      exact end_blk hV0 rfl rfl _ Tryz.underlying44 rfl infoSt rfl (E6.fin hL rfl hw0.out)
    · replace h3 := hid0 h3
      (try go_wp2_with fail)
      go_at_call 17
      refine (paTake_no [108, 111, 103] E3.rd h3.out).mono ?_
      rintro e w7 ⟨rfl, hS⟩
      have E7 := E3.step hS
      clear hS
      obtain ⟨σ6, h6⟩ : ∃ z, need1 l [118, 105, 101, 119] σ = z := ⟨_, rfl⟩
      replace h6 := hid0 h6
      (try go_wp2_with fail)
      go_at_call 24
      refine (paNeed1_B h6 _ _ (by simp) E7.rd).mono ?_
      rintro e w8 ⟨rfl, hS⟩
      have E8 := E7.step hS
      clear hS
      obtain ⟨⟨s, σ7⟩, h7⟩ : ∃ z, nameP l σ6 = z := ⟨_, rfl⟩
      replace h7 := hid0 h7
      (try go_wp2_with fail)
      go_at_call 25
      refine (paName_at h7 E8.rd).mono ?_
      rintro e w9 ⟨rfl, hS⟩
      have E9 := E8.step hS
      clear hS
      have hL : LsAt w9 (fr (w.heap.size + 1)) (stL { zS with k := 7, nam := s }) [.int .i64 7, .string (txt s), .slice none 0 0, .slice none 0 0, .slice none 0 0, .int .i64 0, .slice none 0 0, .slice none 0 0, .int .i64 0, .int .i64 0, .int .i64 0, .string ⟨#[]⟩, .string ⟨#[]⟩, .int .i64 0, .int .i64 0, .string ⟨#[]⟩, .slice none 0 0, .int .i64 0, .string ⟨#[]⟩, .string ⟨#[]⟩, .int .i64 0, .int .i64 0, .string ⟨#[]⟩, .slice none 0 0, .slice none 0 0, .int .i64 0] := .st (us := [.int .i64 0, .int .i64 0, .int .i64 0, .string ⟨#[]⟩, .string ⟨#[]⟩, .int .i64 0, .int .i64 0, .string ⟨#[]⟩, .slice none 0 0, .int .i64 0, .string ⟨#[]⟩, .string ⟨#[]⟩, .int .i64 0, .int .i64 0, .string ⟨#[]⟩, .slice none 0 0, .slice none 0 0]) ({ zS with k := 7, nam := s }) rfl rfl rfl rfl (.rnil _ _) (.rnil _ _) (.rnil _ _) (.rnil _ _) (.rnil _ _) (.zC _ _)
      go_wp2_with (first | ((with_reducible refine wp_putB E9.res hL ?_ ?_ ?_ ?_ ?_); (rfl); (exact infoSt); (rfl); (rfl); intro w0 hV0 hw0; simp only [Act.put]) | fail)
      have hE : stP (dropP l σ) = (stL { zS with k := 7, nam := s }, σ7) := by simp only [stP, dropP, namedP, h1.out, h3.out, h6.out, h7.out, Bool.false_eq_true, if_false]
      cases hM.out.symm.trans hE
      exact end_blk hV0 rfl rfl _ Tryz.underlying44 rfl infoSt rfl (E9.fin hL rfl hw0.out)
set_option maxRecDepth 1000000 in
set_option maxHeartbeats 8000000 in
theorem paSetting_any {w : World} {a : Nat} {l : List Wd} {m : Int} {σ : PS} (hR : Rd w a l m 0 σ) :
    Calls Tryz.prog 26 #[.pointer (some ⟨a, 0, none⟩)] w (Ans w a l m 0 σ 26 (stP (settingP l σ)).1 (stP (settingP l σ)).2) := by
  have E0 := hR.start zStv 44
  obtain ⟨⟨x, τ⟩, hM⟩ : ∃ y, stP (settingP l σ) = y := ⟨_, rfl⟩
  rw [hM]
  dsimp only
  replace hM := hid0 hM
  have han : a < w.heap.size + 1 := Nat.lt_succ_of_lt E0.lt
  go_enter Tryz.func26, Tryz.ntmps26
  (try go_wp2_with fail)
  rcases Bool.eq_false_or_eq_true (isP l [114, 101, 119, 114, 105, 116, 101] σ) with h1 | h1
  · replace h1 := hid0 h1
    (try go_wp2_with fail)
    go_at_call 17
    refine (paTake_yes [114, 101, 119, 114, 105, 116, 101] E0.rd h1.out).mono ?_
    rintro e w1 ⟨rfl, hS⟩
    have E1 := E0.step hS
    clear hS
    obtain ⟨⟨n, σ2⟩, h2⟩ : ∃ z, choiceP l [111, 102, 102] [111, 110] (⟨σ.i + 1, σ.e⟩ : PS) = z := ⟨_, rfl⟩
    replace h2 := hid0 h2
    (try go_wp2_with fail)
    go_at_call 48
    refine (paChoice_at h2 E1.rd).mono ?_
    rintro e w2 ⟨rfl, hS⟩
    have E2 := E1.step hS
    clear hS
    have hL : LsAt w2 (fr (w.heap.size + 1)) (stL { zS with k := 13, n := n }) [.int .i64 13, .string ⟨#[]⟩, .slice none 0 0, .slice none 0 0, .slice none 0 0, .int .i64 0, .slice none 0 0, .slice none 0 0, .int .i64 0, .int .i64 0, .int .i64 0, .string ⟨#[]⟩, .string ⟨#[]⟩, .int .i64 0, .int .i64 0, .string ⟨#[]⟩, .slice none 0 0, .int .i64 0, .string ⟨#[]⟩, .string ⟨#[]⟩, .int .i64 0, .int .i64 0, .string ⟨#[]⟩, .slice none 0 0, .slice none 0 0, .int .i64 (n : Int)] := .st (us := [.int .i64 0, .int .i64 0, .int .i64 0, .string ⟨#[]⟩, .string ⟨#[]⟩, .int .i64 0, .int .i64 0, .string ⟨#[]⟩, .slice none 0 0, .int .i64 0, .string ⟨#[]⟩, .string ⟨#[]⟩, .int .i64 0, .int .i64 0, .string ⟨#[]⟩, .slice none 0 0, .slice none 0 0]) ({ zS with k := 13, n := n }) rfl rfl rfl rfl (.rnil _ _) (.rnil _ _) (.rnil _ _) (.rnil _ _) (.rnil _ _) (.zC _ _)
    go_wp2_with (first | ((with_reducible refine wp_putB E2.res hL ?_ ?_ ?_ ?_ ?_); (rfl); (exact infoSt); (rfl); (rfl); intro w0 hV0 hw0; simp only [Act.put]) | fail)
    have hE : stP (settingP l σ) = (stL { zS with k := 13, n := n }, σ2) := by simp only [stP, settingP, h1.out, h2.out, if_true]
    cases hM.out.symm.trans hE
    exact end_blk hV0 rfl rfl _ Tryz.underlying44 rfl infoSt rfl (E2.fin hL rfl hw0.out)
  · replace h1 := hid0 h1
    (try go_wp2_with fail)
    go_at_call 17
    refine (paTake_no [114, 101, 119, 114, 105, 116, 101] E0.rd h1.out).mono ?_
    rintro e w3 ⟨rfl, hS⟩
    have E3 := E0.step hS
    clear hS
    obtain ⟨σ3, h3⟩ : ∃ z, need1 l [112, 111, 108, 105, 99, 121] σ = z := ⟨_, rfl⟩
    replace h3 := hid0 h3
    (try go_wp2_with fail)
    go_at_call 24
    refine (paNeed1_B h3 _ _ (by simp) E3.rd).mono ?_
    rintro e w4 ⟨rfl, hS⟩
    have E4 := E3.step hS
    clear hS
    obtain ⟨⟨n, σ4⟩, h4⟩ : ∃ z, choiceP l [101, 110, 102, 111, 114, 99, 101, 100] [116, 111, 108, 101, 114, 97, 116, 101, 100] σ3 = z := ⟨_, rfl⟩
    replace h4 := hid0 h4
    (try go_wp2_with fail)
    go_at_call 48
    refine (paChoice_at h4 E4.rd).mono ?_
    rintro e w5 ⟨rfl, hS⟩
    have E5 := E4.step hS
    clear hS
    have hL : LsAt w5 (fr (w.heap.size + 1)) (stL { zS with k := 14, n := n }) [.int .i64 14, .string ⟨#[]⟩, .slice none 0 0, .slice none 0 0, .slice none 0 0, .int .i64 0, .slice none 0 0, .slice none 0 0, .int .i64 0, .int .i64 0, .int .i64 0, .string ⟨#[]⟩, .string ⟨#[]⟩, .int .i64 0, .int .i64 0, .string ⟨#[]⟩, .slice none 0 0, .int .i64 0, .string ⟨#[]⟩, .string ⟨#[]⟩, .int .i64 0, .int .i64 0, .string ⟨#[]⟩, .slice none 0 0, .slice none 0 0, .int .i64 (n : Int)] := .st (us := [.int .i64 0, .int .i64 0, .int .i64 0, .string ⟨#[]⟩, .string ⟨#[]⟩, .int .i64 0, .int .i64 0, .string ⟨#[]⟩, .slice none 0 0, .int .i64 0, .string ⟨#[]⟩, .string ⟨#[]⟩, .int .i64 0, .int .i64 0, .string ⟨#[]⟩, .slice none 0 0, .slice none 0 0]) ({ zS with k := 14, n := n }) rfl rfl rfl rfl (.rnil _ _) (.rnil _ _) (.rnil _ _) (.rnil _ _) (.rnil _ _) (.zC _ _)
    go_wp2_with (first | ((with_reducible refine wp_putB E5.res hL ?_ ?_ ?_ ?_ ?_); (rfl); (exact infoSt); (rfl); (rfl); intro w0 hV0 hw0; simp only [Act.put]) | fail)
    have hE : stP (settingP l σ) = (stL { zS with k := 14, n := n }, σ4) := by simp only [stP, settingP, h1.out, h3.out, h4.out, Bool.false_eq_true, if_false]
    cases hM.out.symm.trans hE
    exact end_blk hV0 rfl rfl _ Tryz.underlying44 rfl infoSt rfl (E5.fin hL rfl hw0.out)
end Go.Proofs.YtneebnankghhgacGreatDoor

/- The project's parser: a table's statement: a contract of the call, in whatever memory that holds a reader. Conditions: none besides. -/
namespace Go.Proofs.YtneebnankghhgacGreatDoor
open Go.RowKit

theorem infoLCol : (Tryz.prog.info? 105).map (fun i => (i.zero, i.size, i.bytes)) = some (some (.agg #[.string ⟨#[]⟩, .int .i64 0, .bool false]), 3, 32) := by kernel_rfl
/-- A table's statement, behind its columns. -/
def tblP (l : List Wd) (s : List UInt8) (b : (List (List Lf) × List (List Lf)) × PS) : List Lf × PS :=
  (stL { zS with k := 2, nam := s, cols := b.1.1, keys := b.1.2 }, emptyP l b.1.1.length (withinP l (max b.1.1.length b.1.2.length) 8 (need1 l [41] b.2)))
theorem colsP_key {l : List Wd} {k : Nat} {acc ks : List (List Lf)} {ρ ρ2 : PS} (h : isP l [112, 114, 105, 109, 97, 114, 121] ρ = true) (h1 : keyP l ⟨ρ.i + 1, ρ.e⟩ = (ks, ρ2)) : colsP l (k + 1) acc ρ = ((acc, ks), ρ2) := by
  simp [colsP, h, h1]
theorem colsP_more {l : List Wd} {k : Nat} {acc : List (List Lf)} {ρ ρ2 : PS} {y : List Lf} (h : isP l [112, 114, 105, 109, 97, 114, 121] ρ = false) (h1 : colP l ρ = (y, ρ2)) (h2 : isP l [44] ρ2 = true) : colsP l (k + 1) acc ρ = colsP l k (acc ++ [y]) ⟨ρ2.i + 1, ρ2.e⟩ := by
  simp [colsP, h, h1, h2]
theorem colsP_last {l : List Wd} {k : Nat} {acc : List (List Lf)} {ρ ρ2 : PS} {y : List Lf} (h : isP l [112, 114, 105, 109, 97, 114, 121] ρ = false) (h1 : colP l ρ = (y, ρ2)) (h2 : isP l [44] ρ2 = false) : colsP l (k + 1) acc ρ = ((acc ++ [y], []), ρ2) := by
  simp [colsP, h, h1, h2]

set_option maxRecDepth 1000000 in
set_option maxHeartbeats 32000000 in
theorem paTable_any {w : World} {a : Nat} {l : List Wd} {m : Int} {σ : PS} (hR : Rd w a l m 0 σ) :
    Calls Tryz.prog 39 #[.pointer (some ⟨a, 0, none⟩)] w (Ans w a l m 0 σ 26 (stP (tableP l σ)).1 (stP (tableP l σ)).2) := by
  have E0 := hR.start zStv 44
  obtain ⟨⟨x, τ⟩, hM⟩ : ∃ y, stP (tableP l σ) = y := ⟨_, rfl⟩
  rw [hM]
  dsimp only
  obtain ⟨⟨s, σ1⟩, h1⟩ : ∃ z, nameP l σ = z := ⟨_, rfl⟩
  obtain ⟨σ2, h2⟩ : ∃ z, need1 l [40] σ1 = z := ⟨_, rfl⟩
  have hM1 : tblP l s (colsP l l.length [] σ2) = (x, τ) := by rw [← hM]; simp only [stP, tableP, tblP, h1, h2]
  have hfew := hR.few
  have han : a < w.heap.size + 1 := Nat.lt_succ_of_lt E0.lt
  replace h1 := hid0 h1
  replace h2 := hid0 h2
  have HM1 := hid0 hM1
  clear hM hM1 hR
  go_enter Tryz.func39, Tryz.ntmps39
  go_wp2_with fail
  go_at_call 25
  refine (paName_at h1 E0.rd).mono ?_
  rintro e w1 ⟨rfl, hS⟩
  have E1 := E0.step hS
  clear hS
  have hwB : w.heap.size < w1.heap.size := E1.z
  have haB : a < w1.heap.size := Nat.lt_trans E0.lt hwB
  have hX0 : VarB (w1.alloc (Obj.cells #[.int .i64 0, .string ⟨#[]⟩, .slice none 0 0, .slice none 0 0, .slice none 0 0, .int .i64 0, .slice none 0 0, .slice none 0 0, .int .i64 0, .int .i64 0, .int .i64 0, .string ⟨#[]⟩, .string ⟨#[]⟩, .int .i64 0, .int .i64 0, .string ⟨#[]⟩, .slice none 0 0, .int .i64 0, .string ⟨#[]⟩, .string ⟨#[]⟩, .int .i64 0, .int .i64 0, .string ⟨#[]⟩, .slice none 0 0, .slice none 0 0, .int .i64 0] 44)) w1.heap.size zStv := VarB.new w1 zStv 44
  have hL0 : LsAt (w1.alloc (Obj.cells #[.int .i64 0, .string ⟨#[]⟩, .slice none 0 0, .slice none 0 0, .slice none 0 0, .int .i64 0, .slice none 0 0, .slice none 0 0, .int .i64 0, .int .i64 0, .int .i64 0, .string ⟨#[]⟩, .string ⟨#[]⟩, .int .i64 0, .int .i64 0, .string ⟨#[]⟩, .slice none 0 0, .int .i64 0, .string ⟨#[]⟩, .string ⟨#[]⟩, .int .i64 0, .int .i64 0, .string ⟨#[]⟩, .slice none 0 0, .slice none 0 0, .int .i64 0] 44)) (frx (w.heap.size + 1) w1.heap.size) ([.int .i64 2, .string (txt s), .slice none 0 0, .slice none 0 0, .slice none 0 0, .int .i64 0, .slice none 0 0, .slice none 0 0, .int .i64 0, .int .i64 0, .int .i64 0, .string ⟨#[]⟩, .string ⟨#[]⟩, .int .i64 0, .int .i64 0, .string ⟨#[]⟩, .slice none 0 0, .int .i64 0, .string ⟨#[]⟩, .string ⟨#[]⟩, .int .i64 0, .int .i64 0, .string ⟨#[]⟩, .slice none 0 0, .slice none 0 0, .int .i64 0].map Lf.v) [.int .i64 2, .string (txt s), .slice none 0 0, .slice none 0 0, .slice none 0 0, .int .i64 0, .slice none 0 0, .slice none 0 0, .int .i64 0, .int .i64 0, .int .i64 0, .string ⟨#[]⟩, .string ⟨#[]⟩, .int .i64 0, .int .i64 0, .string ⟨#[]⟩, .slice none 0 0, .int .i64 0, .string ⟨#[]⟩, .string ⟨#[]⟩, .int .i64 0, .int .i64 0, .string ⟨#[]⟩, .slice none 0 0, .slice none 0 0, .int .i64 0] := LsAt.vs rfl
  replace E1 := E1.alloc (Obj.cells #[.int .i64 0, .string ⟨#[]⟩, .slice none 0 0, .slice none 0 0, .slice none 0 0, .int .i64 0, .slice none 0 0, .slice none 0 0, .int .i64 0, .int .i64 0, .int .i64 0, .string ⟨#[]⟩, .string ⟨#[]⟩, .int .i64 0, .int .i64 0, .string ⟨#[]⟩, .slice none 0 0, .int .i64 0, .string ⟨#[]⟩, .string ⟨#[]⟩, .int .i64 0, .int .i64 0, .string ⟨#[]⟩, .slice none 0 0, .slice none 0 0, .int .i64 0] 44)
  go_wp2_with (first | ((with_reducible refine wp_putB hX0 hL0 ?_ ?_ ?_ ?_ ?_); (rfl); (exact infoSt); (rfl); (rfl); intro w2 hX hw; simp only [Act.put]) | fail)
  have E2 : Env w a l m 0 σ σ1 zStv w2 := by rw [hw.out]; exact E1.puts 0 _ hwB
  clear hw hL0 hX0 E1
  go_at_call 24
  refine (paNeed1_B h2 _ _ (by simp) E2.rd).mono ?_
  rintro e w3 ⟨rfl, hS⟩
  replace hX := hX.later hS.onl haB
  have E3 := E2.step hS
  clear hS E2
  go_wp2_with fail
  obtain ⟨B, hBB⟩ : ∃ B, w1.heap.size = B := ⟨_, rfl⟩
  rw [hBB] at hwB haB hX ⊢
  replace hBB := hid0 hBB
  have hrem : l.length - σ2.i ≤ l.length := Nat.sub_le _ _
  have hPa : ¬ (w.heap.size + 1 ≤ a ∧ a ≠ B) := by have := E0.lt; omega
  replace hX := hid0 hX
  go_loopw [] (fun wr => ∃ (k : Nat) (acc : List (List Lf)) (ρ : PS) (v : Value), Hid (tblP l s (colsP l k acc ρ) = (x, τ)) ∧ l.length - ρ.i ≤ k ∧ acc.length ≤ ρ.i + 1 ∧ Hid (VarB wr B [.int .i64 2, .string (txt s), v, .slice none 0 0, .slice none 0 0, .int .i64 0, .slice none 0 0, .slice none 0 0, .int .i64 0, .int .i64 0, .int .i64 0, .string ⟨#[]⟩, .string ⟨#[]⟩, .int .i64 0, .int .i64 0, .string ⟨#[]⟩, .slice none 0 0, .int .i64 0, .string ⟨#[]⟩, .string ⟨#[]⟩, .int .i64 0, .int .i64 0, .string ⟨#[]⟩, .slice none 0 0, .slice none 0 0, .int .i64 0]) ∧ Hid (GrowP wr (w.heap.size + 1) (fun b => w.heap.size + 1 ≤ b ∧ b ≠ B) 105 3 v acc.length acc.flatten) ∧ Env w a l m 0 σ ρ zStv wr) (fun wr => l.length - atOf wr a)
  case atStart => exact ⟨l.length, [], σ2, _, HM1, hrem, by simp, hX, hid0 GrowP.nil, E3⟩
  case round =>
    clear HM1 hX E3 hrem
    obtain ⟨k, acc, ρ, v, hM, hk, hnn, hX, HG, E⟩ := hrel
    have hat := E.rd.at_
    have hi9 := E.rd.hi
    obtain ⟨k, rfl⟩ : ∃ k', k = k' + 1 := ⟨k - 1, by omega⟩
    obtain ⟨N, hN⟩ : ∃ N, acc.length = N := ⟨_, rfl⟩
    rw [hN] at HG hnn
    obtain ⟨p6, cc6, rfl, -⟩ := HG.out.slice
    replace hN := hid0 hN
    rcases Bool.eq_false_or_eq_true (isP l [112, 114, 105, 109, 97, 114, 121] ρ) with hb | hb
    · obtain ⟨⟨ks, ρz⟩, h3⟩ : ∃ z, keyP l ⟨ρ.i + 1, ρ.e⟩ = z := ⟨_, rfl⟩
      have hM3 := hM.out
      rw [colsP_key (k := k) (acc := acc) hb h3] at hM3
      have HM := hid0 hM3
      have hN9 : Hid (acc.length = N) := hN
      replace h3 := hid0 h3
      replace hb := hid0 hb
      replace hat := hid0 hat
      replace hX := hX.out
      clear hM hM3
      go_wp2_with fail
      go_at_call 17
      refine (paTake_yes [112, 114, 105, 109, 97, 114, 121] E.rd hb.out).mono ?_
      rintro e9 w4 ⟨rfl, hS⟩
      replace hX := hX.later hS.onl haB
      replace HG := hid0 (HG.out.later hS.onl hPa)
      have E4 := E.step hS
      clear hS
      go_wp2_with fail
      go_at_call 58
      refine (AnsL.at_ h3 (paKey_any E4.rd)).mono ?_
      rintro e9 w5 ⟨pk, ck, rfl, hA, hnk, hS⟩
      have hBl := hX.lt
      have hKl : LsAt w5 (frx (w.heap.size + 1) B) [rL ks] [.slice pk ks.length ck] := (LsAt.cons hA (LsAt.nil _ _)).tox hBl E4.z
      replace hX := hX.later hS.onl haB
      replace HG := hid0 (HG.out.later hS.onl hPa)
      have E5 := E4.step hS
      clear hS hA
      have c3 := hX.cell 3 rfl
      have f3 := hX.frz 3 (by simp)
      replace hX : VarB (w5.setCell ⟨B, 3, none⟩ (.slice pk ks.length ck)) B [.int .i64 2, .string (txt s), .slice p6 N cc6, .slice pk ks.length ck, .slice none 0 0, .int .i64 0, .slice none 0 0, .slice none 0 0, .int .i64 0, .int .i64 0, .int .i64 0, .string ⟨#[]⟩, .string ⟨#[]⟩, .int .i64 0, .int .i64 0, .string ⟨#[]⟩, .slice none 0 0, .int .i64 0, .string ⟨#[]⟩, .string ⟨#[]⟩, .int .i64 0, .int .i64 0, .string ⟨#[]⟩, .slice none 0 0, .slice none 0 0, .int .i64 0] := hX.set (i := 3) (.slice pk ks.length ck) (by simp)
      replace hKl : LsAt (w5.setCell ⟨B, 3, none⟩ (.slice pk ks.length ck)) (frx (w.heap.size + 1) B) [rL ks] [.slice pk ks.length ck] := hKl.putsx (o := 3) (vs := [.slice pk ks.length ck])
      replace HG := hid0 (HG.out.puts 3 [.slice pk ks.length ck] (fun h => h.2 rfl))
      replace HG : Hid (GrowP (w5.setCell ⟨B, 3, none⟩ (.slice pk ks.length ck)) (w.heap.size + 1) (fun b => w.heap.size + 1 ≤ b ∧ b ≠ B) 105 3 (.slice p6 N cc6) N acc.flatten) := HG
      have E6 := E5.set 3 (.slice pk ks.length ck) hwB
      obtain ⟨σ4, h4⟩ : ∃ z, need1 l [41] ρz = z := ⟨_, rfl⟩
      obtain ⟨σ5, h5⟩ : ∃ z, withinP l (max acc.length ks.length) 8 σ4 = z := ⟨_, rfl⟩
      have hM5 := HM.out
      unfold tblP at hM5
      dsimp only at hM5
      rw [h4, h5] at hM5
      replace h4 := hid0 h4
      replace h5 := hid0 h5
      replace hM5 := hid0 hM5
      (try go_wp2_with fail)
      go_at_call 24
      refine (paNeed1_B h4 _ _ (by simp) E6.rd).mono ?_
      rintro e9 w21 ⟨rfl, hS⟩
      replace hX := hX.later hS.onl haB
      replace HG := hid0 (HG.out.later hS.onl hPa)
      replace hKl := hKl.laterx hS.onl han
      have E21 := E6.step hS
      clear hS
      have c21 := hX.cell 2 rfl
      have c31 := hX.cell 3 rfl
      go_wp2_with fail
      go_at_call 38
      refine (paWithin_at h5 (by first | rfl | (simp [hN9.out]; done) | (rw [hN9.out, List.length_nil]; omega) | (have := hN9.out; omega)) rfl E21.rd).mono ?_
      rintro e9 w22 ⟨rfl, hS⟩
      replace hX := hX.later hS.onl haB
      replace HG := hid0 (HG.out.later hS.onl hPa)
      replace hKl := hKl.laterx hS.onl han
      have E22 := E21.step hS
      clear hS
      have c22 := hX.cell 2 rfl
      rcases Nat.eq_zero_or_pos (N) with hz9 | hz9
      · have hzb : (((N : Nat) : Int) == 0) = true := by rw [beq_iff_eq]; omega
        obtain ⟨σ6, h6⟩ : ∃ z, faultP l 4 σ5 = z := ⟨_, rfl⟩
        have hM6 := hM5.out
        unfold emptyP at hM6
        rw [if_pos (by have := hN9.out; omega), h6] at hM6
        replace h6 := hid0 h6
        replace hM6 := hid0 hM6
        clear hz9
        go_wp2_with fail
        go_at_call 27
        refine (paFault_at 4 h6 E22.rd (by decide)).mono ?_
        rintro e9 w23 ⟨rfl, hS⟩
        replace hX := hX.later hS.onl haB
        replace HG := hid0 (HG.out.later hS.onl hPa)
        replace hKl := hKl.laterx hS.onl han
        have E23 := E22.step hS
        clear hS
        have hL : LsAt w23 (fr (w.heap.size + 1)) (stL { zS with k := 2, nam := s, cols := acc, keys := ks }) [.int .i64 2, .string (txt s), .slice p6 N cc6, .slice pk ks.length ck, .slice none 0 0, .int .i64 0, .slice none 0 0, .slice none 0 0, .int .i64 0, .int .i64 0, .int .i64 0, .string ⟨#[]⟩, .string ⟨#[]⟩, .int .i64 0, .int .i64 0, .string ⟨#[]⟩, .slice none 0 0, .int .i64 0, .string ⟨#[]⟩, .string ⟨#[]⟩, .int .i64 0, .int .i64 0, .string ⟨#[]⟩, .slice none 0 0, .slice none 0 0, .int .i64 0] := .st (us := [.int .i64 0, .int .i64 0, .int .i64 0, .string ⟨#[]⟩, .string ⟨#[]⟩, .int .i64 0, .int .i64 0, .string ⟨#[]⟩, .slice none 0 0, .int .i64 0, .string ⟨#[]⟩, .string ⟨#[]⟩, .int .i64 0, .int .i64 0, .string ⟨#[]⟩, .slice none 0 0, .slice none 0 0]) { zS with k := 2, nam := s, cols := acc, keys := ks } rfl rfl rfl rfl (by have h9 := HG.out.leaf (lo := w.heap.size + 1) (fun b hb => hb.1); unfold rL; rw [hN9.out]; exact h9) hKl.unx.hd (.rnil _ _) (.rnil _ _) (.rnil _ _) (.zC _ _)
        go_wp2_with (first | ((with_reducible refine wp_getB hX Tryz.underlying44 ?_ ?_ ?_ ?_); (rfl); (exact infoSt); (rfl)) | ((with_reducible refine wp_putB E23.res hL ?_ ?_ ?_ ?_ ?_); (rfl); (exact infoSt); (rfl); (rfl); intro w0 hV0 hw0; simp only [Act.put]) | fail)
        cases hM6.out
        exact end_blk hV0 rfl rfl _ Tryz.underlying44 rfl infoSt rfl (E23.fin hL rfl hw0.out)
      · have hzb : (((N : Nat) : Int) == 0) = false := by rw [beq_eq_false_iff_ne]; omega
        have hM6 := hM5.out
        unfold emptyP at hM6
        rw [if_neg (by have := hN9.out; omega)] at hM6
        replace hM6 := hid0 hM6
        clear hz9
        have hL : LsAt w22 (fr (w.heap.size + 1)) (stL { zS with k := 2, nam := s, cols := acc, keys := ks }) [.int .i64 2, .string (txt s), .slice p6 N cc6, .slice pk ks.length ck, .slice none 0 0, .int .i64 0, .slice none 0 0, .slice none 0 0, .int .i64 0, .int .i64 0, .int .i64 0, .string ⟨#[]⟩, .string ⟨#[]⟩, .int .i64 0, .int .i64 0, .string ⟨#[]⟩, .slice none 0 0, .int .i64 0, .string ⟨#[]⟩, .string ⟨#[]⟩, .int .i64 0, .int .i64 0, .string ⟨#[]⟩, .slice none 0 0, .slice none 0 0, .int .i64 0] := .st (us := [.int .i64 0, .int .i64 0, .int .i64 0, .string ⟨#[]⟩, .string ⟨#[]⟩, .int .i64 0, .int .i64 0, .string ⟨#[]⟩, .slice none 0 0, .int .i64 0, .string ⟨#[]⟩, .string ⟨#[]⟩, .int .i64 0, .int .i64 0, .string ⟨#[]⟩, .slice none 0 0, .slice none 0 0]) { zS with k := 2, nam := s, cols := acc, keys := ks } rfl rfl rfl rfl (by have h9 := HG.out.leaf (lo := w.heap.size + 1) (fun b hb => hb.1); unfold rL; rw [hN9.out]; exact h9) hKl.unx.hd (.rnil _ _) (.rnil _ _) (.rnil _ _) (.zC _ _)
        go_wp2_with (first | ((with_reducible refine wp_getB hX Tryz.underlying44 ?_ ?_ ?_ ?_); (rfl); (exact infoSt); (rfl)) | ((with_reducible refine wp_putB E22.res hL ?_ ?_ ?_ ?_ ?_); (rfl); (exact infoSt); (rfl); (rfl); intro w0 hV0 hw0; simp only [Act.put]) | fail)
        cases hM6.out
        exact end_blk hV0 rfl rfl _ Tryz.underlying44 rfl infoSt rfl (E22.fin hL rfl hw0.out)
    · obtain ⟨⟨y, ρ2⟩, h3⟩ : ∃ z, colP l ρ = z := ⟨_, rfl⟩
      replace h3 := hid0 h3
      replace hb := hid0 hb
      replace hat := hid0 hat
      go_wp2_with fail
      go_at_call 17
      refine (paTake_no [112, 114, 105, 109, 97, 114, 121] E.rd hb.out).mono ?_
      rintro e9 w3 ⟨rfl, hS⟩
      have HY3 := hid0 (hX.out.later hS.onl haB)
      have HG3 := hid0 (HG.out.later hS.onl hPa)
      have E3 := E.step hS
      clear hS hX HG
      go_wp2_with fail
      refine wp_region_last (S := fun w' => VarB w' B [.int .i64 2, .string (txt s), .slice p6 N cc6, .slice none 0 0, .slice none 0 0, .int .i64 0, .slice none 0 0, .slice none 0 0, .int .i64 0, .int .i64 0, .int .i64 0, .string ⟨#[]⟩, .string ⟨#[]⟩, .int .i64 0, .int .i64 0, .string ⟨#[]⟩, .slice none 0 0, .int .i64 0, .string ⟨#[]⟩, .string ⟨#[]⟩, .int .i64 0, .int .i64 0, .string ⟨#[]⟩, .slice none 0 0, .slice none 0 0, .int .i64 0]) 7 (by kernel_rfl) (by kernel_rfl) HY3.out.drew (fun hHeld => ?_)
      simp only [List.take_succ_cons, List.take_zero, List.drop_succ_cons, List.drop_zero]
      refine wpAnyH_take (i := 0) (v := ?_) rfl (by kernel_rfl) (by kernel_rfl) (by kernel_rfl) (fun _ _ _ h => h) (Or.inl ⟨by rfl, ?_⟩) (by assumption) ?_
      rotate_left
      · (intro wx hSw; go_simp; (try with_reducible rfl))
      (try simp only [Act.put, List.setIfInBounds_toArray, List.set_cons_zero, List.set_cons_succ, List.getElem_toArray, List.getElem_cons_zero])
      refine wpAnyH_take (i := 1) (v := .slice p6 N cc6) rfl (by kernel_rfl) (by kernel_rfl) (by kernel_rfl) (fun _ _ _ h => h) (Or.inl ⟨by rfl, ?_⟩) (by assumption) ?_
      · (intro wx hSw; have c16 := (show VarB wx B [.int .i64 2, .string (txt s), .slice p6 N cc6, .slice none 0 0, .slice none 0 0, .int .i64 0, .slice none 0 0, .slice none 0 0, .int .i64 0, .int .i64 0, .int .i64 0, .string ⟨#[]⟩, .string ⟨#[]⟩, .int .i64 0, .int .i64 0, .string ⟨#[]⟩, .slice none 0 0, .int .i64 0, .string ⟨#[]⟩, .string ⟨#[]⟩, .int .i64 0, .int .i64 0, .string ⟨#[]⟩, .slice none 0 0, .slice none 0 0, .int .i64 0] from hSw).cell 2 rfl; go_simp; (try with_reducible rfl))
      (try simp only [Act.put, List.setIfInBounds_toArray, List.set_cons_zero, List.set_cons_succ, List.getElem_toArray, List.getElem_cons_zero, List.getElem_cons_succ])
      refine wpAnyH_take (i := 2) (v := ?_) rfl (by kernel_rfl) (by kernel_rfl) (by kernel_rfl) (fun _ _ _ h => h) (Or.inl ⟨by rfl, ?_⟩) (by assumption) ?_
      rotate_left
      · (intro wx hSw; go_simp; (try with_reducible rfl))
      (try simp only [Act.put, List.setIfInBounds_toArray, List.set_cons_zero, List.set_cons_succ, List.getElem_toArray, List.getElem_cons_zero, List.getElem_cons_succ])
      refine wpAnyH_ready (rs := [3]) (by kernel_rfl) (by simp) ?_
      refine AllReadyH.cons rfl (fun K hK => ?_) AllReadyH.nil
      go_simp
      refine (Ans.at_ h3 (paCol_any E3.drew.rd)).mono ?_
      rintro e9 w4 ⟨vs, hl, rfl, hA4, hS4⟩
      obtain ⟨v0, v1, v2, rfl⟩ := len3 hl
      clear hl
      have hX4 := HY3.out.drew.later hS4.onl haB
      have hle4 := hS4.le
      have hz4 := hS4.onl.size
      have hzC : B < w3.heap.size := HY3.out.lt
      have HG4 := hid0 ((HG3.out.drew.later hS4.onl hPa).alloc (Obj.cells #[v0, v1, v2] 105))
      have hfar := hid0 HG3.out.far
      have HA4 := hid0 (hA4.allocP (Obj.cells #[v0, v1, v2] 105))
      have E4 := (E3.drew.step hS4).alloc (Obj.cells #[v0, v1, v2] 105)
      have hX5 := hX4.alloc (Obj.cells #[v0, v1, v2] 105)
      have HE4 := hid0 E4
      have hzE := E3.z
      clear hA4 hS4
      refine hK.out _ _ hX4 (fun hHeld => ?_)
      clear hK K
      (try simp only [Act.put, List.setIfInBounds_toArray, List.set_cons_zero, List.set_cons_succ, List.getElem_toArray, List.getElem_cons_zero, List.getElem_cons_succ])
      refine wpAnyH_ready (rs := [4]) (by kernel_rfl) (by simp) ?_
      refine AllReadyH.cons rfl (fun K hK => ?_) AllReadyH.nil
      go_simp
      refine hK.out _ _ hX5 (fun hHeld => ?_)
      clear hK K
      (try simp only [Act.put, List.setIfInBounds_toArray, List.set_cons_zero, List.set_cons_succ, List.getElem_toArray, List.getElem_cons_zero, List.getElem_cons_succ])
      obtain ⟨i0, hi0, hz0, hz1', hz2'⟩ := info_parts infoLCol
      refine wpAnyH_ready (rs := [5]) (by kernel_rfl) (by simp) ?_
      refine AllReadyH.cons rfl (fun K hK => ?_) AllReadyH.nil
      refine wp_growP rfl _ _ _ rfl (w.heap.size + 1) (fun b => w.heap.size + 1 ≤ b ∧ b ≠ B) 105 i0 (.agg #[.string ⟨#[]⟩, .int .i64 0, .bool false]) 3 32 Tryz.underlying31 hi0 hz0 hz1' hz2' rfl (by decide) (.slice p6 N cc6) N acc.flatten rfl HG4.out w4.heap.size 1 y [v0, v1, v2] rfl rfl (fun j u hj => (VarB.new w4 [v0, v1, v2] 105).cell j hj) w3.heap.size HA4.out (fun b hb => ⟨by omega, by omega⟩) hfar.out (by simp; exact Nat.le_succ_of_le hz4) (by omega) (by unfold maxLen; omega) (by simp; have : w3.heap.size ≤ w4.heap.size := hz4; omega) ?_
      intro v6 w6 hG6 hO6 hb6 hg6
      have hX6 : VarB w6 B [.int .i64 2, .string (txt s), .slice p6 N cc6, .slice none 0 0, .slice none 0 0, .int .i64 0, .slice none 0 0, .slice none 0 0, .int .i64 0, .int .i64 0, .int .i64 0, .string ⟨#[]⟩, .string ⟨#[]⟩, .int .i64 0, .int .i64 0, .string ⟨#[]⟩, .slice none 0 0, .int .i64 0, .string ⟨#[]⟩, .string ⟨#[]⟩, .int .i64 0, .int .i64 0, .string ⟨#[]⟩, .slice none 0 0, .slice none 0 0, .int .i64 0] := hX5.keep (hg6.block B (by simp; have : w3.heap.size ≤ w4.heap.size := hz4; omega) (fun e => (HG3.out.out1 e).2 rfl)) hg6.size
      have E6 : Env w a l m 0 σ ρ2 zStv w6 := ⟨⟨HE4.out.st.rd.above (hb6.mono (by have := E0.lt; omega)), hO6 w a HE4.out.st.onl (by omega), HE4.out.st.le⟩, HE4.out.res.keep (hb6.block _ (by omega)) hb6.size, Nat.le_trans HE4.out.z hb6.size, HE4.out.lt⟩
      refine hK.out _ _ hX6 (fun hHeld => ?_)
      clear hK K
      (try simp only [Act.put, List.setIfInBounds_toArray, List.set_cons_zero, List.set_cons_succ, List.getElem_toArray, List.getElem_cons_zero, List.getElem_cons_succ])
      refine wpAnyH_take (i := 6) (v := ?_) rfl (by kernel_rfl) (by kernel_rfl) (by kernel_rfl) (fun _ _ _ h => h) (Or.inl ⟨by rfl, ?_⟩) (by assumption) ?_
      rotate_left
      · (intro wx hSw; go_simp; (try with_reducible rfl))
      (try simp only [Act.put, List.setIfInBounds_toArray, List.set_cons_zero, List.set_cons_succ, List.getElem_toArray, List.getElem_cons_zero, List.getElem_cons_succ])
      refine wpAnyH_done (by kernel_rfl) ?_ _
      show wpList _ _ _ _ _ _
      have c6 := hX6.cell 2 rfl
      have f6 := hX6.frz 2 (by simp)
      obtain ⟨p7, cc7, rfl, -⟩ := hG6.slice
      have hX : VarB (w6.setCell ⟨B, 2, none⟩ (.slice p7 (N + 1) cc7)) B [.int .i64 2, .string (txt s), .slice p7 (N + 1) cc7, .slice none 0 0, .slice none 0 0, .int .i64 0, .slice none 0 0, .slice none 0 0, .int .i64 0, .int .i64 0, .int .i64 0, .string ⟨#[]⟩, .string ⟨#[]⟩, .int .i64 0, .int .i64 0, .string ⟨#[]⟩, .slice none 0 0, .int .i64 0, .string ⟨#[]⟩, .string ⟨#[]⟩, .int .i64 0, .int .i64 0, .string ⟨#[]⟩, .slice none 0 0, .slice none 0 0, .int .i64 0] := hX6.set (i := 2) _ (by simp)
      have HG : Hid (GrowP (w6.setCell ⟨B, 2, none⟩ (.slice p7 (N + 1) cc7)) (w.heap.size + 1) (fun b => w.heap.size + 1 ≤ b ∧ b ≠ B) 105 3 (.slice p7 (N + 1) cc7) (N + 1) (acc ++ [y]).flatten) := hid0 (by have h9 := hG6.puts 2 [.slice p7 (N + 1) cc7] (fun h => h.2 rfl); rw [List.flatten_append]; simp only [List.flatten_cons, List.flatten_nil, List.append_nil]; exact h9)
      have E7 := E6.set 2 (.slice p7 (N + 1) cc7) hwB
      clear hX4 hX5 E4 hX6 hG6
      have hN9 : Hid ((acc ++ [y]).length = N + 1) := hid0 (by rw [List.length_append, hN.out]; rfl)
      go_wp2_with fail
      rcases Bool.eq_false_or_eq_true (isP l [44] ρ2) with hc | hc
      · have hM3 := hM.out
        rw [colsP_more (k := k) (acc := acc) hb.out h3.out hc] at hM3
        have hmore := is_more E7.rd.ok E7.rd.hi hc
        have HM := hid0 hM3
        replace hc := hid0 hc
        clear hM hM3
        go_at_call 17
        refine (paTake_yes [44] E7.rd hc.out).mono ?_
        rintro e9 w8 ⟨rfl, hS⟩
        replace hX := hX.later hS.onl haB
        replace HG := hid0 (HG.out.later hS.onl hPa)
        have E8 := E7.step hS
        clear hS
        go_wp2_with fail
        go_roundw
        case rel => exact ⟨k, acc ++ [y], _, _, HM, by dsimp only; omega, by rw [hN9.out]; dsimp only; omega, hid0 hX, hid0 (by rw [hN9.out]; exact HG.out), E8⟩
        case measure => rw [hat.out, E8.rd.at_]; dsimp only; omega
      · have hM3 := hM.out
        rw [colsP_last (k := k) (acc := acc) hb.out h3.out hc] at hM3
        obtain ⟨ρz, hρz⟩ : ∃ z, ρ2 = z := ⟨_, rfl⟩
        rw [hρz] at hM3
        have HM := hid0 hM3
        replace hc := hid0 hc
        clear hM hM3
        go_at_call 17
        refine (paTake_no [44] E7.rd hc.out).mono ?_
        rintro e9 w8 ⟨rfl, hS⟩
        replace hX := hX.later hS.onl haB
        replace HG := hid0 (HG.out.later hS.onl hPa)
        have E8 := E7.step hS
        rw [hρz] at E8
        clear hS hρz
        obtain ⟨σ4, h4⟩ : ∃ z, need1 l [41] ρz = z := ⟨_, rfl⟩
        obtain ⟨σ5, h5⟩ : ∃ z, withinP l (max (acc ++ [y]).length ([] : List (List Lf)).length) 8 σ4 = z := ⟨_, rfl⟩
        have hM5 := HM.out
        unfold tblP at hM5
        dsimp only at hM5
        rw [h4, h5] at hM5
        replace h4 := hid0 h4
        replace h5 := hid0 h5
        replace hM5 := hid0 hM5
        (try go_wp2_with fail)
        go_at_call 24
        refine (paNeed1_B h4 _ _ (by simp) E8.rd).mono ?_
        rintro e9 w21 ⟨rfl, hS⟩
        replace hX := hX.later hS.onl haB
        replace HG := hid0 (HG.out.later hS.onl hPa)
        have E21 := E8.step hS
        clear hS
        have c21 := hX.cell 2 rfl
        have c31 := hX.cell 3 rfl
        go_wp2_with fail
        go_at_call 38
        refine (paWithin_at h5 (by first | rfl | (simp [hN9.out]; done) | (rw [hN9.out, List.length_nil]; omega) | (have := hN9.out; omega)) rfl E21.rd).mono ?_
        rintro e9 w22 ⟨rfl, hS⟩
        replace hX := hX.later hS.onl haB
        replace HG := hid0 (HG.out.later hS.onl hPa)
        have E22 := E21.step hS
        clear hS
        have c22 := hX.cell 2 rfl
        rcases Nat.eq_zero_or_pos (N + 1) with hz9 | hz9
        · exact absurd hz9 (by omega)
        · have hzb : (((N + 1 : Nat) : Int) == 0) = false := by rw [beq_eq_false_iff_ne]; omega
          have hM6 := hM5.out
          unfold emptyP at hM6
          rw [if_neg (by have := hN9.out; omega)] at hM6
          replace hM6 := hid0 hM6
          clear hz9
          have hL : LsAt w22 (fr (w.heap.size + 1)) (stL { zS with k := 2, nam := s, cols := (acc ++ [y]), keys := ([] : List (List Lf)) }) [.int .i64 2, .string (txt s), .slice p7 (N + 1) cc7, .slice none 0 0, .slice none 0 0, .int .i64 0, .slice none 0 0, .slice none 0 0, .int .i64 0, .int .i64 0, .int .i64 0, .string ⟨#[]⟩, .string ⟨#[]⟩, .int .i64 0, .int .i64 0, .string ⟨#[]⟩, .slice none 0 0, .int .i64 0, .string ⟨#[]⟩, .string ⟨#[]⟩, .int .i64 0, .int .i64 0, .string ⟨#[]⟩, .slice none 0 0, .slice none 0 0, .int .i64 0] := .st (us := [.int .i64 0, .int .i64 0, .int .i64 0, .string ⟨#[]⟩, .string ⟨#[]⟩, .int .i64 0, .int .i64 0, .string ⟨#[]⟩, .slice none 0 0, .int .i64 0, .string ⟨#[]⟩, .string ⟨#[]⟩, .int .i64 0, .int .i64 0, .string ⟨#[]⟩, .slice none 0 0, .slice none 0 0]) { zS with k := 2, nam := s, cols := (acc ++ [y]), keys := ([] : List (List Lf)) } rfl rfl rfl rfl (by have h9 := HG.out.leaf (lo := w.heap.size + 1) (fun b hb => hb.1); unfold rL; rw [hN9.out]; exact h9) (.rnil _ _) (.rnil _ _) (.rnil _ _) (.rnil _ _) (.zC _ _)
          go_wp2_with (first | ((with_reducible refine wp_getB hX Tryz.underlying44 ?_ ?_ ?_ ?_); (rfl); (exact infoSt); (rfl)) | ((with_reducible refine wp_putB E22.res hL ?_ ?_ ?_ ?_ ?_); (rfl); (exact infoSt); (rfl); (rfl); intro w0 hV0 hw0; simp only [Act.put]) | fail)
          cases hM6.out
          exact end_blk hV0 rfl rfl _ Tryz.underlying44 rfl infoSt rfl (E22.fin hL rfl hw0.out)
end Go.Proofs.YtneebnankghhgacGreatDoor

/- The project's parser: what is created, a statement: contracts of the calls, in whatever memory that holds a reader. Conditions: none besides. -/
namespace Go.Proofs.YtneebnankghhgacGreatDoor
open Go.RowKit

theorem paNeed2_B {w : World} {a : Nat} {l : List Wd} {m : Int} {d : Nat} {σ σ' : PS} {s t : List UInt8} (h : Hid (need1 l t (need1 l s σ) = σ')) (ty : TypeId) (B : Nat) (hB : w.heap.size = B) (hR : Rd w a l m d σ) :
    Calls Tryz.prog 24 #[.pointer (some ⟨a, 0, none⟩), .slice (some ⟨B, 0, none⟩) 2 2] (w.alloc (.cells #[.string (txt s), .string (txt t)] ty)) fun e w' => e = .returned (.tuple #[]) ∧ Step w a l m d σ σ' w' := by
  subst hB
  have := paNeed2 s t ty hR
  rw [h.out] at this
  exact this
set_option maxRecDepth 1000000 in
set_option maxHeartbeats 8000000 in
theorem paCreate_any {w : World} {a : Nat} {l : List Wd} {m : Int} {σ : PS} (hR : Rd w a l m 0 σ) :
    Calls Tryz.prog 18 #[.pointer (some ⟨a, 0, none⟩)] w (Ans w a l m 0 σ 26 (stP (createP l m σ)).1 (stP (createP l m σ)).2) := by
  have E0 := hR.start zStv 44
  obtain ⟨⟨x, τ⟩, hM⟩ : ∃ y, stP (createP l m σ) = y := ⟨_, rfl⟩
  rw [hM]
  dsimp only
  replace hM := hid0 hM
  have han : a < w.heap.size + 1 := Nat.lt_succ_of_lt E0.lt
  go_enter Tryz.func18, Tryz.ntmps18
  (try go_wp2_with fail)
  rcases Bool.eq_false_or_eq_true (isP l [116, 97, 98, 108, 101] σ) with h1 | h1
  · replace h1 := hid0 h1
    (try go_wp2_with fail)
    go_at_call 17
    refine (paTake_yes [116, 97, 98, 108, 101] E0.rd h1.out).mono ?_
    rintro e w1 ⟨rfl, hS⟩
    have E1 := E0.step hS
    clear hS
    obtain ⟨⟨y, σ2⟩, h2⟩ : ∃ z, stP (tableP l (⟨σ.i + 1, σ.e⟩ : PS)) = z := ⟨_, rfl⟩
    replace h2 := hid0 h2
    (try go_wp2_with fail)
    go_at_call 39
    refine (Ans.at_ h2 (paTable_any E1.rd)).mono ?_
    rintro e w2 ⟨us, hl, rfl, hA, hS⟩
    obtain ⟨u0, u1, u2, u3, u4, u5, u6, u7, u8, u9, u10, u11, u12, u13, u14, u15, u16, u17, u18, u19, u20, u21, u22, u23, u24, u25, rfl⟩ := len26 hl
    clear hl
    have Ay : LsAt w2 (fr (w.heap.size + 1)) (y) [u0, u1, u2, u3, u4, u5, u6, u7, u8, u9, u10, u11, u12, u13, u14, u15, u16, u17, u18, u19, u20, u21, u22, u23, u24, u25] := E1.leaf hA
    have E2 := E1.step hS
    clear hA
    clear hS
    have hL := Ay
    go_wp2_with (first | ((with_reducible refine wp_putB E2.res hL ?_ ?_ ?_ ?_ ?_); (rfl); (exact infoSt); (rfl); (rfl); intro w0 hV0 hw0; simp only [Act.put]) | fail)
    have hE : stP (createP l m σ) = (y, σ2) := by rw [← h2.out]; simp only [createP, h1.out, if_true]
    cases hM.out.symm.trans hE
    exact end_blk hV0 rfl rfl _ Tryz.underlying44 rfl infoSt rfl (E2.fin hL rfl hw0.out)
  · replace h1 := hid0 h1
    (try go_wp2_with fail)
    go_at_call 17
    refine (paTake_no [116, 97, 98, 108, 101] E0.rd h1.out).mono ?_
    rintro e w3 ⟨rfl, hS⟩
    have E3 := E0.step hS
    clear hS
    (try go_wp2_with fail)
    rcases Bool.eq_false_or_eq_true (isP l [108, 111, 103] σ) with h3 | h3
    · replace h3 := hid0 h3
      (try go_wp2_with fail)
      go_at_call 17
      refine (paTake_yes [108, 111, 103] E3.rd h3.out).mono ?_
      rintro e w4 ⟨rfl, hS⟩
      have E4 := E3.step hS
      clear hS
      obtain ⟨σ4, h4⟩ : ∃ z, need1 l [111, 110] (⟨σ.i + 1, σ.e⟩ : PS) = z := ⟨_, rfl⟩
      replace h4 := hid0 h4
      (try go_wp2_with fail)
      go_at_call 24
      refine (paNeed1_B h4 _ _ (by simp) E4.rd).mono ?_
      rintro e w5 ⟨rfl, hS⟩
      have E5 := E4.step hS
      clear hS
      obtain ⟨⟨s, σ5⟩, h5⟩ : ∃ z, nameP l σ4 = z := ⟨_, rfl⟩
      replace h5 := hid0 h5
      (try go_wp2_with fail)
      go_at_call 25
      refine (paName_at h5 E5.rd).mono ?_
      rintro e w6 ⟨rfl, hS⟩
      have E6 := E5.step hS
      clear hS
      have hL : LsAt w6 (fr (w.heap.size + 1)) (stL { zS with k := 4, nam := s }) [.int .i64 4, .string (txt s), .slice none 0 0, .slice none 0 0, .slice none 0 0, .int .i64 0, .slice none 0 0, .slice none 0 0, .int .i64 0, .int .i64 0, .int .i64 0, .string ⟨#[]⟩, .string ⟨#[]⟩, .int .i64 0, .int .i64 0, .string ⟨#[]⟩, .slice none 0 0, .int .i64 0, .string ⟨#[]⟩, .string ⟨#[]⟩, .int .i64 0, .int .i64 0, .string ⟨#[]⟩, .slice none 0 0, .slice none 0 0, .int .i64 0] := .st (us := [.int .i64 0, .int .i64 0, .int .i64 0, .string ⟨#[]⟩, .string ⟨#[]⟩, .int .i64 0, .int .i64 0, .string ⟨#[]⟩, .slice none 0 0, .int .i64 0, .string ⟨#[]⟩, .string ⟨#[]⟩, .int .i64 0, .int .i64 0, .string ⟨#[]⟩, .slice none 0 0, .slice none 0 0]) ({ zS with k := 4, nam := s }) rfl rfl rfl rfl (.rnil _ _) (.rnil _ _) (.rnil _ _) (.rnil _ _) (.rnil _ _) (.zC _ _)
      go_wp2_with (first | ((with_reducible refine wp_putB E6.res hL ?_ ?_ ?_ ?_ ?_); (rfl); (exact infoSt); (rfl); (rfl); intro w0 hV0 hw0; simp only [Act.put]) | fail)
      have hE : stP (createP l m σ) = (stL { zS with k := 4, nam := s }, σ5) := by simp only [stP, createP, namedP, h1.out, h3.out, h4.out, h5.out, Bool.false_eq_true, if_false, if_true]
      cases hM.out.symm.trans hE
      exact end_blk hV0 rfl rfl _ Tryz.underlying44 rfl infoSt rfl (E6.fin hL rfl hw0.out)
    · replace h3 := hid0 h3
      (try go_wp2_with fail)
      go_at_call 17
      refine (paTake_no [108, 111, 103] E3.rd h3.out).mono ?_
      rintro e w7 ⟨rfl, hS⟩
      have E7 := E3.step hS
      clear hS
      obtain ⟨σ6, h6⟩ : ∃ z, need1 l [118, 105, 101, 119] σ = z := ⟨_, rfl⟩
      replace h6 := hid0 h6
      (try go_wp2_with fail)
      go_at_call 24
      refine (paNeed1_B h6 _ _ (by simp) E7.rd).mono ?_
      rintro e w8 ⟨rfl, hS⟩
      have E8 := E7.step hS
      clear hS
      obtain ⟨⟨y, σ7⟩, h7⟩ : ∃ z, stP (viewP l m σ6) = z := ⟨_, rfl⟩
      replace h7 := hid0 h7
      (try go_wp2_with fail)
      go_at_call 40
      refine (Ans.at_ h7 (paView_any E8.rd)).mono ?_
      rintro e w9 ⟨us, hl, rfl, hA, hS⟩
      obtain ⟨u0, u1, u2, u3, u4, u5, u6, u7, u8, u9, u10, u11, u12, u13, u14, u15, u16, u17, u18, u19, u20, u21, u22, u23, u24, u25, rfl⟩ := len26 hl
      clear hl
      have Ay : LsAt w9 (fr (w.heap.size + 1)) (y) [u0, u1, u2, u3, u4, u5, u6, u7, u8, u9, u10, u11, u12, u13, u14, u15, u16, u17, u18, u19, u20, u21, u22, u23, u24, u25] := E8.leaf hA
      have E9 := E8.step hS
      clear hA
      clear hS
      have hL := Ay
      go_wp2_with (first | ((with_reducible refine wp_putB E9.res hL ?_ ?_ ?_ ?_ ?_); (rfl); (exact infoSt); (rfl); (rfl); intro w0 hV0 hw0; simp only [Act.put]) | fail)
      have hE : stP (createP l m σ) = (y, σ7) := by rw [← h7.out]; simp only [createP, h1.out, h3.out, h6.out, Bool.false_eq_true, if_false]
      cases hM.out.symm.trans hE
      exact end_blk hV0 rfl rfl _ Tryz.underlying44 rfl infoSt rfl (E9.fin hL rfl hw0.out)
set_option maxRecDepth 1000000 in
set_option maxHeartbeats 16000000 in
theorem paStmt_any {w : World} {a : Nat} {l : List Wd} {m : Int} {σ : PS} (hR : Rd w a l m 0 σ) :
    Calls Tryz.prog 11 #[.pointer (some ⟨a, 0, none⟩)] w (Ans w a l m 0 σ 26 (stP (stmtP l m σ)).1 (stP (stmtP l m σ)).2) := by
  have E0 := hR.start zStv 44
  obtain ⟨⟨x, τ⟩, hM⟩ : ∃ y, stP (stmtP l m σ) = y := ⟨_, rfl⟩
  rw [hM]
  dsimp only
  replace hM := hid0 hM
  have han : a < w.heap.size + 1 := Nat.lt_succ_of_lt E0.lt
  go_enter Tryz.func11, Tryz.ntmps11
  (try go_wp2_with fail)
  rcases Bool.eq_false_or_eq_true (isP l [115, 101, 108, 101, 99, 116] σ) with h1 | h1
  · replace h1 := hid0 h1
    (try go_wp2_with fail)
    go_at_call 15
    refine (paIs_at h1 E0.rd).mono ?_
    rintro e w1 ⟨rfl, hS⟩
    have E1 := E0.step hS
    clear hS
    obtain ⟨⟨qs, σ2⟩, h2⟩ : ∃ z, queryP l m σ = z := ⟨_, rfl⟩
    replace h2 := hid0 h2
    (try go_wp2_with fail)
    go_at_call 16
    refine (AnsQ.at_ h2 (paQuery_any E1.rd)).mono ?_
    rintro e w2 ⟨pqs, cqs, rfl, hA0, nqs, hS⟩
    have hA := LsAt.cons hA0 (LsAt.nil _ _)
    clear hA0
    have Aqs : LsAt w2 (fr (w.heap.size + 1)) ([rL qs]) [.slice pqs qs.length cqs] := E1.leaf hA
    have E2 := E1.step hS
    clear hA
    clear hS
    have hL : LsAt w2 (fr (w.heap.size + 1)) (stL { zS with k := 1, parts := qs }) [.int .i64 1, .string ⟨#[]⟩, .slice none 0 0, .slice none 0 0, .slice pqs qs.length cqs, .int .i64 0, .slice none 0 0, .slice none 0 0, .int .i64 0, .int .i64 0, .int .i64 0, .string ⟨#[]⟩, .string ⟨#[]⟩, .int .i64 0, .int .i64 0, .string ⟨#[]⟩, .slice none 0 0, .int .i64 0, .string ⟨#[]⟩, .string ⟨#[]⟩, .int .i64 0, .int .i64 0, .string ⟨#[]⟩, .slice none 0 0, .slice none 0 0, .int .i64 0] := .st (us := [.int .i64 0, .int .i64 0, .int .i64 0, .string ⟨#[]⟩, .string ⟨#[]⟩, .int .i64 0, .int .i64 0, .string ⟨#[]⟩, .slice none 0 0, .int .i64 0, .string ⟨#[]⟩, .string ⟨#[]⟩, .int .i64 0, .int .i64 0, .string ⟨#[]⟩, .slice none 0 0, .slice none 0 0]) ({ zS with k := 1, parts := qs }) rfl rfl rfl rfl (.rnil _ _) (.rnil _ _) (Aqs).hd (.rnil _ _) (.rnil _ _) (.zC _ _)
    go_wp2_with (first | ((with_reducible refine wp_putB E2.res hL ?_ ?_ ?_ ?_ ?_); (rfl); (exact infoSt); (rfl); (rfl); intro w0 hV0 hw0; simp only [Act.put]) | fail)
    have hE : stP (stmtP l m σ) = (stL { zS with k := 1, parts := qs }, σ2) := by simp only [stP, stmtP, h1.out, h2.out, if_true]
    cases hM.out.symm.trans hE
    exact end_blk hV0 rfl rfl _ Tryz.underlying44 rfl infoSt rfl (E2.fin hL rfl hw0.out)
  · replace h1 := hid0 h1
    (try go_wp2_with fail)
    go_at_call 15
    refine (paIs_at h1 E0.rd).mono ?_
    rintro e w3 ⟨rfl, hS⟩
    have E3 := E0.step hS
    clear hS
    (try go_wp2_with fail)
    rcases Bool.eq_false_or_eq_true (isP l [99, 114, 101, 97, 116, 101] σ) with h3 | h3
    · replace h3 := hid0 h3
      (try go_wp2_with fail)
      go_at_call 17
      refine (paTake_yes [99, 114, 101, 97, 116, 101] E3.rd h3.out).mono ?_
      rintro e w4 ⟨rfl, hS⟩
      have E4 := E3.step hS
      clear hS
      obtain ⟨⟨y, σ4⟩, h4⟩ : ∃ z, stP (createP l m (⟨σ.i + 1, σ.e⟩ : PS)) = z := ⟨_, rfl⟩
      replace h4 := hid0 h4
      (try go_wp2_with fail)
      go_at_call 18
      refine (Ans.at_ h4 (paCreate_any E4.rd)).mono ?_
      rintro e w5 ⟨us, hl, rfl, hA, hS⟩
      obtain ⟨u0, u1, u2, u3, u4, u5, u6, u7, u8, u9, u10, u11, u12, u13, u14, u15, u16, u17, u18, u19, u20, u21, u22, u23, u24, u25, rfl⟩ := len26 hl
      clear hl
      have Ay : LsAt w5 (fr (w.heap.size + 1)) (y) [u0, u1, u2, u3, u4, u5, u6, u7, u8, u9, u10, u11, u12, u13, u14, u15, u16, u17, u18, u19, u20, u21, u22, u23, u24, u25] := E4.leaf hA
      have E5 := E4.step hS
      clear hA
      clear hS
      have hL := Ay
      go_wp2_with (first | ((with_reducible refine wp_putB E5.res hL ?_ ?_ ?_ ?_ ?_); (rfl); (exact infoSt); (rfl); (rfl); intro w0 hV0 hw0; simp only [Act.put]) | fail)
      have hE : stP (stmtP l m σ) = (y, σ4) := by rw [← h4.out]; simp only [stmtP, h1.out, h3.out, Bool.false_eq_true, if_false, if_true]
      cases hM.out.symm.trans hE
      exact end_blk hV0 rfl rfl _ Tryz.underlying44 rfl infoSt rfl (E5.fin hL rfl hw0.out)
    · replace h3 := hid0 h3
      (try go_wp2_with fail)
      go_at_call 17
      refine (paTake_no [99, 114, 101, 97, 116, 101] E3.rd h3.out).mono ?_
      rintro e w6 ⟨rfl, hS⟩
      have E6 := E3.step hS
      clear hS
      (try go_wp2_with fail)
      rcases Bool.eq_false_or_eq_true (isP l [100, 114, 111, 112] σ) with h5 | h5
      · replace h5 := hid0 h5
        (try go_wp2_with fail)
        go_at_call 17
        refine (paTake_yes [100, 114, 111, 112] E6.rd h5.out).mono ?_
        rintro e w7 ⟨rfl, hS⟩
        have E7 := E6.step hS
        clear hS
        obtain ⟨⟨y, σ6⟩, h6⟩ : ∃ z, stP (dropP l (⟨σ.i + 1, σ.e⟩ : PS)) = z := ⟨_, rfl⟩
        replace h6 := hid0 h6
        (try go_wp2_with fail)
        go_at_call 19
        refine (Ans.at_ h6 (paDrop_any E7.rd)).mono ?_
        rintro e w8 ⟨us, hl, rfl, hA, hS⟩
        obtain ⟨u0, u1, u2, u3, u4, u5, u6, u7, u8, u9, u10, u11, u12, u13, u14, u15, u16, u17, u18, u19, u20, u21, u22, u23, u24, u25, rfl⟩ := len26 hl
        clear hl
        have Ay : LsAt w8 (fr (w.heap.size + 1)) (y) [u0, u1, u2, u3, u4, u5, u6, u7, u8, u9, u10, u11, u12, u13, u14, u15, u16, u17, u18, u19, u20, u21, u22, u23, u24, u25] := E7.leaf hA
        have E8 := E7.step hS
        clear hA
        clear hS
        have hL := Ay
        go_wp2_with (first | ((with_reducible refine wp_putB E8.res hL ?_ ?_ ?_ ?_ ?_); (rfl); (exact infoSt); (rfl); (rfl); intro w0 hV0 hw0; simp only [Act.put]) | fail)
        have hE : stP (stmtP l m σ) = (y, σ6) := by rw [← h6.out]; simp only [stmtP, h1.out, h3.out, h5.out, Bool.false_eq_true, if_false, if_true]
        cases hM.out.symm.trans hE
        exact end_blk hV0 rfl rfl _ Tryz.underlying44 rfl infoSt rfl (E8.fin hL rfl hw0.out)
      · replace h5 := hid0 h5
        (try go_wp2_with fail)
        go_at_call 17
        refine (paTake_no [100, 114, 111, 112] E6.rd h5.out).mono ?_
        rintro e w9 ⟨rfl, hS⟩
        have E9 := E6.step hS
        clear hS
        (try go_wp2_with fail)
        rcases Bool.eq_false_or_eq_true (isP l [105, 110, 115, 101, 114, 116] σ) with h7 | h7
        · replace h7 := hid0 h7
          (try go_wp2_with fail)
          go_at_call 17
          refine (paTake_yes [105, 110, 115, 101, 114, 116] E9.rd h7.out).mono ?_
          rintro e w10 ⟨rfl, hS⟩
          have E10 := E9.step hS
          clear hS
          obtain ⟨⟨y, σ8⟩, h8⟩ : ∃ z, stP (insertP l (⟨σ.i + 1, σ.e⟩ : PS)) = z := ⟨_, rfl⟩
          replace h8 := hid0 h8
          (try go_wp2_with fail)
          go_at_call 20
          refine (Ans.at_ h8 (paInsert_any E10.rd)).mono ?_
          rintro e w11 ⟨us, hl, rfl, hA, hS⟩
          obtain ⟨u0, u1, u2, u3, u4, u5, u6, u7, u8, u9, u10, u11, u12, u13, u14, u15, u16, u17, u18, u19, u20, u21, u22, u23, u24, u25, rfl⟩ := len26 hl
          clear hl
          have Ay : LsAt w11 (fr (w.heap.size + 1)) (y) [u0, u1, u2, u3, u4, u5, u6, u7, u8, u9, u10, u11, u12, u13, u14, u15, u16, u17, u18, u19, u20, u21, u22, u23, u24, u25] := E10.leaf hA
          have E11 := E10.step hS
          clear hA
          clear hS
          have hL := Ay
          go_wp2_with (first | ((with_reducible refine wp_putB E11.res hL ?_ ?_ ?_ ?_ ?_); (rfl); (exact infoSt); (rfl); (rfl); intro w0 hV0 hw0; simp only [Act.put]) | fail)
          have hE : stP (stmtP l m σ) = (y, σ8) := by rw [← h8.out]; simp only [stmtP, h1.out, h3.out, h5.out, h7.out, Bool.false_eq_true, if_false, if_true]
          cases hM.out.symm.trans hE
          exact end_blk hV0 rfl rfl _ Tryz.underlying44 rfl infoSt rfl (E11.fin hL rfl hw0.out)
        · replace h7 := hid0 h7
          (try go_wp2_with fail)
          go_at_call 17
          refine (paTake_no [105, 110, 115, 101, 114, 116] E9.rd h7.out).mono ?_
          rintro e w12 ⟨rfl, hS⟩
          have E12 := E9.step hS
          clear hS
          (try go_wp2_with fail)
          rcases Bool.eq_false_or_eq_true (isP l [100, 101, 108, 101, 116, 101] σ) with h9 | h9
          · replace h9 := hid0 h9
            (try go_wp2_with fail)
            go_at_call 17
            refine (paTake_yes [100, 101, 108, 101, 116, 101] E12.rd h9.out).mono ?_
            rintro e w13 ⟨rfl, hS⟩
            have E13 := E12.step hS
            clear hS
            obtain ⟨⟨y, σ10⟩, h10⟩ : ∃ z, stP (deleteP l m (⟨σ.i + 1, σ.e⟩ : PS)) = z := ⟨_, rfl⟩
            replace h10 := hid0 h10
            (try go_wp2_with fail)
            go_at_call 21
            refine (Ans.at_ h10 (paDelete_any E13.rd)).mono ?_
            rintro e w14 ⟨us, hl, rfl, hA, hS⟩
            obtain ⟨u0, u1, u2, u3, u4, u5, u6, u7, u8, u9, u10, u11, u12, u13, u14, u15, u16, u17, u18, u19, u20, u21, u22, u23, u24, u25, rfl⟩ := len26 hl
            clear hl
            have Ay : LsAt w14 (fr (w.heap.size + 1)) (y) [u0, u1, u2, u3, u4, u5, u6, u7, u8, u9, u10, u11, u12, u13, u14, u15, u16, u17, u18, u19, u20, u21, u22, u23, u24, u25] := E13.leaf hA
            have E14 := E13.step hS
            clear hA
            clear hS
            have hL := Ay
            go_wp2_with (first | ((with_reducible refine wp_putB E14.res hL ?_ ?_ ?_ ?_ ?_); (rfl); (exact infoSt); (rfl); (rfl); intro w0 hV0 hw0; simp only [Act.put]) | fail)
            have hE : stP (stmtP l m σ) = (y, σ10) := by rw [← h10.out]; simp only [stmtP, h1.out, h3.out, h5.out, h7.out, h9.out, Bool.false_eq_true, if_false, if_true]
            cases hM.out.symm.trans hE
            exact end_blk hV0 rfl rfl _ Tryz.underlying44 rfl infoSt rfl (E14.fin hL rfl hw0.out)
          · replace h9 := hid0 h9
            (try go_wp2_with fail)
            go_at_call 17
            refine (paTake_no [100, 101, 108, 101, 116, 101] E12.rd h9.out).mono ?_
            rintro e w15 ⟨rfl, hS⟩
            have E15 := E12.step hS
            clear hS
            (try go_wp2_with fail)
            rcases Bool.eq_false_or_eq_true (isP l [117, 112, 100, 97, 116, 101] σ) with h11 | h11
            · replace h11 := hid0 h11
              (try go_wp2_with fail)
              go_at_call 17
              refine (paTake_yes [117, 112, 100, 97, 116, 101] E15.rd h11.out).mono ?_
              rintro e w16 ⟨rfl, hS⟩
              have E16 := E15.step hS
              clear hS
              obtain ⟨⟨y, σ12⟩, h12⟩ : ∃ z, stP (updateP l m (⟨σ.i + 1, σ.e⟩ : PS)) = z := ⟨_, rfl⟩
              replace h12 := hid0 h12
              (try go_wp2_with fail)
              go_at_call 22
              refine (Ans.at_ h12 (paUpdate_any E16.rd)).mono ?_
              rintro e w17 ⟨us, hl, rfl, hA, hS⟩
              obtain ⟨u0, u1, u2, u3, u4, u5, u6, u7, u8, u9, u10, u11, u12, u13, u14, u15, u16, u17, u18, u19, u20, u21, u22, u23, u24, u25, rfl⟩ := len26 hl
              clear hl
              have Ay : LsAt w17 (fr (w.heap.size + 1)) (y) [u0, u1, u2, u3, u4, u5, u6, u7, u8, u9, u10, u11, u12, u13, u14, u15, u16, u17, u18, u19, u20, u21, u22, u23, u24, u25] := E16.leaf hA
              have E17 := E16.step hS
              clear hA
              clear hS
              have hL := Ay
              go_wp2_with (first | ((with_reducible refine wp_putB E17.res hL ?_ ?_ ?_ ?_ ?_); (rfl); (exact infoSt); (rfl); (rfl); intro w0 hV0 hw0; simp only [Act.put]) | fail)
              have hE : stP (stmtP l m σ) = (y, σ12) := by rw [← h12.out]; simp only [stmtP, h1.out, h3.out, h5.out, h7.out, h9.out, h11.out, Bool.false_eq_true, if_false, if_true]
              cases hM.out.symm.trans hE
              exact end_blk hV0 rfl rfl _ Tryz.underlying44 rfl infoSt rfl (E17.fin hL rfl hw0.out)
            · replace h11 := hid0 h11
              (try go_wp2_with fail)
              go_at_call 17
              refine (paTake_no [117, 112, 100, 97, 116, 101] E15.rd h11.out).mono ?_
              rintro e w18 ⟨rfl, hS⟩
              have E18 := E15.step hS
              clear hS
              (try go_wp2_with fail)
              rcases Bool.eq_false_or_eq_true (isP l [114, 101, 102, 114, 101, 115, 104] σ) with h13 | h13
              · replace h13 := hid0 h13
                (try go_wp2_with fail)
                go_at_call 17
                refine (paTake_yes [114, 101, 102, 114, 101, 115, 104] E18.rd h13.out).mono ?_
                rintro e w19 ⟨rfl, hS⟩
                have E19 := E18.step hS
                clear hS
                obtain ⟨⟨y, σ14⟩, h14⟩ : ∃ z, stP (refreshP l (⟨σ.i + 1, σ.e⟩ : PS)) = z := ⟨_, rfl⟩
                replace h14 := hid0 h14
                (try go_wp2_with fail)
                go_at_call 23
                refine (Ans.at_ h14 (paRefresh_any E19.rd)).mono ?_
                rintro e w20 ⟨us, hl, rfl, hA, hS⟩
                obtain ⟨u0, u1, u2, u3, u4, u5, u6, u7, u8, u9, u10, u11, u12, u13, u14, u15, u16, u17, u18, u19, u20, u21, u22, u23, u24, u25, rfl⟩ := len26 hl
                clear hl
                have Ay : LsAt w20 (fr (w.heap.size + 1)) (y) [u0, u1, u2, u3, u4, u5, u6, u7, u8, u9, u10, u11, u12, u13, u14, u15, u16, u17, u18, u19, u20, u21, u22, u23, u24, u25] := E19.leaf hA
                have E20 := E19.step hS
                clear hA
                clear hS
                have hL := Ay
                go_wp2_with (first | ((with_reducible refine wp_putB E20.res hL ?_ ?_ ?_ ?_ ?_); (rfl); (exact infoSt); (rfl); (rfl); intro w0 hV0 hw0; simp only [Act.put]) | fail)
                have hE : stP (stmtP l m σ) = (y, σ14) := by rw [← h14.out]; simp only [stmtP, h1.out, h3.out, h5.out, h7.out, h9.out, h11.out, h13.out, Bool.false_eq_true, if_false, if_true]
                cases hM.out.symm.trans hE
                exact end_blk hV0 rfl rfl _ Tryz.underlying44 rfl infoSt rfl (E20.fin hL rfl hw0.out)
              · replace h13 := hid0 h13
                (try go_wp2_with fail)
                go_at_call 17
                refine (paTake_no [114, 101, 102, 114, 101, 115, 104] E18.rd h13.out).mono ?_
                rintro e w21 ⟨rfl, hS⟩
                have E21 := E18.step hS
                clear hS
                (try go_wp2_with fail)
                rcases Bool.eq_false_or_eq_true (isP l [112, 117, 114, 103, 101] σ) with h15 | h15
                · replace h15 := hid0 h15
                  (try go_wp2_with fail)
                  go_at_call 17
                  refine (paTake_yes [112, 117, 114, 103, 101] E21.rd h15.out).mono ?_
                  rintro e w22 ⟨rfl, hS⟩
                  have E22 := E21.step hS
                  clear hS
                  obtain ⟨σ16, h16⟩ : ∃ z, need1 l [111, 110] (need1 l [108, 111, 103] (⟨σ.i + 1, σ.e⟩ : PS)) = z := ⟨_, rfl⟩
                  replace h16 := hid0 h16
                  (try go_wp2_with fail)
                  go_at_call 24
                  refine (paNeed2_B h16 _ _ (by simp) E22.rd).mono ?_
                  rintro e w23 ⟨rfl, hS⟩
                  have E23 := E22.step hS
                  clear hS
                  obtain ⟨⟨s, σ17⟩, h17⟩ : ∃ z, nameP l σ16 = z := ⟨_, rfl⟩
                  replace h17 := hid0 h17
                  (try go_wp2_with fail)
                  go_at_call 25
                  refine (paName_at h17 E23.rd).mono ?_
                  rintro e w24 ⟨rfl, hS⟩
                  have E24 := E23.step hS
                  clear hS
                  have hL : LsAt w24 (fr (w.heap.size + 1)) (stL { zS with k := 12, nam := s }) [.int .i64 12, .string (txt s), .slice none 0 0, .slice none 0 0, .slice none 0 0, .int .i64 0, .slice none 0 0, .slice none 0 0, .int .i64 0, .int .i64 0, .int .i64 0, .string ⟨#[]⟩, .string ⟨#[]⟩, .int .i64 0, .int .i64 0, .string ⟨#[]⟩, .slice none 0 0, .int .i64 0, .string ⟨#[]⟩, .string ⟨#[]⟩, .int .i64 0, .int .i64 0, .string ⟨#[]⟩, .slice none 0 0, .slice none 0 0, .int .i64 0] := .st (us := [.int .i64 0, .int .i64 0, .int .i64 0, .string ⟨#[]⟩, .string ⟨#[]⟩, .int .i64 0, .int .i64 0, .string ⟨#[]⟩, .slice none 0 0, .int .i64 0, .string ⟨#[]⟩, .string ⟨#[]⟩, .int .i64 0, .int .i64 0, .string ⟨#[]⟩, .slice none 0 0, .slice none 0 0]) ({ zS with k := 12, nam := s }) rfl rfl rfl rfl (.rnil _ _) (.rnil _ _) (.rnil _ _) (.rnil _ _) (.rnil _ _) (.zC _ _)
                  go_wp2_with (first | ((with_reducible refine wp_putB E24.res hL ?_ ?_ ?_ ?_ ?_); (rfl); (exact infoSt); (rfl); (rfl); intro w0 hV0 hw0; simp only [Act.put]) | fail)
                  have hE : stP (stmtP l m σ) = (stL { zS with k := 12, nam := s }, σ17) := by simp only [stP, stmtP, namedP, h1.out, h3.out, h5.out, h7.out, h9.out, h11.out, h13.out, h15.out, h16.out, h17.out, Bool.false_eq_true, if_false, if_true]
                  cases hM.out.symm.trans hE
                  exact end_blk hV0 rfl rfl _ Tryz.underlying44 rfl infoSt rfl (E24.fin hL rfl hw0.out)
                · replace h15 := hid0 h15
                  (try go_wp2_with fail)
                  go_at_call 17
                  refine (paTake_no [112, 117, 114, 103, 101] E21.rd h15.out).mono ?_
                  rintro e w25 ⟨rfl, hS⟩
                  have E25 := E21.step hS
                  clear hS
                  (try go_wp2_with fail)
                  rcases Bool.eq_false_or_eq_true (isP l [115, 101, 116] σ) with h18 | h18
                  · replace h18 := hid0 h18
                    (try go_wp2_with fail)
                    go_at_call 17
                    refine (paTake_yes [115, 101, 116] E25.rd h18.out).mono ?_
                    rintro e w26 ⟨rfl, hS⟩
                    have E26 := E25.step hS
                    clear hS
                    obtain ⟨⟨y, σ19⟩, h19⟩ : ∃ z, stP (settingP l (⟨σ.i + 1, σ.e⟩ : PS)) = z := ⟨_, rfl⟩
                    replace h19 := hid0 h19
                    (try go_wp2_with fail)
                    go_at_call 26
                    refine (Ans.at_ h19 (paSetting_any E26.rd)).mono ?_
                    rintro e w27 ⟨us, hl, rfl, hA, hS⟩
                    obtain ⟨u0, u1, u2, u3, u4, u5, u6, u7, u8, u9, u10, u11, u12, u13, u14, u15, u16, u17, u18, u19, u20, u21, u22, u23, u24, u25, rfl⟩ := len26 hl
                    clear hl
                    have Ay : LsAt w27 (fr (w.heap.size + 1)) (y) [u0, u1, u2, u3, u4, u5, u6, u7, u8, u9, u10, u11, u12, u13, u14, u15, u16, u17, u18, u19, u20, u21, u22, u23, u24, u25] := E26.leaf hA
                    have E27 := E26.step hS
                    clear hA
                    clear hS
                    have hL := Ay
                    go_wp2_with (first | ((with_reducible refine wp_putB E27.res hL ?_ ?_ ?_ ?_ ?_); (rfl); (exact infoSt); (rfl); (rfl); intro w0 hV0 hw0; simp only [Act.put]) | fail)
                    have hE : stP (stmtP l m σ) = (y, σ19) := by rw [← h19.out]; simp only [stmtP, h1.out, h3.out, h5.out, h7.out, h9.out, h11.out, h13.out, h15.out, h18.out, Bool.false_eq_true, if_false, if_true]
                    cases hM.out.symm.trans hE
                    exact end_blk hV0 rfl rfl _ Tryz.underlying44 rfl infoSt rfl (E27.fin hL rfl hw0.out)
                  · replace h18 := hid0 h18
                    (try go_wp2_with fail)
                    go_at_call 17
                    refine (paTake_no [115, 101, 116] E25.rd h18.out).mono ?_
                    rintro e w28 ⟨rfl, hS⟩
                    have E28 := E25.step hS
                    clear hS
                    (try go_wp2_with fail)
                    rcases Bool.eq_false_or_eq_true (isP l [115, 104, 111, 119] σ) with h20 | h20
                    · replace h20 := hid0 h20
                      (try go_wp2_with fail)
                      go_at_call 17
                      refine (paTake_yes [115, 104, 111, 119] E28.rd h20.out).mono ?_
                      rintro e w29 ⟨rfl, hS⟩
                      have E29 := E28.step hS
                      clear hS
                      obtain ⟨⟨s, σ21⟩, h21⟩ : ∃ z, nameP l (⟨σ.i + 1, σ.e⟩ : PS) = z := ⟨_, rfl⟩
                      replace h21 := hid0 h21
                      (try go_wp2_with fail)
                      go_at_call 25
                      refine (paName_at h21 E29.rd).mono ?_
                      rintro e w30 ⟨rfl, hS⟩
                      have E30 := E29.step hS
                      clear hS
                      have hL : LsAt w30 (fr (w.heap.size + 1)) (stL { zS with k := 15, nam := s }) [.int .i64 15, .string (txt s), .slice none 0 0, .slice none 0 0, .slice none 0 0, .int .i64 0, .slice none 0 0, .slice none 0 0, .int .i64 0, .int .i64 0, .int .i64 0, .string ⟨#[]⟩, .string ⟨#[]⟩, .int .i64 0, .int .i64 0, .string ⟨#[]⟩, .slice none 0 0, .int .i64 0, .string ⟨#[]⟩, .string ⟨#[]⟩, .int .i64 0, .int .i64 0, .string ⟨#[]⟩, .slice none 0 0, .slice none 0 0, .int .i64 0] := .st (us := [.int .i64 0, .int .i64 0, .int .i64 0, .string ⟨#[]⟩, .string ⟨#[]⟩, .int .i64 0, .int .i64 0, .string ⟨#[]⟩, .slice none 0 0, .int .i64 0, .string ⟨#[]⟩, .string ⟨#[]⟩, .int .i64 0, .int .i64 0, .string ⟨#[]⟩, .slice none 0 0, .slice none 0 0]) ({ zS with k := 15, nam := s }) rfl rfl rfl rfl (.rnil _ _) (.rnil _ _) (.rnil _ _) (.rnil _ _) (.rnil _ _) (.zC _ _)
                      go_wp2_with (first | ((with_reducible refine wp_putB E30.res hL ?_ ?_ ?_ ?_ ?_); (rfl); (exact infoSt); (rfl); (rfl); intro w0 hV0 hw0; simp only [Act.put]) | fail)
                      have hE : stP (stmtP l m σ) = (stL { zS with k := 15, nam := s }, σ21) := by simp only [stP, stmtP, namedP, h1.out, h3.out, h5.out, h7.out, h9.out, h11.out, h13.out, h15.out, h18.out, h20.out, h21.out, Bool.false_eq_true, if_false, if_true]
                      cases hM.out.symm.trans hE
                      exact end_blk hV0 rfl rfl _ Tryz.underlying44 rfl infoSt rfl (E30.fin hL rfl hw0.out)
                    · replace h20 := hid0 h20
                      (try go_wp2_with fail)
                      go_at_call 17
                      refine (paTake_no [115, 104, 111, 119] E28.rd h20.out).mono ?_
                      rintro e w31 ⟨rfl, hS⟩
                      have E31 := E28.step hS
                      clear hS
                      obtain ⟨σ22, h22⟩ : ∃ z, faultP l 4 σ = z := ⟨_, rfl⟩
                      replace h22 := hid0 h22
                      (try go_wp2_with fail)
                      go_at_call 27
                      refine (paFault_at 4 h22 E31.rd (by decide)).mono ?_
                      rintro e w32 ⟨rfl, hS⟩
                      have E32 := E31.step hS
                      clear hS
                      have hL : LsAt w32 (fr (w.heap.size + 1)) (stL zS) [.int .i64 0, .string ⟨#[]⟩, .slice none 0 0, .slice none 0 0, .slice none 0 0, .int .i64 0, .slice none 0 0, .slice none 0 0, .int .i64 0, .int .i64 0, .int .i64 0, .string ⟨#[]⟩, .string ⟨#[]⟩, .int .i64 0, .int .i64 0, .string ⟨#[]⟩, .slice none 0 0, .int .i64 0, .string ⟨#[]⟩, .string ⟨#[]⟩, .int .i64 0, .int .i64 0, .string ⟨#[]⟩, .slice none 0 0, .slice none 0 0, .int .i64 0] := .st (us := [.int .i64 0, .int .i64 0, .int .i64 0, .string ⟨#[]⟩, .string ⟨#[]⟩, .int .i64 0, .int .i64 0, .string ⟨#[]⟩, .slice none 0 0, .int .i64 0, .string ⟨#[]⟩, .string ⟨#[]⟩, .int .i64 0, .int .i64 0, .string ⟨#[]⟩, .slice none 0 0, .slice none 0 0]) (zS) rfl rfl rfl rfl (.rnil _ _) (.rnil _ _) (.rnil _ _) (.rnil _ _) (.rnil _ _) (.zC _ _)
                      go_wp2_with (first | ((with_reducible refine wp_putB E32.res hL ?_ ?_ ?_ ?_ ?_); (rfl); (exact infoSt); (rfl); (rfl); intro w0 hV0 hw0; simp only [Act.put]) | fail)
                      have hE : stP (stmtP l m σ) = (stL zS, σ22) := by simp only [stP, stmtP, h1.out, h3.out, h5.out, h7.out, h9.out, h11.out, h13.out, h15.out, h18.out, h20.out, h22.out, Bool.false_eq_true, if_false]
                      cases hM.out.symm.trans hE
                      exact end_blk hV0 rfl rfl _ Tryz.underlying44 rfl infoSt rfl (E32.fin hL rfl hw0.out)
end Go.Proofs.YtneebnankghhgacGreatDoor

/- The project's parser: Parse: a contract of the call. Conditions: what strconv.ErrRange holds is an error. -/
namespace Go.Proofs.YtneebnankghhgacGreatDoor
open Go.RowKit

/-- What the parser tells of a command: its statement, or the first fault. -/
def parM (s : List UInt8) (m : Int) : SM × Nat := if outE (lexR s) = 0 then readP (outW s.length (lexR s)) m else (zS, outE (lexR s))
/-- A word as a lexer makes it. -/
def GoodX (n : Nat) (x : Wd) : Prop := x.k ≠ 5 ∧ x.n ≤ 9223372036854775808 ∧ x.s.length ≤ n
theorem txR_text : ∀ (l : List UInt8) x, txR l = some x → x.1.length ≤ l.length
  | [], x, h => by simp [txR] at h
  | [c], x, h => by
    simp only [txR] at h
    split at h
    · cases h; simp
    · cases h
  | c :: d :: r, x, h => by
    simp only [txR] at h
    split at h
    · split at h
      · obtain ⟨y, hy, rfl⟩ := Option.map_eq_some_iff.1 h
        have := txR_text r y hy
        simp; omega
      · cases h; simp
    · obtain ⟨y, hy, rfl⟩ := Option.map_eq_some_iff.1 h
      have := txR_text (d :: r) y hy
      simp at this ⊢; omega
theorem word_good : ∀ l, GoodX l.length (wordM l).1
  | [] => by simp [wordM, noW, GoodX]
  | c :: r => by
    rcases word_cases c with h | ⟨h, h1⟩ | ⟨h, h1, h2⟩ | ⟨h, h1, h2, h3⟩ | ⟨h, h1, h2, h3⟩
    · rw [word_name h]; exact ⟨by simp, by simp, List.length_take_le' _ _⟩
    · rw [word_num h h1]
      split
      · exact ⟨by simp [noW], by simp [noW], by simp [noW]⟩
      · rename_i hb
        simp [numBad] at hb
        exact ⟨by simp, by simp; omega, by simp⟩
    · rw [word_text h h1 h2]
      split
      · exact ⟨by simp [noW], by simp [noW], by simp [noW]⟩
      · rename_i x hx
        have := txR_text r x hx
        exact ⟨by simp, by simp, by simp; omega⟩
    · rw [word_sign h h1 h2 h3]; exact ⟨by simp, by simp, List.length_take_le' _ _⟩
    · rw [word_none h h1 h2 h3]; exact ⟨by simp [noW], by simp [noW], by simp [noW]⟩
theorem lexM_good (n : Nat) : ∀ (f i : Nat) (l : List UInt8) (acc ws : List Wd), l.length ≤ n → (∀ x ∈ acc, GoodX n x) → acc.length ≤ 512 → lexM f i l acc = .ok ws → (∀ x ∈ ws, GoodX n x) ∧ ws.length ≤ 512
  | 0, _, _, acc, ws, _, hA, hn, h => by simp [lexM] at h; subst h; exact ⟨hA, hn⟩
  | _ + 1, _, [], acc, ws, _, hA, hn, h => by simp [lexM] at h; subst h; exact ⟨hA, hn⟩
  | f + 1, i, c :: r, acc, ws, hl, hA, hn, h => by
    simp only [lexM] at h
    split at h
    · exact lexM_good n f _ r acc ws (by simp at hl; omega) hA hn h
    · split at h
      · cases h
      · split at h
        · cases h
        · refine lexM_good n f _ _ _ ws (by rw [List.length_drop]; omega) (fun x hx => ?_) (by simp; omega) h
          rw [List.mem_append] at hx
          rcases hx with hx | hx
          · exact hA x hx
          · simp at hx
            subst hx
            obtain ⟨g1, g2, g3⟩ := word_good (c :: r)
            exact ⟨g1, g2, Nat.le_trans g3 hl⟩
theorem words_ok {s : List UInt8} {ws : List Wd} (h : lexR s = .ok ws) : WsOk (outW s.length (lexR s)) := by
  rw [h]
  unfold lexR at h
  split at h
  · cases h
  · rename_i hl
    obtain ⟨hg, hn⟩ := lexM_good s.length _ _ _ _ _ (Nat.le_refl _) (by simp) (by simp) h
    refine ⟨by simp [outW], fun i hi => ?_, fun x hx => ?_, by simp [outW]; omega, fun x hx => ?_⟩
    · simp only [outW] at hi ⊢
      rcases Nat.lt_or_ge i ws.length with h1 | h1
      · rw [List.getElem_append_left h1]
        have := (hg _ (List.getElem_mem h1)).1
        simp
        constructor
        · exact fun e => absurd e this
        · omega
      · have e : i = ws.length := by simp at hi; omega
        subst e
        simp
    · simp only [outW, List.mem_append, List.mem_singleton] at hx
      rcases hx with hx | hx
      · exact (hg x hx).2.1
      · subst hx; simp
    · simp only [outW, List.mem_append, List.mem_singleton] at hx
      rcases hx with hx | hx
      · have := (hg x hx).2.2; unfold maxLen; omega
      · subst hx; simp
theorem words_ok' {s : List UInt8} (h : outE (lexR s) = 0) : WsOk (outW s.length (lexR s)) := by
  cases hr : lexR s with
  | ok ws => have := words_ok hr; rw [hr] at this; exact this
  | syn i => rw [hr] at h; cases h
  | long i => rw [hr] at h; cases h
/-- A whole struct goes into its block, in a region that draws its order. -/
theorem wp_putR {P : Program} {ops : Array Oper} {o : Oper} {a : Act} {w : World} {K : Act → World → Prop} {Q : Exit → Act → World → Prop} {X : Prop} {B : Nat} {us vs : List Value} {R : Nat → Prop} {xs : List Lf} {ty : TypeId} {x y : Operand} (hV : VarB w B us) (hL : LsAt w R xs vs) (hgd : o.guard = none) (ho : o.op = .store ty x y) (hl : vs.length = us.length)
    (hi : (P.info? ty).map (·.size) = some us.length) (hx : a.eval x = .pointer (some ⟨B, 0, none⟩)) (hy : a.eval y = .agg vs.toArray)
    (h : K (a.put o.dst undef) (w.setCells B 0 vs)) : if Region.wanted o (yielded ops a.tmps) = true then Oper.wp P o a w K Q else X := by
  have hw : Region.wanted o (yielded ops a.tmps) = true := by simp [Region.wanted, hgd]
  rw [if_pos hw]
  exact wp_store_mid ty x y ho B 0 vs.toArray hx hy (by simpa [hl] using hV.there) (by simpa [hl] using hi) (all_oneCell_toArray hL.one) h
/-- A call ends whose first result lies in a block of its own, the second in a slot. -/
theorem end_blk2 {P : Program} {f : Func} {Q : Ending → World → Prop} {a : Act} {w : World} {B t u : Nat} {ty : TypeId} {us : List Value} {v : Value} (hV : VarB w B us) (hf : f.results = #[.cell t ty, .tmp u]) (ht : a.tmps.getD t undef = .pointer (some ⟨B, 0, none⟩)) (hu2 : a.tmps.getD u undef = v) (d : TypeDesc) (hu : P.underlying ty = some d) (hd : d.isRow = true) (hi : (P.info? ty).map (·.size) = some us.length)
    (hde : a.defers = []) (hQ : Q (.returned (.tuple #[.agg us.toArray, v])) w) : bodyPost P f Q .ret a w := by
  refine bodyPost_ret (v := .tuple #[.agg us.toArray, v]) ?_ hde hQ
  have hl := run_loadVar_mid (P := P) w B 0 ty us d hV.at_ hu hd hi
  have ht2 : a.tmps[t]?.getD undef = .pointer (some ⟨B, 0, none⟩) := by simpa using ht
  have hu3 : a.tmps[u]?.getD undef = v := by simpa using hu2
  simp [results, hf, ht2, hu3, asAddr, hl]
/-- What Parse answers. -/
def ParseAns (s : List UInt8) (m : Int) (w : World) (e : Ending) (w' : World) : Prop :=
  ∃ us, us.length = 26 ∧ e = .returned (.tuple #[.agg us.toArray, .int .i64 ((parM s m).2 : Nat)]) ∧ LsAt w' (fr w.heap.size) (stL (parM s m).1) us ∧ Below w.heap.size w w'
/-- A reader newly laid over a row of words. -/
theorem rd_new {w : World} {base g c : Nat} {l : List Wd} {m : Int} (ty : TypeId) (hO : OwnW w base (.slice (some ⟨g, 0, none⟩) l.length c) l) (ok : WsOk l) (hm : -9223372036854775808 ≤ m ∧ m ≤ 9223372036854775807) :
    Rd (w.alloc (.cells #[.slice (some ⟨g, 0, none⟩) l.length c, .int .i64 0, .int .i64 0, .int .i64 m, .int .i64 0] ty)) w.heap.size l m 0 ⟨0, 0⟩ := by
  obtain ⟨g', c', e, hcell⟩ := hO.row0 ok.ne
  cases e
  have hlt := (hO.out.lt g rfl).2
  have hcap : l.length ≤ c := by
    rcases hO.out.2 with ⟨h, _⟩ | ⟨g2, cap, cur, h, _, _, hc, _⟩
    · cases h
    · cases h; exact hc
  have hpos : 0 < l.length := List.length_pos_iff.2 ok.ne
  have V := VarB.new w [.slice (some ⟨g, 0, none⟩) l.length c, .int .i64 0, .int .i64 0, .int .i64 m, .int .i64 0] ty
  refine ⟨g, 0, c, V.cell 0 rfl, V.cell 1 rfl, V.cell 2 rfl, V.cell 3 rfl, V.cell 4 rfl, V.frz 1 (by simp), V.frz 2 (by simp), V.frz 4 (by simp), hlt, fun _ => ⟨g, 0, rfl, fun i hi => ?_⟩, ok, hpos, by decide, Nat.le_refl _, hm, hcap⟩
  obtain ⟨q0, q1, q2, q3⟩ := wdCells_at l i hi
  have hb := Below.heap_alloc w (.cells #[.slice (some ⟨g, 0, none⟩) l.length c, .int .i64 0, .int .i64 0, .int .i64 m, .int .i64 0] ty) g hlt
  rw [Nat.zero_add]
  exact ⟨(World.cell?_of_block (a := ⟨g, _, none⟩) hb).trans (hcell _ _ q0), (World.cell?_of_block (a := ⟨g, _, none⟩) hb).trans (hcell _ _ q1), (World.cell?_of_block (a := ⟨g, _, none⟩) hb).trans (hcell _ _ q2), (World.cell?_of_block (a := ⟨g, _, none⟩) hb).trans (hcell _ _ q3)⟩

end Go.Proofs.YtneebnankghhgacGreatDoor

/- The project's parser: Parse: a contract of the call. Conditions: what strconv.ErrRange holds is an error. -/
namespace Go.Proofs.YtneebnankghhgacGreatDoor
open Go.RowKit

set_option maxRecDepth 1000000 in
set_option maxHeartbeats 16000000 in
theorem paParse_any (s : List UInt8) (m : Int) (w : World) (hs : s.length ≤ maxLen) (hm : -9223372036854775808 ≤ m ∧ m ≤ 9223372036854775807) (er : ErAt w) :
    Calls Tryz.prog 7 #[.string (txt s), .int .i64 m] w (ParseAns s m w) := by
  have er1 := er.later ((Below.refl w.heap.size w).alloc (Nat.le_refl _) (Obj.cells #[.int .i64 0, .string ⟨#[]⟩, .slice none 0 0, .slice none 0 0, .slice none 0 0, .int .i64 0, .slice none 0 0, .slice none 0 0, .int .i64 0, .int .i64 0, .int .i64 0, .string ⟨#[]⟩, .string ⟨#[]⟩, .int .i64 0, .int .i64 0, .string ⟨#[]⟩, .slice none 0 0, .int .i64 0, .string ⟨#[]⟩, .string ⟨#[]⟩, .int .i64 0, .int .i64 0, .string ⟨#[]⟩, .slice none 0 0, .slice none 0 0, .int .i64 0] 44))
  have CW := lxWords_any s _ hs er1
  have V0 : VarB (w.alloc (Obj.cells #[.int .i64 0, .string ⟨#[]⟩, .slice none 0 0, .slice none 0 0, .slice none 0 0, .int .i64 0, .slice none 0 0, .slice none 0 0, .int .i64 0, .int .i64 0, .int .i64 0, .string ⟨#[]⟩, .string ⟨#[]⟩, .int .i64 0, .int .i64 0, .string ⟨#[]⟩, .slice none 0 0, .int .i64 0, .string ⟨#[]⟩, .string ⟨#[]⟩, .int .i64 0, .int .i64 0, .string ⟨#[]⟩, .slice none 0 0, .slice none 0 0, .int .i64 0] 44)) w.heap.size zStv := VarB.new w zStv 44
  have B0 := (Below.refl w.heap.size w).alloc (Nat.le_refl _) (Obj.cells #[.int .i64 0, .string ⟨#[]⟩, .slice none 0 0, .slice none 0 0, .slice none 0 0, .int .i64 0, .slice none 0 0, .slice none 0 0, .int .i64 0, .int .i64 0, .int .i64 0, .string ⟨#[]⟩, .string ⟨#[]⟩, .int .i64 0, .int .i64 0, .string ⟨#[]⟩, .slice none 0 0, .int .i64 0, .string ⟨#[]⟩, .string ⟨#[]⟩, .int .i64 0, .int .i64 0, .string ⟨#[]⟩, .slice none 0 0, .slice none 0 0, .int .i64 0] 44)
  have hzw : (w.alloc (Obj.cells #[.int .i64 0, .string ⟨#[]⟩, .slice none 0 0, .slice none 0 0, .slice none 0 0, .int .i64 0, .slice none 0 0, .slice none 0 0, .int .i64 0, .int .i64 0, .int .i64 0, .string ⟨#[]⟩, .string ⟨#[]⟩, .int .i64 0, .int .i64 0, .string ⟨#[]⟩, .slice none 0 0, .int .i64 0, .string ⟨#[]⟩, .string ⟨#[]⟩, .int .i64 0, .int .i64 0, .string ⟨#[]⟩, .slice none 0 0, .slice none 0 0, .int .i64 0] 44)).heap.size = w.heap.size + 1 := by simp
  have hzL : ∀ W P, LsAt W P (stL zS) [.int .i64 0, .string ⟨#[]⟩, .slice none 0 0, .slice none 0 0, .slice none 0 0, .int .i64 0, .slice none 0 0, .slice none 0 0, .int .i64 0, .int .i64 0, .int .i64 0, .string ⟨#[]⟩, .string ⟨#[]⟩, .int .i64 0, .int .i64 0, .string ⟨#[]⟩, .slice none 0 0, .int .i64 0, .string ⟨#[]⟩, .string ⟨#[]⟩, .int .i64 0, .int .i64 0, .string ⟨#[]⟩, .slice none 0 0, .slice none 0 0, .int .i64 0] := fun W P => LsAt.st (us := [.int .i64 0, .int .i64 0, .int .i64 0, .string ⟨#[]⟩, .string ⟨#[]⟩, .int .i64 0, .int .i64 0, .string ⟨#[]⟩, .slice none 0 0, .int .i64 0, .string ⟨#[]⟩, .string ⟨#[]⟩, .int .i64 0, .int .i64 0, .string ⟨#[]⟩, .slice none 0 0, .slice none 0 0]) zS rfl rfl rfl rfl (.rnil _ _) (.rnil _ _) (.rnil _ _) (.rnil _ _) (.rnil _ _) (.zC _ _)
  by_cases h0 : outE (lexR s) = 0
  · have hP : parM s m = readP (outW s.length (lexR s)) m := if_pos h0
    have hok := words_ok' h0
    unfold ParseAns
    rw [hP]
    obtain ⟨l, hl⟩ : ∃ l, outW s.length (lexR s) = l := ⟨_, rfl⟩
    rw [hl] at hok ⊢
    obtain ⟨n0, hn0⟩ : ∃ n, outN (lexR s) = n := ⟨_, rfl⟩
    obtain ⟨⟨x, σ1⟩, h1⟩ : ∃ z, stmtP l m ⟨0, 0⟩ = z := ⟨_, rfl⟩
    obtain ⟨σ2, h2⟩ : ∃ z, endP l σ1 = z := ⟨_, rfl⟩
    have hRd : readP l m = if σ2.e = 0 then (x, 0) else (zS, σ2.e) := by simp only [readP, h1, h2]
    rw [hRd]
    have h1p : stP (stmtP l m ⟨0, 0⟩) = (stL x, σ1) := by rw [h1]; rfl
    have HH := hid0 (And.intro h0 (And.intro hl hn0))
    have HER := hid0 h2
    replace h1p := hid0 h1p
    clear hP hRd h1 h2 er1 er
    have HOK := hid0 hok
    go_enter Tryz.func7, Tryz.ntmps7
    go_wp2_with fail
    go_at_call 10
    refine CW.mono ?_
    rintro e w1 ⟨⟨v, rfl, hO⟩, hb1⟩
    rw [HH.out.1, HH.out.2.2]
    rw [HH.out.2.1] at hO
    obtain ⟨g, c, rfl, hcell⟩ := hO.row0 HOK.out.ne
    have hO2 := hO.out.lt g rfl
    have hz1 := hb1.size
    rw [hzw] at hz1 hO2
    have V1 := V0.keep (hb1.block w.heap.size (by rw [hzw]; omega)) hb1.size
    have B1 := B0.trans (hb1.mono (by rw [hzw]; omega))
    have hR : Rd (w1.alloc (Obj.cells #[.slice (some ⟨g, 0, none⟩) l.length c, .int .i64 0, .int .i64 0, .int .i64 m, .int .i64 0] 58)) w1.heap.size l m 0 ⟨0, 0⟩ := rd_new _ hO HOK.out hm
    have HR := hid0 hR
    clear hO hcell hR hok
    have V2 := V1.alloc (Obj.cells #[.slice (some ⟨g, 0, none⟩) l.length c, .int .i64 0, .int .i64 0, .int .i64 m, .int .i64 0] 58)
    have B2 := B1.alloc B1.size (Obj.cells #[.slice (some ⟨g, 0, none⟩) l.length c, .int .i64 0, .int .i64 0, .int .i64 m, .int .i64 0] 58)
    clear hO2
    go_wp2_with fail
    go_at_call 11
    refine (Ans.at_ h1p (paStmt_any HR.out)).mono ?_
    rintro e w3 ⟨us, hl3, rfl, hA, hS⟩
    obtain ⟨u0, u1, u2, u3, u4, u5, u6, u7, u8, u9, u10, u11, u12, u13, u14, u15, u16, u17, u18, u19, u20, u21, u22, u23, u24, u25, rfl⟩ := len26 hl3
    have V3 := V2.keep (hS.onl.block w.heap.size (by simp; omega) (by simp; omega)) hS.onl.size
    have hz3 := hS.onl.size
    rw [World.size_alloc] at hz3
    have B3 := B2.trans ((hS.onl.below (by simp)).mono (by omega : w.heap.size ≤ w1.heap.size))
    have hA2 : LsAt w3 (fr (w1.heap.size + 1)) (stL x) [u0, u1, u2, u3, u4, u5, u6, u7, u8, u9, u10, u11, u12, u13, u14, u15, u16, u17, u18, u19, u20, u21, u22, u23, u24, u25] := hA.lower (by simp)
    have hA3 := hA2.allocx (Obj.cells #[.int .i64 0, .string ⟨#[]⟩, .slice none 0 0, .slice none 0 0, .slice none 0 0, .int .i64 0, .slice none 0 0, .slice none 0 0, .int .i64 0, .int .i64 0, .int .i64 0, .string ⟨#[]⟩, .string ⟨#[]⟩, .int .i64 0, .int .i64 0, .string ⟨#[]⟩, .slice none 0 0, .int .i64 0, .string ⟨#[]⟩, .string ⟨#[]⟩, .int .i64 0, .int .i64 0, .string ⟨#[]⟩, .slice none 0 0, .slice none 0 0, .int .i64 0] 44)
    have hX0 : VarB (w3.alloc (Obj.cells #[.int .i64 0, .string ⟨#[]⟩, .slice none 0 0, .slice none 0 0, .slice none 0 0, .int .i64 0, .slice none 0 0, .slice none 0 0, .int .i64 0, .int .i64 0, .int .i64 0, .string ⟨#[]⟩, .string ⟨#[]⟩, .int .i64 0, .int .i64 0, .string ⟨#[]⟩, .slice none 0 0, .int .i64 0, .string ⟨#[]⟩, .string ⟨#[]⟩, .int .i64 0, .int .i64 0, .string ⟨#[]⟩, .slice none 0 0, .slice none 0 0, .int .i64 0] 44)) w3.heap.size zStv := VarB.new w3 zStv 44
    have R3 := hS.rd.above ((Below.refl (w1.heap.size + 1) w3).alloc hz3 (Obj.cells #[.int .i64 0, .string ⟨#[]⟩, .slice none 0 0, .slice none 0 0, .slice none 0 0, .int .i64 0, .slice none 0 0, .slice none 0 0, .int .i64 0, .int .i64 0, .int .i64 0, .string ⟨#[]⟩, .string ⟨#[]⟩, .int .i64 0, .int .i64 0, .string ⟨#[]⟩, .slice none 0 0, .int .i64 0, .string ⟨#[]⟩, .string ⟨#[]⟩, .int .i64 0, .int .i64 0, .string ⟨#[]⟩, .slice none 0 0, .slice none 0 0, .int .i64 0] 44))
    replace V3 := V3.alloc (Obj.cells #[.int .i64 0, .string ⟨#[]⟩, .slice none 0 0, .slice none 0 0, .slice none 0 0, .int .i64 0, .slice none 0 0, .slice none 0 0, .int .i64 0, .int .i64 0, .int .i64 0, .string ⟨#[]⟩, .string ⟨#[]⟩, .int .i64 0, .int .i64 0, .string ⟨#[]⟩, .slice none 0 0, .int .i64 0, .string ⟨#[]⟩, .string ⟨#[]⟩, .int .i64 0, .int .i64 0, .string ⟨#[]⟩, .slice none 0 0, .slice none 0 0, .int .i64 0] 44)
    replace B3 := B3.alloc B3.size (Obj.cells #[.int .i64 0, .string ⟨#[]⟩, .slice none 0 0, .slice none 0 0, .slice none 0 0, .int .i64 0, .slice none 0 0, .slice none 0 0, .int .i64 0, .int .i64 0, .int .i64 0, .string ⟨#[]⟩, .string ⟨#[]⟩, .int .i64 0, .int .i64 0, .string ⟨#[]⟩, .slice none 0 0, .int .i64 0, .string ⟨#[]⟩, .string ⟨#[]⟩, .int .i64 0, .int .i64 0, .string ⟨#[]⟩, .slice none 0 0, .slice none 0 0, .int .i64 0] 44)
    clear hA hA2 hS
    go_wp2_with (first | ((with_reducible refine wp_putB hX0 hA3 ?_ ?_ ?_ ?_ ?_); (rfl); (exact infoSt); (rfl); (rfl); intro w4 hX hw; simp only [Act.put]) | fail)
    have R4 : Rd w4 w1.heap.size l m 0 σ1 := by
      rw [hw.out]
      exact R3.above ⟨(grown_setCells _ _ _ _).os, (grown_setCells _ _ _ _).tape, (grown_setCells _ _ _ _).output, (grown_setCells _ _ _ _).size, fun k hk => heap_setCells _ _ _ _ k (by omega)⟩
    have V4 : VarB w4 w.heap.size zStv := by rw [hw.out]; exact V3.other _ (by omega)
    have hA4 : LsAt w4 (frx (w1.heap.size + 1) w3.heap.size) (stL x) [u0, u1, u2, u3, u4, u5, u6, u7, u8, u9, u10, u11, u12, u13, u14, u15, u16, u17, u18, u19, u20, u21, u22, u23, u24, u25] := by rw [hw.out]; exact hA3.putsx
    have B4 : Below w.heap.size w w4 := by
      rw [hw.out]
      exact B3.trans ⟨(grown_setCells _ _ _ _).os, (grown_setCells _ _ _ _).tape, (grown_setCells _ _ _ _).output, (grown_setCells _ _ _ _).size, fun k hk => heap_setCells _ _ _ _ k (by omega)⟩
    clear R3 V3 hA3 hX0 B3 hw
    go_at_call 12
    refine (paEnd_any R4).mono ?_
    rintro e w5 ⟨rfl, hS⟩
    rw [HER.out] at hS
    have haw : w.heap.size ≠ w1.heap.size := by omega
    have V5 := V4.keep (hS.onl.block w.heap.size V4.lt (by simp; omega)) hS.onl.size
    have hX5 := hX.later hS.onl (by omega)
    have hA5 := (hA4.laterx hS.onl (Nat.lt_succ_self _)).unx
    have B5 := B4.trans ((hS.onl.below (Nat.le_of_lt R4.lt)).mono (by omega : w.heap.size ≤ w1.heap.size))
    obtain ⟨b', o', c', hR5⟩ := hS.rd.out
    have c4 := hR5.c4
    have hst : ∀ (u : List Value) (w9 : World), Below w.heap.size w w9 → Below w.heap.size w (w9.setCells w.heap.size 0 u) := fun u w9 hb => hb.trans ⟨(grown_setCells _ _ _ _).os, (grown_setCells _ _ _ _).tape, (grown_setCells _ _ _ _).output, (grown_setCells _ _ _ _).size, fun k hk => heap_setCells _ _ _ _ k (by omega)⟩
    have HST := hid0 hst
    clear hst
    rcases Nat.eq_zero_or_pos σ2.e with hz | hz
    · have c4' : w5.cell? ⟨w1.heap.size, 4, none⟩ = some (.int .i64 0) := by rw [c4, hz]; rfl
      replace hz := hid0 hz
      have HA5 := hid0 hA5
      clear c4
      go_wp2_with (first | ((with_reducible refine wp_getB hX5 Tryz.underlying44 ?_ ?_ ?_ ?_); (rfl); (exact infoSt); (rfl)) | ((with_reducible refine wp_putB V5 hA5 ?_ ?_ ?_ ?_ ?_); (rfl); (exact infoSt); (rfl); (rfl); intro w0 hV0 hw0; simp only [Act.put]) | fail)
      exact end_blk2 hV0 rfl rfl rfl _ Tryz.underlying44 rfl infoSt rfl ⟨_, rfl, rfl, by rw [hw0.out]; exact (hA5.puts (by omega)).lower (by omega), by rw [hw0.out]; exact HST.out _ _ B5⟩
    · have hzb : ((σ2.e : Int) != 0) = true := by rw [bne_iff_ne]; omega
      have hne : ¬ σ2.e = 0 := by omega
      replace hne := hid0 hne
      clear hz
      go_wp2_with fail
      refine wp_region_held_drew (S := fun w' => w'.cell? ⟨w1.heap.size, 4, none⟩ = some (.int .i64 (σ2.e : Int))) (by kernel_rfl) c4 (fun hHeld => ?_)
      refine wpAnyH_take (i := 0) (v := .agg #[.int .i64 0, .string ⟨#[]⟩, .slice none 0 0, .slice none 0 0, .slice none 0 0, .int .i64 0, .slice none 0 0, .slice none 0 0, .int .i64 0, .int .i64 0, .int .i64 0, .string ⟨#[]⟩, .string ⟨#[]⟩, .int .i64 0, .int .i64 0, .string ⟨#[]⟩, .slice none 0 0, .int .i64 0, .string ⟨#[]⟩, .string ⟨#[]⟩, .int .i64 0, .int .i64 0, .string ⟨#[]⟩, .slice none 0 0, .slice none 0 0, .int .i64 0]) rfl (by kernel_rfl) (by kernel_rfl) (by kernel_rfl) (fun _ _ _ h => h) (Or.inl ⟨by rfl, ?_⟩) (by assumption) ?_
      · (intro wx hSw; simp [execOp, Instr.build, go_sem]; done)
      (try simp only [Act.put, List.setIfInBounds_toArray, List.set_cons_zero, List.set_cons_succ, List.getElem_toArray, List.getElem_cons_zero])
      refine wpAnyH_take (i := 1) (v := ?_) rfl (by kernel_rfl) (by kernel_rfl) (by kernel_rfl) (fun _ _ _ h => h) (Or.inl ⟨by rfl, ?_⟩) (by assumption) ?_
      rotate_left
      · (intro wx hSw; go_simp; (try with_reducible rfl))
      (try simp only [Act.put, List.setIfInBounds_toArray, List.set_cons_zero, List.set_cons_succ, List.getElem_toArray, List.getElem_cons_zero, List.getElem_cons_succ])
      refine wpAnyH_take (i := 2) (v := ?_) rfl (by kernel_rfl) (by kernel_rfl) (by kernel_rfl) (fun _ _ _ h => h) (Or.inl ⟨by rfl, ?_⟩) (by assumption) ?_
      rotate_left
      · (intro wx hSw; (try dsimp only at hSw); go_simp; (try with_reducible rfl))
      (try simp only [Act.put, List.setIfInBounds_toArray, List.set_cons_zero, List.set_cons_succ, List.getElem_toArray, List.getElem_cons_zero, List.getElem_cons_succ])
      refine wpAnyH_ready (rs := [3]) (by kernel_rfl) (by simp) ?_
      refine AllReadyH.cons rfl (fun K hK => ?_) AllReadyH.nil
      refine wp_putR V5.drew (hzL w5.drew (fr w.heap.size)) rfl rfl rfl infoSt rfl rfl ?_
      refine hK.out _ _ (by rw [World.cell?_setCells_out _ _ _ _ _ (fun h _ => absurd h (by show w1.heap.size ≠ w.heap.size; omega))]; exact c4) (fun hHeld => ?_)
      clear hK K
      (try simp only [Act.put, List.getElem_toArray, List.getElem_cons_zero, List.getElem_cons_succ])
      refine wpAnyH_take (i := 4) (v := ?_) rfl (by kernel_rfl) (by kernel_rfl) (by kernel_rfl) (fun _ _ _ h => h) (Or.inl ⟨by rfl, ?_⟩) (by assumption) ?_
      rotate_left
      · (intro wx hSw; go_simp; (try with_reducible rfl))
      (try simp only [Act.put, List.setIfInBounds_toArray, List.set_cons_zero, List.set_cons_succ, List.getElem_toArray, List.getElem_cons_zero, List.getElem_cons_succ])
      refine wpAnyH_done (by kernel_rfl) ?_ _
      clear hHeld
      have V9 := V5.drew.puts [.int .i64 0, .string ⟨#[]⟩, .slice none 0 0, .slice none 0 0, .slice none 0 0, .int .i64 0, .slice none 0 0, .slice none 0 0, .int .i64 0, .int .i64 0, .int .i64 0, .string ⟨#[]⟩, .string ⟨#[]⟩, .int .i64 0, .int .i64 0, .string ⟨#[]⟩, .slice none 0 0, .int .i64 0, .string ⟨#[]⟩, .string ⟨#[]⟩, .int .i64 0, .int .i64 0, .string ⟨#[]⟩, .slice none 0 0, .slice none 0 0, .int .i64 0] rfl
      have B9 := HST.out [.int .i64 0, .string ⟨#[]⟩, .slice none 0 0, .slice none 0 0, .slice none 0 0, .int .i64 0, .slice none 0 0, .slice none 0 0, .int .i64 0, .int .i64 0, .int .i64 0, .string ⟨#[]⟩, .string ⟨#[]⟩, .int .i64 0, .int .i64 0, .string ⟨#[]⟩, .slice none 0 0, .int .i64 0, .string ⟨#[]⟩, .string ⟨#[]⟩, .int .i64 0, .int .i64 0, .string ⟨#[]⟩, .slice none 0 0, .slice none 0 0, .int .i64 0] _ B5.drew
      obtain ⟨w9, hw9⟩ : ∃ y, w5.drew.setCells w.heap.size 0 [.int .i64 0, .string ⟨#[]⟩, .slice none 0 0, .slice none 0 0, .slice none 0 0, .int .i64 0, .slice none 0 0, .slice none 0 0, .int .i64 0, .int .i64 0, .int .i64 0, .string ⟨#[]⟩, .string ⟨#[]⟩, .int .i64 0, .int .i64 0, .string ⟨#[]⟩, .slice none 0 0, .int .i64 0, .string ⟨#[]⟩, .string ⟨#[]⟩, .int .i64 0, .int .i64 0, .string ⟨#[]⟩, .slice none 0 0, .slice none 0 0, .int .i64 0] = y := ⟨_, rfl⟩
      rw [hw9] at V9 B9 ⊢
      clear hw9
      simp only [Exit.then]
      refine ‹∀ (a : Act) (w : World), Code.wp Tryz.prog Code.ret _ a w → _› _ _ ?_
      refine wp_ret ?_
      simp only [Exit.then]
      exact end_blk2 V9 rfl rfl rfl _ Tryz.underlying44 rfl infoSt rfl ⟨_, rfl, (by rw [if_neg hne.out]; rfl), by rw [if_neg hne.out]; exact hzL _ _, B9⟩
  · have hP : parM s m = (zS, outE (lexR s)) := if_neg h0
    unfold ParseAns
    rw [hP]
    obtain ⟨k, hk⟩ : ∃ k, outE (lexR s) = k := ⟨_, rfl⟩
    obtain ⟨n0, hn0⟩ : ∃ n, outN (lexR s) = n := ⟨_, rfl⟩
    have hkb : ((k : Int) != 0) = true := by rw [bne_iff_ne]; omega
    have HH := hid0 (And.intro hk hn0)
    rw [hk]
    clear hP h0 hk hn0 er1 er
    go_enter Tryz.func7, Tryz.ntmps7
    go_wp2_with fail
    go_at_call 10
    refine CW.mono ?_
    rintro e w1 ⟨⟨v, rfl, hO⟩, hb1⟩
    rw [HH.out.1, HH.out.2]
    have V1 := V0.keep (hb1.block w.heap.size (by rw [hzw]; omega)) hb1.size
    have B1 := B0.trans (hb1.mono (by rw [hzw]; omega))
    have hL := hzL w1 (fr w.heap.size)
    clear hO CW
    go_wp2_with (first | ((with_reducible refine wp_putB V1 hL ?_ ?_ ?_ ?_ ?_); (rfl); (exact infoSt); (rfl); (rfl); intro w0 hV0 hw0; simp only [Act.put]) | fail)
    exact end_blk2 hV0 rfl rfl rfl _ Tryz.underlying44 rfl infoSt rfl ⟨_, rfl, rfl, hzL _ _, by rw [hw0.out]; exact B1.trans ⟨(grown_setCells _ _ _ _).os, (grown_setCells _ _ _ _).tape, (grown_setCells _ _ _ _).output, (grown_setCells _ _ _ _).size, fun k hk => heap_setCells _ _ _ _ k (by omega)⟩⟩
end Go.Proofs.YtneebnankghhgacGreatDoor
