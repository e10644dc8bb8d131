/- Several of my texts laid together, each as it was: XN, XO, XP. Conditions: each names its own. -/
import Derived.Test.YtfdkajefcplfjaaGreatI2
import Derived.Test.YtfdkajefcplfjaaGreatH5
import Derived.Test.YtfdkajefcplfjaaGreatH2
import Derived.Test.YtfdkajefcplfjaaGreatI1
import Derived.Test.YtfdkajefcplfjaaGreatI3
/- The project's sum of a bag of rows of one value: a contract of the call, in whatever memory. Conditions: the rows' cells are known; they are not too many. -/
namespace Go.Proofs.YtfdkajefcplfjaaGreat
open Go.RowKit

theorem sumN_in : ∀ {L : List Pair}, (∀ x ∈ L, 0 ≤ x.2 ∧ in64 (headV x.1).n) → -(9223372036854775808 * absS L) ≤ sumN L ∧ sumN L ≤ 9223372036854775808 * absS L
  | [], _ => by simp [sumN, absS]
  | x :: L, h => by
    have h1 := sumN_in (L := L) (fun y hy => h y (by simp [hy]))
    obtain ⟨h2, h3, h4⟩ := h x (by simp)
    have a1 : (headV x.1).n * x.2 ≤ 9223372036854775808 * x.2 := Int.mul_le_mul_of_nonneg_right (by omega) h2
    have a2 : -9223372036854775808 * x.2 ≤ (headV x.1).n * x.2 := Int.mul_le_mul_of_nonneg_right h3 h2
    rw [absS, sumN, if_neg (by omega)]
    omega
theorem sumN_take {E : List Elem} {i : Nat} (h : i < E.length) : sumN ((E.map pr).take (i + 1)) = sumN ((E.map pr).take i) + (headV E[i].r).n * E[i].n := by
  rw [List.take_succ_eq_append_getElem (by simpa using h), sumN_snoc]; simp [pr]
theorem nums_take {E : List Elem} {i : Nat} (h : i < E.length) (h1 : numsB ((E.map pr).take i) = true) (h2 : (headV E[i].r).k = 1) : numsB ((E.map pr).take (i + 1)) = true := by
  unfold numsB at h1 ⊢
  rw [List.take_succ_eq_append_getElem (by simpa using h), List.all_append, h1]; simp [pr, h2]
theorem nums_bad {E : List Elem} {i : Nat} (h : i < E.length) (h2 : (headV E[i].r).k ≠ 1) : numsB (E.map pr) = false := by
  unfold numsB
  rw [List.all_eq_false]
  exact ⟨pr E[i], List.mem_map_of_mem (List.getElem_mem h), by simp [pr, h2]⟩
/-- A row's first value, as it lies. -/
theorem head_cells {w : World} {a : Option Addr} {r : List Val} (h : RowAt w a r) (hn : r ≠ []) : ∃ b o, a = some ⟨b, o, none⟩ ∧ w.cell? ⟨b, o, none⟩ = some (.int .i64 (headV r).k) ∧ w.cell? ⟨b, o + 1, none⟩ = some (.int .i64 (headV r).n) ∧ w.cell? ⟨b, o + 2, none⟩ = some (.string (headV r).s) ∧ 0 < r.length := by
  obtain ⟨b, o, e, hc⟩ := h hn
  match r, hn with
  | v :: r, _ =>
    obtain ⟨h0, h1, h2⟩ := hc 0 (by simp)
    simp only [Nat.zero_mul, Nat.add_zero, List.getElem_cons_zero] at h0 h1 h2
    exact ⟨b, o, e, h0, h1, h2, by simp⟩
/-- What a list whose first values are reckoned must be. -/
structure SumOk (E : List Elem) : Prop where
  ne : ∀ e ∈ E, e.r ≠ []
  i : ∀ e ∈ E, 0 ≤ e.n ∧ in64 (headV e.r).n
  few : E.length ≤ 1000000
  all : absS (E.map pr) ≤ 1000000
set_option maxHeartbeats 4000000 in
set_option maxRecDepth 1000000 in
theorem sum_any (a : Option Addr) (c : Nat) (E : List Elem) (w : World) (h : ElemsAt w a E) (hS : SumOk E) :
    Calls Tryz.prog 318 #[.slice a E.length c] w (EvAns (sumM (E.map pr)) w) := by
  have A := hid0 h
  have HS := hid0 hS
  have hfew := hS.few
  have HSM := hid0 (show ∀ i, small (sumN ((E.map pr).take i)) from fun i => by
    have h1 := sumN_in (L := (E.map pr).take i) (fun x hx => by
      obtain ⟨e, he, rfl⟩ := List.mem_map.1 (List.mem_of_mem_take hx)
      exact hS.i e he)
    have h2 := absS_take (E.map pr) i
    have h3 := absS_nonneg ((E.map pr).drop i)
    have := hS.all
    unfold small; omega)
  clear h hS
  obtain ⟨R, hR⟩ : ∃ R, sumM (E.map pr) = R := ⟨_, rfl⟩
  have HR := hid0 hR
  rw [hR]
  clear hR
  have V12 := VarB.two (w := w) [.int .i64 0, .int .i64 0, .string ⟨#[]⟩] [.int .u64 0, .int .u64 0] 41 307
  have hB0 := below_two w (Obj.cells #[.int .i64 0, .int .i64 0, .string ⟨#[]⟩] 41) (Obj.cells #[.int .u64 0, .int .u64 0] 307)
  go_enter Tryz.func318, Tryz.ntmps318
  go_wp2
  go_loopw [12] (fun iv wr => ∃ i : Nat, i ≤ E.length ∧ iv = .int .i64 i ∧ VarB wr w.heap.size [.int .i64 0, .int .i64 0, .string ⟨#[]⟩] ∧ VarB wr (w.heap.size + 1) [.int .u64 (wH (sumN ((E.map pr).take i)) : Nat), .int .u64 (wL (sumN ((E.map pr).take i)) : Nat)] ∧ Hid (numsB ((E.map pr).take i) = true) ∧ Below w.heap.size w wr) (fun iv _ => E.length - (intOf iv).toNat)
  case atStart => exact ⟨0, Nat.zero_le _, rfl, V12.1, by simpa [sumN, wH_zero, wL_zero] using V12.2, hid0 rfl, hB0⟩
  case round =>
    obtain ⟨i, hi, rfl, V1, V2, hT, hB⟩ := hrel
    clear V12 hB0
    have hsz := hB.size
    by_cases hlt : i < E.length
    · obtain ⟨b1, o1, rfl, hc1⟩ := (A.out.1.later hB) (by intro e; rw [e] at hlt; exact absurd hlt (by simp))
      obtain ⟨q0, q1⟩ := hc1 i hlt
      clear hc1
      have hmem := List.getElem_mem hlt
      obtain ⟨b2, o2, ha2, p0, p1, p2, hpos⟩ := head_cells ((A.out.2 _ hmem).1.later hB) (HS.out.ne _ hmem)
      have hin := HS.out.i _ hmem
      have hst := hid0 (sumN_take hlt)
      have hnt := hid0 (nums_take hlt hT.out)
      have hnb := hid0 (nums_bad hlt)
      have habs := absS_mem (List.mem_map_of_mem (f := pr) hmem)
      have hall := HS.out.all
      have hn2 : 0 ≤ E[i].n ∧ E[i].n ≤ 9223372036854775807 := ⟨hin.1, by have : (pr E[i]).2 = E[i].n := rfl; omega⟩
      rw [ha2] at q0
      have P := hid0 (fun W => plusT_any (sumN ((E.map pr).take i)) (headV E[i].r).n E[i].n W hin.2 hn2)
      rw [← hst.out] at P
      clear habs hall hmem ha2 hin hn2
      have hb2 : b2 < wr.heap.size := World.block_lt_of_cell? _ _ p0
      generalize hS1 : sumN ((E.map pr).take (i + 1)) = S1 at hst P
      have HS1 := hid0 hS1
      clear hS1
      generalize sumN ((E.map pr).take i) = S0 at hst P V2
      generalize E[i].n = m at q1 hst P
      generalize E[i].r.length = rl at q0 hpos
      generalize E[i].c = ec at q0
      have hpos' : (0 : Int) < (rl : Int) := by omega
      by_cases hk : (headV E[i].r).k = 1
      · have hnt := hid0 (hnt.out hk)
        rw [hk] at p0
        clear hnb
        generalize headV E[i].r = v at p0 p1 p2 hst P
        have V1a := (V1.alloc (Obj.cells #[.slice (some ⟨b2, o2, none⟩) rl ec, .int .i64 m] 80)).alloc (Obj.cells #[.int .i64 1, .int .i64 v.n, .string v.s] 41)
        have V2a := (V2.alloc (Obj.cells #[.slice (some ⟨b2, o2, none⟩) rl ec, .int .i64 m] 80)).alloc (Obj.cells #[.int .i64 1, .int .i64 v.n, .string v.s] 41)
        have hBa := (hB.alloc hsz (Obj.cells #[.slice (some ⟨b2, o2, none⟩) rl ec, .int .i64 m] 80)).alloc (by simp; omega) (Obj.cells #[.int .i64 1, .int .i64 v.n, .string v.s] 41)
        have t0 := V2a.cell 0 rfl
        have t1 := V2a.cell 1 rfl
        go_wp2_with (first | (go_at_call 320; refine (P.out _).mono ?_; rintro e w1 ⟨rfl, hb1⟩; (have V1b := V1a.below hb1); (have V2b := V2a.below hb1); (have hBb := below_through hb1 hBa.size hBa)) | ((with_reducible refine wp_putB (vs := [.int .u64 (wH S1 : Nat), .int .u64 (wL S1 : Nat)]) V2b ?_ ?_ ?_ ?_ ?_ ?_); (intro v hv; simp at hv; rcases hv with rfl | rfl <;> rfl); (rfl); (exact infoTot); (rfl); (rfl); intro w5 hV5 hw5; (have V1c : VarB w5 w.heap.size [.int .i64 0, .int .i64 0, .string ⟨#[]⟩] := by rw [hw5.out]; exact V1b.other _ (by omega)); (have hBc : Below w.heap.size w w5 := by rw [hw5.out]; exact below_setCells _ 0 hBb (by omega)); clear hw5; simp only [Act.put]) | fail)
        exact ⟨⟨i + 1, by omega, by go_num, V1c, by rw [HS1.out]; exact hV5, hnt, hBc⟩, by simp [intOf]; omega⟩
      · have hk1 : ((headV E[i].r).k == 1) = false := by simpa using hk
        have hRe := hid0 (show R = (zV, 8) by rw [← HR.out]; unfold sumM; rw [hnb.out hk]; simp)
        clear P hst hnt hnb hk
        generalize headV E[i].r = v at p0 p1 p2 hk1
        have V1a := (V1.alloc (Obj.cells #[.slice (some ⟨b2, o2, none⟩) rl ec, .int .i64 m] 80)).alloc (Obj.cells #[.int .i64 v.k, .int .i64 v.n, .string v.s] 41)
        have hBa := (hB.alloc hsz (Obj.cells #[.slice (some ⟨b2, o2, none⟩) rl ec, .int .i64 m] 80)).alloc (by simp; omega) (Obj.cells #[.int .i64 v.k, .int .i64 v.n, .string v.s] 41)
        go_wp2_with (first | ((with_reducible refine wp_putB (vs := [.int .i64 0, .int .i64 0, .string ⟨#[]⟩]) V1a ?_ ?_ ?_ ?_ ?_ ?_); (intro v hv; simp at hv; rcases hv with rfl | rfl | rfl <;> rfl); (rfl); (exact infoV); (rfl); (rfl); intro w5 hV5 hw5; (have hBc : Below w.heap.size w w5 := by rw [hw5.out]; exact below_setCells _ 0 hBa (by omega)); clear hw5; simp only [Act.put]) | fail)
        exact end_vt hV5 rfl rfl rfl _ Tryz.underlying41 rfl infoV rfl (EvAns.of hRe.out hBc)
    · have hie : ¬ (i : Int) < E.length := by omega
      rw [List.take_of_length_le (by simp; omega)] at hT V2
      have hsm := HSM.out E.length
      rw [List.take_of_length_le (by simp)] at hsm
      have HRN := hid0 (show R = if inR (sumN (E.map pr)) = true then (numV (sumN (E.map pr)), 0) else (zV, 12) by rw [← HR.out]; unfold sumM inR; rw [hT.out]; simp)
      have CN := hid0 (fun W => narrowT_any (sumN (E.map pr)) W hsm)
      have t0 := V2.cell 0 rfl
      have t1 := V2.cell 1 rfl
      have hV1lt := V1.lt
      generalize sumN (E.map pr) = S at *
      clear hsm V2
      cases hr : inR S with
      | true =>
        rw [hr] at CN HRN
        simp only [if_true] at CN HRN
        have CB := hid0 (fun W => numberP_any S W)
        go_wp2_with (first | (go_at_call 321; refine (CN.out _).mono ?_; rintro e w1 ⟨rfl, hb1⟩; (have V1b := V1.below hb1); (have hBb := below_through hb1 hB.size hB)) | (go_at_call 313; refine (CB.out _).mono ?_; rintro e w2 ⟨rfl, hb2⟩; (have V1d := V1b.below hb2); (have hBd := below_through hb2 hBb.size hBb)) | ((with_reducible refine wp_putB (vs := [.int .i64 1, .int .i64 S, .string ⟨#[]⟩]) V1d ?_ ?_ ?_ ?_ ?_ ?_); (intro v hv; simp at hv; rcases hv with rfl | rfl | rfl <;> rfl); (rfl); (exact infoV); (rfl); (rfl); intro w5 hV5 hw5; (have hBc : Below w.heap.size w w5 := by rw [hw5.out]; exact below_setCells _ 0 hBd (by omega)); clear hw5; simp only [Act.put]) | fail)
        exact end_vt hV5 rfl rfl rfl _ Tryz.underlying41 rfl infoV rfl (EvAns.of HRN.out hBc)
      | false =>
        rw [hr] at CN HRN
        simp only [Bool.false_eq_true, if_false] at CN HRN
        go_wp2_with (first | (go_at_call 321; refine (CN.out _).mono ?_; rintro e w1 ⟨rfl, hb1⟩; (have V1b := V1.below hb1); (have hBb := below_through hb1 hB.size hB)) | ((with_reducible refine wp_putB (vs := [.int .i64 0, .int .i64 0, .string ⟨#[]⟩]) V1b ?_ ?_ ?_ ?_ ?_ ?_); (intro v hv; simp at hv; rcases hv with rfl | rfl | rfl <;> rfl); (rfl); (exact infoV); (rfl); (rfl); intro w5 hV5 hw5; (have hBc : Below w.heap.size w w5 := by rw [hw5.out]; exact below_setCells _ 0 hBb (by omega)); clear hw5; simp only [Act.put]) | fail)
        exact end_vt hV5 rfl rfl rfl _ Tryz.underlying41 rfl infoV rfl (EvAns.of HRN.out hBc)
end Go.Proofs.YtfdkajefcplfjaaGreat

/- What the project makes of a bag of rows of one value (plan.aggregate): a contract of the call, in whatever memory. Conditions: the rows' cells are known; they are not too many. -/
namespace Go.Proofs.YtfdkajefcplfjaaGreat
open Go.RowKit

theorem agg_2 (L : List Pair) : aggM 2 L = (numV (countB L), 0) := rfl
theorem agg_6 (L : List Pair) : aggM 6 L = sumM L := rfl
theorem agg_nil {g : Int} (h2 : g ≠ 2) (h6 : g ≠ 6) : aggM g [] = (zV, 0) := by unfold aggM; rw [if_neg h2, if_neg h6, if_pos rfl]
theorem agg_3 {L : List Pair} (h : L ≠ []) : aggM 3 L = sumM L := by unfold aggM; rw [if_neg (by omega), if_neg (by omega), if_neg h, if_pos rfl]
theorem agg_4 {L : List Pair} (h : L ≠ []) : aggM 4 L = (headV (headR L), 0) := by unfold aggM; rw [if_neg (by omega), if_neg (by omega), if_neg h, if_neg (by omega), if_pos rfl]
theorem agg_m {g : Int} {L : List Pair} (h : L ≠ []) (h2 : g ≠ 2) (h6 : g ≠ 6) (h3 : g ≠ 3) (h4 : g ≠ 4) : aggM g L = (headV (L.getLastD ([], 0)).1, 0) := by unfold aggM; rw [if_neg h2, if_neg h6, if_neg h, if_neg h3, if_neg h4]
set_option maxHeartbeats 4000000 in
set_option maxRecDepth 1000000 in
theorem aggregate_any (g : Int) (a : Option Addr) (c : Nat) (E : List Elem) (w : World) (h : ElemsAt w a E) (hS : SumOk E) :
    Calls Tryz.prog 315 #[.int .i64 g, .slice a E.length c] w (EvAns (aggM g (E.map pr)) w) := by
  have A := hid0 h
  have HS := hid0 hS
  have hfew := hS.few
  clear h hS
  have V := VarB.new w [.int .i64 0, .int .i64 0, .string ⟨#[]⟩] 41
  have hB : Below w.heap.size w (w.alloc (Obj.cells #[.int .i64 0, .int .i64 0, .string ⟨#[]⟩] 41)) := (Below.refl _ _).alloc (Nat.le_refl _) _
  obtain ⟨R, hR⟩ : ∃ R, aggM g (E.map pr) = R := ⟨_, rfl⟩
  have HR0 := hid0 hR
  rw [hR]
  clear hR
  obtain ⟨⟨⟨k, m, s⟩, f⟩, hSM⟩ : ∃ r, sumM (E.map pr) = r := ⟨_, rfl⟩
  have HSM := hid0 hSM
  clear hSM
  by_cases h2 : g = 2
  · subst h2
    have HR := hid0 (show R = (numV (countB (E.map pr)), 0) by rw [← HR0.out, agg_2])
    have CC := hid0 (bagCount_any a c E _ (A.out.later hB) hfew HS.out.all)
    have CB := hid0 (fun W => numberP_any (countB (E.map pr)) W)
    generalize countB (E.map pr) = q at *
    clear HSM
    go_enter Tryz.func315, Tryz.ntmps315
    go_wp2_with (first | (go_at_call 157; refine CC.out.mono ?_; rintro e w1 ⟨rfl, hb1⟩; (have V1 := V.below hb1); (have hB1 := below_through hb1 hB.size hB)) | (go_at_call 313; refine (CB.out _).mono ?_; rintro e w2 ⟨rfl, hb2⟩; (have V2 := V1.below hb2); (have hB2 := below_through hb2 hB1.size hB1)) | ((with_reducible refine wp_putB (vs := [.int .i64 1, .int .i64 q, .string ⟨#[]⟩]) V2 ?_ ?_ ?_ ?_ ?_ ?_); (intro v hv; simp at hv; rcases hv with rfl | rfl | rfl <;> rfl); (rfl); (exact infoV); (rfl); (rfl); intro w5 hV5 hw5; (have hBc : Below w.heap.size w w5 := by rw [hw5.out]; exact below_setCells _ 0 hB2 (by omega)); clear hw5; simp only [Act.put]) | fail)
    exact end_vt hV5 rfl rfl rfl _ Tryz.underlying41 rfl infoV rfl (EvAns.of HR.out hBc)
  have h2' : (g == 2) = false := by simpa using h2
  by_cases h6 : g = 6
  · subst h6
    have HR := hid0 (show R = ((⟨k, m, s⟩ : Val), f) by rw [← HR0.out, agg_6, HSM.out])
    have CS := hid0 (sum_any a c E _ (A.out.later hB) HS.out)
    rw [HSM.out] at CS
    go_enter Tryz.func315, Tryz.ntmps315
    go_wp2_with (first | (go_at_call 318; refine CS.out.mono ?_; rintro e w1 ⟨rfl, hb1⟩; (have V1 := V.below hb1); (have hB1 := below_through hb1 hB.size hB)) | ((with_reducible refine wp_putB (vs := [.int .i64 k, .int .i64 m, .string s]) V1 ?_ ?_ ?_ ?_ ?_ ?_); (intro v hv; simp at hv; rcases hv with rfl | rfl | rfl <;> rfl); (rfl); (exact infoV); (rfl); (rfl); intro w5 hV5 hw5; (have hBc : Below w.heap.size w w5 := by rw [hw5.out]; exact below_setCells _ 0 hB1 (by omega)); clear hw5; simp only [Act.put]) | fail)
    exact end_vt hV5 rfl rfl rfl _ Tryz.underlying41 rfl infoV rfl (EvAns.of HR.out hBc)

  have h6' : (g == 6) = false := by simpa using h6
  by_cases hE : E = []
  · subst hE
    have HR := hid0 (show R = (zV, 0) by rw [← HR0.out]; exact agg_nil h2 h6)
    clear HSM
    go_enter Tryz.func315, Tryz.ntmps315
    go_wp2_with (first | ((with_reducible refine wp_putB (vs := [.int .i64 0, .int .i64 0, .string ⟨#[]⟩]) V ?_ ?_ ?_ ?_ ?_ ?_); (intro v hv; simp at hv; rcases hv with rfl | rfl | rfl <;> rfl); (rfl); (exact infoV); (rfl); (rfl); intro w5 hV5 hw5; (have hBc : Below w.heap.size w w5 := by rw [hw5.out]; exact below_setCells _ 0 hB (by omega)); clear hw5; simp only [Act.put]) | fail)
    exact end_vt hV5 rfl rfl rfl _ Tryz.underlying41 rfl infoV rfl (EvAns.of HR.out hBc)
  have hne : E.map pr ≠ [] := by simpa using hE
  have hlen : 0 < E.length := List.length_pos_iff.2 hE
  have hl0 : ((E.length : Int) == 0) = false := by simp; omega
  by_cases h3 : g = 3
  · subst h3
    have HR := hid0 (show R = ((⟨k, m, s⟩ : Val), f) by rw [← HR0.out, agg_3 hne, HSM.out])
    clear hne
    have CS := hid0 (sum_any a c E _ (A.out.later hB) HS.out)
    rw [HSM.out] at CS
    go_enter Tryz.func315, Tryz.ntmps315
    go_wp2_with (first | (go_at_call 318; refine CS.out.mono ?_; rintro e w1 ⟨rfl, hb1⟩; (have V1 := V.below hb1); (have hB1 := below_through hb1 hB.size hB)) | ((with_reducible refine wp_putB (vs := [.int .i64 k, .int .i64 m, .string s]) V1 ?_ ?_ ?_ ?_ ?_ ?_); (intro v hv; simp at hv; rcases hv with rfl | rfl | rfl <;> rfl); (rfl); (exact infoV); (rfl); (rfl); intro w5 hV5 hw5; (have hBc : Below w.heap.size w w5 := by rw [hw5.out]; exact below_setCells _ 0 hB1 (by omega)); clear hw5; simp only [Act.put]) | fail)
    exact end_vt hV5 rfl rfl rfl _ Tryz.underlying41 rfl infoV rfl (EvAns.of HR.out hBc)

  have h3' : (g == 3) = false := by simpa using h3
  obtain ⟨b1, o1, rfl, hc1⟩ := (A.out.later hB).1 hE
  by_cases h4 : g = 4
  · subst h4
    obtain ⟨q0, q1⟩ := hc1 0 hlen
    have hmem := List.getElem_mem hlen
    obtain ⟨b2, o2, ha2, p0, p1, p2, hpos⟩ := head_cells ((A.out.2 _ hmem).1.later hB) (HS.out.ne _ hmem)
    rw [ha2] at q0
    have HR := hid0 (show R = (headV E[0].r, 0) by
      rw [← HR0.out, agg_4 hne]
      match E, hlen with
      | e :: E, _ => rfl)
    simp only [Nat.zero_mul, Nat.add_zero] at q0 q1
    clear hc1 HSM hne ha2 hmem
    generalize headV E[0].r = v at *
    generalize E[0].r.length = rl at *
    generalize E[0].c = ec at *
    have hpos' : (0 : Int) < (rl : Int) := by omega
    have hpos2 : (0 : Int) < (E.length : Int) := by omega
    go_enter Tryz.func315, Tryz.ntmps315
    go_wp2_with (first | ((with_reducible refine wp_putB (vs := [.int .i64 v.k, .int .i64 v.n, .string v.s]) V ?_ ?_ ?_ ?_ ?_ ?_); (intro v hv; simp at hv; rcases hv with rfl | rfl | rfl <;> rfl); (rfl); (exact infoV); (rfl); (rfl); intro w5 hV5 hw5; (have hBc : Below w.heap.size w w5 := by rw [hw5.out]; exact below_setCells _ 0 hB (by omega)); clear hw5; simp only [Act.put]) | fail)
    exact end_vt hV5 rfl rfl rfl _ Tryz.underlying41 rfl infoV rfl (EvAns.of HR.out hBc)
  have h4' : (g == 4) = false := by simpa using h4
  obtain ⟨j, hj⟩ : ∃ j, E.length = j + 1 := ⟨E.length - 1, by omega⟩
  obtain ⟨q0, q1⟩ := hc1 j (by omega)
  have hmem : E[j] ∈ E := List.getElem_mem (by omega)
  obtain ⟨b2, o2, ha2, p0, p1, p2, hpos⟩ := head_cells ((A.out.2 _ hmem).1.later hB) (HS.out.ne _ hmem)
  rw [ha2] at q0
  have HR := hid0 (show R = (headV E[j].r, 0) by
    rw [← HR0.out, agg_m hne h2 h6 h3 h4, List.getLastD_eq_getLast?, List.getLast?_eq_getElem?]
    simp [hj, pr])
  clear hc1 HSM hne ha2 hmem
  generalize headV E[j].r = v at *
  generalize E[j].r.length = rl at *
  generalize E[j].c = ec at *
  rw [hj] at hl0 ⊢
  have hpos' : (0 : Int) < (rl : Int) := by omega
  have hw : IntKind.i64.wrap (((j + 1 : Nat) : Int) - 1) = (j : Int) := by rw [IntWalk.i64_in _ (by omega)]; omega
  go_enter Tryz.func315, Tryz.ntmps315
  go_wp2_with (first | ((with_reducible refine wp_putB (vs := [.int .i64 v.k, .int .i64 v.n, .string v.s]) V ?_ ?_ ?_ ?_ ?_ ?_); (intro v hv; simp at hv; rcases hv with rfl | rfl | rfl <;> rfl); (rfl); (exact infoV); (rfl); (rfl); intro w5 hV5 hw5; (have hBc : Below w.heap.size w w5 := by rw [hw5.out]; exact below_setCells _ 0 hB (by omega)); clear hw5; simp only [Act.put]) | fail)
  exact end_vt hV5 rfl rfl rfl _ Tryz.underlying41 rfl infoV rfl (EvAns.of HR.out hBc)
end Go.Proofs.YtfdkajefcplfjaaGreat

/- What an expression comes to over a group's rows (plan.values): a contract of the call, in whatever memory. Conditions: the expression's and the rows' cells are known; they are not too many. -/
namespace Go.Proofs.YtfdkajefcplfjaaGreat
open Go.RowKit

/-- An element appended: where the list is then. -/
theorem wp_mk {w0 w : World} {ops : Array Oper} {rest : List Oper} {o : Oper} {a : Act} {Q : Exit → Act → World → Prop} (hgd : o.guard = none) (s x : Operand)
    (ho : o.op = .call { callee := .builtin .append, args := #[s, x], argTypes := #[57, 57] })
    {v : Value} {E : List Elem} (hs : a.eval s = v) (hm : MkE w0 w v E)
    (e : Elem) (B : Nat) (hx : a.eval x = .slice (some ⟨B, 0, none⟩) 1 1) (h0 : w.cell? ⟨B, 0, none⟩ = some (.slice e.a e.r.length e.c)) (h1 : w.cell? ⟨B, 1, none⟩ = some (.int .i64 e.n))
    (hc : Copied w e.a e.r) (hk : rowOK e.r) (hz : e.r.length ≤ e.c ∧ (e.a = none → e.c = 0)) (hlen : (E.length + 1) * 32 ≤ 140737488355328)
    (h : ∀ v' w', MkE w0 w' v' (E ++ [e]) → Grw w v w' v' → wpList Tryz.prog ops Q rest (a.put o.dst v') w') : wpList Tryz.prog ops Q (o :: rest) a w := by
  refine wpList_plain hgd fun K hK => ?_
  have := step_mk (ops := #[]) (K := K) (Q := Q) (X := True) hgd s x ho hs hm e B hx h0 h1 hc hk hz hlen (fun v' w' h2 h3 => hK _ _ (h v' w' h2 h3))
  rwa [if_pos (by simp [Region.wanted, hgd])] at this
theorem copied_one (w : World) (v : Val) : Copied (w.alloc (Obj.cells #[.int .i64 v.k, .int .i64 v.n, .string v.s] 41)) (some ⟨w.heap.size, 0, none⟩) [v] := by
  have V := VarB.new w [.int .i64 v.k, .int .i64 v.n, .string v.s] 41
  refine ⟨fun _ => ⟨w.heap.size, 0, rfl, fun i hi => ?_⟩, fun _ => ⟨w.heap.size, _, _, rfl, heap_alloc_new w _⟩⟩
  obtain rfl : i = 0 := by simp at hi; exact hi
  exact ⟨V.cell 0 rfl, V.cell 1 rfl, V.cell 2 rfl⟩
theorem copied_at (w : World) (v : Val) {B : Nat} (hB : B = w.heap.size) : Copied (w.alloc (Obj.cells #[.int .i64 v.k, .int .i64 v.n, .string v.s] 41)) (some ⟨B, 0, none⟩) [v] := by subst hB; exact copied_one w v
theorem elem_at (w : World) (u v : Value) (t : TypeId) {B : Nat} (hB : B = w.heap.size) : (w.alloc (Obj.cells #[u, v] t)).cell? ⟨B, 0, none⟩ = some u ∧ (w.alloc (Obj.cells #[u, v] t)).cell? ⟨B, 1, none⟩ = some v := by subst hB; exact elem_new w u v t
/-- A group's rows: what lies there. -/
structure GrpOk (w : World) (a : Option Addr) (c : Nat) (E : List Elem) : Prop where
  at_ : ElemsAt w a E
  i : ∀ e ∈ E, (∀ x ∈ e.r, inI x) ∧ e.r.length ≤ 1000 ∧ 0 ≤ e.n
  few : E.length ≤ 1000000
  all : absS (E.map pr) ≤ 1000000
  cap : E.length ≤ c
theorem GrpOk.later {w w' : World} {a : Option Addr} {c : Nat} {E : List Elem} (h : GrpOk w a c E) (hb : Below w.heap.size w w') : GrpOk w' a c E := ⟨h.at_.later hb, h.i, h.few, h.all, h.cap⟩
theorem GrpOk.row {w : World} {a : Option Addr} {c : Nat} {E : List Elem} (h : GrpOk w a c E) {e : Elem} (he : e ∈ E) : RowIn w e.a e.r := ⟨(h.at_.2 e he).1, (h.i e he).1, by have := (h.i e he).2.1; unfold maxLen; omega⟩
theorem vals_take {E : List Elem} {i : Nat} (e : Cx) (h : i < E.length) : valsL e ((E.map pr).take (i + 1)) = valsL e ((E.map pr).take i) ++ (if (evC E[i].r e).1.k = 0 then [] else [([(evC E[i].r e).1], E[i].n)]) := by
  rw [List.take_succ_eq_append_getElem (by simpa using h), valsL_snoc]; simp [pr]
theorem err_take {E : List Elem} {i : Nat} (e : Cx) (h : i < E.length) : errL e ((E.map pr).take (i + 1)) = graverM (errL e ((E.map pr).take i)) (evC E[i].r e).2 := by
  rw [List.take_succ_eq_append_getElem (by simpa using h), errL_snoc]; simp [pr]
theorem absS_vals (e : Cx) : ∀ L : List Pair, absS (valsL e L) ≤ absS L
  | [] => Int.le_refl _
  | x :: L => by
    have h1 := absS_vals e L
    have h2 : 0 ≤ (if x.2 < 0 then -x.2 else x.2) := by split <;> omega
    unfold valsL at h1 ⊢
    rw [List.filterMap_cons]
    by_cases h : (evC x.1 e).1.k = 0
    · simp only [h, if_true, absS]; omega
    · simp only [h, if_false, absS]; omega
theorem len_vals (e : Cx) (L : List Pair) : (valsL e L).length ≤ L.length := List.length_filterMap_le _ _
set_option maxHeartbeats 8000000 in
set_option maxRecDepth 1000000 in
theorem values_any {n : Nat} (x : Cx) (a : Option Addr) (c : Nat) (E : List Elem) (w : World) (hx : CxAt w n x) (h : GrpOk w a c E) :
    Calls Tryz.prog 314 #[x.val, .slice a E.length c] w fun e w' => (∃ a' c' E', e = .returned (.tuple #[.slice a' E'.length c', .int .i64 (errL x (E.map pr))]) ∧ ElemsAt w' a' E' ∧ E'.map pr = ofB (valsL x (E.map pr))) ∧ Below w.heap.size w w' := by
  have HG := hid0 h
  have hfew := h.few
  have HX := hid0 hx
  have hl := x.cells_len
  have V := VarB.new w x.cells 44
  have hB0 : Below w.heap.size w (w.alloc (.cells x.cells.toArray 44)) := (Below.refl _ _).alloc (Nat.le_refl _) _
  have HO := hid0 (fun (a' : Option Addr) (c' : Nat) (Eo : List Elem) (W : World) (hA : ElemsAt W a' Eo) (hc : Eo.length ≤ c') (hm : Eo.map pr = valsL x (E.map pr)) => bagOf_any a' c' Eo W hA hc (by have h1 := congrArg List.length hm; have h2 := len_vals x (E.map pr); rw [List.length_map] at h1 h2; omega) (by rw [hm]; have h1 := absS_vals x (E.map pr); have h2 := h.all; omega))
  clear h hx
  obtain ⟨RE, hRE⟩ : ∃ RE, errL x (E.map pr) = RE := ⟨_, rfl⟩
  have HRE := hid0 hRE
  rw [hRE]
  clear hRE
  unfold Cx.val
  obtain ⟨us, hus⟩ : ∃ us, x.cells = us := ⟨_, rfl⟩
  rw [hus] at V hl hB0 ⊢
  have HUS := hid0 hus
  clear hus
  go_enter Tryz.func314, Tryz.ntmps314
  go_wp2
  go_loopw [6, 7, 14] (fun sv ev iv wr => ∃ (i : Nat) (Eo : List Elem), i ≤ E.length ∧ iv = .int .i64 i ∧ ev = .int .i64 (errL x ((E.map pr).take i)) ∧ MkE w wr sv Eo ∧ VarB wr w.heap.size us ∧ sv.ownBlock ≠ some w.heap.size ∧ Hid (Eo.map pr = valsL x ((E.map pr).take i))) (fun _ _ iv _ => E.length - (intOf iv).toNat)
  case atStart => exact ⟨0, [], Nat.zero_le _, rfl, rfl, ⟨OwnB.nil _ _, CopiesE.nil _, fun _ h => absurd h (by simp), fun _ h => absurd h (by simp), hB0⟩, V, by simp [Value.ownBlock], hid0 rfl⟩
  case round =>
    obtain ⟨i, Eo, hi, rfl, rfl, hM, VX, hbX, hT⟩ := hrel
    clear V hB0
    have hsz := hM.b.size
    by_cases hlt : i < E.length
    · obtain ⟨b1, o1, rfl, hc1⟩ := ((HG.out.later hM.b).at_.1) (by intro e; rw [e] at hlt; exact absurd hlt (by simp))
      obtain ⟨q0, q1⟩ := hc1 i hlt
      clear hc1
      have hmem := List.getElem_mem hlt
      have hrow := (HG.out.later hM.b).row hmem
      have hvt := vals_take x hlt
      have het := err_take x hlt
      have hEo : Eo.length ≤ 1000000 := by have h1 := congrArg List.length hT.out; have h2 := len_vals x ((E.map pr).take i); rw [List.length_map] at h1; rw [List.length_take, List.length_map] at h2; omega
      have hMA := hM.alloc (Obj.cells #[.slice E[i].a E[i].r.length E[i].c, .int .i64 E[i].n] 80)
      have VXA := VX.alloc (Obj.cells #[.slice E[i].a E[i].r.length E[i].c, .int .i64 E[i].n] 80)
      have VBA := VarB.new wr [.slice E[i].a E[i].r.length E[i].c, .int .i64 E[i].n] 80
      have hbB := hM.box
      have CE := eval_any E[i].c (HX.out.later hMA.b) (hrow.later ((Below.refl wr.heap.size wr).alloc (Nat.le_refl _) (Obj.cells #[.slice E[i].a E[i].r.length E[i].c, .int .i64 E[i].n] 80)))
      unfold Cx.val at CE
      rw [HUS.out] at CE
      obtain ⟨⟨⟨k, nn, s⟩, f⟩, hev⟩ : ∃ r, evC E[i].r x = r := ⟨_, rfl⟩
      rw [hev] at CE hvt het
      have HVT := hid0 hvt
      have HET := hid0 het
      have CE := hid0 CE
      have e0 := VBA.cell 0 rfl
      have e1 := VBA.cell 1 rfl
      have hbl := VBA.lt
      clear hev hvt het hmem hrow hM VX VBA
      generalize E[i] = y at *
      obtain ⟨er, herr⟩ : ∃ er, errL x ((E.map pr).take i) = er := ⟨_, rfl⟩
      rw [herr] at HET ⊢
      have CG := hid0 (fun W => graver_any er f W)
      clear herr
      by_cases hk : k = 0
      · have hk0 : (k == 0) = true := by simpa using hk
        have HV2 := hid0 (show valsL x ((E.map pr).take (i + 1)) = valsL x ((E.map pr).take i) by rw [HVT.out, if_pos hk, List.append_nil])
        subst hk
        go_wp2_with (first | ((with_reducible refine wp_getB VXA.at_ Tryz.underlying44 ?_ ?_ ?_ ?_); (rfl); (rw [hl]; exact sizeX); (rfl); simp only [Act.put]) | (go_at_call 156; refine CE.out.mono ?_; rintro e w1 ⟨rfl, hb1⟩; (have hM1 := hMA.below hb1); (have VX1 := VXA.below hb1); (have z0 := cell_later hb1 e0); (have z1 := cell_later hb1 e1); (have hlt1 := Nat.lt_of_lt_of_le hbl hb1.size)) | (go_at_call 254; refine (CG.out _).mono ?_; rintro e w2 ⟨rfl, hw2⟩; rw [hw2]) | fail)
        exact ⟨⟨i + 1, Eo, by omega, by go_num, by rw [HET.out], hM1.alloc _, VX1.alloc _, hbX, hid0 (by rw [HV2.out, hT.out])⟩, by simp [intOf]; omega⟩
      · have hk0 : (k == 0) = false := by simpa using hk
        have HV2 := hid0 (show valsL x ((E.map pr).take (i + 1)) = valsL x ((E.map pr).take i) ++ [([(⟨k, nn, s⟩ : Val)], y.n)] by rw [HVT.out, if_neg hk])
        go_wp2_with (first | ((with_reducible refine wp_getB VXA.at_ Tryz.underlying44 ?_ ?_ ?_ ?_); (rfl); (rw [hl]; exact sizeX); (rfl); simp only [Act.put]) | (go_at_call 156; refine CE.out.mono ?_; rintro e w1 ⟨rfl, hb1⟩; (have hM1 := hMA.below hb1); (have VX1 := VXA.below hb1); (have z0 := cell_later hb1 e0); (have z1 := cell_later hb1 e1); (have hlt1 := Nat.lt_of_lt_of_le hbl hb1.size)) | (go_at_call 254; refine (CG.out _).mono ?_; rintro e w2 ⟨rfl, hw2⟩; rw [hw2]) | (at_builtin; refine wp_mk rfl _ _ rfl rfl (((hM1.alloc _).alloc _).alloc _) ⟨some ⟨_, 0, none⟩, 1, [(⟨k, nn, s⟩ : Val)], y.n⟩ _ rfl (elem_at _ _ _ _ (by simp)).1 (elem_at _ _ _ _ (by simp)).2 ((copied_at _ _ (by simp)).later ((Below.refl _ _).alloc (Nat.le_refl _) _)) ?_ ?_ ?_ ?_; (show 1 * 32 ≤ _; omega); (exact ⟨Nat.le_refl _, fun h => by cases h⟩); (omega); intro v1 w1 hm1 hg1; (have VX2 := hg1.var (((VX1.alloc _).alloc _).alloc _) hbX); (have hbX2 := hg1.apart (((VX1.alloc _).alloc _).alloc _) hbX); clear hg1) | fail)
        exact ⟨⟨i + 1, _, by omega, by go_num, by rw [HET.out], hm1, VX2, hbX2, hid0 (by rw [List.map_append, hT.out, HV2.out]; rfl)⟩, by simp [intOf]; omega⟩
    · have hie : ¬ (i : Int) < E.length := by omega
      rw [List.take_of_length_le (by simp; omega)] at hT ⊢
      rw [HRE.out]
      obtain ⟨a', c', rfl, hcc, hel⟩ := hM.elems
      have CO := hid0 (HO.out a' c' Eo wr hel hcc hT.out)
      have hb := hM.b
      clear hel hM VX
      go_wp2_with (first | (go_at_call 47; refine CO.out.mono ?_; rintro e w1 ⟨⟨a2, c2, E2, rfl, hc2, hE2, hm2⟩, hb2⟩) | fail)
      go_returns
      exact ⟨⟨a2, c2, E2, rfl, hE2, by rw [hm2, hT.out]⟩, below_through hb2 hb.size hb⟩
end Go.Proofs.YtfdkajefcplfjaaGreat
