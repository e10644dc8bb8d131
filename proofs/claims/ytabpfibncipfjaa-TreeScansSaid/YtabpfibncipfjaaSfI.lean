/- The project's tree over int: a leaf with a key more. Conditions: the node's memory is known; its keys rise; what is new may lie where it lies. -/
import Derived.Test.YtabpfibncipfjaaSeI
namespace Go.Proofs.Ytabpfibncipfjaa
open Go.RowKit

set_option maxRecDepth 100000 in
set_option maxHeartbeats 8000000 in
theorem setI_any (P : Nat → Prop) (b : Nat) (l : List (Key × (Int))) (k : Key) (x : Int) (w : World) (h : NAI P w 0 b l) (hs : Asc l) (hn : l.length ≤ 400) (hP : ∀ q, w.heap.size ≤ q → P q) :
    Calls Try.prog 79 #[.pointer (some ⟨b, 0, none⟩), .string (txt k), vI x] w (ResI P w 0 (insA k x l)) := by
  obtain ⟨ak, ck, av, cv, q0, q1, _, hk, hv⟩ := h.open_leaf
  have hins := ins_at (k := k) (v := x) hs
  have hsk := asc_keys hs
  have hlk : (l.map (·.1)).length = l.length := by simp
  have hlv : (l.map (·.2)).length = l.length := by simp
  obtain ⟨ks, hks⟩ : ∃ ks, l.map (·.1) = ks := ⟨_, rfl⟩
  obtain ⟨vs, hvs⟩ : ∃ vs, l.map (·.2) = vs := ⟨_, rfl⟩
  rw [hks] at hk hlk hins hsk
  rw [hvs] at hv hlv
  obtain ⟨N, hN⟩ : ∃ N, l.length = N := ⟨_, rfl⟩
  rw [hN] at hlk hlv hn q0 q1 hk hv
  have C := search_any P ak N ck ks k w hk hsk (by omega)
  have hp := pl_le k ks
  rw [hlk] at hp
  obtain ⟨p, hpp⟩ : ∃ p, pl k ks = p := ⟨_, rfl⟩
  unfold HasI at C
  rw [hpp] at C hp hins
  have HI := hid0 hins
  have HQ := hid0 (And.intro hlk (And.intro hlv (And.intro hks hvs)))
  have hS : w.cell? ⟨b, 0, none⟩ = some (.slice ak N ck) ∧ w.cell? ⟨b, 1, none⟩ = some (.slice av N cv) ∧ Below w.heap.size w w := ⟨q0, q1, Below.refl _ _⟩
  have HSS := hid0 hS
  have hhN : hasK k ks = true → p < N := fun hh => by
    unfold hasK at hh
    rw [hpp] at hh
    have := (List.getElem?_eq_some_iff.1 (of_decide_eq_true hh)).1
    omega
  obtain ⟨a1, c1, s1, k1⟩ := Sl.low Try.underlying29 (fun W => by simp [go_sem]) hk p (by omega)
  obtain ⟨a3, c3, s3, k3⟩ := Sl.low Try.underlying50 (fun W => by simp [go_sem]) hv p (by omega)
  have F := fun (j : Nat) (hj : j ≤ N) => Sl.high Try.underlying29 (fun W => by simp [go_sem]) hk j (by omega)
  have G := fun (j : Nat) (hj : j ≤ N) => Sl.high Try.underlying50 (fun W => by simp [go_sem]) hv j (by omega)
  rw [hlk] at F
  rw [hlv] at G
  unfold vI
  have HHN := hid0 hhN
  have HF := hid0 F
  have HG := hid0 G
  have HKV := hid0 (And.intro k1 k3)
  obtain ⟨B, hB⟩ : ∃ B, hasK k ks = B := ⟨_, rfl⟩
  rw [hB] at C hhN
  have HB := hid0 hB
  clear F G hk hv hS hpp hks hvs hlk hlv hins hN hsk k1 k3 h hs hB hhN
  go_enter Try.func79, Try.ntmps79
  go_upto_if 20 with (go_at_call 52; refine C.mono ?_; rintro e w' ⟨rfl, rfl⟩)
  go_cut [9] from 10 (fun jv wr => ∃ j : Nat, jv = .int .i64 j ∧ j ≤ N ∧ Hid (j = if hasK k ks = true then p + 1 else p) ∧ w = wr)
  case first =>
    cases B with
    | true =>
      have hpN := HHN.out HB.out
      go_wp2
      go_meet
      case rel => exact ⟨p + 1, by go_num, by omega, hid0 (by rw [HB.out]; rfl), rfl⟩
    | false =>
      go_wp2
      go_meet
      case rel => exact ⟨p, rfl, by omega, hid0 (by rw [HB.out]; rfl), rfl⟩
  case rest =>
    obtain ⟨j, rfl, hjN, HJ, rfl⟩ := hcut
    obtain ⟨a2, c2, s2, k2⟩ := HF.out j hjN
    obtain ⟨a4, c4, s4, k4⟩ := HG.out j hjN
    obtain ⟨n2, hn2⟩ : ∃ n2, N - j = n2 := ⟨_, rfl⟩
    rw [hn2] at s2 s4 k2 k4
    have HK := hid0 (And.intro HKV.out.1 (And.intro k2 (And.intro HKV.out.2 k4)))
    rw [← HJ.out] at HI
    clear k2 k4 hn2
    go_wp2_with fail
    go_region_held3 (fun w' => w'.cell? ⟨b, 0, none⟩ = some (.slice ak N ck) ∧ w'.cell? ⟨b, 1, none⟩ = some (.slice av N cv) ∧ Below w.heap.size w w')
      (first
        | with_reducible assumption
        | (repeat (first | with_reducible exact HSS.out | with_reducible assumption | with_reducible refine hold2_drew ?_ | with_reducible refine hold2_alloc ?_)))
      (first
        | (go_at_call 83; (try go_split_ands); refine (concS_any P _ 3 [_, _, _] [ks.take p, [k], ks.drop j] _ (by (repeat (first | exact ArgsAt.fresh _ _ _ _ (by first | rfl | (simp; done)) | refine ArgsAt.drew ?_ | refine ArgsAt.alloc ?_ _ | refine ArgsAt.later ?_ hbn1))) rfl rfl (args3 (HK.out.1.later (by assumption)) (Sl.key (by (repeat (first | exact ArgsAt.fresh _ _ _ _ (by first | rfl | (simp; done)) | refine ArgsAt.drew ?_ | refine ArgsAt.alloc ?_ _ | refine ArgsAt.later ?_ hbn1))) (hP _ (by first | exact Nat.le_refl _ | omega | (simp; omega)))) (HK.out.2.1.later (by assumption))) (by omega) (by have := HQ.out.1; simp; omega)).mono ?_; rintro e wn ⟨⟨v1, rfl, hv1⟩, hbn1⟩; replace hv1 := hv1.weak (fun q hq _ => hP q (Nat.le_trans (Below.size (by assumption : Below w.heap.size w _)) hq)) (fun _ => by simp [sk]); obtain ⟨a5, n5, c5, rfl⟩ := hv1.shape; have hn1 : (wn.cell? ⟨b, 0, none⟩ = some (.slice ak N ck) ∧ wn.cell? ⟨b, 1, none⟩ = some (.slice av N cv) ∧ Below w.heap.size w wn) := hold2_call hbn1 ⟨by assumption, by assumption, by assumption⟩; have hzn1 := hn1.2.2.size)
        | (go_at_call 93; (try go_split_ands); refine (concVI_any P _ 3 [_, _, _] [vs.take p, [x], vs.drop j] _ (by (repeat (first | exact ArgsAt.fresh _ _ _ _ (by first | rfl | (simp; done)) | refine ArgsAt.drew ?_ | refine ArgsAt.alloc ?_ _ | refine ArgsAt.later ?_ hbn1))) rfl rfl (args3 (HK.out.2.2.1.later (by assumption)) (Sl.ofI (by (repeat (first | exact ArgsAt.fresh _ _ _ _ (by first | rfl | (simp; done)) | refine ArgsAt.drew ?_ | refine ArgsAt.alloc ?_ _ | refine ArgsAt.later ?_ hbn1))) (hP _ (by first | exact Nat.le_refl _ | omega | (simp; omega)))) (HK.out.2.2.2.later (by assumption))) (by omega) (by have := HQ.out.2.1; simp; omega)).mono ?_; rintro e wn2 ⟨⟨v2, rfl, hv2⟩, hbn2⟩; replace hv2 := hv2.weak (fun q hq _ => hP q (Nat.le_trans (Below.size (by assumption : Below w.heap.size w _)) hq)) (fun _ => by simp [eI]); obtain ⟨a6, n6, c6, rfl⟩ := hv2.shape; have hn2 : (wn2.cell? ⟨b, 0, none⟩ = some (.slice ak N ck) ∧ wn2.cell? ⟨b, 1, none⟩ = some (.slice av N cv) ∧ Below w.heap.size w wn2) := hold2_call hbn2 ⟨by assumption, by assumption, by assumption⟩; have hzn2 := hn2.2.2.size))
    all_goals
      go_wp2_with fail
      go_ret
      refine ⟨⟨_, rfl, NodeAt.mk_leaf (vk := .slice a5 n5 c5) (vv := .slice a6 n6 c6) (lk := [ks.take p, [k], ks.drop j].flatten) (lv := [vs.take p, [x], vs.drop j].flatten) (hP _ (by first | omega | (simp; omega))) (by go_cell) (by go_cell) (by go_cell) ?_ ?_ ?_ ?_⟩, ?_⟩
      · (repeat (first | exact hv1 | refine Sl.drew ?_ | refine Sl.alloc ?_ _ | refine Sl.later ?_ hbn2))
      · (repeat (first | exact hv2 | refine Sl.drew ?_ | refine Sl.alloc ?_ _))
      · rw [HI.out, ← HQ.out.2.2.1]; simp
      · rw [HI.out, ← HQ.out.2.2.2]; simp
      · first | exact hn2.2.2.alloc hzn2 _ | exact Below.drew (hn2.2.2.alloc hzn2 _)
end Go.Proofs.Ytabpfibncipfjaa
