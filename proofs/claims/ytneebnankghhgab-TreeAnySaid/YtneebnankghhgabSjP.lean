/- Several of my texts laid together, each as it was: SjP. Conditions: each names its own. -/
import Derived.Test.YtneebnankghhgabSeP
/- The project's tree over belvedere/belvederelaw07.Pair: a leaf without a key; two nodes as one. Conditions: the nodes' memory is known; what is new may lie where it lies. -/
namespace Go.Proofs.Ytneebnankghhgab
open Go.RowKit

set_option maxRecDepth 100000 in
set_option maxHeartbeats 8000000 in
theorem joinedP_leaf (P : Nat → Prop) (bl br : Nat) (l r : List (Key × (Int × Key))) (k : Key) (w : World) (h : NAP P w 0 bl l) (g : NAP P w 0 br r) (hn1 : l.length ≤ 300) (hn2 : r.length ≤ 300) (hP : ∀ q, w.heap.size ≤ q → P q) :
    Calls Try.prog 80 #[.pointer (some ⟨bl, 0, none⟩), .string (txt k), .pointer (some ⟨br, 0, none⟩)] w (ResP P w 0 (joinT 0 (show Tr (Int × Key) 0 from l) k (show Tr (Int × Key) 0 from r))) := by
  obtain ⟨ak, ck, av, cv, q0, q1, q2, hk, hv⟩ := h.open_leaf
  obtain ⟨bk, dk, bv, dv, r0, r1, -, gk, gv⟩ := g.open_leaf
  have L1 : Calls Try.prog 42 #[.pointer (some ⟨bl, 0, none⟩)] w fun e w' => e = .returned (.bool true) ∧ w = w' := leafP_yes bl w q2
  obtain ⟨N, hN⟩ : ∃ N, l.length = N := ⟨_, rfl⟩
  obtain ⟨M, hM⟩ : ∃ M, r.length = M := ⟨_, rfl⟩
  rw [hN] at q0 q1 hk hv hn1
  rw [hM] at r0 r1 gk gv hn2
  have HK := hid0 (And.intro hk (And.intro gk (And.intro hv gv)))
  have HQ := hid0 (And.intro hN hM)
  have hS : w.cell? ⟨bl, 0, none⟩ = some (.slice ak N ck) ∧ w.cell? ⟨bl, 1, none⟩ = some (.slice av N cv) ∧ w.cell? ⟨br, 0, none⟩ = some (.slice bk M dk) ∧ w.cell? ⟨br, 1, none⟩ = some (.slice bv M dv) ∧ Below w.heap.size w w := ⟨q0, q1, r0, r1, Below.refl _ _⟩
  have HSS := hid0 hS
  clear hS hk gk hv gv hN hM q2 h g
  go_enter Try.func80, Try.ntmps80
  go_wp2_with (go_at_call 42; refine L1.mono ?_; rintro e w' ⟨rfl, rfl⟩)
  go_region_held3 (fun w' => w'.cell? ⟨bl, 0, none⟩ = some (.slice ak N ck) ∧ w'.cell? ⟨bl, 1, none⟩ = some (.slice av N cv) ∧ w'.cell? ⟨br, 0, none⟩ = some (.slice bk M dk) ∧ w'.cell? ⟨br, 1, none⟩ = some (.slice bv M dv) ∧ Below w.heap.size w w')
    (first
      | with_reducible assumption
      | (repeat (first | with_reducible exact HSS.out | with_reducible assumption | with_reducible refine hold4_drew7 ?_ | with_reducible refine hold4_alloc7 ?_)))
    (first
      | (go_at_call 75; (try go_split_ands); refine (concS_any P _ 2 [_, _] [l.map (·.1), r.map (·.1)] _ (by (repeat (first | exact ArgsAt.fresh _ _ _ _ (by first | rfl | (simp; done)) | refine ArgsAt.drew ?_ | refine ArgsAt.alloc ?_ _ | refine ArgsAt.later ?_ hbn1))) rfl rfl (args2 (HK.out.1.later (by assumption)) (HK.out.2.1.later (by assumption))) (by omega) (by have h1 := HQ.out.1; have h2 := HQ.out.2; simp; omega)).mono ?_; rintro e wn ⟨⟨v1, rfl, hv1⟩, hbn1⟩; replace hv1 := hv1.weak (fun q hq _ => hP q (Nat.le_trans (Below.size (by assumption : Below w.heap.size w _)) hq)) (fun _ => by simp [sk]); obtain ⟨a5, n5, c5, rfl⟩ := hv1.shape; have hn1 : (wn.cell? ⟨bl, 0, none⟩ = some (.slice ak N ck) ∧ wn.cell? ⟨bl, 1, none⟩ = some (.slice av N cv) ∧ wn.cell? ⟨br, 0, none⟩ = some (.slice bk M dk) ∧ wn.cell? ⟨br, 1, none⟩ = some (.slice bv M dv) ∧ Below w.heap.size w wn) := hold4_call7 hbn1 ⟨by assumption, by assumption, by assumption, by assumption, by assumption⟩; have hzn1 := hn1.2.2.2.2.size)
      | (go_at_call 76; (try go_split_ands); refine (concVP_any P _ 2 [_, _] [l.map (·.2), r.map (·.2)] _ (by (repeat (first | exact ArgsAt.fresh _ _ _ _ (by first | rfl | (simp; done)) | refine ArgsAt.drew ?_ | refine ArgsAt.alloc ?_ _ | refine ArgsAt.later ?_ hbn1))) rfl rfl (args2 (HK.out.2.2.1.later (by assumption)) (HK.out.2.2.2.later (by assumption))) (by omega) (by have h1 := HQ.out.1; have h2 := HQ.out.2; simp; omega)).mono ?_; rintro e wn2 ⟨⟨v2, rfl, hv2⟩, hbn2⟩; replace hv2 := hv2.weak (fun q hq _ => hP q (Nat.le_trans (Below.size (by assumption : Below w.heap.size w _)) hq)) (fun _ => by simp [eP]); obtain ⟨a6, n6, c6, rfl⟩ := hv2.shape; have hn2 : (wn2.cell? ⟨bl, 0, none⟩ = some (.slice ak N ck) ∧ wn2.cell? ⟨bl, 1, none⟩ = some (.slice av N cv) ∧ wn2.cell? ⟨br, 0, none⟩ = some (.slice bk M dk) ∧ wn2.cell? ⟨br, 1, none⟩ = some (.slice bv M dv) ∧ Below w.heap.size w wn2) := hold4_call7 hbn2 ⟨by assumption, by assumption, by assumption, by assumption, by assumption⟩; have hzn2 := hn2.2.2.2.2.size))
  all_goals
    go_wp2_with fail
    go_ret
    refine ⟨⟨_, rfl, NodeAt.mk_leaf (l := l ++ r) (vk := .slice a5 n5 c5) (vv := .slice a6 n6 c6) (lk := [l.map (·.1), r.map (·.1)].flatten) (lv := [l.map (·.2), r.map (·.2)].flatten) (hP _ (by first | omega | (simp; omega))) (by go_cell) (by go_cell) (by go_cell) ?_ ?_ ?_ ?_⟩, ?_⟩
    · (repeat (first | exact hv1 | refine Sl.drew ?_ | refine Sl.alloc ?_ _ | refine Sl.later ?_ hbn2))
    · (repeat (first | exact hv2 | refine Sl.drew ?_ | refine Sl.alloc ?_ _))
    · simp
    · simp
    · first | exact hn2.2.2.2.2.alloc hzn2 _ | exact Below.drew (hn2.2.2.2.2.alloc hzn2 _)

set_option maxRecDepth 100000 in
set_option maxHeartbeats 8000000 in
theorem joinedP_node (P : Nat → Prop) (n bl br : Nat) (l r : Tr (Int × Key) (n + 1)) (k : Key) (w : World) (h : NAP P w (n + 1) bl l) (g : NAP P w (n + 1) br r) (hn0 : 0 < l.2.length) (hn1 : l.1.length ≤ 300) (hn2 : r.1.length ≤ 300) (hn3 : l.2.length ≤ 300) (hn4 : r.2.length ≤ 300) (hP : ∀ q, w.heap.size ≤ q → P q) :
    Calls Try.prog 80 #[.pointer (some ⟨bl, 0, none⟩), .string (txt k), .pointer (some ⟨br, 0, none⟩)] w (ResP P w (n + 1) (joinT (n + 1) l k r)) := by
  obtain ⟨ak, ck, av, cv, bs, q0, q1, hk, hv, hl, hkd⟩ := h.open_node
  obtain ⟨bk, dk, bv, dv, ds, r0, r1, gk, gv, gl, gkd⟩ := g.open_node
  have L1 : Calls Try.prog 42 #[.pointer (some ⟨bl, 0, none⟩)] w fun e w' => e = .returned (.bool false) ∧ w = w' := leafP_no bl av l.2.length cv w q1 hn0
  have hj : joinT (n + 1) l k r = ((l.1 ++ k :: r.1, l.2 ++ r.2) : Tr (Int × Key) (n + 1)) := rfl
  obtain ⟨lk, hlk⟩ : ∃ lk, l.1 = lk := ⟨_, rfl⟩
  obtain ⟨lc, hlc⟩ : ∃ lc, l.2 = lc := ⟨_, rfl⟩
  obtain ⟨rk, hrk⟩ : ∃ rk, r.1 = rk := ⟨_, rfl⟩
  obtain ⟨rc, hrc⟩ : ∃ rc, r.2 = rc := ⟨_, rfl⟩
  rw [hlk] at q0 hk hn1 hj
  rw [hlc] at q1 hv hl hkd hn3 hj
  rw [hrk] at r0 gk hn2 hj
  rw [hrc] at r1 gv gl gkd hn4 hj
  obtain ⟨N, hN⟩ : ∃ N, lk.length = N := ⟨_, rfl⟩
  obtain ⟨M, hM⟩ : ∃ M, rk.length = M := ⟨_, rfl⟩
  obtain ⟨N', hN'⟩ : ∃ N', lc.length = N' := ⟨_, rfl⟩
  obtain ⟨M', hM'⟩ : ∃ M', rc.length = M' := ⟨_, rfl⟩
  rw [hN] at q0 hk hn1
  rw [hM] at r0 gk hn2
  rw [hN'] at q1 hv hl hn3
  rw [hM'] at r1 gv gl hn4
  have HK := hid0 (And.intro hk (And.intro gk (And.intro hv gv)))
  have HQ := hid0 (And.intro hN (And.intro hM (And.intro hl (And.intro gl (And.intro hkd (And.intro gkd hj))))))
  have hS : w.cell? ⟨bl, 0, none⟩ = some (.slice ak N ck) ∧ w.cell? ⟨bl, 2, none⟩ = some (.slice av N' cv) ∧ w.cell? ⟨br, 0, none⟩ = some (.slice bk M dk) ∧ w.cell? ⟨br, 2, none⟩ = some (.slice bv M' dv) ∧ Below w.heap.size w w := ⟨q0, q1, r0, r1, Below.refl _ _⟩
  have HSS := hid0 hS
  clear hS hk gk hv gv hN hM hN' hM' hl gl hkd gkd hj hlk hlc hrk hrc h g hn0
  go_enter Try.func80, Try.ntmps80
  go_wp2_with (go_at_call 42; refine L1.mono ?_; rintro e w' ⟨rfl, rfl⟩)
  go_region_held3 (fun w' => w'.cell? ⟨bl, 0, none⟩ = some (.slice ak N ck) ∧ w'.cell? ⟨bl, 2, none⟩ = some (.slice av N' cv) ∧ w'.cell? ⟨br, 0, none⟩ = some (.slice bk M dk) ∧ w'.cell? ⟨br, 2, none⟩ = some (.slice bv M' dv) ∧ Below w.heap.size w w')
    (first
      | with_reducible assumption
      | (repeat (first | with_reducible exact HSS.out | with_reducible assumption | with_reducible refine hold4_drew7 ?_ | with_reducible refine hold4_alloc7 ?_)))
    (first
      | (go_at_call 75; (try go_split_ands); refine (concS_any P _ 3 [_, _, _] [lk, [k], rk] _ (by (repeat (first | exact ArgsAt.fresh _ _ _ _ (by first | rfl | (simp; done)) | refine ArgsAt.drew ?_ | refine ArgsAt.alloc ?_ _ | refine ArgsAt.later ?_ hbn1))) rfl rfl (args3 (HK.out.1.later (by assumption)) (Sl.key (by (repeat (first | exact ArgsAt.fresh _ _ _ _ (by first | rfl | (simp; done)) | refine ArgsAt.drew ?_ | refine ArgsAt.alloc ?_ _ | refine ArgsAt.later ?_ hbn1))) (hP _ (by first | exact Nat.le_refl _ | omega | (simp; omega)))) (HK.out.2.1.later (by assumption))) (by omega) (by have h1 := HQ.out.1; have h2 := HQ.out.2.1; simp; omega)).mono ?_; rintro e wn ⟨⟨v1, rfl, hv1⟩, hbn1⟩; replace hv1 := hv1.weak (fun q hq _ => hP q (Nat.le_trans (Below.size (by assumption : Below w.heap.size w _)) hq)) (fun _ => by simp [sk]); obtain ⟨a5, n5, c5, rfl⟩ := hv1.shape; have hn1 : (wn.cell? ⟨bl, 0, none⟩ = some (.slice ak N ck) ∧ wn.cell? ⟨bl, 2, none⟩ = some (.slice av N' cv) ∧ wn.cell? ⟨br, 0, none⟩ = some (.slice bk M dk) ∧ wn.cell? ⟨br, 2, none⟩ = some (.slice bv M' dv) ∧ Below w.heap.size w wn) := hold4_call7 hbn1 ⟨by assumption, by assumption, by assumption, by assumption, by assumption⟩; have hzn1 := hn1.2.2.2.2.size)
      | (go_at_call 77; (try go_split_ands); refine (concNP_any P _ 2 [_, _] [bs, ds] _ (by (repeat (first | exact ArgsAt.fresh _ _ _ _ (by first | rfl | (simp; done)) | refine ArgsAt.drew ?_ | refine ArgsAt.alloc ?_ _ | refine ArgsAt.later ?_ hbn1))) rfl rfl (args2 (HK.out.2.2.1.later (by assumption)) (HK.out.2.2.2.later (by assumption))) (by omega) (by have h1 := HQ.out.2.2.1; have h2 := HQ.out.2.2.2.1; simp; omega)).mono ?_; rintro e wn2 ⟨⟨v2, rfl, hv2⟩, hbn2⟩; replace hv2 := hv2.weak (fun q hq _ => hP q (Nat.le_trans (Below.size (by assumption : Below w.heap.size w _)) hq)) (fun _ => by simp [pk]); obtain ⟨a6, n6, c6, rfl⟩ := hv2.shape; have hn2 : (wn2.cell? ⟨bl, 0, none⟩ = some (.slice ak N ck) ∧ wn2.cell? ⟨bl, 2, none⟩ = some (.slice av N' cv) ∧ wn2.cell? ⟨br, 0, none⟩ = some (.slice bk M dk) ∧ wn2.cell? ⟨br, 2, none⟩ = some (.slice bv M' dv) ∧ Below w.heap.size w wn2) := hold4_call7 hbn2 ⟨by assumption, by assumption, by assumption, by assumption, by assumption⟩; have hzn2 := hn2.2.2.2.2.size))
  all_goals
    go_wp2_with fail
    go_ret
    rw [HQ.out.2.2.2.2.2.2]
    refine ⟨⟨_, rfl, NodeAt.mk_node (vk := .slice a5 n5 c5) (vc := .slice a6 n6 c6) (lk := [lk, [k], rk].flatten) (lc := [bs, ds].flatten) (hP _ (by first | omega | (simp; omega))) (by go_cell) (by go_cell) ?_ ?_ ?_ ?_⟩, ?_⟩
    · (repeat (first | exact hv1 | refine Sl.drew ?_ | refine Sl.alloc ?_ _ | refine Sl.later ?_ hbn2))
    · (repeat (first | exact hv2 | refine Sl.drew ?_ | refine Sl.alloc ?_ _))
    · simp
    · refine Kids.mono (R := fun b' c => NAP P w n b' c) (fun b' c g => NodeAt.later ?_ g) ?_
      · first | exact Below.drew (hn2.2.2.2.2.alloc hzn2 _) | exact hn2.2.2.2.2.alloc hzn2 _
      · simp only [List.flatten_cons, List.flatten_nil, List.append_nil]
        exact HQ.out.2.2.2.2.1.append HQ.out.2.2.2.2.2.1
    · first | exact Below.drew (hn2.2.2.2.2.alloc hzn2 _) | exact hn2.2.2.2.2.alloc hzn2 _

set_option maxRecDepth 100000 in
set_option maxHeartbeats 8000000 in
theorem unsetP_any (P : Nat → Prop) (b : Nat) (l : List (Key × (Int × Key))) (k : Key) (w : World) (h : NAP P w 0 b l) (hs : Asc l) (hh : hasK k (l.map (·.1)) = true) (hn : l.length ≤ 400) (hP : ∀ q, w.heap.size ≤ q → P q) :
    Calls Try.prog 56 #[.pointer (some ⟨b, 0, none⟩), .string (txt k)] w (ResP P w 0 (delA k l)) := by
  obtain ⟨ak, ck, av, cv, q0, q1, _, hk, hv⟩ := h.open_leaf
  have hdel := del_at (k := k) hs hh
  have hsk := asc_keys hs
  have hlk : (l.map (·.1)).length = l.length := by simp
  have hlv : (l.map (·.2)).length = l.length := by simp
  obtain ⟨ks, hks⟩ : ∃ ks, l.map (·.1) = ks := ⟨_, rfl⟩
  obtain ⟨vs, hvs⟩ : ∃ vs, l.map (·.2) = vs := ⟨_, rfl⟩
  rw [hks] at hk hlk hdel hsk hh
  rw [hvs] at hv hlv
  obtain ⟨N, hN⟩ : ∃ N, l.length = N := ⟨_, rfl⟩
  rw [hN] at hlk hlv hn q0 q1 hk hv
  have C := search_any P ak N ck ks k w hk hsk (by omega)
  obtain ⟨p, hpp⟩ : ∃ p, pl k ks = p := ⟨_, rfl⟩
  have hpN : p < N := by
    unfold hasK at hh
    rw [hpp] at hh
    have := (List.getElem?_eq_some_iff.1 (of_decide_eq_true hh)).1
    omega
  unfold HasI at C
  rw [hpp, hh] at C
  rw [hpp] at hdel
  have HI := hid0 hdel
  have HQ := hid0 (And.intro hlk (And.intro hlv (And.intro hks hvs)))
  have hS : w.cell? ⟨b, 0, none⟩ = some (.slice ak N ck) ∧ w.cell? ⟨b, 1, none⟩ = some (.slice av N cv) ∧ Below w.heap.size w w := ⟨q0, q1, Below.refl _ _⟩
  have HSS := hid0 hS
  obtain ⟨a1, c1, s1, k1⟩ := Sl.low Try.underlying46 (fun W => by simp [go_sem]) hk p (by omega)
  obtain ⟨a3, c3, s3, k3⟩ := Sl.low Try.underlying60 (fun W => by simp [go_sem]) hv p (by omega)
  obtain ⟨a2, c2, s2, k2⟩ := Sl.high Try.underlying46 (fun W => by simp [go_sem]) hk (p + 1) (by omega)
  obtain ⟨a4, c4, s4, k4⟩ := Sl.high Try.underlying60 (fun W => by simp [go_sem]) hv (p + 1) (by omega)
  rw [hlk] at s2 k2
  rw [hlv] at s4 k4
  rw [show ((p + 1 : Nat) : Int) = (p : Int) + 1 by omega] at s2 s4
  obtain ⟨n2, hn2⟩ : ∃ n2, N - (p + 1) = n2 := ⟨_, rfl⟩
  rw [hn2] at s2 s4 k2 k4
  have HK := hid0 (And.intro k1 (And.intro k2 (And.intro k3 k4)))
  have hw : IntKind.i64.wrap ((p : Int) + 1) = (p : Int) + 1 := IntWalk.i64_in _ (by omega)
  have HW := hid0 hw
  clear hw hk hv hS hpp hks hvs hlk hlv hdel hN hsk k1 k2 k3 k4 h hs hh hn2
  go_enter Try.func56, Try.ntmps56
  go_wp2_with (go_at_call 41; refine C.mono ?_; rintro e w' ⟨rfl, rfl⟩)
  have hw := HW.out
  go_region_held3 (fun w' => w'.cell? ⟨b, 0, none⟩ = some (.slice ak N ck) ∧ w'.cell? ⟨b, 1, none⟩ = some (.slice av N cv) ∧ Below w.heap.size w w')
    (first
      | with_reducible assumption
      | (repeat (first | with_reducible exact HSS.out | with_reducible assumption | with_reducible refine hold2_drew ?_ | with_reducible refine hold2_alloc ?_)))
    (first
      | (go_at_call 75; (try go_split_ands); refine (concS_any P _ 2 [_, _] [ks.take p, ks.drop (p + 1)] _ (by (repeat (first | exact ArgsAt.fresh _ _ _ _ (by first | rfl | (simp; done)) | refine ArgsAt.drew ?_ | refine ArgsAt.alloc ?_ _ | refine ArgsAt.later ?_ hbn1))) rfl rfl (args2 (HK.out.1.later (by assumption)) (HK.out.2.1.later (by assumption))) (by omega) (by clear hw; have := HQ.out.1; simp; omega)).mono ?_; rintro e wn ⟨⟨v1, rfl, hv1⟩, hbn1⟩; replace hv1 := hv1.weak (fun q hq _ => hP q (Nat.le_trans (Below.size (by assumption : Below w.heap.size w _)) hq)) (fun _ => by simp [sk]); obtain ⟨a5, n5, c5, rfl⟩ := hv1.shape; have hn1 : (wn.cell? ⟨b, 0, none⟩ = some (.slice ak N ck) ∧ wn.cell? ⟨b, 1, none⟩ = some (.slice av N cv) ∧ Below w.heap.size w wn) := hold2_call hbn1 ⟨by assumption, by assumption, by assumption⟩; have hzn1 := hn1.2.2.size)
      | (go_at_call 76; (try go_split_ands); refine (concVP_any P _ 2 [_, _] [vs.take p, vs.drop (p + 1)] _ (by (repeat (first | exact ArgsAt.fresh _ _ _ _ (by first | rfl | (simp; done)) | refine ArgsAt.drew ?_ | refine ArgsAt.alloc ?_ _ | refine ArgsAt.later ?_ hbn1))) rfl rfl (args2 (HK.out.2.2.1.later (by assumption)) (HK.out.2.2.2.later (by assumption))) (by omega) (by clear hw; have := HQ.out.2.1; simp; omega)).mono ?_; rintro e wn2 ⟨⟨v2, rfl, hv2⟩, hbn2⟩; replace hv2 := hv2.weak (fun q hq _ => hP q (Nat.le_trans (Below.size (by assumption : Below w.heap.size w _)) hq)) (fun _ => by simp [eP]); obtain ⟨a6, n6, c6, rfl⟩ := hv2.shape; have hn2 : (wn2.cell? ⟨b, 0, none⟩ = some (.slice ak N ck) ∧ wn2.cell? ⟨b, 1, none⟩ = some (.slice av N cv) ∧ Below w.heap.size w wn2) := hold2_call hbn2 ⟨by assumption, by assumption, by assumption⟩; have hzn2 := hn2.2.2.size))
  all_goals
    clear hw
    go_wp2_with fail
    go_ret
    refine ⟨⟨_, rfl, NodeAt.mk_leaf (vk := .slice a5 n5 c5) (vv := .slice a6 n6 c6) (lk := [ks.take p, ks.drop (p + 1)].flatten) (lv := [vs.take p, vs.drop (p + 1)].flatten) (hP _ (by first | omega | (simp; omega))) (by go_cell) (by go_cell) (by go_cell) ?_ ?_ ?_ ?_⟩, ?_⟩
    · (repeat (first | exact hv1 | refine Sl.drew ?_ | refine Sl.alloc ?_ _ | refine Sl.later ?_ hbn2))
    · (repeat (first | exact hv2 | refine Sl.drew ?_ | refine Sl.alloc ?_ _))
    · rw [HI.out, ← HQ.out.2.2.1]; simp
    · rw [HI.out, ← HQ.out.2.2.2]; simp
    · first | exact hn2.2.2.alloc hzn2 _ | exact Below.drew (hn2.2.2.alloc hzn2 _)
end Go.Proofs.Ytneebnankghhgab
