/- The project's tree over int: a node with other kids in the place of some. Conditions: the node's memory is known, and the kids'; what is new may lie where it lies. -/
import Derived.Test.YtabpfibncipfjaaSeI
namespace Go.Proofs.Ytabpfibncipfjaa
open Go.RowKit

set_option maxRecDepth 100000 in
set_option maxHeartbeats 8000000 in
theorem withI_any (P : Nat → Prop) (n b : Nat) (t : Tr (Int) (n + 1)) (i j : Nat) (jv : Int) (vb : Value) (bt : List Key) (vd : Value) (ds : List Nat) (kids : List (Tr (Int) n)) (w : World) (h : NAI P w (n + 1) b t)
    (hi : i ≤ t.1.length) (hi2 : i ≤ t.2.length) (hj1 : 1 ≤ j) (hj : j ≤ t.1.length + 1) (hj2 : j ≤ t.2.length) (hjv : jv = (j : Int)) (hb : Sl 1 sk P w vb bt) (hd : Sl 1 pk P w vd ds) (hK : Kids (fun b' c => NAI P w n b' c) ds kids)
    (hn1 : t.1.length ≤ 300) (hn2 : t.2.length ≤ 300) (hn3 : bt.length ≤ 10) (hn4 : ds.length ≤ 10) (hP : ∀ q, w.heap.size ≤ q → P q) :
    Calls Try.prog 80 #[.pointer (some ⟨b, 0, none⟩), .int .i64 (i : Int), .int .i64 jv, vb, vd] w (ResI P w (n + 1) (withT t i j bt kids)) := by
  subst hjv
  obtain ⟨ak, ck, ac, cc, bs, q0, q1, hk, hc, hl, hkd⟩ := h.open_node
  obtain ⟨ab, nb, cb, rfl⟩ := hb.shape
  obtain ⟨ad, nd, cd, rfl⟩ := hd.shape
  obtain ⟨m, hm⟩ : ∃ m, j = m + 1 := ⟨j - 1, by omega⟩
  have hW : withT t i j bt kids = ((t.1.take i ++ bt ++ t.1.drop m, t.2.take i ++ kids ++ t.2.drop j) : Tr (Int) (n + 1)) := by subst hm; rfl
  obtain ⟨ks, hks⟩ : ∃ ks, t.1 = ks := ⟨_, rfl⟩
  obtain ⟨cs, hcs⟩ : ∃ cs, t.2 = cs := ⟨_, rfl⟩
  rw [hks] at hi hj hn1 q0 hk hW
  rw [hcs] at hi2 hj2 hn2 q1 hc hl hkd hW
  obtain ⟨N, hN⟩ : ∃ N, ks.length = N := ⟨_, rfl⟩
  obtain ⟨M, hM⟩ : ∃ M, cs.length = M := ⟨_, rfl⟩
  rw [hN] at hi hj hn1 q0 hk
  rw [hM] at hi2 hj2 hn2 q1 hc hl
  obtain ⟨a1, c1, s1, k1⟩ := Sl.low Try.underlying29 (fun W => by simp [go_sem]) hk i (by omega)
  obtain ⟨a2, c2, s2, k2⟩ := Sl.high Try.underlying29 (fun W => by simp [go_sem]) hk m (by omega)
  obtain ⟨a3, c3, s3, k3⟩ := Sl.low Try.underlying78 (fun W => by simp [go_sem]) hc i (by omega)
  obtain ⟨a4, c4, s4, k4⟩ := Sl.high Try.underlying78 (fun W => by simp [go_sem]) hc j (by omega)
  rw [hN] at s2 k2
  rw [hl] at s4 k4
  obtain ⟨n2, hn2'⟩ : ∃ n2, N - m = n2 := ⟨_, rfl⟩
  obtain ⟨n4', hn4'⟩ : ∃ n4', M - j = n4' := ⟨_, rfl⟩
  rw [hn2'] at s2 k2
  rw [hn4'] at s4 k4
  have hS : w.cell? ⟨b, 0, none⟩ = some (.slice ak N ck) ∧ w.cell? ⟨b, 2, none⟩ = some (.slice ac M cc) ∧ Below w.heap.size w w := ⟨q0, q1, Below.refl _ _⟩
  have HSS := hid0 hS
  have HKK := hid0 (And.intro k1 (And.intro k2 (And.intro k3 (And.intro k4 (And.intro hb hd)))))
  have HQ := hid0 (And.intro hN (And.intro hl (And.intro hkd (And.intro hK hW))))
  have HM := hid0 hm
  have hjm : (j : Int) - 1 = (m : Int) := by omega
  have hw : IntKind.i64.wrap (m : Int) = (m : Int) := IntWalk.i64_in _ (by omega)
  have HWJ := hid0 (And.intro hjm hw)
  clear hm hjm hw k1 k2 k3 k4 hb hd hN hM hl hkd hK hW hks hcs hn2' hn4' hk hc hS h
  go_enter Try.func80, Try.ntmps80
  go_wp2_with fail
  have hjm := HWJ.out.1
  have hw := HWJ.out.2
  go_region_held3 (fun w' => w'.cell? ⟨b, 0, none⟩ = some (.slice ak N ck) ∧ w'.cell? ⟨b, 2, none⟩ = some (.slice ac M cc) ∧ Below w.heap.size w w')
    (first
      | with_reducible assumption
      | (repeat (first | with_reducible exact HSS.out | with_reducible assumption | with_reducible refine hold2_drew ?_ | with_reducible refine hold2_alloc ?_)))
    (first
      | (go_at_call 83; (try go_split_ands); refine (concS_any P _ 3 [_, _, _] [ks.take i, bt, ks.drop m] _ (by (repeat (first | exact ArgsAt.fresh _ _ _ _ (by first | rfl | (simp; done)) | refine ArgsAt.drew ?_ | refine ArgsAt.alloc ?_ _ | refine ArgsAt.later ?_ hbn1))) rfl rfl (args3 (HKK.out.1.later (by assumption)) (HKK.out.2.2.2.2.1.later (by assumption)) (HKK.out.2.1.later (by assumption))) (by omega) (by clear hjm hw; have := HQ.out.1; simp; omega)).mono ?_; rintro e wn ⟨⟨v1, rfl, hv1⟩, hbn1⟩; replace hv1 := hv1.weak (fun q hq _ => hP q (Nat.le_trans (Below.size (by assumption : Below w.heap.size w _)) hq)) (fun _ => by simp [sk]); obtain ⟨a5, n5, c5, rfl⟩ := hv1.shape; have hn1 : (wn.cell? ⟨b, 0, none⟩ = some (.slice ak N ck) ∧ wn.cell? ⟨b, 2, none⟩ = some (.slice ac M cc) ∧ Below w.heap.size w wn) := hold2_call hbn1 ⟨by assumption, by assumption, by assumption⟩; have hzn1 := hn1.2.2.size)
      | (go_at_call 94; (try go_split_ands); refine (concNI_any P _ 3 [_, _, _] [bs.take i, ds, bs.drop j] _ (by (repeat (first | exact ArgsAt.fresh _ _ _ _ (by first | rfl | (simp; done)) | refine ArgsAt.drew ?_ | refine ArgsAt.alloc ?_ _ | refine ArgsAt.later ?_ hbn1))) rfl rfl (args3 (HKK.out.2.2.1.later (by assumption)) (HKK.out.2.2.2.2.2.later (by assumption)) (HKK.out.2.2.2.1.later (by assumption))) (by omega) (by clear hjm hw; have := HQ.out.2.1; simp; omega)).mono ?_; rintro e wn2 ⟨⟨v2, rfl, hv2⟩, hbn2⟩; replace hv2 := hv2.weak (fun q hq _ => hP q (Nat.le_trans (Below.size (by assumption : Below w.heap.size w _)) hq)) (fun _ => by simp [pk]); obtain ⟨a6, n6, c6, rfl⟩ := hv2.shape; have hn2 : (wn2.cell? ⟨b, 0, none⟩ = some (.slice ak N ck) ∧ wn2.cell? ⟨b, 2, none⟩ = some (.slice ac M cc) ∧ Below w.heap.size w wn2) := hold2_call hbn2 ⟨by assumption, by assumption, by assumption⟩; have hzn2 := hn2.2.2.size))
  all_goals
    clear hjm hw
    go_wp2_with fail
    go_ret
    rw [HQ.out.2.2.2.2]
    refine ⟨⟨_, rfl, NodeAt.mk_node (vk := .slice a5 n5 c5) (vc := .slice a6 n6 c6) (lk := [ks.take i, bt, ks.drop m].flatten) (lc := [bs.take i, ds, bs.drop j].flatten) (hP _ (by first | omega | (simp; omega))) (by go_cell) (by go_cell) ?_ ?_ ?_ ?_⟩, ?_⟩
    · (repeat (first | exact hv1 | refine Sl.drew ?_ | refine Sl.alloc ?_ _ | refine Sl.later ?_ hbn2))
    · (repeat (first | exact hv2 | refine Sl.drew ?_ | refine Sl.alloc ?_ _))
    · simp
    · refine Kids.mono (R := fun b' c => NAI P w n b' c) (fun b' c g => NodeAt.later ?_ g) ?_
      · first | exact Below.drew (hn2.2.2.alloc hzn2 _) | exact hn2.2.2.alloc hzn2 _
      · simp only [List.flatten_cons, List.flatten_nil, List.append_nil]
        rw [← List.append_assoc]
        exact ((HQ.out.2.2.1.take i).append HQ.out.2.2.2.1).append (HQ.out.2.2.1.drop j)
    · first | exact Below.drew (hn2.2.2.alloc hzn2 _) | exact hn2.2.2.alloc hzn2 _
end Go.Proofs.Ytabpfibncipfjaa
