/- Several of my texts laid together, each as it was: SfP, SgP, ShP. Conditions: each names its own. -/
import Derived.Test.YtneebnankghhgabSeP
/- The project's tree over belvedere/belvederelaw07.Pair: a leaf with a key more. Conditions: the node's memory is known; its keys rise; what is new may lie where it lies. -/
namespace Go.Proofs.Ytneebnankghhgab
open Go.RowKit

set_option maxRecDepth 100000 in
set_option maxHeartbeats 8000000 in
theorem setP_any (P : Nat → Prop) (b : Nat) (l : List (Key × (Int × Key))) (k : Key) (x : Int × Key) (w : World) (h : NAP P w 0 b l) (hs : Asc l) (hn : l.length ≤ 400) (hP : ∀ q, w.heap.size ≤ q → P q) :
    Calls Try.prog 52 #[.pointer (some ⟨b, 0, none⟩), .string (txt k), vP x] w (ResP P w 0 (insA k x l)) := by
  obtain ⟨ak, ck, av, cv, q0, q1, _, hk, hv⟩ := h.open_leaf
  have hins := ins_at (k := k) (v := x) hs
  have hsk := asc_keys hs
  have hlk : (l.map (·.1)).length = l.length := by simp
  have hlv : (l.map (·.2)).length = l.length := by simp
  obtain ⟨ks, hks⟩ : ∃ ks, l.map (·.1) = ks := ⟨_, rfl⟩
  obtain ⟨vs, hvs⟩ : ∃ vs, l.map (·.2) = vs := ⟨_, rfl⟩
  rw [hks] at hk hlk hins hsk
  rw [hvs] at hv hlv
  obtain ⟨N, hN⟩ : ∃ N, l.length = N := ⟨_, rfl⟩
  rw [hN] at hlk hlv hn q0 q1 hk hv
  obtain ⟨x1, x2⟩ := x
  have hb0 : Below w.heap.size w (w.alloc (Obj.cells #[.int .i64 x1, .string (txt x2)] 33)) := (Below.refl _ _).alloc (Nat.le_refl _) _
  have C := search_any P ak N ck ks k (w.alloc (Obj.cells #[.int .i64 x1, .string (txt x2)] 33)) (hk.later hb0) hsk (by omega)
  have hp := pl_le k ks
  rw [hlk] at hp
  obtain ⟨p, hpp⟩ : ∃ p, pl k ks = p := ⟨_, rfl⟩
  unfold HasI at C
  rw [hpp] at C hp hins
  have HI := hid0 hins
  have HQ := hid0 (And.intro hlk (And.intro hlv (And.intro hks hvs)))
  have hS : (w.alloc (Obj.cells #[.int .i64 x1, .string (txt x2)] 33)).cell? ⟨b, 0, none⟩ = some (.slice ak N ck) ∧ (w.alloc (Obj.cells #[.int .i64 x1, .string (txt x2)] 33)).cell? ⟨b, 1, none⟩ = some (.slice av N cv) ∧ (w.alloc (Obj.cells #[.int .i64 x1, .string (txt x2)] 33)).cell? ⟨w.heap.size, 0, none⟩ = some (.int .i64 x1) ∧ (w.alloc (Obj.cells #[.int .i64 x1, .string (txt x2)] 33)).cell? ⟨w.heap.size, 1, none⟩ = some (.string (txt x2)) ∧ Below w.heap.size w (w.alloc (Obj.cells #[.int .i64 x1, .string (txt x2)] 33)) := ⟨cell_later hb0 q0, cell_later hb0 q1, by go_cell, by go_cell, hb0⟩
  have hz0 : w.heap.size < (w.alloc (Obj.cells #[.int .i64 x1, .string (txt x2)] 33)).heap.size := by simp
  have HSS := hid0 hS
  replace q0 := cell_later hb0 q0
  replace q1 := cell_later hb0 q1
  have hhN : hasK k ks = true → p < N := fun hh => by
    unfold hasK at hh
    rw [hpp] at hh
    have := (List.getElem?_eq_some_iff.1 (of_decide_eq_true hh)).1
    omega
  obtain ⟨a1, c1, s1, k1⟩ := Sl.low Try.underlying46 (fun W => by simp [go_sem]) hk p (by omega)
  obtain ⟨a3, c3, s3, k3⟩ := Sl.low Try.underlying60 (fun W => by simp [go_sem]) hv p (by omega)
  have F := fun (j : Nat) (hj : j ≤ N) => Sl.high Try.underlying46 (fun W => by simp [go_sem]) hk j (by omega)
  have G := fun (j : Nat) (hj : j ≤ N) => Sl.high Try.underlying60 (fun W => by simp [go_sem]) hv j (by omega)
  rw [hlk] at F
  rw [hlv] at G
  unfold vP
  dsimp only
  have HHN := hid0 hhN
  have HF := hid0 F
  have HG := hid0 G
  have HKV := hid0 (And.intro k1 k3)
  obtain ⟨B, hB⟩ : ∃ B, hasK k ks = B := ⟨_, rfl⟩
  rw [hB] at C hhN
  have HB := hid0 hB
  clear F G hk hv hS hb0 hpp hks hvs hlk hlv hins hN hsk k1 k3 h hs hB hhN
  go_enter Try.func52, Try.ntmps52
  go_upto_if 20 with (go_at_call 41; refine C.mono ?_; rintro e w' ⟨rfl, rfl⟩)
  go_cut [9] from 10 (fun jv wr => ∃ j : Nat, jv = .int .i64 j ∧ j ≤ N ∧ Hid (j = if hasK k ks = true then p + 1 else p) ∧ (w.alloc (Obj.cells #[.int .i64 x1, .string (txt x2)] 33)) = wr)
  case first =>
    cases B with
    | true =>
      have hpN := HHN.out HB.out
      go_wp2
      go_meet
      case rel => exact ⟨p + 1, by go_num, by omega, hid0 (by rw [HB.out]; rfl), rfl⟩
    | false =>
      go_wp2
      go_meet
      case rel => exact ⟨p, rfl, by omega, hid0 (by rw [HB.out]; rfl), rfl⟩
  case rest =>
    obtain ⟨j, rfl, hjN, HJ, rfl⟩ := hcut
    obtain ⟨a2, c2, s2, k2⟩ := HF.out j hjN
    obtain ⟨a4, c4, s4, k4⟩ := HG.out j hjN
    obtain ⟨n2, hn2⟩ : ∃ n2, N - j = n2 := ⟨_, rfl⟩
    rw [hn2] at s2 s4 k2 k4
    have HK := hid0 (And.intro HKV.out.1 (And.intro k2 (And.intro HKV.out.2 k4)))
    rw [← HJ.out] at HI
    clear k2 k4 hn2
    go_wp2_with fail
    go_region_held3 (fun w' => w'.cell? ⟨b, 0, none⟩ = some (.slice ak N ck) ∧ w'.cell? ⟨b, 1, none⟩ = some (.slice av N cv) ∧ w'.cell? ⟨w.heap.size, 0, none⟩ = some (.int .i64 x1) ∧ w'.cell? ⟨w.heap.size, 1, none⟩ = some (.string (txt x2)) ∧ Below w.heap.size w w')
      (first
        | with_reducible assumption
        | (repeat (first | with_reducible exact HSS.out | with_reducible assumption | with_reducible refine hold4_drew7 ?_ | with_reducible refine hold4_alloc7 ?_)))
      (first
        | (go_at_call 75; (try go_split_ands); refine (concS_any P _ 3 [_, _, _] [ks.take p, [k], ks.drop j] _ (by (repeat (first | exact ArgsAt.fresh _ _ _ _ (by first | rfl | (simp; done)) | refine ArgsAt.drew ?_ | refine ArgsAt.alloc ?_ _ | refine ArgsAt.later ?_ hbn1))) rfl rfl (args3 (HK.out.1.later (by assumption)) (Sl.key (by (repeat (first | exact ArgsAt.fresh _ _ _ _ (by first | rfl | (simp; done)) | refine ArgsAt.drew ?_ | refine ArgsAt.alloc ?_ _ | refine ArgsAt.later ?_ hbn1))) (hP _ (by first | exact Nat.le_refl _ | omega | (simp; omega)))) (HK.out.2.1.later (by assumption))) (by omega) (by have := HQ.out.1; simp; omega)).mono ?_; rintro e wn ⟨⟨v1, rfl, hv1⟩, hbn1⟩; replace hv1 := hv1.weak (fun q hq _ => hP q (Nat.le_trans (Below.size (by assumption : Below w.heap.size w _)) hq)) (fun _ => by simp [sk]); obtain ⟨a5, n5, c5, rfl⟩ := hv1.shape; have hn1 : (wn.cell? ⟨b, 0, none⟩ = some (.slice ak N ck) ∧ wn.cell? ⟨b, 1, none⟩ = some (.slice av N cv) ∧ wn.cell? ⟨w.heap.size, 0, none⟩ = some (.int .i64 x1) ∧ wn.cell? ⟨w.heap.size, 1, none⟩ = some (.string (txt x2)) ∧ Below w.heap.size w wn) := hold4_call7 hbn1 ⟨by assumption, by assumption, by assumption, by assumption, by assumption⟩; have hzn1 := hn1.2.2.2.2.size)
        | (go_at_call 76; (try go_split_ands); refine (concVP_any P _ 3 [_, _, _] [vs.take p, [(x1, x2)], vs.drop j] _ (by (repeat (first | exact ArgsAt.fresh _ _ _ _ (by first | rfl | (simp; done)) | refine ArgsAt.drew ?_ | refine ArgsAt.alloc ?_ _ | refine ArgsAt.later ?_ hbn1))) rfl rfl (args3 (HK.out.2.2.1.later (by assumption)) (Sl.ofP (by (repeat (first | exact ArgsAt.fresh _ _ _ _ (by first | rfl | (simp; done)) | refine ArgsAt.drew ?_ | refine ArgsAt.alloc ?_ _ | refine ArgsAt.later ?_ hbn1))) (hP _ (by first | exact Nat.le_refl _ | omega | (simp; omega)))) (HK.out.2.2.2.later (by assumption))) (by omega) (by have := HQ.out.2.1; simp; omega)).mono ?_; rintro e wn2 ⟨⟨v2, rfl, hv2⟩, hbn2⟩; replace hv2 := hv2.weak (fun q hq _ => hP q (Nat.le_trans (Below.size (by assumption : Below w.heap.size w _)) hq)) (fun _ => by simp [eP]); obtain ⟨a6, n6, c6, rfl⟩ := hv2.shape; have hn2 : (wn2.cell? ⟨b, 0, none⟩ = some (.slice ak N ck) ∧ wn2.cell? ⟨b, 1, none⟩ = some (.slice av N cv) ∧ wn2.cell? ⟨w.heap.size, 0, none⟩ = some (.int .i64 x1) ∧ wn2.cell? ⟨w.heap.size, 1, none⟩ = some (.string (txt x2)) ∧ Below w.heap.size w wn2) := hold4_call7 hbn2 ⟨by assumption, by assumption, by assumption, by assumption, by assumption⟩; have hzn2 := hn2.2.2.2.2.size))
    all_goals
      go_wp2_with fail
      go_ret
      refine ⟨⟨_, rfl, NodeAt.mk_leaf (vk := .slice a5 n5 c5) (vv := .slice a6 n6 c6) (lk := [ks.take p, [k], ks.drop j].flatten) (lv := [vs.take p, [(x1, x2)], vs.drop j].flatten) (hP _ (by first | omega | (simp; omega))) (by go_cell) (by go_cell) (by go_cell) ?_ ?_ ?_ ?_⟩, ?_⟩
      · (repeat (first | exact hv1 | refine Sl.drew ?_ | refine Sl.alloc ?_ _ | refine Sl.later ?_ hbn2))
      · (repeat (first | exact hv2 | refine Sl.drew ?_ | refine Sl.alloc ?_ _))
      · rw [HI.out, ← HQ.out.2.2.1]; simp
      · rw [HI.out, ← HQ.out.2.2.2]; simp
      · first | exact hn2.2.2.2.2.alloc hzn2 _ | exact Below.drew (hn2.2.2.2.2.alloc hzn2 _)
end Go.Proofs.Ytneebnankghhgab

/- The project's tree over belvedere/belvederelaw07.Pair: a node with other kids in the place of some. Conditions: the node's memory is known, and the kids'; what is new may lie where it lies. -/
namespace Go.Proofs.Ytneebnankghhgab
open Go.RowKit

set_option maxRecDepth 100000 in
set_option maxHeartbeats 8000000 in
theorem withP_any (P : Nat → Prop) (n b : Nat) (t : Tr (Int × Key) (n + 1)) (i j : Nat) (jv : Int) (vb : Value) (bt : List Key) (vd : Value) (ds : List Nat) (kids : List (Tr (Int × Key) n)) (w : World) (h : NAP P w (n + 1) b t)
    (hi : i ≤ t.1.length) (hi2 : i ≤ t.2.length) (hj1 : 1 ≤ j) (hj : j ≤ t.1.length + 1) (hj2 : j ≤ t.2.length) (hjv : jv = (j : Int)) (hb : Sl 1 sk P w vb bt) (hd : Sl 1 pk P w vd ds) (hK : Kids (fun b' c => NAP P w n b' c) ds kids)
    (hn1 : t.1.length ≤ 300) (hn2 : t.2.length ≤ 300) (hn3 : bt.length ≤ 10) (hn4 : ds.length ≤ 10) (hP : ∀ q, w.heap.size ≤ q → P q) :
    Calls Try.prog 53 #[.pointer (some ⟨b, 0, none⟩), .int .i64 (i : Int), .int .i64 jv, vb, vd] w (ResP P w (n + 1) (withT t i j bt kids)) := by
  subst hjv
  obtain ⟨ak, ck, ac, cc, bs, q0, q1, hk, hc, hl, hkd⟩ := h.open_node
  obtain ⟨ab, nb, cb, rfl⟩ := hb.shape
  obtain ⟨ad, nd, cd, rfl⟩ := hd.shape
  obtain ⟨m, hm⟩ : ∃ m, j = m + 1 := ⟨j - 1, by omega⟩
  have hW : withT t i j bt kids = ((t.1.take i ++ bt ++ t.1.drop m, t.2.take i ++ kids ++ t.2.drop j) : Tr (Int × Key) (n + 1)) := by subst hm; rfl
  obtain ⟨ks, hks⟩ : ∃ ks, t.1 = ks := ⟨_, rfl⟩
  obtain ⟨cs, hcs⟩ : ∃ cs, t.2 = cs := ⟨_, rfl⟩
  rw [hks] at hi hj hn1 q0 hk hW
  rw [hcs] at hi2 hj2 hn2 q1 hc hl hkd hW
  obtain ⟨N, hN⟩ : ∃ N, ks.length = N := ⟨_, rfl⟩
  obtain ⟨M, hM⟩ : ∃ M, cs.length = M := ⟨_, rfl⟩
  rw [hN] at hi hj hn1 q0 hk
  rw [hM] at hi2 hj2 hn2 q1 hc hl
  obtain ⟨a1, c1, s1, k1⟩ := Sl.low Try.underlying46 (fun W => by simp [go_sem]) hk i (by omega)
  obtain ⟨a2, c2, s2, k2⟩ := Sl.high Try.underlying46 (fun W => by simp [go_sem]) hk m (by omega)
  obtain ⟨a3, c3, s3, k3⟩ := Sl.low Try.underlying61 (fun W => by simp [go_sem]) hc i (by omega)
  obtain ⟨a4, c4, s4, k4⟩ := Sl.high Try.underlying61 (fun W => by simp [go_sem]) hc j (by omega)
  rw [hN] at s2 k2
  rw [hl] at s4 k4
  obtain ⟨n2, hn2'⟩ : ∃ n2, N - m = n2 := ⟨_, rfl⟩
  obtain ⟨n4', hn4'⟩ : ∃ n4', M - j = n4' := ⟨_, rfl⟩
  rw [hn2'] at s2 k2
  rw [hn4'] at s4 k4
  have hS : w.cell? ⟨b, 0, none⟩ = some (.slice ak N ck) ∧ w.cell? ⟨b, 2, none⟩ = some (.slice ac M cc) ∧ Below w.heap.size w w := ⟨q0, q1, Below.refl _ _⟩
  have HSS := hid0 hS
  have HKK := hid0 (And.intro k1 (And.intro k2 (And.intro k3 (And.intro k4 (And.intro hb hd)))))
  have HQ := hid0 (And.intro hN (And.intro hl (And.intro hkd (And.intro hK hW))))
  have HM := hid0 hm
  have hjm : (j : Int) - 1 = (m : Int) := by omega
  have hw : IntKind.i64.wrap (m : Int) = (m : Int) := IntWalk.i64_in _ (by omega)
  have HWJ := hid0 (And.intro hjm hw)
  clear hm hjm hw k1 k2 k3 k4 hb hd hN hM hl hkd hK hW hks hcs hn2' hn4' hk hc hS h
  go_enter Try.func53, Try.ntmps53
  go_wp2_with fail
  have hjm := HWJ.out.1
  have hw := HWJ.out.2
  go_region_held3 (fun w' => w'.cell? ⟨b, 0, none⟩ = some (.slice ak N ck) ∧ w'.cell? ⟨b, 2, none⟩ = some (.slice ac M cc) ∧ Below w.heap.size w w')
    (first
      | with_reducible assumption
      | (repeat (first | with_reducible exact HSS.out | with_reducible assumption | with_reducible refine hold2_drew ?_ | with_reducible refine hold2_alloc ?_)))
    (first
      | (go_at_call 75; (try go_split_ands); refine (concS_any P _ 3 [_, _, _] [ks.take i, bt, ks.drop m] _ (by (repeat (first | exact ArgsAt.fresh _ _ _ _ (by first | rfl | (simp; done)) | refine ArgsAt.drew ?_ | refine ArgsAt.alloc ?_ _ | refine ArgsAt.later ?_ hbn1))) rfl rfl (args3 (HKK.out.1.later (by assumption)) (HKK.out.2.2.2.2.1.later (by assumption)) (HKK.out.2.1.later (by assumption))) (by omega) (by clear hjm hw; have := HQ.out.1; simp; omega)).mono ?_; rintro e wn ⟨⟨v1, rfl, hv1⟩, hbn1⟩; replace hv1 := hv1.weak (fun q hq _ => hP q (Nat.le_trans (Below.size (by assumption : Below w.heap.size w _)) hq)) (fun _ => by simp [sk]); obtain ⟨a5, n5, c5, rfl⟩ := hv1.shape; have hn1 : (wn.cell? ⟨b, 0, none⟩ = some (.slice ak N ck) ∧ wn.cell? ⟨b, 2, none⟩ = some (.slice ac M cc) ∧ Below w.heap.size w wn) := hold2_call hbn1 ⟨by assumption, by assumption, by assumption⟩; have hzn1 := hn1.2.2.size)
      | (go_at_call 77; (try go_split_ands); refine (concNP_any P _ 3 [_, _, _] [bs.take i, ds, bs.drop j] _ (by (repeat (first | exact ArgsAt.fresh _ _ _ _ (by first | rfl | (simp; done)) | refine ArgsAt.drew ?_ | refine ArgsAt.alloc ?_ _ | refine ArgsAt.later ?_ hbn1))) rfl rfl (args3 (HKK.out.2.2.1.later (by assumption)) (HKK.out.2.2.2.2.2.later (by assumption)) (HKK.out.2.2.2.1.later (by assumption))) (by omega) (by clear hjm hw; have := HQ.out.2.1; simp; omega)).mono ?_; rintro e wn2 ⟨⟨v2, rfl, hv2⟩, hbn2⟩; replace hv2 := hv2.weak (fun q hq _ => hP q (Nat.le_trans (Below.size (by assumption : Below w.heap.size w _)) hq)) (fun _ => by simp [pk]); obtain ⟨a6, n6, c6, rfl⟩ := hv2.shape; have hn2 : (wn2.cell? ⟨b, 0, none⟩ = some (.slice ak N ck) ∧ wn2.cell? ⟨b, 2, none⟩ = some (.slice ac M cc) ∧ Below w.heap.size w wn2) := hold2_call hbn2 ⟨by assumption, by assumption, by assumption⟩; have hzn2 := hn2.2.2.size))
  all_goals
    clear hjm hw
    go_wp2_with fail
    go_ret
    rw [HQ.out.2.2.2.2]
    refine ⟨⟨_, rfl, NodeAt.mk_node (vk := .slice a5 n5 c5) (vc := .slice a6 n6 c6) (lk := [ks.take i, bt, ks.drop m].flatten) (lc := [bs.take i, ds, bs.drop j].flatten) (hP _ (by first | omega | (simp; omega))) (by go_cell) (by go_cell) ?_ ?_ ?_ ?_⟩, ?_⟩
    · (repeat (first | exact hv1 | refine Sl.drew ?_ | refine Sl.alloc ?_ _ | refine Sl.later ?_ hbn2))
    · (repeat (first | exact hv2 | refine Sl.drew ?_ | refine Sl.alloc ?_ _))
    · simp
    · refine Kids.mono (R := fun b' c => NAP P w n b' c) (fun b' c g => NodeAt.later ?_ g) ?_
      · first | exact Below.drew (hn2.2.2.alloc hzn2 _) | exact hn2.2.2.alloc hzn2 _
      · simp only [List.flatten_cons, List.flatten_nil, List.append_nil]
        rw [← List.append_assoc]
        exact ((HQ.out.2.2.1.take i).append HQ.out.2.2.2.1).append (HQ.out.2.2.1.drop j)
    · first | exact Below.drew (hn2.2.2.alloc hzn2 _) | exact hn2.2.2.alloc hzn2 _
end Go.Proofs.Ytneebnankghhgab

/- The project's tree over belvedere/belvederelaw07.Pair: a node as two. Conditions: the node's memory is known; what is new may lie where it lies. -/
namespace Go.Proofs.Ytneebnankghhgab
open Go.RowKit

/-- Two new nodes are told, and the key between. -/
def Res3P (P : Nat → Prop) (w : World) (n : Nat) (T : Tr (Int × Key) n × Key × Tr (Int × Key) n) (e : Ending) (w' : World) : Prop :=
  (∃ b1 b2, e = .returned (.tuple #[.pointer (some ⟨b1, 0, none⟩), .string (txt T.2.1), .pointer (some ⟨b2, 0, none⟩)]) ∧ NAP P w' n b1 T.1 ∧ NAP P w' n b2 T.2.2) ∧ Below w.heap.size w w'

theorem sl_sameP {β : Type} {k : Nat} {ec : β → List Value} {P : Nat → Prop} {w : World} {v : Value} {l l' : List β} (h : Sl k ec P w v l) (e : l = l') : Sl k ec P w v l' := e ▸ h
set_option maxRecDepth 100000 in
set_option maxHeartbeats 8000000 in
theorem partedP_leaf (P : Nat → Prop) (b : Nat) (l : List (Key × (Int × Key))) (s : Nat) (sv : Int) (w : World) (h : NAP P w 0 b l) (hsv : sv = (s : Int)) (hs : s < l.length) (hP : ∀ q, w.heap.size ≤ q → P q) :
    Calls Try.prog 31 #[.pointer (some ⟨b, 0, none⟩), .int .i64 sv] w (Res3P P w 0 (part 0 s (show Tr (Int × Key) 0 from l))) := by
  subst hsv
  obtain ⟨ak, ck, av, cv, q0, q1, q2, hk, hv⟩ := h.open_leaf
  have hlk : (l.map (·.1)).length = l.length := by simp
  have hlv : (l.map (·.2)).length = l.length := by simp
  have hkey : (part 0 s (show Tr (Int × Key) 0 from l)).2.1 = (l[s]).1 := by
    show ((l[s]?).map (·.1)).getD [] = _
    rw [List.getElem?_eq_getElem hs]; rfl
  have hkl : (l.map (·.1))[s]? = some (l[s]).1 := by rw [List.getElem?_map, List.getElem?_eq_getElem hs]; rfl
  obtain ⟨bk, ok, rfl, _, r0⟩ := hk.one hkl
  have L1 : Calls Try.prog 42 #[.pointer (some ⟨b, 0, none⟩)] w fun e w' => e = .returned (.bool true) ∧ w = w' := leafP_yes b w q2
  obtain ⟨a1, c1, s1, k1⟩ := Sl.low Try.underlying46 (fun W => by simp [go_sem]) hk s (by omega)
  obtain ⟨a2, c2, s2, k2⟩ := Sl.high Try.underlying46 (fun W => by simp [go_sem]) hk s (by omega)
  obtain ⟨a3, c3, s3, k3⟩ := Sl.low Try.underlying60 (fun W => by simp [go_sem]) hv s (by omega)
  obtain ⟨a4, c4, s4, k4⟩ := Sl.high Try.underlying60 (fun W => by simp [go_sem]) hv s (by omega)
  rw [hlk] at s2 k2
  rw [hlv] at s4 k4
  obtain ⟨N, hN⟩ : ∃ N, l.length = N := ⟨_, rfl⟩
  obtain ⟨x, hx⟩ : ∃ x, (l[s]).1 = x := ⟨_, rfl⟩
  rw [hx] at r0 hkey
  rw [hN] at q0 q1 s1 s2 s3 s4 k2 k4
  have hsN : (s : Int) < (N : Int) := by omega
  obtain ⟨n2, hn2⟩ : ∃ n2, N - s = n2 := ⟨_, rfl⟩
  rw [hn2] at s2 s4 k2 k4
  have HQ := hid0 (And.intro hkey (And.intro k1 (And.intro k2 (And.intro k3 k4))))
  have hS : w.cell? ⟨b, 0, none⟩ = some (.slice (some ⟨bk, ok, none⟩) N ck) ∧ w.cell? ⟨b, 1, none⟩ = some (.slice av N cv) ∧ Below w.heap.size w w := ⟨q0, q1, Below.refl _ _⟩
  have HSS := hid0 hS
  clear hS hkey k1 k2 k3 k4 hk hv hlk hlv hkl hx hN hn2 q2 h hs
  go_enter Try.func31, Try.ntmps31
  go_wp2_with (go_at_call 42; refine L1.mono ?_; rintro e w' ⟨rfl, rfl⟩)
  go_region_held3 (fun w' => w'.cell? ⟨b, 0, none⟩ = some (.slice (some ⟨bk, ok, none⟩) N ck) ∧ w'.cell? ⟨b, 1, none⟩ = some (.slice av N cv) ∧ Below w.heap.size w w')
    (first
      | with_reducible assumption
      | (repeat (first | with_reducible exact HSS.out | with_reducible assumption | with_reducible refine hold2_drew ?_ | with_reducible refine hold2_alloc ?_)))
    (fail)
  go_wp2_with fail
  have HS2 := (by assumption : _ ∧ _ ∧ Below w.heap.size w _)
  go_region_held3 (fun w' => w'.cell? ⟨b, 0, none⟩ = some (.slice (some ⟨bk, ok, none⟩) N ck) ∧ w'.cell? ⟨b, 1, none⟩ = some (.slice av N cv) ∧ Below w.heap.size w w')
    (first
      | with_reducible assumption
      | (repeat (first | with_reducible exact HSS.out | with_reducible assumption | with_reducible refine hold2_drew ?_ | with_reducible refine hold2_alloc ?_)))
    (fail)
  go_wp2_with fail
  have HS3 := (by assumption : _ ∧ _ ∧ Below w.heap.size w _)
  refine bodyPost_ret (v := .tuple #[.pointer (some ⟨w.heap.size, 0, none⟩), .string (txt x), .pointer (some ⟨w.heap.size + 1, 0, none⟩)]) (by simp [results, Try.results31, go_sem]) rfl ⟨⟨w.heap.size, w.heap.size + 1, by rw [HQ.out.1], ?_, ?_⟩, HS3.2.2⟩
  · refine NodeAt.mk_leaf (hP _ (Nat.le_refl _)) (by go_cell) (by go_cell) (by go_cell) (HQ.out.2.1.later HS3.2.2) (HQ.out.2.2.2.1.later HS3.2.2) (List.map_take ..).symm (List.map_take ..).symm
  · refine NodeAt.mk_leaf (hP _ (by omega)) (by go_cell) (by go_cell) (by go_cell) (HQ.out.2.2.1.later HS3.2.2) (HQ.out.2.2.2.2.later HS3.2.2) (List.map_drop ..).symm (List.map_drop ..).symm

set_option maxRecDepth 100000 in
set_option maxHeartbeats 8000000 in
theorem partedP_node (P : Nat → Prop) (n b : Nat) (t : Tr (Int × Key) (n + 1)) (s : Nat) (sv : Int) (w : World) (h : NAP P w (n + 1) b t) (hsv : sv = (s : Int)) (hs : s < t.1.length) (hl : t.2.length = t.1.length + 1) (hn : t.1.length ≤ 400) (hP : ∀ q, w.heap.size ≤ q → P q) :
    Calls Try.prog 31 #[.pointer (some ⟨b, 0, none⟩), .int .i64 sv] w (Res3P P w (n + 1) (part (n + 1) s t)) := by
  subst hsv
  obtain ⟨ak, ck, ac, cc, bs, q0, q1, hk, hc, hlb, hkd⟩ := h.open_node
  have hkey : (part (n + 1) s t).2.1 = t.1[s] := by show t.1.getD s [] = _; simp [List.getD, hs]
  obtain ⟨bk, ok, rfl, _, r0⟩ := hk.one (List.getElem?_eq_getElem hs)
  have L1 : Calls Try.prog 42 #[.pointer (some ⟨b, 0, none⟩)] w fun e w' => e = .returned (.bool false) ∧ w = w' := leafP_no b ac t.2.length cc w q1 (by omega)
  have hp1 : (part (n + 1) s t).1 = ((t.1.take s, t.2.take (s + 1)) : Tr (Int × Key) (n + 1)) := rfl
  have hp2 : (part (n + 1) s t).2.2 = ((t.1.drop (s + 1), t.2.drop (s + 1)) : Tr (Int × Key) (n + 1)) := rfl
  obtain ⟨x, hx⟩ : ∃ x, t.1[s] = x := ⟨_, rfl⟩
  obtain ⟨ks, hks⟩ : ∃ ks, t.1 = ks := ⟨_, rfl⟩
  obtain ⟨cs, hcs⟩ : ∃ cs, t.2 = cs := ⟨_, rfl⟩
  rw [hx] at r0 hkey
  rw [hks] at q0 hk hs hl hn hp1 hp2
  rw [hcs] at q1 hc hlb hkd hl hp1 hp2
  obtain ⟨a1, c1, s1, k1⟩ := Sl.low Try.underlying46 (fun W => by simp [go_sem]) hk s (by omega)
  obtain ⟨a2, c2, s2, k2⟩ := Sl.high Try.underlying46 (fun W => by simp [go_sem]) hk (s + 1) (by omega)
  obtain ⟨a3, c3, s3, k3⟩ := Sl.low Try.underlying61 (fun W => by simp [go_sem]) hc (s + 1) (by omega)
  obtain ⟨a4, c4, s4, k4⟩ := Sl.high Try.underlying61 (fun W => by simp [go_sem]) hc (s + 1) (by omega)
  obtain ⟨N, hN⟩ : ∃ N, ks.length = N := ⟨_, rfl⟩
  obtain ⟨M, hM⟩ : ∃ M, cs.length = M := ⟨_, rfl⟩
  rw [hN] at q0 s1 s2 k2 hn hs hl
  rw [hlb] at s4 k4
  rw [hM] at q1 s3 s4 k4 hl
  have hsN : (s : Int) < (N : Int) := by omega
  rw [show ((s + 1 : Nat) : Int) = (s : Int) + 1 by omega] at s2 s3 s4
  obtain ⟨n2, hn2⟩ : ∃ n2, N - (s + 1) = n2 := ⟨_, rfl⟩
  obtain ⟨n4, hn4⟩ : ∃ n4, M - (s + 1) = n4 := ⟨_, rfl⟩
  rw [hn2] at s2 k2
  rw [hn4] at s4 k4
  have HQ := hid0 (And.intro hkey (And.intro k1 (And.intro k2 (And.intro k3 (And.intro k4 (And.intro hkd (And.intro hp1 hp2)))))))
  have hS : w.cell? ⟨b, 0, none⟩ = some (.slice (some ⟨bk, ok, none⟩) N ck) ∧ w.cell? ⟨b, 2, none⟩ = some (.slice ac M cc) ∧ Below w.heap.size w w := ⟨q0, q1, Below.refl _ _⟩
  have HSS := hid0 hS
  have hs0 : (0 : Int) ≤ (s : Int) + 1 := by omega
  have hw : IntKind.i64.wrap ((s : Int) + 1) = (s : Int) + 1 := IntWalk.i64_in _ (by omega)
  have HW := hid0 hw
  clear hw hS hkey k1 k2 k3 k4 hk hc hlb hkd hl hx hN hM hks hcs hn2 hn4 hp1 hp2 h hs
  go_enter Try.func31, Try.ntmps31
  go_wp2_with (go_at_call 42; refine L1.mono ?_; rintro e w' ⟨rfl, rfl⟩)
  have hw := HW.out
  go_region_held3 (fun w' => w'.cell? ⟨b, 0, none⟩ = some (.slice (some ⟨bk, ok, none⟩) N ck) ∧ w'.cell? ⟨b, 2, none⟩ = some (.slice ac M cc) ∧ Below w.heap.size w w')
    (first
      | with_reducible assumption
      | (repeat (first | with_reducible exact HSS.out | with_reducible assumption | with_reducible refine hold2_drew ?_ | with_reducible refine hold2_alloc ?_)))
    (fail)
  clear hw
  go_wp2_with fail
  have HS2 := (by assumption : _ ∧ _ ∧ Below w.heap.size w _)
  have hw := HW.out
  go_region_held3 (fun w' => w'.cell? ⟨b, 0, none⟩ = some (.slice (some ⟨bk, ok, none⟩) N ck) ∧ w'.cell? ⟨b, 2, none⟩ = some (.slice ac M cc) ∧ Below w.heap.size w w')
    (first
      | with_reducible assumption
      | (repeat (first | with_reducible exact HSS.out | with_reducible assumption | with_reducible refine hold2_drew ?_ | with_reducible refine hold2_alloc ?_)))
    (fail)
  clear hw
  go_wp2_with fail
  have HS3 := (by assumption : _ ∧ _ ∧ Below w.heap.size w _)
  refine bodyPost_ret (v := .tuple #[.pointer (some ⟨w.heap.size, 0, none⟩), .string (txt x), .pointer (some ⟨w.heap.size + 1, 0, none⟩)]) (by simp [results, Try.results31, go_sem]) rfl ⟨⟨w.heap.size, w.heap.size + 1, by rw [HQ.out.1], ?_, ?_⟩, HS3.2.2⟩
  · rw [HQ.out.2.2.2.2.2.2.1]
    refine NodeAt.mk_node (hP _ (Nat.le_refl _)) (by go_cell) (by go_cell) (HQ.out.2.1.later HS3.2.2) (HQ.out.2.2.2.1.later HS3.2.2) rfl ?_
    exact Kids.mono (fun b' c g => NodeAt.later HS3.2.2 g) (HQ.out.2.2.2.2.2.1.take (s + 1))
  · rw [HQ.out.2.2.2.2.2.2.2]
    refine NodeAt.mk_node (hP _ (by omega)) (by go_cell) (by go_cell) (HQ.out.2.2.1.later HS3.2.2) (HQ.out.2.2.2.2.1.later HS3.2.2) rfl ?_
    exact Kids.mono (fun b' c g => NodeAt.later HS3.2.2 g) (HQ.out.2.2.2.2.2.1.drop (s + 1))
end Go.Proofs.Ytneebnankghhgab
