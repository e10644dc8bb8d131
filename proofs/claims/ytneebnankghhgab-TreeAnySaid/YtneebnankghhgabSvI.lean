/- Several of my texts laid together, each as it was: SvI. Conditions: each names its own. -/
import Derived.Test.YtneebnankghhgabSsI
/- The project's tree over int: a key is cut: a contract of the call, in whatever memory. Conditions: the tree's memory is known; it has 1000 keys at most; what is new may lie where its nodes lie. -/
namespace Go.Proofs.Ytneebnankghhgab
open Go.RowKit

theorem delI_same {k : Key} : ∀ {l : List (Key × (Int))}, getA k l = none → delA k l = l
  | [], _ => rfl
  | y :: l, h => by
    rw [getA] at h
    split at h
    · cases h
    · rename_i he
      rw [delA, if_neg he, delI_same h]
/-- A root that lost a key: it stays, or its only kid is the root. -/
theorem loneI {P : Nat → Prop} {w : World} {order n b : Nat} {T : Tr (Int) n} {D : List (Key × (Int))} (ho : 3 ≤ order) (hw : Wf (order / 2) order n (min n 1 - 1) order none none T) (hf : flat n T = D) (hN : NAI P w n b T) :
    ∃ a K c, w.cell? ⟨b, 2, none⟩ = some (.slice a K c) ∧ K ≤ 100 + order ∧ (K ≠ 1 → Wf (order / 2) order n (min n 1) order none none T) ∧
      (K = 1 → ∃ n' t' kb ko b', a = some ⟨kb, ko, none⟩ ∧ w.cell? ⟨kb, ko, none⟩ = some (.pointer (some ⟨b', 0, none⟩)) ∧ Wf (order / 2) order n' (min n' 1) order none none t' ∧ NAI P w n' b' t' ∧ flat n' t' = D) := by
  cases n with
  | zero =>
    obtain ⟨l, rfl⟩ : ∃ l : List (Key × (Int)), l = T := ⟨T, rfl⟩
    obtain ⟨_, _, _, _, _, _, q2, _, _⟩ := hN.open_leaf
    exact ⟨none, 0, 0, q2, by omega, fun _ => hw, fun h => by omega⟩
  | succ n =>
    obtain ⟨ak, ck, ac, cc, bs, q0, q1, hk, hc, hlb, hkd⟩ := hN.open_node
    have hlen := ch_len hw.2.2.2
    have hz : T.1.length ≤ order := hw.2.2.1
    refine ⟨ac, T.2.length, cc, q1, by omega, fun h1 => ⟨hw.1, by simp; omega, hw.2.2.1, hw.2.2.2⟩, fun h1 => ?_⟩
    obtain ⟨c, hce⟩ : ∃ c, T.2[0]? = some c := ⟨T.2[0]'(by omega), List.getElem?_eq_getElem _⟩
    obtain ⟨b', hb', hNb⟩ := hkd.get hce
    obtain ⟨kb, ko, rfl, _, qi⟩ := hc.one hb'
    rw [Nat.add_zero] at qi
    have hT2 : T.2 = [c] := by
      cases h : T.2 with
      | nil => rw [h] at h1; simp at h1
      | cons x r =>
        rw [h] at h1 hce
        obtain rfl : r = [] := List.length_eq_zero_iff.1 (by simpa using h1)
        simpa using hce
    have hT1 : T.1 = [] := List.length_eq_zero_iff.1 (by omega)
    have hch := hw.2.2.2
    rw [hT1, hT2] at hch
    have hcw : Wf (order / 2) order n (order / 2) order none none c := hch
    have hz2 := wf_size hcw
    have hmn : min n 1 ≤ 1 := Nat.min_le_right _ _
    refine ⟨n, c, kb, ko, b', rfl, qi, wf_mono hcw (by omega) hz2.2, hNb, ?_⟩
    rw [← hf]
    show _ = T.2.flatMap (flat n)
    rw [hT2]; simp
set_option maxRecDepth 100000 in
set_option maxHeartbeats 4000000 in
theorem cutIT_any (P : Nat → Prop) (B order : Nat) (L : List (Key × (Int))) (k : Key) (w : World) (h : TAI P w B order L) (hlen : L.length ≤ 1000) (hP : ∀ q, w.heap.size ≤ q → P q) :
    Calls Try.prog 23 #[.pointer (some ⟨B, 0, none⟩), .string (txt k)] w fun e w' => e = .returned (.tuple #[ovI (getA k L), .bool (hasO (getA k L))]) ∧ TAI P w' B order (delA k L) ∧ Turn B w w' := by
  have HG := hid0 (getI_any P B order L k w h)
  have hlo := h.lo
  have hhi := h.hi
  have hout := h.out
  have HT := hid0 h
  obtain ⟨g, hg⟩ : ∃ g, getA k L = g := ⟨_, rfl⟩
  rw [hg] at HG ⊢
  cases g with
  | none =>
    have HD := hid0 (delI_same hg)
    unfold hasO at HG ⊢
    clear h hg
    go_enter Try.func23, Try.ntmps23
    go_wp2_with fail
    refine HG.out.mono ?_
    rintro e w1 ⟨rfl, hb1⟩
    have hfin := hid0 (And.intro (HT.out.later hb1) (Turn.of hb1 (B := B)))
    clear hb1
    go_wp2_with fail
    go_ret2
    exact ⟨rfl, by rw [HD.out]; exact hfin.out.1, hfin.out.2⟩
  | some y =>
  have hds := delA_size (k := k) (l := L) (by rw [hg]; simp)
  have HDS := hid0 hds
  have hL1 : 1 ≤ L.length := by omega
  have HGL := hid0 hg
  unfold hasO at HG ⊢
  clear h hds hg
  go_enter Try.func23, Try.ntmps23
  go_wp2_with fail
  refine HG.out.mono ?_
  rintro e w1 ⟨rfl, hb1⟩
  have hT1 := HT.out.later hb1
  obtain ⟨n, b, t, r2, hw, hN, hfl⟩ := hT1.root
  have hsz1 := hb1.size
  have HB1 := hid0 hb1
  have r0 := hT1.c0
  have r1 := hT1.c1
  have rf := hT1.f 2
  have HF := hid0 hT1.f
  clear hT1 hb1
  have CP := fun W (hb : Below w1.heap.size w1 W) => (cutI_any P (order / 2) order k (by omega) (by omega) hhi n (min n 1) b none none t W hw (fun hn => by omega) (fun _ hx => by simp at hx) (fun _ hx => by simp at hx) (by rw [hfl, HGL.out]; simp) (hN.later hb) (fun q hq => hP q (Nat.le_trans hsz1 (Nat.le_trans hb.size hq)))).mono (fun e w' h => ResI.of hb h)
  have hcw := cut_wf (least := order / 2) (most := order) (by omega) (by omega) (k := k) hw (fun hn => by omega) (fun _ hx => by simp at hx) (fun _ hx => by simp at hx)
  rw [hfl] at hcw
  obtain ⟨T, hT⟩ : ∃ T, cutT (order / 2) n t k = T := ⟨_, rfl⟩
  rw [hT] at hcw CP
  have HW := hid0 hcw
  have hBl : B < w1.heap.size := World.block_lt_of_cell? _ _ r2
  obtain ⟨H, hH⟩ : ∃ H, order / 2 = H := ⟨_, rfl⟩
  have HH := hid0 hH
  rw [hH] at CP
  have CP' := hid0 CP
  have HD : Hid ((order : Int).tdiv 2 = (H : Int) ∧ IntKind.i64.wrap (H : Int) = (H : Int) ∧ wrap64 (H : Int) = (H : Int)) := hid0 ⟨by rw [← hH]; rfl, IntWalk.i64_in _ (by omega), by unfold wrap64; omega⟩
  clear CP hw hN hfl hT hcw hH
  go_wp2_with fail
  go_cut [] from 8 (fun wr => ∃ b1, wr.cell? ⟨B, 2, none⟩ = some (.pointer (some ⟨b1, 0, none⟩)) ∧ wr.cell? ⟨B, 0, none⟩ = some (.int .i64 (order : Int)) ∧ wr.cell? ⟨B, 1, none⟩ = some (.int .i64 (L.length : Int)) ∧ (∀ j, wr.frozen? ⟨B, j, none⟩ = false) ∧ NAI P wr n b1 T ∧ Turn B w wr)
  case first =>
    have hd1 := HD.out.1
    have hd2 := HD.out.2.1
    have hd3 := HD.out.2.2
    go_region_with (go_at_call 51; (try go_split_ands); refine (CP'.out _ (Below.drew (Below.refl _ _))).mono ?_; rintro e w2 ⟨⟨b1, rfl, hNA⟩, hb2⟩; have x0 := cell_later hb2 r0; have x1 := cell_later hb2 r1; have x2 := cell_later hb2 r2; have xf := (hb2.frozen (p := ⟨B, 2, none⟩) hBl).trans rf; have HNA := hid0 (And.intro hNA hb2); clear hNA hb2)
    all_goals
      clear hd1 hd2 hd3
      go_wp2_with fail
      go_meet
      case rel =>
        refine ⟨b1, World.cell?_setCell_same _ _ _ x2, by rw [World.cell?_setCell_other _ _ _ _ (by simp)]; exact x0, by rw [World.cell?_setCell_other _ _ _ _ (by simp)]; exact x1, fun j => ?_, HNA.out.1.store hout 2 _, ?_⟩
        · rw [World.frozen?_setCell]
          exact (HNA.out.2.frozen (p := ⟨B, j, none⟩) hBl).trans (HF.out j)
        · exact ((Turn.of HB1.out).trans (Turn.of HNA.out.2)).trans (Turn.store _ _ _ _)
  case rest =>
    obtain ⟨b1, x2, x0, x1, xF, hNA, hTu⟩ := hcut
    generalize wc = W2 at x2 x0 x1 xF hNA hTu ⊢
    have HR := hid0 (And.intro x2 (And.intro x0 (And.intro x1 (And.intro xF (And.intro hNA hTu)))))
    obtain ⟨a9, K9, c9, z2, hK100, hKn, hK1⟩ := loneI hlo HW.out.1 HW.out.2 hNA
    have HKn := hid0 hKn
    have HK1 := hid0 hK1
    have zf := xF 2
    clear r0 r1 r2 rf HF CP' x0 x1 xF hTu hKn hK1
    go_upto_if 40 with (fail)
    go_cut [] from 8 (fun wr => RootI P w wr B order (L.length : Int) (delA k L))
    case first =>
      by_cases hk1 : K9 = 1
      · obtain ⟨n', t', kb, ko, b', rfl, qi, hw', hN', hf'⟩ := HK1.out hk1
        have HX := hid0 (And.intro hw' (And.intro hN' hf'))
        subst hk1
        clear hw' hN' hf'
        go_wp2_with fail
        go_meet
        case rel =>
          obtain ⟨x2, x0, x1, xF, hNA, hTu⟩ := HR.out
          exact ⟨by rw [World.cell?_setCell_other _ _ _ _ (by simp)]; exact x0, by rw [World.cell?_setCell_other _ _ _ _ (by simp)]; exact x1, ⟨n', b', t', World.cell?_setCell_same _ _ _ x2, HX.out.1, HX.out.2.1.store hout 2 _, HX.out.2.2⟩, fun j => by rw [World.frozen?_setCell]; exact xF j, hTu.trans (Turn.store _ _ _ _)⟩
      · have hk0 : ((K9 : Int) == 1) = false := by simp; omega
        have hw' := hid0 (HKn.out hk1)
        clear hk1
        go_wp2_with fail
        go_meet
        case rel =>
          obtain ⟨x2, x0, x1, xF, hNA, hTu⟩ := HR.out
          exact ⟨x0, x1, ⟨n, b1, T, x2, hw'.out, hNA, HW.out.2⟩, xF, hTu⟩
    case rest =>
      have hR := hcut
      generalize wc = W4 at hR ⊢
      have y1 := hR.c1
      have yf := hR.f 1
      have hlm : (L.length : Int) ≤ 1000 := by omega
      have hl1 : (1 : Int) ≤ (L.length : Int) := by omega
      have hfin := hR.tree hlo hhi hout ((L.length : Int) - 1) (by have := HDS.out; omega)
      have hft := hR.turn.trans (Turn.store W4 B 1 (.int .i64 ((L.length : Int) - 1)))
      have HFIN := hid0 (And.intro hfin hft)
      clear hfin hft hR hcut
      go_wp2_with fail
      go_ret2
      exact ⟨rfl, HFIN.out⟩
end Go.Proofs.Ytneebnankghhgab
