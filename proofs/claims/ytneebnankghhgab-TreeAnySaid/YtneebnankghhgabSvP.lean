/- Several of my texts laid together, each as it was: SvP. Conditions: each names its own. -/
import Derived.Test.YtneebnankghhgabSsP
/- The project's tree over belvedere/belvederelaw07.Pair: a key is cut: a contract of the call, in whatever memory. Conditions: the tree's memory is known; it has 1000 keys at most; what is new may lie where its nodes lie. -/
namespace Go.Proofs.Ytneebnankghhgab
open Go.RowKit

theorem delP_same {k : Key} : ∀ {l : List (Key × (Int × Key))}, getA k l = none → delA k l = l
  | [], _ => rfl
  | y :: l, h => by
    rw [getA] at h
    split at h
    · cases h
    · rename_i he
      rw [delA, if_neg he, delP_same h]
/-- A root that lost a key: it stays, or its only kid is the root. -/
theorem loneP {P : Nat → Prop} {w : World} {order n b : Nat} {T : Tr (Int × Key) n} {D : List (Key × (Int × Key))} (ho : 3 ≤ order) (hw : Wf (order / 2) order n (min n 1 - 1) order none none T) (hf : flat n T = D) (hN : NAP P w n b T) :
    ∃ a K c, w.cell? ⟨b, 2, none⟩ = some (.slice a K c) ∧ K ≤ 100 + order ∧ (K ≠ 1 → Wf (order / 2) order n (min n 1) order none none T) ∧
      (K = 1 → ∃ n' t' kb ko b', a = some ⟨kb, ko, none⟩ ∧ w.cell? ⟨kb, ko, none⟩ = some (.pointer (some ⟨b', 0, none⟩)) ∧ Wf (order / 2) order n' (min n' 1) order none none t' ∧ NAP P w n' b' t' ∧ flat n' t' = D) := by
  cases n with
  | zero =>
    obtain ⟨l, rfl⟩ : ∃ l : List (Key × (Int × Key)), l = T := ⟨T, rfl⟩
    obtain ⟨_, _, _, _, _, _, q2, _, _⟩ := hN.open_leaf
    exact ⟨none, 0, 0, q2, by omega, fun _ => hw, fun h => by omega⟩
  | succ n =>
    obtain ⟨ak, ck, ac, cc, bs, q0, q1, hk, hc, hlb, hkd⟩ := hN.open_node
    have hlen := ch_len hw.2.2.2
    have hz : T.1.length ≤ order := hw.2.2.1
    refine ⟨ac, T.2.length, cc, q1, by omega, fun h1 => ⟨hw.1, by simp; omega, hw.2.2.1, hw.2.2.2⟩, fun h1 => ?_⟩
    obtain ⟨c, hce⟩ : ∃ c, T.2[0]? = some c := ⟨T.2[0]'(by omega), List.getElem?_eq_getElem _⟩
    obtain ⟨b', hb', hNb⟩ := hkd.get hce
    obtain ⟨kb, ko, rfl, _, qi⟩ := hc.one hb'
    rw [Nat.add_zero] at qi
    have hT2 : T.2 = [c] := by
      cases h : T.2 with
      | nil => rw [h] at h1; simp at h1
      | cons x r =>
        rw [h] at h1 hce
        obtain rfl : r = [] := List.length_eq_zero_iff.1 (by simpa using h1)
        simpa using hce
    have hT1 : T.1 = [] := List.length_eq_zero_iff.1 (by omega)
    have hch := hw.2.2.2
    rw [hT1, hT2] at hch
    have hcw : Wf (order / 2) order n (order / 2) order none none c := hch
    have hz2 := wf_size hcw
    have hmn : min n 1 ≤ 1 := Nat.min_le_right _ _
    refine ⟨n, c, kb, ko, b', rfl, qi, wf_mono hcw (by omega) hz2.2, hNb, ?_⟩
    rw [← hf]
    show _ = T.2.flatMap (flat n)
    rw [hT2]; simp
set_option maxRecDepth 100000 in
set_option maxHeartbeats 4000000 in
theorem cutPT_any (P : Nat → Prop) (B order : Nat) (L : List (Key × (Int × Key))) (k : Key) (w : World) (h : TAP P w B order L) (hlen : L.length ≤ 1000) (hP : ∀ q, w.heap.size ≤ q → P q) :
    Calls Try.prog 10 #[.pointer (some ⟨B, 0, none⟩), .string (txt k)] w fun e w' => e = .returned (.tuple #[ovP (getA k L), .bool (hasO (getA k L))]) ∧ TAP P w' B order (delA k L) ∧ Turn B w w' := by
  have hlo := h.lo
  have hhi := h.hi
  have hout := h.out
  have hBlt := h.lt
  have VR : VarB (w.alloc (Obj.cells #[.int .i64 0, .string ⟨#[]⟩] 33)) w.heap.size [.int .i64 0, .string ⟨#[]⟩] := VarB.new w [.int .i64 0, .string ⟨#[]⟩] 33
  have hBz : Below w.heap.size w (w.alloc (Obj.cells #[.int .i64 0, .string ⟨#[]⟩] 33)) := by go_grown
  have hz2 : (w.alloc (Obj.cells #[.int .i64 0, .string ⟨#[]⟩] 33)).heap.size = w.heap.size + 1 := by simp
  have hT0 : TAP (fun q => P q ∧ q ≠ w.heap.size) w B order L := h.weakP (fun q hq hl => ⟨hq, by omega⟩) (fun x => by simp [eP]) (fun hq => hout hq.1)
  have hT2 := hT0.later hBz
  have hQP : ∀ q, (fun q => P q ∧ q ≠ w.heap.size) q → P q := fun q hq => hq.1
  have hQR : ¬ (fun q => P q ∧ q ≠ w.heap.size) w.heap.size := fun hq => hq.2 rfl
  have hQ2' : ∀ q, (w.alloc (Obj.cells #[.int .i64 0, .string ⟨#[]⟩] 33)).heap.size ≤ q → (fun q => P q ∧ q ≠ w.heap.size) q := fun q hq => ⟨hP q (by omega), by omega⟩
  clear hT0
  generalize (fun q => P q ∧ q ≠ w.heap.size) = Q at hT2 hQP hQR hQ2'
  have HG := hid0 (getP_any Q B order L k _ hT2)
  have HQP := hid0 hQP
  have HQR := hid0 hQR
  have HT := hid0 hT2
  have HPP := hid0 hout
  clear hout
  have hout := hT2.out
  have HZ2 := hid0 hz2
  have HBZ := hid0 hBz
  have HVR := hid0 VR
  have HQ2 := hid0 hQ2'
  obtain ⟨g, hg⟩ : ∃ g, getA k L = g := ⟨_, rfl⟩
  rw [hg] at HG ⊢
  obtain ⟨gn, gs, hgo⟩ := oc_two g
  rw [ov_oc, hgo] at HG ⊢
  clear hT2 hQP hQR hgo hz2 hBz VR hQ2' hP
  cases g with
  | none =>
    have HD := hid0 (delP_same hg)
    unfold hasO at HG ⊢
    clear h hg
    go_enter Try.func10, Try.ntmps10
    go_wp2_with fail
    refine HG.out.mono ?_
    rintro e w0 ⟨rfl, hb0⟩
    have hb1 : Below (w.alloc (Obj.cells #[.int .i64 0, .string ⟨#[]⟩] 33)).heap.size (w.alloc (Obj.cells #[.int .i64 0, .string ⟨#[]⟩] 33)) (w0.alloc (Obj.cells #[.int .i64 gn, .string gs] 33)) := hb0.alloc hb0.size _
    have VV : VarB (w0.alloc (Obj.cells #[.int .i64 gn, .string gs] 33)) w0.heap.size [.int .i64 gn, .string gs] := VarB.new w0 [.int .i64 gn, .string gs] 33
    have hVs : w.heap.size + 1 ≤ w0.heap.size := by have := hb0.size; have := HZ2.out; omega
    have hT1 := HT.out.later hb1
    have VR1 := HVR.out.below hb1
    have hBw1 := below_through hb1 HBZ.out.size HBZ.out
    have HFIN := hid0 (And.intro hT1 (Turn.of hBw1 (B := B)))
    have v0 := VV.cell 0 rfl
    have v1 := VV.cell 1 rfl
    have s0 := VR1.cell 0 rfl
    have f0 := VR1.frz 0 (by decide)
    have s1 := VR1.cell 1 rfl
    have f1 := VR1.frz 1 (by decide)
    have HR5 := hid0 VR1
    have hRne : w.heap.size ≠ B := by omega
    clear hT1 hb1 VR1 VV hBw1 HBZ HVR HT HQ2 hb0
    go_wp2
    exact end_vt (HR5.out.puts [.int .i64 gn, .string gs] rfl) rfl rfl rfl _ Try.underlying33 rfl infoPr rfl ⟨rfl, by rw [HD.out]; exact (((HFIN.out.1.storeO HQR.out hRne 0 _).storeO HQR.out hRne 1 _).weakP (fun q hq _ => HQP.out q hq) (fun x => by simp [eP]) HPP.out), ((HFIN.out.2.storeN (by omega) 0 _).storeN (by omega) 1 _)⟩
  | some y =>
  have hds := delA_size (k := k) (l := L) (by rw [hg]; simp)
  have HDS := hid0 hds
  have hL1 : 1 ≤ L.length := by omega
  have HGL := hid0 hg
  unfold hasO at HG ⊢
  clear h hds hg
  go_enter Try.func10, Try.ntmps10
  go_wp2_with fail
  refine HG.out.mono ?_
  rintro e w0 ⟨rfl, hb0⟩
  obtain ⟨w1, hw1⟩ : ∃ w1, w0.alloc (Obj.cells #[.int .i64 gn, .string gs] 33) = w1 := ⟨_, rfl⟩
  have hb1 : Below (w.alloc (Obj.cells #[.int .i64 0, .string ⟨#[]⟩] 33)).heap.size (w.alloc (Obj.cells #[.int .i64 0, .string ⟨#[]⟩] 33)) (w0.alloc (Obj.cells #[.int .i64 gn, .string gs] 33)) := hb0.alloc hb0.size _
  have VV : VarB (w0.alloc (Obj.cells #[.int .i64 gn, .string gs] 33)) w0.heap.size [.int .i64 gn, .string gs] := VarB.new w0 [.int .i64 gn, .string gs] 33
  rw [hw1] at hb1 VV
  replace hw1 := hid0 hw1
  have hVs : w.heap.size + 1 ≤ w0.heap.size := by have := hb0.size; have := HZ2.out; omega
  have hT1 := HT.out.later hb1
  have VR1 := HVR.out.below hb1
  have hBw1 := below_through hb1 HBZ.out.size HBZ.out
  have hQ1 : ∀ q, w1.heap.size ≤ q → Q q := fun q hq => HQ2.out q (Nat.le_trans hb1.size hq)
  obtain ⟨n, b, t, r2, hw, hN, hfl⟩ := hT1.root
  have HV1 := hid0 (And.intro VV VR1)
  have HBW1 := hid0 hBw1
  have r0 := hT1.c0
  have r1 := hT1.c1
  have rf := hT1.f 2
  have HF := hid0 hT1.f
  clear hT1 hb1 VR1 VV hBw1 HBZ HVR HT HQ2 hb0
  have CP := fun W (hb : Below w1.heap.size w1 W) => (cutP_any Q (order / 2) order k (by omega) (by omega) hhi n (min n 1) b none none t W hw (fun hn => by omega) (fun _ hx => by simp at hx) (fun _ hx => by simp at hx) (by rw [hfl, HGL.out]; simp) (hN.later hb) (fun q hq => hQ1 q (Nat.le_trans hb.size hq))).mono (fun e w' h => ResP.of hb h)
  have hcw := cut_wf (least := order / 2) (most := order) (by omega) (by omega) (k := k) hw (fun hn => by omega) (fun _ hx => by simp at hx) (fun _ hx => by simp at hx)
  rw [hfl] at hcw
  obtain ⟨T, hT⟩ : ∃ T, cutT (order / 2) n t k = T := ⟨_, rfl⟩
  rw [hT] at hcw CP
  have HW := hid0 hcw
  have hBl : B < w1.heap.size := World.block_lt_of_cell? _ _ r2
  obtain ⟨H, hH⟩ : ∃ H, order / 2 = H := ⟨_, rfl⟩
  have HH := hid0 hH
  rw [hH] at CP
  have CP' := hid0 CP
  have HD : Hid ((order : Int).tdiv 2 = (H : Int) ∧ IntKind.i64.wrap (H : Int) = (H : Int) ∧ wrap64 (H : Int) = (H : Int)) := hid0 ⟨by rw [← hH]; rfl, IntWalk.i64_in _ (by omega), by unfold wrap64; omega⟩
  clear CP hw hN hfl hT hcw hH
  go_wp2_with fail
  rw [hw1.out]
  clear hw1
  go_cut [] from 8 (fun wr => ∃ b1, wr.cell? ⟨B, 2, none⟩ = some (.pointer (some ⟨b1, 0, none⟩)) ∧ wr.cell? ⟨B, 0, none⟩ = some (.int .i64 (order : Int)) ∧ wr.cell? ⟨B, 1, none⟩ = some (.int .i64 (L.length : Int)) ∧ (∀ j, wr.frozen? ⟨B, j, none⟩ = false) ∧ NAP Q wr n b1 T ∧ Turn B w1 wr)
  case first =>
    have hd1 := HD.out.1
    have hd2 := HD.out.2.1
    have hd3 := HD.out.2.2
    go_region_with (go_at_call 35; (try go_split_ands); refine (CP'.out _ (Below.drew (Below.refl _ _))).mono ?_; rintro e w2 ⟨⟨b1, rfl, hNA⟩, hb2⟩; have x0 := cell_later hb2 r0; have x1 := cell_later hb2 r1; have x2 := cell_later hb2 r2; have xf := (hb2.frozen (p := ⟨B, 2, none⟩) hBl).trans rf; have HNA := hid0 (And.intro hNA hb2); clear hNA hb2)
    all_goals
      clear hd1 hd2 hd3
      go_wp2_with fail
      go_meet
      case rel =>
        refine ⟨b1, World.cell?_setCell_same _ _ _ x2, by rw [World.cell?_setCell_other _ _ _ _ (by simp)]; exact x0, by rw [World.cell?_setCell_other _ _ _ _ (by simp)]; exact x1, fun j => ?_, HNA.out.1.store hout 2 _, ?_⟩
        · rw [World.frozen?_setCell]
          exact (HNA.out.2.frozen (p := ⟨B, j, none⟩) hBl).trans (HF.out j)
        · exact (Turn.of HNA.out.2).trans (Turn.store _ _ _ _)
  case rest =>
    obtain ⟨b1, x2, x0, x1, xF, hNA, hTu⟩ := hcut
    generalize wc = W2 at x2 x0 x1 xF hNA hTu ⊢
    have HR := hid0 (And.intro x2 (And.intro x0 (And.intro x1 (And.intro xF (And.intro hNA hTu)))))
    obtain ⟨a9, K9, c9, z2, hK100, hKn, hK1⟩ := loneP hlo HW.out.1 HW.out.2 hNA
    have HKn := hid0 hKn
    have HK1 := hid0 hK1
    have zf := xF 2
    clear r0 r1 r2 rf HF CP' x0 x1 xF hTu hKn hK1
    go_upto_if 40 with (fail)
    go_cut [] from 8 (fun wr => RootP Q w1 wr B order (L.length : Int) (delA k L))
    case first =>
      by_cases hk1 : K9 = 1
      · obtain ⟨n', t', kb, ko, b', rfl, qi, hw', hN', hf'⟩ := HK1.out hk1
        have HX := hid0 (And.intro hw' (And.intro hN' hf'))
        subst hk1
        clear hw' hN' hf'
        go_wp2_with fail
        go_meet
        case rel =>
          obtain ⟨x2, x0, x1, xF, hNA, hTu⟩ := HR.out
          exact ⟨by rw [World.cell?_setCell_other _ _ _ _ (by simp)]; exact x0, by rw [World.cell?_setCell_other _ _ _ _ (by simp)]; exact x1, ⟨n', b', t', World.cell?_setCell_same _ _ _ x2, HX.out.1, HX.out.2.1.store hout 2 _, HX.out.2.2⟩, fun j => by rw [World.frozen?_setCell]; exact xF j, hTu.trans (Turn.store _ _ _ _)⟩
      · have hk0 : ((K9 : Int) == 1) = false := by simp; omega
        have hw' := hid0 (HKn.out hk1)
        clear hk1
        go_wp2_with fail
        go_meet
        case rel =>
          obtain ⟨x2, x0, x1, xF, hNA, hTu⟩ := HR.out
          exact ⟨x0, x1, ⟨n, b1, T, x2, hw'.out, hNA, HW.out.2⟩, xF, hTu⟩
    case rest =>
      have hR := hcut
      generalize wc = W4 at hR ⊢
      have y1 := hR.c1
      have yf := hR.f 1
      have hlm : (L.length : Int) ≤ 1000 := by omega
      have hl1 : (1 : Int) ≤ (L.length : Int) := by omega
      have hfin := hR.tree hlo hhi hout ((L.length : Int) - 1) (by have := HDS.out; omega)
      have hft := hR.turn.trans (Turn.store W4 B 1 (.int .i64 ((L.length : Int) - 1)))
      have HFIN := hid0 (And.intro hfin hft)
      clear hfin hft hR hcut
      have hVne : w0.heap.size ≠ B := by omega
      have hRne : w.heap.size ≠ B := by omega
      have V5 := HV1.out.1.turn HFIN.out.2 hVne
      have R5 := HV1.out.2.turn HFIN.out.2 hRne
      have v0 := V5.cell 0 rfl
      have v1 := V5.cell 1 rfl
      have s0 := R5.cell 0 rfl
      have f0 := R5.frz 0 (by decide)
      have s1 := R5.cell 1 rfl
      have f1 := R5.frz 1 (by decide)
      have HR5 := hid0 R5
      clear V5 R5
      go_wp2
      exact end_vt (HR5.out.puts [.int .i64 gn, .string gs] rfl) rfl rfl rfl _ Try.underlying33 rfl infoPr rfl ⟨rfl, (((HFIN.out.1.storeO HQR.out hRne 0 _).storeO HQR.out hRne 1 _).weakP (fun q hq _ => HQP.out q hq) (fun x => by simp [eP]) HPP.out), (((((Turn.of HBW1.out).trans HFIN.out.2).storeN (by omega) 0 _).storeN (by omega) 1 _))⟩
end Go.Proofs.Ytneebnankghhgab
