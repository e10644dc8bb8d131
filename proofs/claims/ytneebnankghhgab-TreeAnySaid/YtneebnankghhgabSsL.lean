/- Several of my texts laid together, each as it was: SsL. Conditions: each names its own. -/
import Derived.Test.YtneebnankghhgabSrL
import Derived.Deep.RegionWith
/- The project's tree over []int: a key is put, a key is cut: contracts of the calls, in whatever memory. Conditions: the tree's memory is known; it has 1000 keys at most; what is new may lie where its nodes lie. -/
namespace Go.Proofs.Ytneebnankghhgab
open Go.RowKit

/-- A tree's root, and its cells, between two stores. -/
structure RootL (P : Nat → Prop) (w0 w : World) (B order : Nat) (many : Int) (L : List (Key × (Nat))) : Prop where
  c0 : w.cell? ⟨B, 0, none⟩ = some (.int .i64 (order : Int))
  c1 : w.cell? ⟨B, 1, none⟩ = some (.int .i64 many)
  root : ∃ n b t, w.cell? ⟨B, 2, none⟩ = some (.pointer (some ⟨b, 0, none⟩)) ∧ Wf (order / 2) order n (min n 1) order none none t ∧ NAL P w n b t ∧ flat n t = L
  f : ∀ j, w.frozen? ⟨B, j, none⟩ = false
  turn : Turn B w0 w
theorem RootL.tree {P : Nat → Prop} {w0 w : World} {B order : Nat} {many : Int} {L : List (Key × (Nat))} (h : RootL P w0 w B order many L) (hlo : 3 ≤ order) (hhi : order ≤ 64) (ho : ¬ P B) (v : Int) (hv : v = (L.length : Int)) : TAL P (w.setCell ⟨B, 1, none⟩ (.int .i64 v)) B order L := by
  subst hv
  obtain ⟨n, b, t, h0, h1, h2, h3⟩ := h.root
  exact ⟨by rw [World.cell?_setCell_other _ _ _ _ (by simp)]; exact h.c0, World.cell?_setCell_same _ _ _ h.c1, ⟨n, b, t, by rw [World.cell?_setCell_other _ _ _ _ (by simp)]; exact h0, h1, h2.store ho 1 _, h3⟩, fun j => by rw [World.frozen?_setCell]; exact h.f j, hlo, hhi, ho⟩
theorem RootL.same {P : Nat → Prop} {w0 w : World} {B order : Nat} {many : Int} {L : List (Key × (Nat))} (h : RootL P w0 w B order many L) (hlo : 3 ≤ order) (hhi : order ≤ 64) (ho : ¬ P B) (hv : many = (L.length : Int)) : TAL P w B order L := by
  subst hv
  exact ⟨h.c0, h.c1, h.root, h.f, hlo, hhi, ho⟩

set_option maxRecDepth 100000 in
set_option maxHeartbeats 4000000 in
theorem putLT_any (P : Nat → Prop) (B order : Nat) (L : List (Key × (Nat))) (k : Key) (x : Nat) (w : World) (h : TAL P w B order L) (hlen : L.length ≤ 1000) (hP : ∀ q, w.heap.size ≤ q → P q) :
    Calls Try.prog 9 #[.pointer (some ⟨B, 0, none⟩), .string (txt k), vL x] w fun e w' => e = .returned (.tuple #[ovL (getA k L), .bool (hasO (getA k L))]) ∧ TAL P w' B order (insA k x L) ∧ Turn B w w' := by
  have HG := hid0 (getL_any P B order L k w h)
  have hlo := h.lo
  have hhi := h.hi
  have hout := h.out
  have hasc := h.asc
  have hgs := insA_size (k := k) (v := x) hasc
  have HT := hid0 h
  obtain ⟨g, hg⟩ : ∃ g, getA k L = g := ⟨_, rfl⟩
  rw [hg] at HG hgs ⊢
  have HGS := hid0 hgs
  clear h hgs hg hasc
  unfold vL
  go_enter Try.func9, Try.ntmps9
  go_wp2_with fail
  refine HG.out.mono ?_
  rintro e w1 ⟨rfl, hb1⟩
  have hT1 := HT.out.later hb1
  obtain ⟨n, b, t, r2, hw, hN, hfl⟩ := hT1.root
  have hsz1 := hb1.size
  have HB1 := hid0 hb1
  have r0 := hT1.c0
  have r1 := hT1.c1
  have rf := hT1.f 2
  have HF := hid0 hT1.f
  clear hT1 hb1
  go_wp2_with fail
  refine (missingL_no B _ w1 r2).mono ?_
  rintro e w' ⟨rfl, rfl⟩
  have CP := fun W (hb : Below w1.heap.size w1 W) => (putL_any P (order / 2) order k x (by omega) (by omega) hhi n (min n 1) b none none t W hw (fun _ hx => by simp at hx) (fun _ hx => by simp at hx) (hN.later hb) (fun q hq => hP q (Nat.le_trans hsz1 (Nat.le_trans hb.size hq)))).mono (fun e w' h => ResL.of hb h)
  unfold vL at CP
  have CP' := hid0 CP
  have hpw := put_wf (least := order / 2) (most := order) (by omega) (by omega) (k := k) (v := x) hw (fun _ hx => by simp at hx) (fun _ hx => by simp at hx)
  rw [hfl] at hpw
  obtain ⟨T, hT⟩ : ∃ T, putT order n t k x = T := ⟨_, rfl⟩
  rw [hT] at hpw CP'
  have HW := hid0 hpw
  obtain ⟨N1, hN1⟩ : ∃ N1, nk n T = N1 := ⟨_, rfl⟩
  have hz := wf_size hpw.1
  rw [hN1] at hz
  have HN1 := hid0 hN1
  have hBl : B < w1.heap.size := World.block_lt_of_cell? _ _ r2
  clear CP hw hN hfl hT hpw hN1
  go_wp2_with fail
  go_cut [] from 13 (fun wr => ∃ b1, wr.cell? ⟨B, 2, none⟩ = some (.pointer (some ⟨b1, 0, none⟩)) ∧ wr.cell? ⟨B, 0, none⟩ = some (.int .i64 (order : Int)) ∧ wr.cell? ⟨B, 1, none⟩ = some (.int .i64 (L.length : Int)) ∧ (∀ j, wr.frozen? ⟨B, j, none⟩ = false) ∧ NAL P wr n b1 T ∧ Turn B w wr)
  case first =>
    go_region_with (go_at_call 33; (try go_split_ands); refine (CP'.out _ (Below.drew (Below.refl _ _))).mono ?_; rintro e w2 ⟨⟨b1, rfl, hNA⟩, hb2⟩; have x0 := cell_later hb2 r0; have x1 := cell_later hb2 r1; have x2 := cell_later hb2 r2; have xf := (hb2.frozen (p := ⟨B, 2, none⟩) hBl).trans rf; have HNA := hid0 (And.intro hNA hb2); clear hNA hb2)
    all_goals
      go_wp2_with fail
      go_meet
      case rel =>
        refine ⟨b1, World.cell?_setCell_same _ _ _ x2, by rw [World.cell?_setCell_other _ _ _ _ (by simp)]; exact x0, by rw [World.cell?_setCell_other _ _ _ _ (by simp)]; exact x1, fun j => ?_, HNA.out.1.store hout 2 _, ?_⟩
        · rw [World.frozen?_setCell]
          exact (HNA.out.2.frozen (p := ⟨B, j, none⟩) hBl).trans (HF.out j)
        · exact ((Turn.of HB1.out).trans (Turn.of HNA.out.2)).trans (Turn.store _ _ _ _)
  case rest =>
    obtain ⟨b1, x2, x0, x1, xF, hNA, hTu⟩ := hcut
    generalize wc = W2 at x2 x0 x1 xF hNA hTu ⊢
    obtain ⟨a7, c7, x7, -⟩ := hNA.keys
    rw [HN1.out] at x7
    have hsz2 : w.heap.size ≤ W2.heap.size := hTu.size
    have hSS : W2.cell? ⟨B, 2, none⟩ = some (.pointer (some ⟨b1, 0, none⟩)) ∧ W2.cell? ⟨b1, 0, none⟩ = some (.slice a7 N1 c7) ∧ W2.cell? ⟨B, 0, none⟩ = some (.int .i64 (order : Int)) ∧ W2.cell? ⟨B, 1, none⟩ = some (.int .i64 (L.length : Int)) ∧ Below W2.heap.size W2 W2 := ⟨x2, x7, x0, x1, Below.refl _ _⟩
    have HSS := hid0 hSS
    have HR := hid0 (And.intro hNA (And.intro hTu xF))
    have HP2 := hid0 (fun q (hq : W2.heap.size ≤ q) => hP q (Nat.le_trans hsz2 hq))
    clear hSS hNA hTu xF r0 r1 r2 rf HF CP'
    go_wp2_with fail
    go_region_held3 (fun w' => w'.cell? ⟨B, 2, none⟩ = some (.pointer (some ⟨b1, 0, none⟩)) ∧ w'.cell? ⟨b1, 0, none⟩ = some (.slice a7 N1 c7) ∧ w'.cell? ⟨B, 0, none⟩ = some (.int .i64 (order : Int)) ∧ w'.cell? ⟨B, 1, none⟩ = some (.int .i64 (L.length : Int)) ∧ Below W2.heap.size W2 w')
      (first
        | with_reducible assumption
        | (repeat (first | with_reducible exact HSS.out | with_reducible assumption | with_reducible refine hold4_drew7 ?_ | with_reducible refine hold4_alloc7 ?_)))
      (fail)
    go_upto_if 49 with (fail)
    have hB3 := Below.drew (Below.refl W2.heap.size W2)
    have HSS3 := hid0 (hold4_drew7 HSS.out)
    have HR3 := hid0 (And.intro (HR.out.1.later hB3) (And.intro (HR.out.2.1.trans (Turn.of hB3)) (fun j => (hB3.frozen (p := ⟨B, j, none⟩) (show B < W2.heap.size from World.block_lt_of_cell? _ _ x2)).trans (HR.out.2.2 j))))
    clear HSS HR x2 x0 x1 x7 hB3
    have HP3 : Hid (∀ q, W2.drew.heap.size ≤ q → P q) := hid0 HP2.out
    generalize W2.drew = W3 at HSS3 HR3 HP3 ⊢
    have hz3 : w.heap.size ≤ W3.heap.size := HR3.out.2.1.size
    go_cut [] from 13 (fun wr => RootL P w wr B order (L.length : Int) (insA k x L))
    case first =>
      by_cases hq : N1 ≤ order
      · have hqi : ¬ (order : Int) < (N1 : Int) := by omega
        go_wp2_with fail
        go_meet
        case rel =>
          obtain ⟨y2, _, y0, y1, _⟩ := HSS3.out
          exact ⟨y0, y1, ⟨n, b1, T, y2, wf_mono HW.out.1 (by rw [HN1.out]; omega) (by rw [HN1.out]; exact hq), HR3.out.1, HW.out.2⟩, HR3.out.2.2, HR3.out.2.1⟩
      · have hqi : (order : Int) < (N1 : Int) := by omega
        have hpa := part_wf (s := N1 / 2) HW.out.1 (by omega) (by rw [HN1.out]; omega)
        rw [HN1.out] at hpa
        have CPa := fun W (hb : Below W3.heap.size W3 W) sv (hsv : sv = ((N1 / 2 : Nat) : Int)) => partedL_any P (order / 2) order n (min n 1) (order + 1) b1 none none T (N1 / 2) sv W HW.out.1 (by omega) (HR3.out.1.later hb) hsv (by rw [HN1.out]; omega) (fun q hq => HP3.out q (Nat.le_trans hb.size hq))
        have CPa' := hid0 CPa
        obtain ⟨pt, hpt⟩ : ∃ pt, part n (N1 / 2) T = pt := ⟨_, rfl⟩
        rw [hpt] at hpa CPa'
        have HPA := hid0 hpa
        clear CPa hpt hpa
        have hq128 : (N1 : Int) ≤ 128 := by omega
        obtain ⟨H, hH⟩ : ∃ H, N1 / 2 = H := ⟨_, rfl⟩
        rw [hH] at CPa'
        have HD : Hid ((N1 : Int).tdiv 2 = (H : Int) ∧ IntKind.i64.wrap (H : Int) = (H : Int) ∧ wrap64 (H : Int) = (H : Int)) := hid0 ⟨by rw [← hH]; rfl, IntWalk.i64_in _ (by omega), by unfold wrap64; omega⟩
        clear hH
        have HSS4 := HSS3.out
        go_wp2_with fail
        have hd1 := HD.out.1
        have hd2 := HD.out.2.1
        have hd3 := HD.out.2.2
        go_region_held3 (fun w' => w'.cell? ⟨B, 2, none⟩ = some (.pointer (some ⟨b1, 0, none⟩)) ∧ w'.cell? ⟨b1, 0, none⟩ = some (.slice a7 N1 c7) ∧ w'.cell? ⟨B, 0, none⟩ = some (.int .i64 (order : Int)) ∧ w'.cell? ⟨B, 1, none⟩ = some (.int .i64 (L.length : Int)) ∧ Below W3.heap.size W3 w')
          (first
            | with_reducible assumption
            | (repeat (first | with_reducible assumption | with_reducible refine hold4_drew7 ?_ | with_reducible refine hold4_alloc7 ?_ | exact ⟨HSS3.out.1, HSS3.out.2.1, HSS3.out.2.2.1, HSS3.out.2.2.2.1, Below.refl _ _⟩)))
          (first
            | (go_at_call 34; (try go_split_ands); refine (CPa'.out _ (by assumption) _ rfl).mono ?_; rintro e wn ⟨⟨c1, c2, rfl, hN1, hN2⟩, hbn⟩; have hn1 : (wn.cell? ⟨B, 2, none⟩ = some (.pointer (some ⟨b1, 0, none⟩)) ∧ wn.cell? ⟨b1, 0, none⟩ = some (.slice a7 N1 c7) ∧ wn.cell? ⟨B, 0, none⟩ = some (.int .i64 (order : Int)) ∧ wn.cell? ⟨B, 1, none⟩ = some (.int .i64 (L.length : Int)) ∧ Below W3.heap.size W3 wn) := hold4_call7 hbn ⟨by assumption, by assumption, by assumption, by assumption, by assumption⟩; have HN12 := hid0 (And.intro hN1 hN2); clear hN1 hN2))
        have hSw := (by assumption : _ ∧ _ ∧ _ ∧ _ ∧ Below W3.heap.size W3 wn)
        obtain ⟨y2, _, y0, y1, hb4⟩ := hSw
        have hz4 := hb4.size
        have HB4 := hid0 hb4
        have hBl4 : B < W3.heap.size := World.block_lt_of_cell? _ _ HSS3.out.1
        have yf : wn.frozen? ⟨B, 2, none⟩ = false := (hb4.frozen (p := ⟨B, 2, none⟩) hBl4).trans (HR3.out.2.2 2)
        have hBn : B < wn.heap.size := by omega
        have hbk := fun o1 o2 o3 => (((Below.refl wn.heap.size wn).alloc (Nat.le_refl _) o1).alloc (by simp) o2).alloc (by simp; omega) o3
        have yk := fun (o1 o2 o3 : Obj) => cell_later (hbk o1 o2 o3) y2
        have yq := fun (o1 o2 o3 : Obj) => ((hbk o1 o2 o3).frozen (p := ⟨B, 2, none⟩) hBn).trans yf
        have HBK := hid0 hbk
        clear hd1 hd2 hd3 hn1 hb4 hbk
        go_wp2_with fail
        go_meet
        case rel =>
          have hbk := HBK.out (Obj.cells #[.string (txt pt.2.1)] 9) (Obj.cells #[.pointer (some ⟨c1, 0, none⟩), .pointer (some ⟨c2, 0, none⟩)] 66) (Obj.cells #[.slice (some ⟨wn.heap.size, 0, none⟩) 1 1, .slice none 0 0, .slice (some ⟨wn.heap.size + 1, 0, none⟩) 2 2] 70)
          have hPn : ∀ q, wn.heap.size ≤ q → P q := fun q hq => HP3.out q (Nat.le_trans hz4 hq)
          have hNode : NAL P (((wn.alloc (Obj.cells #[.string (txt pt.2.1)] 9)).alloc (Obj.cells #[.pointer (some ⟨c1, 0, none⟩), .pointer (some ⟨c2, 0, none⟩)] 66)).alloc (Obj.cells #[.slice (some ⟨wn.heap.size, 0, none⟩) 1 1, .slice none 0 0, .slice (some ⟨wn.heap.size + 1, 0, none⟩) 2 2] 70)) (n + 1) (wn.heap.size + 1 + 1) (([pt.2.1], [pt.1, pt.2.2]) : Tr (Nat) (n + 1)) :=
            NodeAt.mk_node (vk := .slice (some ⟨wn.heap.size, 0, none⟩) 1 1) (vc := .slice (some ⟨wn.heap.size + 1, 0, none⟩) 2 2) (lk := [pt.2.1]) (lc := [c1, c2]) (hPn _ (by omega)) (by go_cell) (by go_cell) (Sl.key (((ArgsAt.new _ _ _).alloc _).alloc _) (hPn _ (Nat.le_refl _))) (Sl.ptr2 ((ArgsAt.fresh _ _ _ _ (by simp)).alloc _) (hPn _ (by omega))) rfl ⟨HN12.out.1.later hbk, HN12.out.2.later hbk, trivial⟩
          have hz5 := wf_size HPA.out.1
          have hz6 := wf_size HPA.out.2.1
          have hmn : min n 1 ≤ 1 := Nat.min_le_right _ _
          refine ⟨by rw [World.cell?_setCell_other _ _ _ _ (by simp)]; exact cell_later hbk y0, by rw [World.cell?_setCell_other _ _ _ _ (by simp)]; exact cell_later hbk y1, ⟨n + 1, wn.heap.size + 1 + 1, ([pt.2.1], [pt.1, pt.2.2]), World.cell?_setCell_same _ _ _ (yk _ _ _), ⟨fun _ _ hx => by simp at hx, by simp, by simp; omega, ?_, ?_⟩, hNode.store hout 2 _, ?_⟩, fun j => ?_, ?_⟩
          · exact wf_mono HPA.out.1 (by omega) (by omega)
          · exact wf_mono HPA.out.2.1 (by omega) (by omega)
          · show [pt.1, pt.2.2].flatMap (flat n) = _
            rw [← HW.out.2, ← HPA.out.2.2]
            simp
          · rw [World.frozen?_setCell]
            exact ((hbk.frozen (p := ⟨B, j, none⟩) hBn).trans (HB4.out.frozen (p := ⟨B, j, none⟩) hBl4)).trans (HR3.out.2.2 j)
          · exact ((HR3.out.2.1.trans (Turn.of HB4.out)).trans (Turn.of hbk)).trans (Turn.store _ _ _ _)
    case rest =>
      have hR := hcut
      generalize wc = W4 at hR ⊢
      have y1 := hR.c1
      have yf := hR.f 1
      have HRR := hid0 hR
      have hlm : (L.length : Int) ≤ 1000 := by omega
      clear hR hcut
      cases g with
      | none =>
        have hfin := HRR.out.tree hlo hhi hout ((L.length : Int) + 1) (by have := HGS.out; rw [if_pos rfl] at this; omega)
        have hft := HRR.out.turn.trans (Turn.store W4 B 1 (.int .i64 ((L.length : Int) + 1)))
        have HFIN := hid0 (And.intro hfin hft)
        clear hfin hft
        unfold hasO
        go_wp2_with fail
        go_ret2
        exact ⟨rfl, HFIN.out⟩
      | some y =>
        have hfin := HRR.out.same hlo hhi hout (by have := HGS.out; rw [if_neg (by simp)] at this; omega)
        have HFIN := hid0 (And.intro hfin HRR.out.turn)
        clear hfin
        unfold hasO
        go_wp2_with fail
        go_ret2
        exact ⟨rfl, HFIN.out⟩
end Go.Proofs.Ytneebnankghhgab
