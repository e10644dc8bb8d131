/- Several of my texts laid together, each as it was: SsP. Conditions: each names its own. -/
import Derived.Test.YtneebnankghhgabSrP
import Derived.Deep.RegionWith
/- The project's tree over belvedere/belvederelaw07.Pair: a key is put, a key is cut: contracts of the calls, in whatever memory. Conditions: the tree's memory is known; it has 1000 keys at most; what is new may lie where its nodes lie. -/
namespace Go.Proofs.Ytneebnankghhgab
open Go.RowKit

theorem TreeAt.weakP {β : Type} {kv : Nat} {ec : β → List Value} {P Q : Nat → Prop} {w : World} {B order : Nat} {L : List (Key × β)} (h : TreeAt kv ec P w B order L) (hPQ : ∀ b, P b → b < w.heap.size → Q b) (hk : ∀ x, ec x ≠ []) (hQ : ¬ Q B) : TreeAt kv ec Q w B order L := by
  obtain ⟨n, b, t, h0, h1, h2, h3⟩ := h.root
  exact ⟨h.c0, h.c1, ⟨n, b, t, h0, h1, h2.weak hPQ hk, h3⟩, h.f, h.lo, h.hi, hQ⟩
theorem TreeAt.storeO {β : Type} {kv : Nat} {ec : β → List Value} {P : Nat → Prop} {w : World} {B order R : Nat} {L : List (Key × β)} (h : TreeAt kv ec P w B order L) (hR : ¬ P R) (hne : R ≠ B) (j : Nat) (v : Value) : TreeAt kv ec P (w.setCell ⟨R, j, none⟩ v) B order L := by
  obtain ⟨n, b, t, h0, h1, h2, h3⟩ := h.root
  have e : ∀ o, (w.setCell ⟨R, j, none⟩ v).cell? ⟨B, o, none⟩ = w.cell? ⟨B, o, none⟩ := fun o => World.cell?_setCell_far w ⟨R, j, none⟩ ⟨B, o, none⟩ v hne
  exact ⟨(e 0).trans h.c0, (e 1).trans h.c1, ⟨n, b, t, (e 2).trans h0, h1, h2.store hR j v, h3⟩, fun i => by rw [World.frozen?_setCell]; exact h.f i, h.lo, h.hi, h.out⟩
theorem Turn.storeN {w w' : World} {B R : Nat} (h : Turn B w w') (hR : w.heap.size ≤ R) (j : Nat) (v : Value) : Turn B w (w'.setCell ⟨R, j, none⟩ v) :=
  ⟨h.os, h.tape, h.output, by rw [World.size_setCell]; exact h.size, fun k hk hne => (Deep.blk_setCell_other w' ⟨R, j, none⟩ v k (fun e => by simp at e; omega)).trans (h.block k hk hne)⟩
theorem VarB.turn {w w' : World} {B V : Nat} {us : List Value} (h : VarB w V us) (ht : Turn B w w') (hne : V ≠ B) : VarB w' V us := h.keep (ht.block V h.lt (fun e => hne (by cases e; rfl))) ht.size
/-- A tree's root, and its cells, between two stores. -/
structure RootP (P : Nat → Prop) (w0 w : World) (B order : Nat) (many : Int) (L : List (Key × (Int × Key))) : Prop where
  c0 : w.cell? ⟨B, 0, none⟩ = some (.int .i64 (order : Int))
  c1 : w.cell? ⟨B, 1, none⟩ = some (.int .i64 many)
  root : ∃ n b t, w.cell? ⟨B, 2, none⟩ = some (.pointer (some ⟨b, 0, none⟩)) ∧ Wf (order / 2) order n (min n 1) order none none t ∧ NAP P w n b t ∧ flat n t = L
  f : ∀ j, w.frozen? ⟨B, j, none⟩ = false
  turn : Turn B w0 w
theorem RootP.tree {P : Nat → Prop} {w0 w : World} {B order : Nat} {many : Int} {L : List (Key × (Int × Key))} (h : RootP P w0 w B order many L) (hlo : 3 ≤ order) (hhi : order ≤ 64) (ho : ¬ P B) (v : Int) (hv : v = (L.length : Int)) : TAP P (w.setCell ⟨B, 1, none⟩ (.int .i64 v)) B order L := by
  subst hv
  obtain ⟨n, b, t, h0, h1, h2, h3⟩ := h.root
  exact ⟨by rw [World.cell?_setCell_other _ _ _ _ (by simp)]; exact h.c0, World.cell?_setCell_same _ _ _ h.c1, ⟨n, b, t, by rw [World.cell?_setCell_other _ _ _ _ (by simp)]; exact h0, h1, h2.store ho 1 _, h3⟩, fun j => by rw [World.frozen?_setCell]; exact h.f j, hlo, hhi, ho⟩
theorem RootP.same {P : Nat → Prop} {w0 w : World} {B order : Nat} {many : Int} {L : List (Key × (Int × Key))} (h : RootP P w0 w B order many L) (hlo : 3 ≤ order) (hhi : order ≤ 64) (ho : ¬ P B) (hv : many = (L.length : Int)) : TAP P w B order L := by
  subst hv
  exact ⟨h.c0, h.c1, h.root, h.f, hlo, hhi, ho⟩

set_option maxRecDepth 100000 in
set_option maxHeartbeats 4000000 in
theorem putPT_any (P : Nat → Prop) (B order : Nat) (L : List (Key × (Int × Key))) (k : Key) (x : Int × Key) (w : World) (h : TAP P w B order L) (hlen : L.length ≤ 1000) (hP : ∀ q, w.heap.size ≤ q → P q) :
    Calls Try.prog 8 #[.pointer (some ⟨B, 0, none⟩), .string (txt k), vP x] w fun e w' => e = .returned (.tuple #[ovP (getA k L), .bool (hasO (getA k L))]) ∧ TAP P w' B order (insA k x L) ∧ Turn B w w' := by
  obtain ⟨x1, x2⟩ := x
  have hlo := h.lo
  have hhi := h.hi
  have hout := h.out
  have hasc := h.asc
  have hgs := insA_size (k := k) (v := ((x1, x2) : Int × Key)) hasc
  have hBlt := h.lt
  obtain ⟨VX, VR⟩ := VarB.two (w := w) [.int .i64 x1, .string (txt x2)] [.int .i64 0, .string ⟨#[]⟩] 33 33
  change VarB ((w.alloc (Obj.cells #[.int .i64 x1, .string (txt x2)] 33)).alloc (Obj.cells #[.int .i64 0, .string ⟨#[]⟩] 33)) w.heap.size [.int .i64 x1, .string (txt x2)] at VX
  change VarB ((w.alloc (Obj.cells #[.int .i64 x1, .string (txt x2)] 33)).alloc (Obj.cells #[.int .i64 0, .string ⟨#[]⟩] 33)) (w.heap.size + 1) [.int .i64 0, .string ⟨#[]⟩] at VR
  have hBz : Below w.heap.size w ((w.alloc (Obj.cells #[.int .i64 x1, .string (txt x2)] 33)).alloc (Obj.cells #[.int .i64 0, .string ⟨#[]⟩] 33)) := by go_grown
  have hz2 : ((w.alloc (Obj.cells #[.int .i64 x1, .string (txt x2)] 33)).alloc (Obj.cells #[.int .i64 0, .string ⟨#[]⟩] 33)).heap.size = w.heap.size + 2 := by simp
  have h33 : TAP (fun q => P q ∧ q ≠ w.heap.size + 1) w B order L := h.weakP (fun q hq hl => ⟨hq, by omega⟩) (fun x => by simp [eP]) (fun hq => hout hq.1)
  have hT2 := h33.later hBz
  have hQ2 : ∀ q, ((w.alloc (Obj.cells #[.int .i64 x1, .string (txt x2)] 33)).alloc (Obj.cells #[.int .i64 0, .string ⟨#[]⟩] 33)).heap.size ≤ q → (P q ∧ q ≠ w.heap.size + 1) := fun q hq => ⟨hP q (by omega), by omega⟩
  have hQP : ∀ q, (fun q => P q ∧ q ≠ w.heap.size + 1) q → P q := fun q hq => hq.1
  have hQR : ¬ (fun q => P q ∧ q ≠ w.heap.size + 1) (w.heap.size + 1) := fun hq => hq.2 rfl
  have hQ2' : ∀ q, ((w.alloc (Obj.cells #[.int .i64 x1, .string (txt x2)] 33)).alloc (Obj.cells #[.int .i64 0, .string ⟨#[]⟩] 33)).heap.size ≤ q → (fun q => P q ∧ q ≠ w.heap.size + 1) q := hQ2
  clear hQ2 h33
  generalize (fun q => P q ∧ q ≠ w.heap.size + 1) = Q at hT2 hQP hQR hQ2'
  have HG := hid0 (getP_any Q B order L k _ hT2)
  have HQP := hid0 hQP
  have HQR := hid0 hQR
  have HT := hid0 hT2
  have HPP := hid0 hout
  clear hout
  have hout := hT2.out
  obtain ⟨g, hg⟩ : ∃ g, getA k L = g := ⟨_, rfl⟩
  rw [hg] at HG hgs ⊢
  obtain ⟨gn, gs, hgo⟩ := oc_two g
  rw [ov_oc, hgo] at HG ⊢
  have HGS := hid0 hgs
  have HZ2 := hid0 hz2
  have HBZ := hid0 hBz
  have HVX := hid0 VX
  have HVR := hid0 VR
  have HQ2 := hid0 hQ2'
  clear h hgs hg hasc hT2 hQP hQR hgo hz2 hBz VX VR hQ2' hP
  unfold vP
  dsimp only
  go_enter Try.func8, Try.ntmps8
  go_wp2_with fail
  refine HG.out.mono ?_
  rintro e w0 ⟨rfl, hb0⟩
  obtain ⟨w1, hw1⟩ : ∃ w1, w0.alloc (Obj.cells #[.int .i64 gn, .string gs] 33) = w1 := ⟨_, rfl⟩
  have hb1 : Below ((w.alloc (Obj.cells #[.int .i64 x1, .string (txt x2)] 33)).alloc (Obj.cells #[.int .i64 0, .string ⟨#[]⟩] 33)).heap.size ((w.alloc (Obj.cells #[.int .i64 x1, .string (txt x2)] 33)).alloc (Obj.cells #[.int .i64 0, .string ⟨#[]⟩] 33)) (w0.alloc (Obj.cells #[.int .i64 gn, .string gs] 33)) := hb0.alloc hb0.size _
  have VV : VarB (w0.alloc (Obj.cells #[.int .i64 gn, .string gs] 33)) w0.heap.size [.int .i64 gn, .string gs] := VarB.new w0 [.int .i64 gn, .string gs] 33
  rw [hw1] at hb1 VV
  replace hw1 := hid0 hw1
  have hVs : w.heap.size + 2 ≤ w0.heap.size := by have := hb0.size; have := HZ2.out; omega
  have hT1 := HT.out.later hb1
  have VX1 := HVX.out.below hb1
  have VR1 := HVR.out.below hb1
  have hBw1 := below_through hb1 HBZ.out.size HBZ.out
  have hQ1 : ∀ q, w1.heap.size ≤ q → Q q := fun q hq => HQ2.out q (Nat.le_trans hb1.size hq)
  obtain ⟨n, b, t, r2, hw, hN, hfl⟩ := hT1.root
  have HV1 := hid0 (And.intro VV VR1)
  have HBW1 := hid0 hBw1
  have r0 := hT1.c0
  have r1 := hT1.c1
  have rf := hT1.f 2
  have HF := hid0 hT1.f
  have xx0 := VX1.cell 0 rfl
  have xx1 := VX1.cell 1 rfl
  have hXw : w.heap.size < w1.heap.size := VX1.lt
  clear hT1 hb1 VX1 VR1 VV hBw1 HBZ HVX HVR HT HQ2 hb0
  go_wp2_with fail
  rw [hw1.out]
  clear hw1
  refine (missingP_no B _ w1 r2).mono ?_
  rintro e w' ⟨rfl, rfl⟩
  have CP := fun W (hb : Below w1.heap.size w1 W) => (putP_any Q (order / 2) order k (x1, x2) (by omega) (by omega) hhi n (min n 1) b none none t W hw (fun _ hx => by simp at hx) (fun _ hx => by simp at hx) (hN.later hb) (fun q hq => hQ1 q (Nat.le_trans hb.size hq))).mono (fun e w' h => ResP.of hb h)
  unfold vP at CP
  dsimp only at CP
  have CP' := hid0 CP
  have hpw := put_wf (least := order / 2) (most := order) (by omega) (by omega) (k := k) (v := ((x1, x2) : Int × Key)) hw (fun _ hx => by simp at hx) (fun _ hx => by simp at hx)
  rw [hfl] at hpw
  obtain ⟨T, hT⟩ : ∃ T, putT order n t k (x1, x2) = T := ⟨_, rfl⟩
  rw [hT] at hpw CP'
  have HW := hid0 hpw
  obtain ⟨N1, hN1⟩ : ∃ N1, nk n T = N1 := ⟨_, rfl⟩
  have hz := wf_size hpw.1
  rw [hN1] at hz
  have HN1 := hid0 hN1
  have hBl : B < w1.heap.size := World.block_lt_of_cell? _ _ r2
  clear CP hw hN hfl hT hpw hN1
  go_wp2_with fail
  go_cut [] from 13 (fun wr => ∃ b1, wr.cell? ⟨B, 2, none⟩ = some (.pointer (some ⟨b1, 0, none⟩)) ∧ wr.cell? ⟨B, 0, none⟩ = some (.int .i64 (order : Int)) ∧ wr.cell? ⟨B, 1, none⟩ = some (.int .i64 (L.length : Int)) ∧ (∀ j, wr.frozen? ⟨B, j, none⟩ = false) ∧ NAP Q wr n b1 T ∧ Turn B w1 wr)
  case first =>
    go_region_with (go_at_call 30; (try go_split_ands); refine (CP'.out _ (Below.drew (Below.refl _ _))).mono ?_; rintro e w2 ⟨⟨b1, rfl, hNA⟩, hb2⟩; have x0 := cell_later hb2 r0; have x1 := cell_later hb2 r1; have x2 := cell_later hb2 r2; have xf := (hb2.frozen (p := ⟨B, 2, none⟩) hBl).trans rf; have HNA := hid0 (And.intro hNA hb2); clear hNA hb2)
    all_goals
      go_wp2_with fail
      go_meet
      case rel =>
        refine ⟨b1, World.cell?_setCell_same _ _ _ x2, by rw [World.cell?_setCell_other _ _ _ _ (by simp)]; exact x0, by rw [World.cell?_setCell_other _ _ _ _ (by simp)]; exact x1, fun j => ?_, HNA.out.1.store hout 2 _, ?_⟩
        · rw [World.frozen?_setCell]
          exact (HNA.out.2.frozen (p := ⟨B, j, none⟩) hBl).trans (HF.out j)
        · exact (Turn.of HNA.out.2).trans (Turn.store _ _ _ _)
  case rest =>
    obtain ⟨b1, x2, x0, x1, xF, hNA, hTu⟩ := hcut
    generalize wc = W2 at x2 x0 x1 xF hNA hTu ⊢
    obtain ⟨a7, c7, x7, -⟩ := hNA.keys
    rw [HN1.out] at x7
    have hsz2 : w1.heap.size ≤ W2.heap.size := hTu.size
    have hSS : W2.cell? ⟨B, 2, none⟩ = some (.pointer (some ⟨b1, 0, none⟩)) ∧ W2.cell? ⟨b1, 0, none⟩ = some (.slice a7 N1 c7) ∧ W2.cell? ⟨B, 0, none⟩ = some (.int .i64 (order : Int)) ∧ W2.cell? ⟨B, 1, none⟩ = some (.int .i64 (L.length : Int)) ∧ Below W2.heap.size W2 W2 := ⟨x2, x7, x0, x1, Below.refl _ _⟩
    have HSS := hid0 hSS
    have HR := hid0 (And.intro hNA (And.intro hTu xF))
    have HP2 := hid0 (fun q (hq : W2.heap.size ≤ q) => hQ1 q (Nat.le_trans hsz2 hq))
    clear hSS hNA hTu xF r0 r1 r2 rf HF CP'
    go_wp2_with fail
    go_region_held3 (fun w' => w'.cell? ⟨B, 2, none⟩ = some (.pointer (some ⟨b1, 0, none⟩)) ∧ w'.cell? ⟨b1, 0, none⟩ = some (.slice a7 N1 c7) ∧ w'.cell? ⟨B, 0, none⟩ = some (.int .i64 (order : Int)) ∧ w'.cell? ⟨B, 1, none⟩ = some (.int .i64 (L.length : Int)) ∧ Below W2.heap.size W2 w')
      (first
        | with_reducible assumption
        | (repeat (first | with_reducible exact HSS.out | with_reducible assumption | with_reducible refine hold4_drew7 ?_ | with_reducible refine hold4_alloc7 ?_)))
      (fail)
    go_upto_if 49 with (fail)
    have hB3 := Below.drew (Below.refl W2.heap.size W2)
    have HSS3 := hid0 (hold4_drew7 HSS.out)
    have HR3 := hid0 (And.intro (HR.out.1.later hB3) (And.intro (HR.out.2.1.trans (Turn.of hB3)) (fun j => (hB3.frozen (p := ⟨B, j, none⟩) (show B < W2.heap.size from World.block_lt_of_cell? _ _ x2)).trans (HR.out.2.2 j))))
    clear HSS HR x2 x0 x1 x7 hB3
    have HP3 : Hid (∀ q, W2.drew.heap.size ≤ q → Q q) := hid0 HP2.out
    generalize W2.drew = W3 at HSS3 HR3 HP3 ⊢
    have hz3 : w1.heap.size ≤ W3.heap.size := HR3.out.2.1.size
    go_cut [] from 13 (fun wr => RootP Q w1 wr B order (L.length : Int) (insA k (x1, x2) L))
    case first =>
      by_cases hq : N1 ≤ order
      · have hqi : ¬ (order : Int) < (N1 : Int) := by omega
        go_wp2_with fail
        go_meet
        case rel =>
          obtain ⟨y2, _, y0, y1, _⟩ := HSS3.out
          exact ⟨y0, y1, ⟨n, b1, T, y2, wf_mono HW.out.1 (by rw [HN1.out]; omega) (by rw [HN1.out]; exact hq), HR3.out.1, HW.out.2⟩, HR3.out.2.2, HR3.out.2.1⟩
      · have hqi : (order : Int) < (N1 : Int) := by omega
        have hpa := part_wf (s := N1 / 2) HW.out.1 (by omega) (by rw [HN1.out]; omega)
        rw [HN1.out] at hpa
        have CPa := fun W (hb : Below W3.heap.size W3 W) sv (hsv : sv = ((N1 / 2 : Nat) : Int)) => partedP_any Q (order / 2) order n (min n 1) (order + 1) b1 none none T (N1 / 2) sv W HW.out.1 (by omega) (HR3.out.1.later hb) hsv (by rw [HN1.out]; omega) (fun q hq => HP3.out q (Nat.le_trans hb.size hq))
        have CPa' := hid0 CPa
        obtain ⟨pt, hpt⟩ : ∃ pt, part n (N1 / 2) T = pt := ⟨_, rfl⟩
        rw [hpt] at hpa CPa'
        have HPA := hid0 hpa
        clear CPa hpt hpa
        have hq128 : (N1 : Int) ≤ 128 := by omega
        obtain ⟨H, hH⟩ : ∃ H, N1 / 2 = H := ⟨_, rfl⟩
        rw [hH] at CPa'
        have HD : Hid ((N1 : Int).tdiv 2 = (H : Int) ∧ IntKind.i64.wrap (H : Int) = (H : Int) ∧ wrap64 (H : Int) = (H : Int)) := hid0 ⟨by rw [← hH]; rfl, IntWalk.i64_in _ (by omega), by unfold wrap64; omega⟩
        clear hH
        have HSS4 := HSS3.out
        go_wp2_with fail
        have hd1 := HD.out.1
        have hd2 := HD.out.2.1
        have hd3 := HD.out.2.2
        go_region_held3 (fun w' => w'.cell? ⟨B, 2, none⟩ = some (.pointer (some ⟨b1, 0, none⟩)) ∧ w'.cell? ⟨b1, 0, none⟩ = some (.slice a7 N1 c7) ∧ w'.cell? ⟨B, 0, none⟩ = some (.int .i64 (order : Int)) ∧ w'.cell? ⟨B, 1, none⟩ = some (.int .i64 (L.length : Int)) ∧ Below W3.heap.size W3 w')
          (first
            | with_reducible assumption
            | (repeat (first | with_reducible assumption | with_reducible refine hold4_drew7 ?_ | with_reducible refine hold4_alloc7 ?_ | exact ⟨HSS3.out.1, HSS3.out.2.1, HSS3.out.2.2.1, HSS3.out.2.2.2.1, Below.refl _ _⟩)))
          (first
            | (go_at_call 31; (try go_split_ands); refine (CPa'.out _ (by assumption) _ rfl).mono ?_; rintro e wn ⟨⟨c1, c2, rfl, hN1, hN2⟩, hbn⟩; have hn1 : (wn.cell? ⟨B, 2, none⟩ = some (.pointer (some ⟨b1, 0, none⟩)) ∧ wn.cell? ⟨b1, 0, none⟩ = some (.slice a7 N1 c7) ∧ wn.cell? ⟨B, 0, none⟩ = some (.int .i64 (order : Int)) ∧ wn.cell? ⟨B, 1, none⟩ = some (.int .i64 (L.length : Int)) ∧ Below W3.heap.size W3 wn) := hold4_call7 hbn ⟨by assumption, by assumption, by assumption, by assumption, by assumption⟩; have HN12 := hid0 (And.intro hN1 hN2); clear hN1 hN2))
        have hSw := (by assumption : _ ∧ _ ∧ _ ∧ _ ∧ Below W3.heap.size W3 wn)
        obtain ⟨y2, _, y0, y1, hb4⟩ := hSw
        have hz4 := hb4.size
        have HB4 := hid0 hb4
        have hBl4 : B < W3.heap.size := World.block_lt_of_cell? _ _ HSS3.out.1
        have yf : wn.frozen? ⟨B, 2, none⟩ = false := (hb4.frozen (p := ⟨B, 2, none⟩) hBl4).trans (HR3.out.2.2 2)
        have hBn : B < wn.heap.size := by omega
        have hbk := fun o1 o2 o3 => (((Below.refl wn.heap.size wn).alloc (Nat.le_refl _) o1).alloc (by simp) o2).alloc (by simp; omega) o3
        have yk := fun (o1 o2 o3 : Obj) => cell_later (hbk o1 o2 o3) y2
        have yq := fun (o1 o2 o3 : Obj) => ((hbk o1 o2 o3).frozen (p := ⟨B, 2, none⟩) hBn).trans yf
        have HBK := hid0 hbk
        clear hd1 hd2 hd3 hn1 hb4 hbk
        go_wp2_with fail
        go_meet
        case rel =>
          have hbk := HBK.out (Obj.cells #[.string (txt pt.2.1)] 9) (Obj.cells #[.pointer (some ⟨c1, 0, none⟩), .pointer (some ⟨c2, 0, none⟩)] 59) (Obj.cells #[.slice (some ⟨wn.heap.size, 0, none⟩) 1 1, .slice none 0 0, .slice (some ⟨wn.heap.size + 1, 0, none⟩) 2 2] 63)
          have hPn : ∀ q, wn.heap.size ≤ q → Q q := fun q hq => HP3.out q (Nat.le_trans hz4 hq)
          have hNode : NAP Q (((wn.alloc (Obj.cells #[.string (txt pt.2.1)] 9)).alloc (Obj.cells #[.pointer (some ⟨c1, 0, none⟩), .pointer (some ⟨c2, 0, none⟩)] 59)).alloc (Obj.cells #[.slice (some ⟨wn.heap.size, 0, none⟩) 1 1, .slice none 0 0, .slice (some ⟨wn.heap.size + 1, 0, none⟩) 2 2] 63)) (n + 1) (wn.heap.size + 1 + 1) (([pt.2.1], [pt.1, pt.2.2]) : Tr (Int × Key) (n + 1)) :=
            NodeAt.mk_node (vk := .slice (some ⟨wn.heap.size, 0, none⟩) 1 1) (vc := .slice (some ⟨wn.heap.size + 1, 0, none⟩) 2 2) (lk := [pt.2.1]) (lc := [c1, c2]) (hPn _ (by omega)) (by go_cell) (by go_cell) (Sl.key (((ArgsAt.new _ _ _).alloc _).alloc _) (hPn _ (Nat.le_refl _))) (Sl.ptr2 ((ArgsAt.fresh _ _ _ _ (by simp)).alloc _) (hPn _ (by omega))) rfl ⟨HN12.out.1.later hbk, HN12.out.2.later hbk, trivial⟩
          have hz5 := wf_size HPA.out.1
          have hz6 := wf_size HPA.out.2.1
          have hmn : min n 1 ≤ 1 := Nat.min_le_right _ _
          refine ⟨by rw [World.cell?_setCell_other _ _ _ _ (by simp)]; exact cell_later hbk y0, by rw [World.cell?_setCell_other _ _ _ _ (by simp)]; exact cell_later hbk y1, ⟨n + 1, wn.heap.size + 1 + 1, ([pt.2.1], [pt.1, pt.2.2]), World.cell?_setCell_same _ _ _ (yk _ _ _), ⟨fun _ _ hx => by simp at hx, by simp, by simp; omega, ?_, ?_⟩, hNode.store hout 2 _, ?_⟩, fun j => ?_, ?_⟩
          · exact wf_mono HPA.out.1 (by omega) (by omega)
          · exact wf_mono HPA.out.2.1 (by omega) (by omega)
          · show [pt.1, pt.2.2].flatMap (flat n) = _
            rw [← HW.out.2, ← HPA.out.2.2]
            simp
          · rw [World.frozen?_setCell]
            exact ((hbk.frozen (p := ⟨B, j, none⟩) hBn).trans (HB4.out.frozen (p := ⟨B, j, none⟩) hBl4)).trans (HR3.out.2.2 j)
          · exact ((HR3.out.2.1.trans (Turn.of HB4.out)).trans (Turn.of hbk)).trans (Turn.store _ _ _ _)
    case rest =>
      have hR := hcut
      generalize wc = W4 at hR ⊢
      have y1 := hR.c1
      have yf := hR.f 1
      have HRR := hid0 hR
      have hlm : (L.length : Int) ≤ 1000 := by omega
      clear hR hcut
      cases g with
      | none =>
        have hfin := HRR.out.tree hlo hhi hout ((L.length : Int) + 1) (by have := HGS.out; rw [if_pos rfl] at this; omega)
        have hft := HRR.out.turn.trans (Turn.store W4 B 1 (.int .i64 ((L.length : Int) + 1)))
        have HFIN := hid0 (And.intro hfin hft)
        clear hfin hft
        unfold hasO
        have hVne : w0.heap.size ≠ B := by omega
        have hRne : w.heap.size + 1 ≠ B := by omega
        have V5 := HV1.out.1.turn HFIN.out.2 hVne
        have R5 := HV1.out.2.turn HFIN.out.2 hRne
        have v0 := V5.cell 0 rfl
        have v1 := V5.cell 1 rfl
        have s0 := R5.cell 0 rfl
        have f0 := R5.frz 0 (by decide)
        have s1 := R5.cell 1 rfl
        have f1 := R5.frz 1 (by decide)
        have HR5 := hid0 R5
        clear V5 R5
        go_wp2
        exact end_vt (HR5.out.puts [.int .i64 gn, .string gs] rfl) rfl rfl rfl _ Try.underlying33 rfl infoPr rfl ⟨rfl, (((HFIN.out.1.storeO HQR.out hRne 0 _).storeO HQR.out hRne 1 _).weakP (fun q hq _ => HQP.out q hq) (fun x => by simp [eP]) HPP.out), (((((Turn.of HBW1.out).trans HFIN.out.2).storeN (by omega) 0 _).storeN (by omega) 1 _))⟩
      | some y =>
        have hfin := HRR.out.same hlo hhi hout (by have := HGS.out; rw [if_neg (by simp)] at this; omega)
        have HFIN := hid0 (And.intro hfin HRR.out.turn)
        clear hfin
        unfold hasO
        have hVne : w0.heap.size ≠ B := by omega
        have hRne : w.heap.size + 1 ≠ B := by omega
        have V5 := HV1.out.1.turn HFIN.out.2 hVne
        have R5 := HV1.out.2.turn HFIN.out.2 hRne
        have v0 := V5.cell 0 rfl
        have v1 := V5.cell 1 rfl
        have s0 := R5.cell 0 rfl
        have f0 := R5.frz 0 (by decide)
        have s1 := R5.cell 1 rfl
        have f1 := R5.frz 1 (by decide)
        have HR5 := hid0 R5
        clear V5 R5
        go_wp2
        exact end_vt (HR5.out.puts [.int .i64 gn, .string gs] rfl) rfl rfl rfl _ Try.underlying33 rfl infoPr rfl ⟨rfl, (((HFIN.out.1.storeO HQR.out hRne 0 _).storeO HQR.out hRne 1 _).weakP (fun q hq _ => HQP.out q hq) (fun x => by simp [eP]) HPP.out), (((((Turn.of HBW1.out).trans HFIN.out.2).storeN (by omega) 0 _).storeN (by omega) 1 _))⟩
end Go.Proofs.Ytneebnankghhgab
