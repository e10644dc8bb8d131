/- Several of my texts laid together, each as it was: P7. Conditions: each names its own. -/
import Derived.Test.YtjmoegcfgadjiaaGreatN0
import Derived.Test.YtjmoegcfgadjiaaGreatG8
import Derived.Test.YtjmoegcfgadjiaaGreatL1
/- PlanGroups: the law's call, in whatever memory: it is true. Conditions: the part's and the names' cells are known. -/
namespace Go.Proofs.YtjmoegcfgadjiaaGreat
open Go.RowKit

/-- The part's box. -/
structure SGr (w : World) (us : List Value) (W : World) : Prop where
  v : VarB W w.heap.size us
  no : W.cell? ⟨w.heap.size, 20, none⟩ = none
  b : Below w.heap.size w W
theorem SGr.below {w : World} {us : List Value} {W W' : World} (h : SGr w us W) (hb : Below W.heap.size W W') : SGr w us W' :=
  ⟨h.v.below hb, (World.cell?_of_block (a := ⟨w.heap.size, 20, none⟩) (hb.block _ h.v.lt)).trans h.no, below_through hb h.b.size h.b⟩
theorem SGr.set {w : World} {us : List Value} {W : World} (h : SGr w us W) (i : Nat) (u : Value) (hi : i < us.length) (h20 : i < 20) : SGr w (us.set i u) (W.setCell ⟨w.heap.size, i, none⟩ u) :=
  ⟨h.v.setQ u hi, by rw [World.cell?_setCell_other _ _ _ _ (by intro e; have := congrArg Addr.off e; simp at this; omega)]; exact h.no, below_setCells [u] i (b := w.heap.size) h.b (Nat.le_refl _)⟩
theorem w64g {x y : Int} (e : x = y) (h1 : -9223372036854775808 ≤ x) (h2 : x ≤ 9223372036854775807) : IntKind.i64.wrap x = y ∧ wrap64 x = y := by
  subst e
  exact ⟨IntWalk.i64_in _ (by omega), by unfold wrap64; omega⟩
theorem intsI_one {W : World} {G : Nat} {k : Nat} (hk : k ≤ 1000) (h : VarB W G [.int .i64 k]) : IntsI W (some ⟨G, 0, none⟩) [(k : Int)] :=
  ⟨fun _ => ⟨G, 0, rfl, fun i hi => by
    obtain rfl : i = 0 := by simp at hi; exact hi
    exact h.cell 0 rfl⟩, fun x hx => by obtain rfl := List.mem_singleton.1 hx; exact ⟨by omega, by omega⟩, by simp⟩
def grpP (p : Px) (k G O : Nat) : Px := { p with d := false, gp := some ⟨G, 0, none⟩, gc := 1, gs := [(k : Int)], op := some ⟨O, 0, none⟩, oc := 2, os := [colO k, cntO] }
def whoP (p : Px) (O : Nat) : Px := { p with d := false, gp := none, gc := 0, gs := [], op := some ⟨O, 0, none⟩, oc := 1, os := [cntO] }
theorem grp_cells (p : Px) (k G O : Nat) : (grpP p k G O).cells = ((p.cells.set 0 (.bool false)).set 18 (.slice (some ⟨G, 0, none⟩) 1 1)).set 19 (.slice (some ⟨O, 0, none⟩) 2 2) := by
  obtain ⟨d, fp, fc, fs, wp, wc, ws, ⟨k, op, ⟨kl, al, vl, pl, cl, yl⟩, ⟨kr, ar, vr, pr, cr, yr⟩, p, c, ys⟩, gp, gc, gs, op', oc, os⟩ := p
  rfl
theorem who_cells (p : Px) (k G O O2 : Nat) : (whoP p O2).cells = ((grpP p k G O).cells.set 18 (.slice none 0 0)).set 19 (.slice (some ⟨O2, 0, none⟩) 1 1) := by
  obtain ⟨d, fp, fc, fs, wp, wc, ws, ⟨k, op, ⟨kl, al, vl, pl, cl, yl⟩, ⟨kr, ar, vr, pr, cr, yr⟩, p, c, ys⟩, gp, gc, gs, op', oc, os⟩ := p
  rfl
theorem grp_two (p : Px) (k G O O2 : Nat) : TwoG (grpP p k G O) (whoP p O2) k := ⟨rfl, rfl, rfl, rfl, rfl, rfl, rfl, rfl, rfl⟩
theorem sum_take_le : ∀ (L : List Int) (i : Nat), (∀ x ∈ L, 0 ≤ x) → 0 ≤ (L.take i).sum ∧ (L.take i).sum ≤ L.sum
  | [], i, _ => by simp
  | x :: L, 0, h => by
    have ih := sum_take_le L 0 (fun y hy => h y (List.mem_cons_of_mem _ hy))
    have := h x (by simp)
    simp at ih ⊢; omega
  | x :: L, i + 1, h => by
    have ih := sum_take_le L i (fun y hy => h y (List.mem_cons_of_mem _ hy))
    have := h x (by simp)
    simp only [List.take_succ_cons, List.sum_cons]; omega
/-- What is below a world in a law's walk. -/
structure SGb (w w2 W : World) : Prop where
  b2 : Below w2.heap.size w2 W
theorem SGb.below {w w2 W W' : World} (h : SGb w w2 W) (hb : Below W.heap.size W W') : SGb w w2 W' := ⟨below_through hb h.b2.size h.b2⟩
theorem cx_leafK {W : World} {k a : Int} (n : Nat) (hk : 0 ≤ k ∧ k ≤ 1000) (ha : 0 ≤ a ∧ a ≤ 1000) : CxAt W (n + 1) (.mk k a zV none 0 []) :=
  ⟨⟨inI_zV, by omega, by omega, by omega, by omega, Nat.le_refl _, by simp, rowNone12 _ _ _⟩, fun x hx => absurd hx (by simp)⟩
theorem grp_ok {W : World} {n : Nat} {p : Px} {k G O : Nat} (hP : PxOk W (n + 1) p) (hk : k ≤ 1000) (hG : VarB W G [.int .i64 k]) (hO : VarB W O ((colO k).cells ++ cntO.cells)) : PxOk W (n + 1) (grpP p k G O) :=
  { fs := hP.fs, ws := hP.ws, wh := hP.wh, gs := intsI_one hk hG, os := rowC2 (Ox.cells_len _) hO,
    es := fun o ho => by
      simp [grpP] at ho
      rcases ho with rfl | rfl
      · exact ⟨cx_leafK n (by omega) (by omega), by show in64 0; unfold in64; omega⟩
      · exact ⟨cx_leafK n (by omega) (by omega), by show in64 1; unfold in64; omega⟩
    fewF := hP.fewF, fewO := by simp [grpP], capF := hP.capF, capW := hP.capW, capG := by simp [grpP], capO := by simp [grpP], sizeT := hP.sizeT
    sizeC := fun o ho => by
      simp [grpP] at ho
      rcases ho with rfl | rfl
      · simp [colO, sizeC, sizeCL]
      · simp [cntO, zCx, sizeC, sizeCL] }
theorem who_ok {W : World} {n : Nat} {p : Px} {O : Nat} (hP : PxOk W (n + 1) p) (hO : VarB W O cntO.cells) : PxOk W (n + 1) (whoP p O) :=
  { fs := hP.fs, ws := hP.ws, wh := hP.wh, gs := ⟨fun h => absurd rfl h, fun x hx => absurd hx (by simp [whoP]), by simp [whoP]⟩, os := rowC1 (Ox.cells_len _) hO,
    es := fun o ho => by
      simp [whoP] at ho
      obtain rfl := ho
      exact ⟨cx_leafK n (by omega) (by omega), by show in64 1; unfold in64; omega⟩
    fewF := hP.fewF, fewO := by simp [whoP], capF := hP.capF, capW := hP.capW, capG := by simp [whoP], capO := by simp [whoP], sizeT := hP.sizeT
    sizeC := fun o ho => by
      simp [whoP] at ho
      obtain rfl := ho
      simp [cntO, zCx, sizeC, sizeCL] }
/-- A list of elements stays where a slice is laid anew, behind which no number stands. -/
theorem ElemsAt.slc {w : World} {a : Option Addr} {E : List Elem} (h : ElemsAt w a E) {B k n c : Nat} {q : Option Addr} {v : Value} (hu : w.cell? ⟨B, k, none⟩ = some (.slice q n c)) (hx : ∀ j, w.cell? ⟨B, k + 1, none⟩ ≠ some (.int .i64 j)) : ElemsAt (w.setCell ⟨B, k, none⟩ v) a E := by
  have hr : ∀ (a : Option Addr) (r : List Val), RowAt w a r → RowAt (w.setCell ⟨B, k, none⟩ v) a r := fun a r h hn => by
    obtain ⟨b', o, e, hc⟩ := h hn
    exact ⟨b', o, e, fun i hi => ⟨cell_put hu (hc i hi).1 (by simp), cell_put hu (hc i hi).2.1 (by simp), cell_put hu (hc i hi).2.2 (by simp)⟩⟩
  refine ⟨fun hn => ?_, fun e he => ⟨hr _ _ (h.2 e he).1, (h.2 e he).2⟩⟩
  obtain ⟨b', o, e, hc⟩ := h.1 hn
  refine ⟨b', o, e, fun i hi => ⟨?_, cell_put hu (hc i hi).2 (by simp)⟩⟩
  rw [World.cell?_setCell_other _ _ _ _ (by
    intro e2
    have e3 := congrArg Addr.block e2
    have e4 := congrArg Addr.off e2
    simp only at e3 e4
    subst e3
    have := (hc i hi).2
    rw [← e4] at this
    exact hx _ this)]
  exact (hc i hi).1
set_option maxHeartbeats 8000000 in
set_option maxRecDepth 1000000 in
theorem lawPlanGroups {n : Nat} (p : Px) (kk : Int) (a2 : Option Addr) (c2 : Nat) (l : List Nx) (w : World) (hP : PxOk w (n + 1) p) (hL : NsOk w a2 l) (_hkk : in64 kk) :
    Calls Tryz.prog 5 #[p.val, .int .i64 kk, .slice a2 l.length c2] w fun e w' => e = .returned (.bool true) ∧ Below w.heap.size w w' := by
  have h20 := p.cells_len
  have CA := hid0 (fun W => awake12_any W)
  have hvI : ∀ x ∈ l, ∀ e ∈ x.E, ∀ v ∈ e.r, inI v := fun x hx e he v hv => ((hL.ok x hx).1.i e he).1 v hv
  have HV := hid0 hvI
  have HP := hid0 hP
  have HL := hid0 hL
  have hu0 : p.cells[0]? = some (.bool p.d) := rfl
  have hu2 : p.cells[2]? = some (.slice p.wp p.ws.length p.wc) := rfl
  have hu18 : p.cells[18]? = some (.slice p.gp p.gs.length p.gc) := p.c18
  have hu19 : p.cells[19]? = some (.slice p.op p.os.length p.oc) := p.c19
  have hwf := hP.capW
  have hww := hid0 (fun (W : World) (hW : Below w.heap.size w W) => hP.ws.later hW)
  have hwfew := hP.ws.few
  unfold Px.val
  obtain ⟨us, hus⟩ : ∃ us, p.cells = us := ⟨_, rfl⟩
  have HUS := hid0 hus
  rw [hus] at h20 hu0 hu2 hu18 hu19 ⊢
  obtain ⟨ws, hws⟩ : ∃ ws, p.ws = ws := ⟨_, rfl⟩
  have HWS := hid0 hws
  rw [hws] at hu2 hwf hww hwfew
  clear hP hL hvI hus hws
  generalize p.d = pd at hu0
  generalize p.wp = wp at hu2 hww
  have H20 := hid0 h20
  have hS0 : SGr w us (w.alloc (Obj.cells us.toArray 46)) := ⟨VarB.new w us 46, by rw [World.cell?_alloc_new]; simp [h20], (Below.refl _ _).alloc (Nat.le_refl _) _⟩
  obtain ⟨W1, hW1⟩ : ∃ W1, w.alloc (Obj.cells us.toArray 46) = W1 := ⟨_, rfl⟩
  rw [hW1] at hS0
  have HW1 := hid0 hW1
  clear hW1
  go_enter Tryz.func5, Tryz.ntmps5
  go_upto_region 1 with fail
  rw [HW1.out]
  go_wp2
  go_loopw [7, 8] (fun nv iv wr => ∃ (i : Nat) (s : Int), i ≤ ws.length ∧ iv = .int .i64 i ∧ nv = .int .i64 s ∧ Hid (s = sumW (ws.take i)) ∧ 0 ≤ s ∧ s ≤ 8 * i ∧ i ≤ 3 ∧ SGr w us wr) (fun _ iv _ => ws.length - (intOf iv).toNat)
  case atStart => exact ⟨0, 0, Nat.zero_le _, rfl, rfl, hid0 rfl, by omega, by omega, by omega, hS0⟩
  case round =>
    clear hS0 HW1
    obtain ⟨i, s, hi, rfl, rfl, hs, hs0, hs8, hi3, hS⟩ := hrel
    have x2 := hS.v.cell 2 hu2
    by_cases hlt : i < ws.length
    · have hin : (i : Int) < (ws.length : Int) := by omega
      obtain ⟨bw, ow, rfl, hcw⟩ := (hww.out _ hS.b).at_ (by intro e; rw [e] at hlt; exact absurd hlt (by simp))
      have y := hcw i hlt
      have hst : sumW (ws.take (i + 1)) = sumW (ws.take i) + ws[i] := by rw [List.take_succ_eq_append_getElem hlt, sumW_snoc]
      have HST := hid0 hst
      generalize ws[i] = g at y HST
      clear hcw hst
      by_cases hg0 : g < 0
      · have hd1 : decide (g < 0) = true := by simpa using hg0
        go_wp2_with (first | (go_at_call 15; go_must (refine (CA.out _).mono ?_; rintro e w2 ⟨rfl, hb2⟩; (have hS2 := hS.below hb2))) | fail)
        go_ret
        exact ⟨rfl, hS2.b⟩
      have hd1 : decide (g < 0) = false := by simpa using hg0
      by_cases hg8 : 8 < g
      · have hd2 : decide (8 < g) = true := by simpa using hg8
        go_wp2_with (first | (go_at_call 15; go_must (refine (CA.out _).mono ?_; rintro e w2 ⟨rfl, hb2⟩; (have hS2 := hS.below hb2))) | fail)
        go_ret
        exact ⟨rfl, hS2.b⟩
      have hd2 : decide (8 < g) = false := by simpa using hg8
      by_cases hi2 : 3 ≤ i
      · have hd3 : decide ((3 : Int) ≤ (i : Int)) = true := by simp; omega
        have hd4 : decide (3 ≤ i) = true := by simpa using hi2
        go_wp2_with (first | (go_at_call 15; go_must (refine (CA.out _).mono ?_; rintro e w2 ⟨rfl, hb2⟩; (have hS2 := hS.below hb2))) | fail)
        go_ret
        exact ⟨rfl, hS2.b⟩
      have hd3 : decide ((3 : Int) ≤ (i : Int)) = false := by simp; omega
      have hd4 : decide (3 ≤ i) = false := by simpa using hi2
      have hsN : Hid (s + g = sumW (ws.take (i + 1))) := hid0 (by rw [HST.out, hs.out])
      have hwsg : IntKind.i64.wrap (s + g) = s + g := IntWalk.i64_in _ (by omega)
      clear HST hs
      go_wp2
      exact ⟨⟨i + 1, s + g, by omega, by go_num, rfl, hsN, by omega, by omega, by omega, hS⟩, by simp [intOf]; omega⟩
    · obtain rfl : i = ws.length := by omega
      have hie : ¬ (ws.length : Int) < (ws.length : Int) := by omega
      have hsW : Hid (s = sumW ws) := hid0 (by have := hs.out; rwa [List.take_of_length_le (Nat.le_refl _)] at this)
      clear hs hlt hww
      by_cases hz : s = 0
      · subst hz
        go_wp2_with (first | (go_at_call 15; go_must (refine (CA.out _).mono ?_; rintro e w2 ⟨rfl, hb2⟩; (have hS2 := hS.below hb2))) | fail)
        go_ret
        exact ⟨rfl, hS2.b⟩
      have hzb : (s == 0) = false := by simpa using hz
      obtain ⟨ku, hku⟩ : ∃ ku, IntKind.u64.wrap kk = ku := ⟨_, rfl⟩
      have hku0 : 0 ≤ ku := by rw [← hku, show IntKind.u64.wrap kk = kk % 18446744073709551616 from rfl]; omega
      have hsu : IntKind.u64.wrap s = s := by rw [show IntKind.u64.wrap s = s % 18446744073709551616 from rfl]; omega
      obtain ⟨k, hk⟩ : ∃ k : Nat, ku.tmod s = k := ⟨(ku.tmod s).toNat, by have := Int.tmod_nonneg s hku0; omega⟩
      have hks : (k : Int) < s := by rw [← hk]; exact Int.tmod_lt_of_pos _ (by omega)
      have hwk : IntKind.i64.wrap (k : Int) = (k : Int) := IntWalk.i64_in _ (by omega)
      have hwk2 : wrap64 (k : Int) = (k : Int) := (w64g rfl (by omega) (by omega)).2
      go_upto_region 11 with fail
      generalize wr = W5 at hS ⊢
      have a0 := hS.v.cell 0 hu0
      have f0 := hS.v.frz 0 (by omega)
      have a18 := hS.v.cell 18 hu18
      have f18 := hS.v.frz 18 (by omega)
      have hlt5 := hS.v.lt
      clear hzb hsu hwk hwk2 x2
      go_upto_region 12 with fail
      have hS1 := (hS.set 0 (.bool false) (by omega) (by omega)).set 18 (.slice (some ⟨W5.heap.size, 0, none⟩) 1 1) (by rw [List.length_set]; omega) (by omega)
      have hsz5 : W5.heap.size = ((W5.setCell ⟨w.heap.size, 0, none⟩ (.bool false)).setCell ⟨w.heap.size, 18, none⟩ (.slice (some ⟨W5.heap.size, 0, none⟩) 1 1)).heap.size := by simp
      have VG := VarB.newAt ((W5.setCell ⟨w.heap.size, 0, none⟩ (.bool false)).setCell ⟨w.heap.size, 18, none⟩ (.slice (some ⟨W5.heap.size, 0, none⟩) 1 1)) [.int .i64 (k : Int)] 3 hsz5
      have hS2 := hS1.below ((Below.refl _ _).alloc (Nat.le_refl _) (Obj.cells #[.int .i64 (k : Int)] 3))
      clear hsz5 hS1 hS a0 f0 a18 f18
      generalize (((W5.setCell ⟨w.heap.size, 0, none⟩ (.bool false)).setCell ⟨w.heap.size, 18, none⟩ (.slice (some ⟨W5.heap.size, 0, none⟩) 1 1)).alloc (Obj.cells #[.int .i64 (k : Int)] 3)) = W6 at hS2 VG ⊢
      generalize W5.heap.size = G at hS2 VG hlt5 ⊢
      have hv19 : ((us.set 0 (.bool false)).set 18 (.slice (some ⟨G, 0, none⟩) 1 1))[19]? = some (.slice p.op p.os.length p.oc) := by rw [List.getElem?_set_ne (by omega), List.getElem?_set_ne (by omega)]; exact hu19
      have hl1 : ((us.set 0 (.bool false)).set 18 (.slice (some ⟨G, 0, none⟩) 1 1)).length = 20 := by rw [List.length_set, List.length_set]; exact h20
      obtain ⟨us1, hus1⟩ : ∃ us1, (us.set 0 (.bool false)).set 18 (.slice (some ⟨G, 0, none⟩) 1 1) = us1 := ⟨_, rfl⟩
      rw [hus1] at hS2 hv19 hl1
      have HUS1 := hid0 hus1
      clear hus1
      go_upto_region 13 with (first | (go_at_call 19; go_must (refine (col12_any _ _).mono ?_; rintro e w7 ⟨rfl, hb7⟩; (have hS3 := hS2.below hb7); (have VG3 := VG.below hb7); (have a19 := hS3.v.cell 19 hv19); (have f19 := hS3.v.frz 19 (by omega)); (have hlt7 := hS3.v.lt))) | fail)
      have hS4 := hS3.set 19 (.slice (some ⟨w7.heap.size, 0, none⟩) 2 2) (by omega) (by omega)
      have VG4 := VG3.other (b := w.heap.size) (o := 19) [.slice (some ⟨w7.heap.size, 0, none⟩) 2 2] (by omega)
      have VG4 : VarB (w7.setCell ⟨w.heap.size, 19, none⟩ (.slice (some ⟨w7.heap.size, 0, none⟩) 2 2)) G [.int .i64 (k : Int)] := VG4
      have hsz7 : w7.heap.size = (w7.setCell ⟨w.heap.size, 19, none⟩ (.slice (some ⟨w7.heap.size, 0, none⟩) 2 2)).heap.size := by simp
      have VO := VarB.newAt (w7.setCell ⟨w.heap.size, 19, none⟩ (.slice (some ⟨w7.heap.size, 0, none⟩) 2 2)) [.int .i64 0, .int .i64 1, .int .i64 k, .int .i64 0, .int .i64 0, .string ⟨#[]⟩, .slice none 0 0, .string ⟨#[]⟩, .int .i64 0, .int .i64 1, .int .i64 0, .int .i64 0, .int .i64 0, .int .i64 0, .string ⟨#[]⟩, .slice none 0 0, .string ⟨#[]⟩, .int .i64 0] 55 hsz7
      have hbo : Below (w7.setCell ⟨w.heap.size, 19, none⟩ (.slice (some ⟨w7.heap.size, 0, none⟩) 2 2)).heap.size (w7.setCell ⟨w.heap.size, 19, none⟩ (.slice (some ⟨w7.heap.size, 0, none⟩) 2 2)) ((w7.setCell ⟨w.heap.size, 19, none⟩ (.slice (some ⟨w7.heap.size, 0, none⟩) 2 2)).alloc (Obj.cells #[.int .i64 0, .int .i64 1, .int .i64 k, .int .i64 0, .int .i64 0, .string ⟨#[]⟩, .slice none 0 0, .string ⟨#[]⟩, .int .i64 0, .int .i64 1, .int .i64 0, .int .i64 0, .int .i64 0, .int .i64 0, .string ⟨#[]⟩, .slice none 0 0, .string ⟨#[]⟩, .int .i64 0] 55)) := (Below.refl _ _).alloc (Nat.le_refl _) _
      have hS5 := hS4.below hbo
      have VG5 := VG4.below hbo
      clear hsz7 hS4 VG4 hbo hS3 VG3 a19 f19 hS2 VG hb7
      generalize (w7.setCell ⟨w.heap.size, 19, none⟩ (.slice (some ⟨w7.heap.size, 0, none⟩) 2 2)).alloc (Obj.cells #[.int .i64 0, .int .i64 1, .int .i64 k, .int .i64 0, .int .i64 0, .string ⟨#[]⟩, .slice none 0 0, .string ⟨#[]⟩, .int .i64 0, .int .i64 1, .int .i64 0, .int .i64 0, .int .i64 0, .int .i64 0, .string ⟨#[]⟩, .slice none 0 0, .string ⟨#[]⟩, .int .i64 0] 55) = W8 at hS5 VG5 VO ⊢
      generalize w7.heap.size = O at hS5 VO hlt7 ⊢
      have hc1 : (grpP p k G O).cells = us1.set 19 (.slice (some ⟨O, 0, none⟩) 2 2) := by rw [grp_cells, HUS.out, HUS1.out]
      have hP1 : PxOk W8 (n + 1) (grpP p k G O) := grp_ok (HP.out.later hS5.b) (by omega) VG5 VO
      have C1 := rwP_of (c2 := c2) hc1 hP1 (HL.out.later hS5.b)
      have hl2 : (us1.set 19 (.slice (some ⟨O, 0, none⟩) 2 2)).length = 20 := by rw [List.length_set]; exact hl1
      have hv18 : (us1.set 19 (.slice (some ⟨O, 0, none⟩) 2 2))[18]? = some (.slice (some ⟨G, 0, none⟩) 1 1) := by rw [← HUS1.out, List.getElem?_set_ne (by omega), List.getElem?_set_self (by rw [List.length_set]; omega)]
      have hv192 : (us1.set 19 (.slice (some ⟨O, 0, none⟩) 2 2))[19]? = some (.slice (some ⟨O, 0, none⟩) 2 2) := by rw [List.getElem?_set_self (by omega)]
      obtain ⟨us2, hus2⟩ : ∃ us2, us1.set 19 (.slice (some ⟨O, 0, none⟩) 2 2) = us2 := ⟨_, rfl⟩
      rw [hus2] at hS5 C1 hl2 hv18 hv192 hc1
      have HC1 := hid0 hc1
      have HL2 := hid0 hl2
      clear hus2 hc1 hP1 VG5 VO hl1 HUS1 hv19
      have HK := hid0 (fun (O2 : Nat) => groups_law (l := l) HV.out (grp_two p k G O O2) (by show (k : Int) < sumW p.ws; rw [HWS.out, ← hsW.out]; exact hks))
      generalize rowsM l [grpP p k G O] = R1 at C1 HK
      obtain ⟨RA, f⟩ := R1
      have C1 : RwP W8 us2 a2 l.length c2 RA f := C1
      have C1 := hid0 C1
      go_wp2_with (first | ((with_reducible refine wp_getB hS5.v.at_ Tryz.underlying46 ?_ ?_ ?_ ?_); (rfl); (rw [HL2.out]; exact sizePx); (rfl); simp only [Act.put]) | fail)
      rw [fold20Q us2 _ hl2 rfl]
      have hbA : Below W8.heap.size W8 (W8.alloc (Obj.cells us2.toArray 46)) := (Below.refl _ _).alloc (Nat.le_refl _) _
      refine (C1.out.out _ _ (VarB.new W8 us2 46) hbA).mono ?_
      rintro e w9 ⟨⟨a5, c5, E5, rfl, hc5, hE5, hm5⟩, hb9⟩
      have hS6 := hS5.below (below_through hb9 hbA.size hbA)
      clear hb9 hbA C1 hS5
      have Hm5 := hid0 hm5
      have HE5 := hid0 hE5
      clear hm5 hE5
      have b18 := hS6.v.cell 18 hv18
      have g18 := hS6.v.frz 18 (by omega)
      have b19 := hS6.v.cell 19 hv192
      have g19 := hS6.v.frz 19 (by omega)
      have hlt9 := hS6.v.lt
      go_upto_region 15 with fail
      have hS7 := (hS6.set 18 (.slice none 0 0) (by omega) (by omega))
      have b19' : (w9.setCell ⟨w.heap.size, 18, none⟩ (.slice none 0 0)).cell? ⟨w.heap.size, 19, none⟩ = some (.slice (some ⟨O, 0, none⟩) 2 2) := by
        rw [World.cell?_setCell_other _ _ _ _ (by simp)]; exact b19
      have hE6 := (HE5.out.slc (v := .slice none 0 0) b18 (fun j e => by rw [b19] at e; cases e)).slc (v := .slice (some ⟨w9.heap.size, 0, none⟩) 1 1) b19' (fun j e => by rw [hS7.no] at e; cases e)
      have hS8 := hS7.set 19 (.slice (some ⟨w9.heap.size, 0, none⟩) 1 1) (by rw [List.length_set]; omega) (by omega)
      have hsz9 : w9.heap.size = ((w9.setCell ⟨w.heap.size, 18, none⟩ (.slice none 0 0)).setCell ⟨w.heap.size, 19, none⟩ (.slice (some ⟨w9.heap.size, 0, none⟩) 1 1)).heap.size := by simp
      have VO2 := VarB.newAt ((w9.setCell ⟨w.heap.size, 18, none⟩ (.slice none 0 0)).setCell ⟨w.heap.size, 19, none⟩ (.slice (some ⟨w9.heap.size, 0, none⟩) 1 1)) [.int .i64 1, .int .i64 0, .int .i64 0, .int .i64 0, .int .i64 0, .string ⟨#[]⟩, .slice none 0 0, .string ⟨#[]⟩, .int .i64 0] 55 hsz9
      have hbo : Below ((w9.setCell ⟨w.heap.size, 18, none⟩ (.slice none 0 0)).setCell ⟨w.heap.size, 19, none⟩ (.slice (some ⟨w9.heap.size, 0, none⟩) 1 1)).heap.size ((w9.setCell ⟨w.heap.size, 18, none⟩ (.slice none 0 0)).setCell ⟨w.heap.size, 19, none⟩ (.slice (some ⟨w9.heap.size, 0, none⟩) 1 1)) (((w9.setCell ⟨w.heap.size, 18, none⟩ (.slice none 0 0)).setCell ⟨w.heap.size, 19, none⟩ (.slice (some ⟨w9.heap.size, 0, none⟩) 1 1)).alloc (Obj.cells #[.int .i64 1, .int .i64 0, .int .i64 0, .int .i64 0, .int .i64 0, .string ⟨#[]⟩, .slice none 0 0, .string ⟨#[]⟩, .int .i64 0] 55)) := (Below.refl _ _).alloc (Nat.le_refl _) _
      have hS9 := hS8.below hbo
      have hE7 := hid0 (hE6.later hbo)
      clear hsz9 hbo hS8 hS7 hS6 hE6 b18 g18 b19 g19 b19' HE5
      generalize (((w9.setCell ⟨w.heap.size, 18, none⟩ (.slice none 0 0)).setCell ⟨w.heap.size, 19, none⟩ (.slice (some ⟨w9.heap.size, 0, none⟩) 1 1)).alloc (Obj.cells #[.int .i64 1, .int .i64 0, .int .i64 0, .int .i64 0, .int .i64 0, .string ⟨#[]⟩, .slice none 0 0, .string ⟨#[]⟩, .int .i64 0] 55)) = W10 at hS9 hE7 VO2 ⊢
      generalize w9.heap.size = O2 at hS9 VO2 hlt9 ⊢
      have hc2' : (whoP p O2).cells = (us2.set 18 (.slice none 0 0)).set 19 (.slice (some ⟨O2, 0, none⟩) 1 1) := by rw [who_cells p k G O O2, HC1.out]
      have C2 := rwP_of (c2 := c2) hc2' (who_ok (HP.out.later hS9.b) VO2) (HL.out.later hS9.b)
      have hl3 : ((us2.set 18 (.slice none 0 0)).set 19 (.slice (some ⟨O2, 0, none⟩) 1 1)).length = 20 := by rw [List.length_set, List.length_set]; exact hl2
      obtain ⟨us3, hus3⟩ : ∃ us3, (us2.set 18 (.slice none 0 0)).set 19 (.slice (some ⟨O2, 0, none⟩) 1 1) = us3 := ⟨_, rfl⟩
      rw [hus3] at hS9 C2 hl3
      have HL3 := hid0 hl3
      have HKO := HK.out O2
      generalize rowsM l [whoP p O2] = R2 at C2 HKO
      obtain ⟨RB, f2⟩ := R2
      obtain ⟨hff, HKK⟩ := HKO
      have hff : f = f2 := hff
      subst hff
      have C2 : RwP W10 us3 a2 l.length c2 RB f := C2
      have C2 := hid0 C2
      have HKK := hid0 HKK
      clear hus3 hc2' VO2 HK hlt9 HC1
      go_wp2_with (first | ((with_reducible refine wp_getB hS9.v.at_ Tryz.underlying46 ?_ ?_ ?_ ?_); (rfl); (rw [HL3.out]; exact sizePx); (rfl); simp only [Act.put]) | fail)
      rw [fold20Q us3 _ hl3 rfl]
      have hbB : Below W10.heap.size W10 (W10.alloc (Obj.cells us3.toArray 46)) := (Below.refl _ _).alloc (Nat.le_refl _) _
      refine (C2.out.out _ _ (VarB.new W10 us3 46) hbB).mono ?_
      rintro e w11 ⟨⟨a6, c6, E6, rfl, hc6, hE6, hm6⟩, hb11⟩
      have hw11 := below_through hb11 hbB.size hbB
      have hB11 := below_through hw11 hS9.b.size hS9.b
      have HE5 := hid0 (hE7.out.later hw11)
      have HE6 := hid0 hE6
      have Hm6 := hid0 hm6
      clear hE6 hm6 hb11 hbB hw11 hS9 hE7 C2
      by_cases hf : f = 0
      · subst hf
        obtain ⟨hx1, hx2, hx3, t, hx4, hx5⟩ := HKK.out rfl
        have hx1 : ∀ x ∈ RA, x.2 = 1 ∧ x.1.length = 2 ∧ 1 ≤ secN x.1 := hx1
        have hx2 : RB = [([numV ((RA.map fun x => secN x.1).sum)], 1)] := hx2
        have hx3 : RA.length ≤ 2001 := hx3
        have hx4 : (RA.map fun x => secN x.1).sum = t := hx4
        rw [hx4] at hx2
        have hl5 : E5.length ≤ 2001 := by rw [← Hm5.out, List.length_map] at hx3; exact hx3
        have hEt : (E5.map fun e => secN e.r).sum = t := by rw [← hx4, ← Hm5.out, List.map_map]; rfl
        have hEx : ∀ (j : Nat) (hj : j < E5.length), E5[j].n = 1 ∧ E5[j].r.length = 2 ∧ 1 ≤ secN E5[j].r := fun j hj => hx1 (pr E5[j]) (by rw [← Hm5.out]; exact List.mem_map_of_mem (List.getElem_mem hj))
        have hst : ∀ i, 0 ≤ ((E5.take i).map fun e => secN e.r).sum ∧ ((E5.take i).map fun e => secN e.r).sum ≤ t := fun i => by
          have := sum_take_le (E5.map fun e => secN e.r) i (fun x hx => by
            obtain ⟨e, he, rfl⟩ := List.mem_map.1 hx
            obtain ⟨j, hj, rfl⟩ := List.getElem_of_mem he
            have := (hEx j hj).2.2; omega)
          rw [hEt, ← List.map_take] at this
          exact this
        have HEX := hid0 hEx
        have HST := hid0 hst
        have HET := hid0 hEt
        rw [hx2] at Hm6
        clear hx1 hx2 hx3 hx4 HKK hEx hst hEt Hm5
        go_wp2_with fail
        go_loopw [14, 15] (fun sv iv wq => ∃ (i : Nat) (S : Int), i ≤ E5.length ∧ iv = .int .i64 i ∧ sv = .int .i64 S ∧ Hid (S = ((E5.take i).map fun e => secN e.r).sum) ∧ Below w11.heap.size w11 wq) (fun _ iv _ => E5.length - (intOf iv).toNat)
        case atStart => exact ⟨0, 0, Nat.zero_le _, rfl, rfl, hid0 rfl, Below.refl _ _⟩
        case round =>
          obtain ⟨i, S, hi, rfl, rfl, hSm, hBj⟩ := hrel
          have hBjs := hBj.size
          have hs1 := HST.out i
          rw [← hSm.out] at hs1
          by_cases hlt2 : i < E5.length
          · obtain ⟨b5, o5, rfl, hc5'⟩ := (HE5.out.1.later hBj) (by intro e; rw [e] at hlt2; exact absurd hlt2 (by simp))
            obtain ⟨q0, q1⟩ := hc5' i hlt2
            clear hc5'
            obtain ⟨h1n, h2l, h3s⟩ := HEX.out i hlt2
            have hro := (HE5.out.2 _ (List.getElem_mem hlt2)).1.later hBj
            obtain ⟨b6, o6, hea, hcr⟩ := hro (by intro e; rw [e] at h2l; exact absurd h2l (by decide))
            have x1 := (hcr 1 (by omega)).2.1
            have hsec : (E5[i].r[1]'(by omega)).n = secN E5[i].r := by unfold secN; rw [List.getElem?_eq_getElem (by omega)]; rfl
            rw [hsec, Nat.one_mul] at x1
            rw [hea, h2l] at q0
            rw [h1n] at q1
            have hnx : S + secN E5[i].r = ((E5.take (i + 1)).map fun e => secN e.r).sum := by rw [List.take_succ_eq_append_getElem hlt2, List.map_append, List.sum_append, ← hSm.out]; simp
            have hs2 := HST.out (i + 1)
            rw [← hnx] at hs2
            have HNX := hid0 hnx
            clear hcr hro hea hsec hnx h1n h2l hSm
            generalize E5[i].c = ec at q0
            generalize secN E5[i].r = z at x1 h3s hs2 HNX
            have hnd : decide (z < 1) = false := by simp; omega
            have hjn : (i : Int) < (E5.length : Int) := by omega
            have hws : IntKind.i64.wrap (S + z) = S + z := IntWalk.i64_in _ (by omega)
            go_wp2
            exact ⟨⟨i + 1, S + z, by omega, by go_num, rfl, HNX, hBj⟩, by simp [intOf]; omega⟩
          · have hie : ¬ (i : Int) < (E5.length : Int) := by omega
            have hSt : S = t := by rw [hSm.out, List.take_of_length_le (by omega), HET.out]
            subst hSt
            obtain ⟨e6, rfl⟩ : ∃ e6, E6 = [e6] := by
              have := congrArg List.length Hm6.out
              rw [List.length_map] at this
              exact List.length_eq_one_iff.1 this
            have he6 : e6.r = [numV S] := by
              have := Hm6.out
              simp only [List.map_cons, List.map_nil, List.cons.injEq, and_true] at this
              exact congrArg Prod.fst this
            obtain ⟨b7, o7, rfl, hc7⟩ := (HE6.out.1.later hBj) (by simp)
            have q0 := (hc7 0 (by simp)).1
            have hro := (HE6.out.2 _ (List.mem_singleton.2 rfl)).1.later hBj
            obtain ⟨b8, o8, hea, hcr⟩ := hro (by rw [he6]; simp)
            obtain ⟨y0, y1, y2⟩ := hcr 0 (by rw [he6]; simp)
            simp only [he6, List.getElem_cons_zero] at y0 y1 y2
            simp only [List.getElem_cons_zero, Nat.zero_mul, Nat.add_zero] at q0 y0 y1 y2
            rw [hea, he6] at q0
            have q0 : wr.cell? ⟨b7, o7, none⟩ = some (.slice (some ⟨b8, o8, none⟩) 1 e6.c) := q0
            have y0 : wr.cell? ⟨b8, o8, none⟩ = some (.int .i64 1) := y0
            have y1 : wr.cell? ⟨b8, o8 + 1, none⟩ = some (.int .i64 S) := y1
            have y2 : wr.cell? ⟨b8, o8 + 2, none⟩ = some (.string ⟨#[]⟩) := y2
            generalize e6.c = ec at q0
            have hS : SGb w wr wr.drew := ⟨Below.drew (Below.refl _ _)⟩
            clear hc7 hro hcr hea he6 hSm
            go_wp2_with fail
            refine wp_region_held_drew (S := SGb w wr) (by kernel_rfl) hS (fun hHeld => ?_)
            refine wpAnyH_ready (rs := [0]) (by kernel_rfl) (by simp) ?_
            refine AllReadyH.cons rfl (fun K hK => ?_) ?_
            · (try simp only [Act.put, List.setIfInBounds_toArray, List.set_cons_zero, List.set_cons_succ, List.getElem_toArray, List.getElem_cons_zero])
              go_simp
              refine (CA.out _).mono ?_
              rintro e v0 ⟨rfl, hbx⟩
              have hS := hS.below hbx
              clear hbx
              refine hK.out _ _ hS (fun hHeld => ?_)
              clear hK K
              (try simp only [Act.put, List.setIfInBounds_toArray, List.set_cons_zero, List.set_cons_succ, List.getElem_toArray, List.getElem_cons_zero, List.getElem_cons_succ])
              refine wpAnyH_take (i := 1) (v := ?_) rfl (by kernel_rfl) (by kernel_rfl) (by kernel_rfl) (fun _ _ _ h => h) (Or.inl ⟨by rfl, ?_⟩) (by assumption) ?_
              rotate_left
              · (intro wx hSw; have z0 := cell_later hSw.b2 q0; have z1 := cell_later hSw.b2 y0; have z2 := cell_later hSw.b2 y1; have z3 := cell_later hSw.b2 y2; go_simp; (try with_reducible rfl); (try omega))
              (try simp only [Act.put, List.setIfInBounds_toArray, List.set_cons_zero, List.set_cons_succ, List.getElem_toArray, List.getElem_cons_zero, List.getElem_cons_succ])
              refine wpAnyH_take (i := 2) (v := ?_) rfl (by kernel_rfl) (by kernel_rfl) (by kernel_rfl) (fun _ _ _ h => h) (Or.inl ⟨by rfl, ?_⟩) (by assumption) ?_
              rotate_left
              · (intro wx hSw; have z0 := cell_later hSw.b2 q0; have z1 := cell_later hSw.b2 y0; have z2 := cell_later hSw.b2 y1; have z3 := cell_later hSw.b2 y2; go_simp; (try with_reducible rfl); (try omega))
              (try simp only [Act.put, List.setIfInBounds_toArray, List.set_cons_zero, List.set_cons_succ, List.getElem_toArray, List.getElem_cons_zero, List.getElem_cons_succ])
              refine wpAnyH_take (i := 3) (v := ?_) rfl (by kernel_rfl) (by kernel_rfl) (by kernel_rfl) (fun _ _ _ h => h) (Or.inl ⟨by rfl, ?_⟩) (by assumption) ?_
              rotate_left
              · (intro wx hSw; have z0 := cell_later hSw.b2 q0; have z1 := cell_later hSw.b2 y0; have z2 := cell_later hSw.b2 y1; have z3 := cell_later hSw.b2 y2; go_simp; (try with_reducible rfl); (try omega))
              (try simp only [Act.put, List.setIfInBounds_toArray, List.set_cons_zero, List.set_cons_succ, List.getElem_toArray, List.getElem_cons_zero, List.getElem_cons_succ])
              refine wpAnyH_take (i := 4) (v := ?_) rfl (by kernel_rfl) (by kernel_rfl) (by kernel_rfl) (fun _ _ _ h => h) (Or.inl ⟨by rfl, ?_⟩) (by assumption) ?_
              rotate_left
              · (intro wx hSw; have z0 := cell_later hSw.b2 q0; have z1 := cell_later hSw.b2 y0; have z2 := cell_later hSw.b2 y1; have z3 := cell_later hSw.b2 y2; go_simp; (try with_reducible rfl); (try omega))
              (try simp only [Act.put, List.setIfInBounds_toArray, List.set_cons_zero, List.set_cons_succ, List.getElem_toArray, List.getElem_cons_zero, List.getElem_cons_succ])
              refine wpAnyH_take (i := 5) (v := ?_) rfl (by kernel_rfl) (by kernel_rfl) (by kernel_rfl) (fun _ _ _ h => h) (Or.inl ⟨by rfl, ?_⟩) (by assumption) ?_
              rotate_left
              · (intro wx hSw; have z0 := cell_later hSw.b2 q0; have z1 := cell_later hSw.b2 y0; have z2 := cell_later hSw.b2 y1; have z3 := cell_later hSw.b2 y2; go_simp; (try with_reducible rfl); (try omega))
              (try simp only [Act.put, List.setIfInBounds_toArray, List.set_cons_zero, List.set_cons_succ, List.getElem_toArray, List.getElem_cons_zero, List.getElem_cons_succ])
              refine wpAnyH_take (i := 6) (v := ?_) rfl (by kernel_rfl) (by kernel_rfl) (by kernel_rfl) (fun _ _ _ h => h) (Or.inl ⟨by rfl, ?_⟩) (by assumption) ?_
              rotate_left
              · (intro wx hSw; have z0 := cell_later hSw.b2 q0; have z1 := cell_later hSw.b2 y0; have z2 := cell_later hSw.b2 y1; have z3 := cell_later hSw.b2 y2; go_simp; (try with_reducible rfl); (try omega))
              (try simp only [Act.put, List.setIfInBounds_toArray, List.set_cons_zero, List.set_cons_succ, List.getElem_toArray, List.getElem_cons_zero, List.getElem_cons_succ])
              refine wpAnyH_take (i := 7) (v := ?_) rfl (by kernel_rfl) (by kernel_rfl) (by kernel_rfl) (fun _ _ _ h => h) (Or.inl ⟨by rfl, ?_⟩) (by assumption) ?_
              rotate_left
              · (intro wx hSw; have z0 := cell_later hSw.b2 q0; have z1 := cell_later hSw.b2 y0; have z2 := cell_later hSw.b2 y1; have z3 := cell_later hSw.b2 y2; go_simp; (try with_reducible rfl); (try omega))
              (try simp only [Act.put, List.setIfInBounds_toArray, List.set_cons_zero, List.set_cons_succ, List.getElem_toArray, List.getElem_cons_zero, List.getElem_cons_succ])
              refine wpAnyH_take (i := 8) (v := ?_) rfl (by kernel_rfl) (by kernel_rfl) (by kernel_rfl) (fun _ _ _ h => h) (Or.inl ⟨by rfl, ?_⟩) (by assumption) ?_
              rotate_left
              · (intro wx hSw; have z0 := cell_later hSw.b2 q0; have z1 := cell_later hSw.b2 y0; have z2 := cell_later hSw.b2 y1; have z3 := cell_later hSw.b2 y2; go_simp; (try with_reducible rfl); (try omega))
              (try simp only [Act.put, List.setIfInBounds_toArray, List.set_cons_zero, List.set_cons_succ, List.getElem_toArray, List.getElem_cons_zero, List.getElem_cons_succ])
              refine wpAnyH_take (i := 9) (v := ?_) rfl (by kernel_rfl) (by kernel_rfl) (by kernel_rfl) (fun _ _ _ h => h) (Or.inl ⟨by rfl, ?_⟩) (by assumption) ?_
              rotate_left
              · (intro wx hSw; have z0 := cell_later hSw.b2 q0; have z1 := cell_later hSw.b2 y0; have z2 := cell_later hSw.b2 y1; have z3 := cell_later hSw.b2 y2; go_simp; (try with_reducible rfl); (try omega))
              (try simp only [Act.put, List.setIfInBounds_toArray, List.set_cons_zero, List.set_cons_succ, List.getElem_toArray, List.getElem_cons_zero, List.getElem_cons_succ])
              refine wpAnyH_take (i := 10) (v := ?_) rfl (by kernel_rfl) (by kernel_rfl) (by kernel_rfl) (fun _ _ _ h => h) (Or.inl ⟨by rfl, ?_⟩) (by assumption) ?_
              rotate_left
              · (intro wx hSw; have z0 := cell_later hSw.b2 q0; have z1 := cell_later hSw.b2 y0; have z2 := cell_later hSw.b2 y1; have z3 := cell_later hSw.b2 y2; go_simp; (try with_reducible rfl); (try omega))
              (try simp only [Act.put, List.setIfInBounds_toArray, List.set_cons_zero, List.set_cons_succ, List.getElem_toArray, List.getElem_cons_zero, List.getElem_cons_succ])
              refine wpAnyH_take (i := 11) (v := ?_) rfl (by kernel_rfl) (by kernel_rfl) (by kernel_rfl) (fun _ _ _ h => h) (Or.inl ⟨by rfl, ?_⟩) (by assumption) ?_
              rotate_left
              · (intro wx hSw; have z0 := cell_later hSw.b2 q0; have z1 := cell_later hSw.b2 y0; have z2 := cell_later hSw.b2 y1; have z3 := cell_later hSw.b2 y2; go_simp; (try with_reducible rfl); (try omega))
              (try simp only [Act.put, List.setIfInBounds_toArray, List.set_cons_zero, List.set_cons_succ, List.getElem_toArray, List.getElem_cons_zero, List.getElem_cons_succ])
              refine wpAnyH_take (i := 12) (v := ?_) rfl (by kernel_rfl) (by kernel_rfl) (by kernel_rfl) (fun _ _ _ h => h) (Or.inl ⟨by rfl, ?_⟩) (by assumption) ?_
              rotate_left
              · (intro wx hSw; have z0 := cell_later hSw.b2 q0; have z1 := cell_later hSw.b2 y0; have z2 := cell_later hSw.b2 y1; have z3 := cell_later hSw.b2 y2; go_simp; (try with_reducible rfl); (try omega))
              (try simp only [Act.put, List.setIfInBounds_toArray, List.set_cons_zero, List.set_cons_succ, List.getElem_toArray, List.getElem_cons_zero, List.getElem_cons_succ])
              refine wpAnyH_take (i := 13) (v := ?_) rfl (by kernel_rfl) (by kernel_rfl) (by kernel_rfl) (fun _ _ _ h => h) (Or.inl ⟨by rfl, ?_⟩) (by assumption) ?_
              rotate_left
              · (intro wx hSw; have z0 := cell_later hSw.b2 q0; have z1 := cell_later hSw.b2 y0; have z2 := cell_later hSw.b2 y1; have z3 := cell_later hSw.b2 y2; go_simp; (try with_reducible rfl); (try omega))
              (try simp only [Act.put, List.setIfInBounds_toArray, List.set_cons_zero, List.set_cons_succ, List.getElem_toArray, List.getElem_cons_zero, List.getElem_cons_succ])
              refine wpAnyH_ready (rs := [14]) (by kernel_rfl) (by simp) ?_
              refine AllReadyH.cons rfl (fun K hK => ?_) ?_
              · (try simp only [Act.put, List.setIfInBounds_toArray, List.set_cons_zero, List.set_cons_succ, List.getElem_toArray, List.getElem_cons_zero, List.getElem_cons_succ])
                go_simp
                refine (num12_any _ _).mono ?_
                rintro e v14 ⟨rfl, hbx⟩
                have hS := hS.below hbx
                clear hbx
                refine hK.out _ _ hS (fun hHeld => ?_)
                clear hK K
                (try simp only [Act.put, List.setIfInBounds_toArray, List.set_cons_zero, List.set_cons_succ, List.getElem_toArray, List.getElem_cons_zero, List.getElem_cons_succ])
                refine wpAnyH_take (i := 15) (v := ?_) rfl (by kernel_rfl) (by kernel_rfl) (by kernel_rfl) (fun _ _ _ h => h) (Or.inl ⟨by rfl, ?_⟩) (by assumption) ?_
                rotate_left
                · (intro wx hSw; have z0 := cell_later hSw.b2 q0; have z1 := cell_later hSw.b2 y0; have z2 := cell_later hSw.b2 y1; have z3 := cell_later hSw.b2 y2; have z9 := eq12 S wx; go_simp; (try with_reducible rfl); (try omega))
                (try simp only [Act.put, List.setIfInBounds_toArray, List.set_cons_zero, List.set_cons_succ, List.getElem_toArray, List.getElem_cons_zero, List.getElem_cons_succ])
                refine wpAnyH_take (i := 16) (v := ?_) rfl (by kernel_rfl) (by kernel_rfl) (by kernel_rfl) (fun _ _ _ h => h) (Or.inl ⟨by rfl, ?_⟩) (by assumption) ?_
                rotate_left
                · (intro wx hSw; have z0 := cell_later hSw.b2 q0; have z1 := cell_later hSw.b2 y0; have z2 := cell_later hSw.b2 y1; have z3 := cell_later hSw.b2 y2; go_simp; (try with_reducible rfl); (try omega))
                (try simp only [Act.put, List.setIfInBounds_toArray, List.set_cons_zero, List.set_cons_succ, List.getElem_toArray, List.getElem_cons_zero, List.getElem_cons_succ])
                refine wpAnyH_take (i := 17) (v := ?_) rfl (by kernel_rfl) (by kernel_rfl) (by kernel_rfl) (fun _ _ _ h => h) (Or.inl ⟨by rfl, ?_⟩) (by assumption) ?_
                rotate_left
                · (intro wx hSw; have z0 := cell_later hSw.b2 q0; have z1 := cell_later hSw.b2 y0; have z2 := cell_later hSw.b2 y1; have z3 := cell_later hSw.b2 y2; go_simp; (try with_reducible rfl); (try omega))
                (try simp only [Act.put, List.setIfInBounds_toArray, List.set_cons_zero, List.set_cons_succ, List.getElem_toArray, List.getElem_cons_zero, List.getElem_cons_succ])
                refine wpAnyH_done (by kernel_rfl) ?_ _
                have hb := hS.b2
                clear hS hHeld
                go_wp2_with fail
                go_ret
                exact ⟨rfl, below_through (below_through hb hBjs hBj) hB11.size hB11⟩
              exact AllReadyH.nil
            exact AllReadyH.nil
      · have hf0 : (f == 0) = false := by simpa using hf
        go_wp2_with (first | (go_at_call 15; go_must (refine (CA.out _).mono ?_; rintro e wn ⟨rfl, hbn⟩)) | fail)
        go_ret
        exact ⟨ret_bool (by simp), below_through hbn hB11.size hB11⟩
end Go.Proofs.YtjmoegcfgadjiaaGreat
