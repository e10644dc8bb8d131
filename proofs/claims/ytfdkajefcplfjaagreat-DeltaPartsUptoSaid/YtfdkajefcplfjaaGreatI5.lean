/- Several of my texts laid together, each as it was: XQ, XR. Conditions: each names its own. -/
import Derived.Test.YtfdkajefcplfjaaGreatI4
import Derived.Test.YtfdkajefcplfjaaGreatH9
import Derived.Test.YtfdkajefcplfjaaGreatI3
import Derived.Test.YtfdkajefcplfjaaGreatH8
/- What an out tells of a group (plan.out): a contract of the call, in whatever memory. Conditions: the out's and the rows' cells are known; they are not too many; a group of which a row is told has rows. -/
namespace Go.Proofs.YtfdkajefcplfjaaGreat
open Go.RowKit

/-! ### Plainly: what a bag's elements are -/
theorem mem_insB {x : Pair} : ∀ {B : List Pair} {y : Pair}, y ∈ insB x B → (y.1 = x.1 ∨ ∃ z ∈ B, y.1 = z.1)
  | [], y, h => by
    unfold insB at h
    split at h
    · simp at h
    · simp at h; subst h; exact .inl rfl
  | z :: B, y, h => by
    unfold insB at h
    split at h
    · split at h
      · exact .inr ⟨y, h, rfl⟩
      · rcases List.mem_cons.1 h with rfl | h
        · exact .inl rfl
        · exact .inr ⟨y, h, rfl⟩
    · split at h
      · split at h
        · exact .inr ⟨y, by simp [h], rfl⟩
        · rcases List.mem_cons.1 h with rfl | h
          · exact .inr ⟨z, by simp, rfl⟩
          · exact .inr ⟨y, by simp [h], rfl⟩
      · rcases List.mem_cons.1 h with rfl | h
        · exact .inr ⟨y, by simp, rfl⟩
        · rcases mem_insB h with h | ⟨u, hu, h⟩
          · exact .inl h
          · exact .inr ⟨u, by simp [hu], h⟩
theorem mem_ofB : ∀ {L : List Pair} {y : Pair}, y ∈ ofB L → ∃ z ∈ L, y.1 = z.1
  | [], y, h => by simp [ofB] at h
  | x :: L, y, h => by
    have h' : y ∈ insB x (ofB L) := h
    rcases mem_insB h' with h | ⟨u, hu, h⟩
    · exact ⟨x, by simp, h⟩
    · obtain ⟨z, hz, e⟩ := mem_ofB hu
      exact ⟨z, by simp [hz], by rw [h, e]⟩
theorem nonneg_ins {x : Pair} (hx : 0 ≤ x.2) : ∀ {B : List Pair}, (∀ z ∈ B, 0 ≤ z.2) → ∀ y ∈ insB x B, 0 ≤ y.2
  | [], _, y, h => by
    unfold insB at h
    split at h
    · simp at h
    · simp at h; subst h; exact hx
  | z :: B, hB, y, h => by
    have hz := hB z (by simp)
    have hB' : ∀ u ∈ B, 0 ≤ u.2 := fun u hu => hB u (by simp [hu])
    unfold insB at h
    split at h
    · split at h
      · exact hB y h
      · rcases List.mem_cons.1 h with rfl | h
        · exact hx
        · exact hB y h
    · split at h
      · split at h
        · exact hB' y h
        · rcases List.mem_cons.1 h with rfl | h
          · show 0 ≤ x.2 + z.2; omega
          · exact hB' y h
      · rcases List.mem_cons.1 h with rfl | h
        · exact hz
        · exact nonneg_ins hx hB' y h
theorem nonneg_ofB : ∀ {L : List Pair}, (∀ z ∈ L, 0 ≤ z.2) → ∀ y ∈ ofB L, 0 ≤ y.2
  | [], _, y, h => by simp [ofB] at h
  | x :: L, hL, y, h => nonneg_ins (hL x (by simp)) (nonneg_ofB (fun z hz => hL z (by simp [hz]))) y h
theorem sum_ok {w : World} {n : Nat} {x : Cx} {a : Option Addr} {c : Nat} {E E2 : List Elem} (hx : CxAt w n x) (h : GrpOk w a c E) (h2 : E2.map pr = ofB (valsL x (E.map pr))) : SumOk E2 := by
  have hm : ∀ e ∈ E2, ∃ e0 ∈ E, e.r = [(evC e0.r x).1] := fun e he => by
    have h3 : pr e ∈ ofB (valsL x (E.map pr)) := by rw [← h2]; exact List.mem_map_of_mem (f := pr) he
    obtain ⟨z, hz, e1⟩ := mem_ofB h3
    unfold valsL at hz
    obtain ⟨y, hy, e2⟩ := List.mem_filterMap.1 hz
    obtain ⟨e0, he0, rfl⟩ := List.mem_map.1 hy
    split at e2
    · cases e2
    · simp at e2; subst e2; exact ⟨e0, he0, e1⟩
  have hl := congrArg List.length h2
  have hl2 := len_ofB (valsL x (E.map pr))
  have hl3 := len_vals x (E.map pr)
  have ha := absS_ofB (valsL x (E.map pr))
  have ha2 := absS_vals x (E.map pr)
  rw [List.length_map] at hl hl3
  refine ⟨fun e he => ?_, fun e he => ⟨?_, ?_⟩, by have := h.few; omega, by rw [h2]; have := h.all; omega⟩
  · obtain ⟨e0, _, e1⟩ := hm e he
    rw [e1]; simp
  · have h3 : pr e ∈ ofB (valsL x (E.map pr)) := by rw [← h2]; exact List.mem_map_of_mem (f := pr) he
    refine nonneg_ofB (fun z hz => ?_) _ h3
    unfold valsL at hz
    obtain ⟨y, hy, e2⟩ := List.mem_filterMap.1 hz
    obtain ⟨e0, he0, rfl⟩ := List.mem_map.1 hy
    split at e2
    · cases e2
    · simp at e2; subst e2; exact (h.i e0 he0).2.2
  · obtain ⟨e0, he0, e1⟩ := hm e he
    rw [e1]
    have := CxAt.i (h.i e0 he0).1 hx
    exact ⟨this.1, this.2.1⟩
theorem wp_storeO {P : Program} {op : Oper} {a : Act} {w : World} {K : Act → World → Prop} {Q : Exit → Act → World → Prop} (ty : TypeId) (x y : Operand) (ho : op.op = .store ty x y)
    (b o : Nat) (vs : List Value) (hx : a.eval x = .pointer (some ⟨b, o, none⟩)) (hy : a.eval y = .agg vs.toArray)
    (ht : w.there b o vs.length) (hi : (P.info? ty).map (·.size) = some vs.length) (h1 : ∀ v ∈ vs, v.oneCell' = true)
    (h : ∀ w', w' = w.setCells b o vs → K (a.put op.dst undef) w') : op.wp P a w K Q :=
  wp_store_mid ty x y ho b o vs.toArray hx hy (by simpa using ht) (by simpa using hi) (all_oneCell_toArray h1) (by simpa using h _ rfl)
/-- The out's box, the result's block. -/
structure SOut (w : World) (us : List Value) (W : World) : Prop where
  v : VarB W w.heap.size us
  r : ∃ vs : List Value, vs.length = 3 ∧ VarB W (w.heap.size + 1) vs
  b : Below w.heap.size w W
theorem SOut.below {w : World} {us : List Value} {W W' : World} (h : SOut w us W) (hb : Below W.heap.size W W') : SOut w us W' := ⟨h.v.below hb, by obtain ⟨vs, h1, h2⟩ := h.r; exact ⟨vs, h1, h2.below hb⟩, below_through hb h.b.size h.b⟩
structure SOutB (w : World) (us : List Value) (B : Nat) (xs : List Value) (W : World) : Prop extends SOut w us W where
  x : VarB W B xs
  ne : B ≠ w.heap.size + 1
theorem SOutB.below {w : World} {us xs : List Value} {B : Nat} {W W' : World} (h : SOutB w us B xs W) (hb : Below W.heap.size W W') : SOutB w us B xs W' := ⟨h.toSOut.below hb, h.x.below hb, h.ne⟩
theorem Ox.calc_rng {w : World} {b : Nat} {o : Ox} (h : w.rangeAt b 0 o.cells) : w.rangeAt b 1 o.e.cells := o.calc_at w b h
theorem out_0 {o : Ox} (h : o.g = 0) (L : List Pair) : outM o L = evC (headR L) o.e := by unfold outM; rw [if_pos h]
theorem out_1 {o : Ox} (h : o.g = 1) (L : List Pair) : outM o L = (numV (countB L), 0) := by unfold outM; rw [if_neg (by omega), if_pos h]
theorem out_m {o : Ox} (h0 : o.g ≠ 0) (h1 : o.g ≠ 1) (L : List Pair) : outM o L = ((aggM o.g (ofB (valsL o.e L))).1, graverM (errL o.e L) (aggM o.g (ofB (valsL o.e L))).2) := by unfold outM; rw [if_neg h0, if_neg h1]
set_option maxHeartbeats 8000000 in
set_option maxRecDepth 1000000 in
theorem out_any {n : Nat} (o : Ox) (a : Option Addr) (c : Nat) (E : List Elem) (w : World) (hx : CxAt w n o.e) (h : GrpOk w a c E) (hne : o.g = 0 → E ≠ []) :
    Calls Tryz.prog 302 #[.agg o.cells.toArray, .slice a E.length c] w (EvAns (outM o (E.map pr)) w) := by
  have hl := o.cells_len
  have V12 := VarB.two (w := w) o.cells [.int .i64 0, .int .i64 0, .string ⟨#[]⟩] 55 41
  have hB2 := below_two w (Obj.cells o.cells.toArray 55) (Obj.cells #[.int .i64 0, .int .i64 0, .string ⟨#[]⟩] 41)
  have a0 : _ = some (Value.int .i64 o.g) := V12.1.cell 0 rfl
  obtain ⟨R, hR⟩ : ∃ R, outM o (E.map pr) = R := ⟨_, rfl⟩
  have HR0 := hid0 hR
  rw [hR]
  clear hR
  have hes : ∀ {W : World} {b : Nat}, W.rangeAt b 0 o.cells → W.rangeAt b 1 o.e.cells := fun h => Ox.calc_rng h
  have sizeXE : (Tryz.prog.info? 44).map (·.size) = some o.e.cells.length := by rw [Cx.cells_len]; exact sizeX
  by_cases h0 : o.g = 0
  · have hE := hne h0
    have hlen : 0 < E.length := List.length_pos_iff.2 hE
    obtain ⟨b1, o1, rfl, hc1⟩ := h.at_.1 hE
    obtain ⟨q0, q1⟩ := hc1 0 hlen
    simp only [Nat.zero_mul, Nat.add_zero] at q0 q1
    have hmem := List.getElem_mem hlen
    have hrow := h.row hmem
    have CE := hid0 (fun W (hW : Below w.heap.size w W) => eval_any E[0].c (hx.later hW) (hrow.later hW))
    have hRe : R = evC E[0].r o.e := by
      rw [← HR0.out, out_0 h0]
      match E, hlen with
      | e :: E, _ => rfl
    obtain ⟨⟨⟨k, m, s⟩, f⟩, hev⟩ : ∃ r, evC E[0].r o.e = r := ⟨_, rfl⟩
    rw [hev] at CE hRe
    have hRe := hid0 hRe
    have hpos2 : (0 : Int) < (E.length : Int) := by omega
    have hS : SOut w o.cells _ := ⟨V12.1, ⟨_, rfl, V12.2⟩, hB2⟩
    rw [h0] at a0
    clear hne h hx hc1 hev hmem hrow V12 hB2
    unfold Cx.val at CE
    generalize o.cells = us at *
    generalize o.e.cells = es at *
    go_enter Tryz.func302, Tryz.ntmps302
    go_wp2_with fail
    have hS := hS.below (Below.drew (Below.refl _ _))
    clear a0
    refine wp_region_held_drew (S := SOut w us) (by kernel_rfl) hS (fun hHeld => ?_)
    refine wpAnyH_take (i := 0) (v := ?_) rfl (by kernel_rfl) (by kernel_rfl) (by kernel_rfl) (fun _ _ _ h => h) (Or.inl ⟨by rfl, ?_⟩) (by assumption) ?_
    rotate_left
    · (intro wx hSw; have q := cell_later hSw.b q0; go_simp; (try with_reducible rfl); (try omega))
    (try simp only [Act.put, List.setIfInBounds_toArray, List.set_cons_zero, List.set_cons_succ, List.getElem_toArray, List.getElem_cons_zero])
    refine wpAnyH_take (i := 1) (v := .agg es.toArray) rfl (by kernel_rfl) (by kernel_rfl) (by kernel_rfl) (fun _ _ _ h => h) (yieldsIf_load_mid rfl 44 _ rfl w.heap.size (1) rfl es _ (fun w h => hes h.v.at_) Tryz.underlying44 rfl (sizeXE)) (by assumption) ?_
    (try simp only [Act.put, List.setIfInBounds_toArray, List.set_cons_zero, List.set_cons_succ, List.getElem_toArray, List.getElem_cons_zero, List.getElem_cons_succ])
    refine wpAnyH_take (i := 2) (v := ?_) rfl (by kernel_rfl) (by kernel_rfl) (by kernel_rfl) (fun _ _ _ h => h) (Or.inl ⟨by rfl, ?_⟩) (by assumption) ?_
    rotate_left
    · (intro wx hSw; have q := cell_later hSw.b q0; go_simp; (try with_reducible rfl); (try omega))
    (try simp only [Act.put, List.setIfInBounds_toArray, List.set_cons_zero, List.set_cons_succ, List.getElem_toArray, List.getElem_cons_zero, List.getElem_cons_succ])
    refine wpAnyH_take (i := 3) (v := ?_) rfl (by kernel_rfl) (by kernel_rfl) (by kernel_rfl) (fun _ _ _ h => h) (Or.inl ⟨by rfl, ?_⟩) (by assumption) ?_
    rotate_left
    · (intro wx hSw; have q := cell_later hSw.b q0; go_simp; (try with_reducible rfl); (try omega))
    (try simp only [Act.put, List.setIfInBounds_toArray, List.set_cons_zero, List.set_cons_succ, List.getElem_toArray, List.getElem_cons_zero, List.getElem_cons_succ])
    refine wpAnyH_take (i := 4) (v := ?_) rfl (by kernel_rfl) (by kernel_rfl) (by kernel_rfl) (fun _ _ _ h => h) (Or.inl ⟨by rfl, ?_⟩) (by assumption) ?_
    rotate_left
    · (intro wx hSw; have q := cell_later hSw.b q0; go_simp; (try with_reducible rfl); (try omega))
    (try simp only [Act.put, List.setIfInBounds_toArray, List.set_cons_zero, List.set_cons_succ, List.getElem_toArray, List.getElem_cons_zero, List.getElem_cons_succ])
    refine wpAnyH_take (i := 5) (v := ?_) rfl (by kernel_rfl) (by kernel_rfl) (by kernel_rfl) (fun _ _ _ h => h) (Or.inl ⟨by rfl, ?_⟩) (by assumption) ?_
    rotate_left
    · (intro wx hSw; have q := cell_later hSw.b q0; go_simp; (try with_reducible rfl); (try omega))
    (try simp only [Act.put, List.setIfInBounds_toArray, List.set_cons_zero, List.set_cons_succ, List.getElem_toArray, List.getElem_cons_zero, List.getElem_cons_succ])
    refine wpAnyH_ready (rs := [6]) (by kernel_rfl) (by simp) ?_
    refine AllReadyH.cons rfl (fun K hK => ?_) AllReadyH.nil
    go_simp
    refine (CE.out _ hS.b).mono ?_
    rintro e w1 ⟨rfl, hb⟩
    have hS := hS.below hb
    clear hb
    refine hK.out _ _ hS (fun hHeld => ?_)
    clear hK K
    refine wpAnyH_take (i := 7) (v := ?_) rfl (by kernel_rfl) (by kernel_rfl) (by kernel_rfl) (fun _ _ _ h => h) (Or.inl ⟨by rfl, ?_⟩) (by assumption) ?_
    rotate_left
    · (intro wx hSw; have q := cell_later hSw.b q0; go_simp; (try with_reducible rfl); (try omega))
    (try simp only [Act.put, List.setIfInBounds_toArray, List.set_cons_zero, List.set_cons_succ, List.getElem_toArray, List.getElem_cons_zero, List.getElem_cons_succ])
    refine wpAnyH_take (i := 8) (v := ?_) rfl (by kernel_rfl) (by kernel_rfl) (by kernel_rfl) (fun _ _ _ h => h) (Or.inl ⟨by rfl, ?_⟩) (by assumption) ?_
    rotate_left
    · (intro wx hSw; have q := cell_later hSw.b q0; go_simp; (try with_reducible rfl); (try omega))
    (try simp only [Act.put, List.setIfInBounds_toArray, List.set_cons_zero, List.set_cons_succ, List.getElem_toArray, List.getElem_cons_zero, List.getElem_cons_succ])
    refine wpAnyH_ready (rs := [9]) (by kernel_rfl) (by simp) ?_
    refine AllReadyH.cons rfl (fun K hK => ?_) AllReadyH.nil
    (try simp only [Act.put, List.getElem_toArray, List.getElem_cons_zero, List.getElem_cons_succ])
    obtain ⟨vs, hvl, hVs⟩ := hS.r
    refine wp_storeO _ _ _ rfl (w.heap.size + 1) 0 [.int .i64 k, .int .i64 m, .string s] rfl rfl (fun j hj => hVs.there j (by rw [hvl]; simpa using hj)) infoV (by intro v hv; simp at hv; rcases hv with rfl | rfl | rfl <;> rfl) ?_
    intro w2 hWE
    have hVr : VarB w2 (w.heap.size + 1) [.int .i64 k, .int .i64 m, .string s] := by rw [hWE]; exact hVs.puts _ (by rw [hvl]; rfl)
    have hBr : Below w.heap.size w w2 := by rw [hWE]; exact below_setCells _ 0 hS.b (by omega)
    have hS : SOut w us w2 := ⟨by rw [hWE]; exact hS.v.other _ (by omega), ⟨_, rfl, hVr⟩, hBr⟩
    clear hVs hvl hWE vs
    refine hK.out _ _ hS (fun hHeld => ?_)
    clear hK K
    (try simp only [Act.put])
    refine wpAnyH_take (i := 10) (v := ?_) rfl (by kernel_rfl) (by kernel_rfl) (by kernel_rfl) (fun _ _ _ h => h) (Or.inl ⟨by rfl, ?_⟩) (by assumption) ?_
    rotate_left
    · (intro wx hSw; have q := cell_later hSw.b q0; go_simp; (try with_reducible rfl); (try omega))
    (try simp only [Act.put, List.setIfInBounds_toArray, List.set_cons_zero, List.set_cons_succ, List.getElem_toArray, List.getElem_cons_zero, List.getElem_cons_succ])
    refine wpAnyH_done (by kernel_rfl) ?_ _
    clear hS hHeld
    go_wp2_with fail
    exact end_vt hVr rfl rfl rfl _ Tryz.underlying41 rfl infoV rfl (EvAns.of hRe.out hBr)
  have h0' : (o.g == 0) = false := by simpa using h0
  by_cases h1 : o.g = 1
  · have hRe := hid0 (show R = (numV (countB (E.map pr)), 0) by rw [← HR0.out, out_1 h1])
    have CC := hid0 (bagCount_any a c E _ (h.at_.later hB2) h.few h.all)
    have CB := hid0 (fun W => numberP_any (countB (E.map pr)) W)
    generalize countB (E.map pr) = q at *
    have V := V12.2
    rw [h1] at a0
    clear h hx hne V12 hes sizeXE
    generalize o.cells = us at *
    go_enter Tryz.func302, Tryz.ntmps302
    go_wp2_with (first | (go_at_call 157; refine CC.out.mono ?_; rintro e w1 ⟨rfl, hb1⟩; (have V1 := V.below hb1); (have hB1 := below_through hb1 hB2.size hB2)) | (go_at_call 313; refine (CB.out _).mono ?_; rintro e w2 ⟨rfl, hb2⟩; (have V2 := V1.below hb2); (have hB3 := below_through hb2 hB1.size hB1)) | ((with_reducible refine wp_putB (vs := [.int .i64 1, .int .i64 q, .string ⟨#[]⟩]) V2 ?_ ?_ ?_ ?_ ?_ ?_); (intro v hv; simp at hv; rcases hv with rfl | rfl | rfl <;> rfl); (rfl); (exact infoV); (rfl); (rfl); intro w5 hV5 hw5; (have hBc : Below w.heap.size w w5 := by rw [hw5.out]; exact below_setCells _ 0 hB3 (by omega)); clear hw5; simp only [Act.put]) | fail)
    exact end_vt hV5 rfl rfl rfl _ Tryz.underlying41 rfl infoV rfl (EvAns.of hRe.out hBc)
  have h1' : (o.g == 1) = false := by simpa using h1
  have CV := hid0 (fun W (hW : Below w.heap.size w W) => values_any o.e a c E W (hx.later hW) (h.later hW))
  obtain ⟨⟨⟨k2, m2, s2⟩, f2⟩, hag⟩ : ∃ r, aggM o.g (ofB (valsL o.e (E.map pr))) = r := ⟨_, rfl⟩
  have CA := hid0 (fun (W : World) (a' : Option Addr) (c' : Nat) (E' : List Elem) (hE : ElemsAt W a' E') (hm : E'.map pr = ofB (valsL o.e (E.map pr))) => (show Calls Tryz.prog 315 #[.int .i64 o.g, .slice a' E'.length c'] W (EvAns ((⟨k2, m2, s2⟩ : Val), f2) W) by
    have := aggregate_any o.g a' c' E' W hE (sum_ok hx h hm)
    rw [hm, hag] at this
    exact this))
  obtain ⟨er, her⟩ : ∃ er, errL o.e (E.map pr) = er := ⟨_, rfl⟩
  have hRe := hid0 (show R = ((⟨k2, m2, s2⟩ : Val), graverM er f2) by rw [← HR0.out, out_m h0 h1, hag, her])
  rw [her] at CV
  have CG := hid0 (fun W => graver_any er f2 W)
  generalize graverM er f2 = gr at *
  have hlt0 := V12.1.lt
  have VX := V12.1
  have VR := V12.2
  clear h hx hne V12 hag her
  unfold Cx.val at CV
  generalize valsL o.e (E.map pr) = VL at *
  generalize o.cells = us at *
  generalize o.e.cells = es at *
  generalize o.g = g at *
  go_enter Tryz.func302, Tryz.ntmps302
  go_wp2_with (first | ((with_reducible refine wp_getB (hes VX.at_) Tryz.underlying44 ?_ ?_ ?_ ?_); (rfl); (exact sizeXE); (rfl); simp only [Act.put]) | (go_at_call 314; refine (CV.out _ hB2).mono ?_; rintro e w1 ⟨⟨a1, c1, E1, rfl, hE1, hm1⟩, hb1⟩; (have VX1 := VX.below hb1); (have VR1 := VR.below hb1); (have hB3 := below_through hb1 hB2.size hB2); (have a1' := cell_later hb1 a0); (have HM1 := hid0 hm1); clear hm1; (have HE1 := hid0 hE1); clear hE1) | (go_at_call 315; refine (CA.out _ _ _ _ HE1.out HM1.out).mono ?_; rintro e w2 ⟨rfl, hb2⟩; (have VX2 := VX1.below hb2); (have VR2 := VR1.below hb2); (have hB4 := below_through hb2 hB3.size hB3)) | fail)
  have hBs := hid0 VR2.lt
  have hS := (⟨⟨VX2.alloc _, ⟨_, rfl, VR2.alloc _⟩, hB4.alloc hB4.size _⟩, VarB.new w2 [.int .i64 k2, .int .i64 m2, .string s2] 41, by have := hBs.out; omega⟩ : SOutB w us w2.heap.size [.int .i64 k2, .int .i64 m2, .string s2] _).below (Below.drew (Below.refl _ _))
  generalize hBe : w2.heap.size = B at hS ⊢
  clear a0 a1' VX VR VX1 VR1 VX2 VR2 hBe hBs
  refine wp_region_held_drew (S := SOutB w us B [.int .i64 k2, .int .i64 m2, .string s2]) (by kernel_rfl) hS (fun hHeld => ?_)
  refine wpAnyH_take (i := 0) (v := ?_) rfl (by kernel_rfl) (by kernel_rfl) (by kernel_rfl) (fun _ _ _ h => h) (Or.inl ⟨by rfl, ?_⟩) (by assumption) ?_
  rotate_left
  · (intro wx hSw; have hc0 := hSw.x.cell 0 rfl; have hc1 := hSw.x.cell 1 rfl; have hc2 := hSw.x.cell 2 rfl; go_simp; (try with_reducible rfl); (try omega))
  (try simp only [Act.put, List.setIfInBounds_toArray, List.set_cons_zero, List.set_cons_succ, List.getElem_toArray, List.getElem_cons_zero])
  refine wpAnyH_take (i := 1) (v := ?_) rfl (by kernel_rfl) (by kernel_rfl) (by kernel_rfl) (fun _ _ _ h => h) (Or.inl ⟨by rfl, ?_⟩) (by assumption) ?_
  rotate_left
  · (intro wx hSw; have hc0 := hSw.x.cell 0 rfl; have hc1 := hSw.x.cell 1 rfl; have hc2 := hSw.x.cell 2 rfl; go_simp; (try with_reducible rfl); (try omega))
  (try simp only [Act.put, List.setIfInBounds_toArray, List.set_cons_zero, List.set_cons_succ, List.getElem_toArray, List.getElem_cons_zero, List.getElem_cons_succ])
  refine wpAnyH_take (i := 2) (v := ?_) rfl (by kernel_rfl) (by kernel_rfl) (by kernel_rfl) (fun _ _ _ h => h) (Or.inl ⟨by rfl, ?_⟩) (by assumption) ?_
  rotate_left
  · (intro wx hSw; have hc0 := hSw.x.cell 0 rfl; have hc1 := hSw.x.cell 1 rfl; have hc2 := hSw.x.cell 2 rfl; go_simp; (try with_reducible rfl); (try omega))
  (try simp only [Act.put, List.setIfInBounds_toArray, List.set_cons_zero, List.set_cons_succ, List.getElem_toArray, List.getElem_cons_zero, List.getElem_cons_succ])
  refine wpAnyH_ready (rs := [3]) (by kernel_rfl) (by simp) ?_
  refine AllReadyH.cons rfl (fun K hK => ?_) AllReadyH.nil
  go_simp
  refine (CG.out _).mono ?_
  rintro e w1 ⟨rfl, hw⟩
  rw [hw]
  refine hK.out _ _ hS (fun hHeld => ?_)
  clear hK K
  (try simp only [Act.put, List.setIfInBounds_toArray, List.set_cons_zero, List.set_cons_succ, List.getElem_toArray, List.getElem_cons_zero, List.getElem_cons_succ])
  refine wpAnyH_ready (rs := [4]) (by kernel_rfl) (by simp) ?_
  refine AllReadyH.cons rfl (fun K hK => ?_) AllReadyH.nil
  (try simp only [Act.put, List.getElem_toArray, List.getElem_cons_zero, List.getElem_cons_succ])
  obtain ⟨vs, hvl, hVs⟩ := hS.r
  refine wp_storeO _ _ _ rfl (w.heap.size + 1) 0 [.int .i64 k2, .int .i64 m2, .string s2] rfl rfl (fun j hj => hVs.there j (by rw [hvl]; simpa using hj)) infoV (by intro v hv; simp at hv; rcases hv with rfl | rfl | rfl <;> rfl) ?_
  intro w7 hWE
  have hVr : VarB w7 (w.heap.size + 1) [.int .i64 k2, .int .i64 m2, .string s2] := by rw [hWE]; exact hVs.puts _ (by rw [hvl]; rfl)
  have hBr : Below w.heap.size w w7 := by rw [hWE]; exact below_setCells _ 0 hS.b (by omega)
  have hS : SOutB w us B [.int .i64 k2, .int .i64 m2, .string s2] w7 := ⟨⟨by rw [hWE]; exact hS.v.other _ (by omega), ⟨_, rfl, hVr⟩, hBr⟩, by rw [hWE]; exact hS.x.other _ hS.ne, hS.ne⟩
  clear hVs hvl hWE vs
  refine hK.out _ _ hS (fun hHeld => ?_)
  clear hK K
  (try simp only [Act.put])
  refine wpAnyH_take (i := 5) (v := ?_) rfl (by kernel_rfl) (by kernel_rfl) (by kernel_rfl) (fun _ _ _ h => h) (Or.inl ⟨by rfl, ?_⟩) (by assumption) ?_
  rotate_left
  · (intro wx hSw; have hc0 := hSw.x.cell 0 rfl; have hc1 := hSw.x.cell 1 rfl; have hc2 := hSw.x.cell 2 rfl; go_simp; (try with_reducible rfl); (try omega))
  (try simp only [Act.put, List.setIfInBounds_toArray, List.set_cons_zero, List.set_cons_succ, List.getElem_toArray, List.getElem_cons_zero, List.getElem_cons_succ])
  refine wpAnyH_done (by kernel_rfl) ?_ _
  clear hS hHeld
  go_wp2_with fail
  exact end_vt hVr rfl rfl rfl _ Tryz.underlying41 rfl infoV rfl (EvAns.of hRe.out hBr)
end Go.Proofs.YtfdkajefcplfjaaGreat

/- The row that outs tell of a group (plan.toldOf): a contract of the call, in whatever memory. Conditions: the outs' and the rows' cells are known; they are not too many. -/
namespace Go.Proofs.YtfdkajefcplfjaaGreat
open Go.RowKit

theorem row_take {os : List Ox} {i : Nat} (L : List Pair) (h : i < os.length) : rowM (os.take (i + 1)) L = rowM (os.take i) L ++ [(outM os[i] L).1] := by rw [List.take_succ_eq_append_getElem h, rowM_snoc]
theorem errs_take {os : List Ox} {i : Nat} (L : List Pair) (h : i < os.length) : errM (os.take (i + 1)) L = graverM (errM (os.take i) L) (outM os[i] L).2 := by rw [List.take_succ_eq_append_getElem h, errM_snoc]
theorem rowM_len (os : List Ox) (L : List Pair) : (rowM os L).length = os.length := List.length_map _
set_option maxHeartbeats 8000000 in
set_option maxRecDepth 1000000 in
theorem toldOf_any {n : Nat} (op : Option Addr) (oc : Nat) (os : List Ox) (a : Option Addr) (c : Nat) (E : List Elem) (w : World) (hO : OutsAt w op os) (hx : ∀ o ∈ os, CxAt w n o.e) (hfo : os.length ≤ 1000) (h : GrpOk w a c E) (hne : ∀ o ∈ os, o.g = 0 → E ≠ []) :
    Calls Tryz.prog 277 #[.slice op os.length oc, .slice a E.length c] w fun e w' => (∃ a' c', e = .returned (.tuple #[.slice a' (rowM os (E.map pr)).length c', .int .i64 (errM os (E.map pr))]) ∧ ((rowM os (E.map pr)).length ≤ c' ∧ (a' = none → c' = 0)) ∧ Copied w' a' (rowM os (E.map pr))) ∧ Below w.heap.size w w' := by
  obtain ⟨i0, hi, hz0, hz1, hz2⟩ := info_parts info41
  have HO := hid0 hO
  have CO := hid0 (fun (o : Ox) (ho : o ∈ os) (W : World) (hW : Below w.heap.size w W) => out_any o a c E W ((hx o ho).later hW) (h.later hW) (hne o ho))
  clear hO hx h hne
  obtain ⟨L, hL⟩ : ∃ L, E.map pr = L := ⟨_, rfl⟩
  rw [hL] at CO ⊢
  clear hL
  obtain ⟨RE, hRE⟩ : ∃ RE, errM os L = RE := ⟨_, rfl⟩
  have HRE := hid0 hRE
  rw [hRE]
  clear hRE
  go_enter Tryz.func277, Tryz.ntmps277
  go_wp2
  go_loopw [6, 7, 14] (fun rv ev iv wr => ∃ i : Nat, i ≤ os.length ∧ iv = .int .i64 i ∧ ev = .int .i64 (errM (os.take i) L) ∧ Hid (wr.ownsRow w.heap.size 41 3 rv (rowM (os.take i) L).length (rowCells (rowM (os.take i) L))) ∧ Below w.heap.size w wr) (fun _ _ iv _ => os.length - (intOf iv).toNat)
  case atStart => exact ⟨0, Nat.zero_le _, rfl, rfl, hid0 (World.ownsRow_nil _ _ _ _), Below.refl _ _⟩
  case round =>
    obtain ⟨i, hi', rfl, rfl, hown, hB⟩ := hrel
    have hsz := hB.size
    by_cases hlt : i < os.length
    · obtain ⟨b1, o1, rfl, hb1, hR⟩ := (HO.out.later hB).at_ i hlt
      have hmem := List.getElem_mem hlt
      have hrt := row_take L hlt
      have het := errs_take L hlt
      have hl1 := rowM_len (os.take i) L
      rw [List.length_take] at hl1
      obtain ⟨⟨⟨k, m, s⟩, f⟩, hou⟩ : ∃ r, outM os[i] L = r := ⟨_, rfl⟩
      have COx := CO.out _ hmem
      rw [hou] at COx hrt het
      have HRT := hid0 hrt
      have HET := hid0 het
      have hcl := (os[i]).cells_len
      have hone := (os[i]).one
      clear hou hrt het hmem
      have hBA := hB.alloc hsz (Obj.cells #[.int .i64 0, .int .i64 0, .int .i64 0, .int .i64 0, .int .i64 0, .string ⟨#[]⟩, .slice none 0 0, .string ⟨#[]⟩, .int .i64 0] 55)
      have V0 := VarB.new wr [.int .i64 0, .int .i64 0, .int .i64 0, .int .i64 0, .int .i64 0, .string ⟨#[]⟩, .slice none 0 0, .string ⟨#[]⟩, .int .i64 0] 55
      have COx := hid0 COx
      generalize (os[i]).cells = us at hR COx hcl hone
      obtain ⟨er, herr⟩ : ∃ er, errM (os.take i) L = er := ⟨_, rfl⟩
      rw [herr] at HET ⊢
      have CG := hid0 (fun W => graver_any er f W)
      clear herr
      generalize rowM (os.take i) L = r at HRT hl1 hown
      have HV := hid0 (fun (W : World) => (VarB.two (w := W) [.int .i64 k, .int .i64 m, .string s] [.int .i64 k, .int .i64 m, .string s] 41 41).2)
      go_wp2_with (first | ((with_reducible refine wp_getB hR Tryz.underlying55 ?_ ?_ ?_ ?_); (rfl); (rw [hcl]; exact sizeOut); (rfl); simp only [Act.put]) | ((with_reducible refine wp_putB V0 hone ?_ ?_ ?_ ?_ ?_); (exact hcl); (exact sizeOut); (rfl); (rfl); intro w5 hV5 hw5; (have hw5b : Below wr.heap.size wr w5 := by rw [hw5.out]; exact below_setCells _ 0 ((Below.refl _ _).alloc (Nat.le_refl _) _) (Nat.le_refl _)); clear hw5; simp only [Act.put]) | ((with_reducible refine wp_getB hV5.at_ Tryz.underlying55 ?_ ?_ ?_ ?_); (rfl); (rw [hcl]; exact sizeOut); (rfl); simp only [Act.put]) | (go_at_call 302; refine (COx.out _ (below_through hw5b hsz hB)).mono ?_; rintro e w6 ⟨rfl, hb6⟩; (have hb7 := below_through hb6 hw5b.size hw5b)) | (go_at_call 254; refine (CG.out _).mono ?_; rintro e w2 ⟨rfl, hw2⟩; rw [hw2]) | (at_builtin; go_must (refine wpList_append_own _ rfl _ _ 35 rfl w.heap.size 41 i0 (.agg #[.int .i64 0, .int .i64 0, .string ⟨#[]⟩]) 3 32 Tryz.underlying35 hi hz0 hz1 hz2 rfl (by decide) _ _ _ rfl (own_belowY hown.out ((hb7.alloc hb7.size _).alloc (by have := hb7.size; simp; omega) _)) ⟨w6.heap.size + 1, 0, none⟩ 1 1 [.int .i64 k, .int .i64 m, .string s] rfl rfl ?c1 ?c2 ?c3 ?c4 ?c5 ?_)) | fail)
      case c1 => intro j u hj; rw [WideShapes.add_plain]; exact (HV.out w6).at_ j u hj
      case c2 => intro u hu; simp at hu; rcases hu with rfl | rfl | rfl <;> rfl
      case c3 => unfold maxLen; omega
      case c4 => omega
      case c5 => have := hb7.size; simp; omega
      intro v' w9 hown' hgrow _
      have hB9 : Below w.heap.size w w9 := ((((below_through hb7 hsz hB).alloc (by have := hb7.size; omega) _).alloc (by have := hb7.size; simp; omega) _)).grown hgrow (by have := hb7.size; simp; omega) (fun k hk => (hown.out.lt k hk).1)
      have HO' := hid0 hown'
      clear hown' hgrow hown
      go_wp2_with (first | (go_at_call 254; refine (CG.out _).mono ?_; rintro e w2 ⟨rfl, hw2⟩; rw [hw2]) | fail)
      exact ⟨⟨i + 1, by omega, by go_num, by rw [HET.out], hid0 (by rw [HRT.out, List.length_append, rowCells_app, show r.length = i by omega]; exact HO'.out), hB9⟩, by simp [intOf]; omega⟩
    · have hie : ¬ (i : Int) < os.length := by omega
      rw [List.take_of_length_le (by omega)] at hown ⊢
      rw [HRE.out]
      obtain ⟨a', c', rfl, hcc, hcp⟩ := copied_owned hown.out
      have HCP := hid0 hcp
      have HCC := hid0 hcc
      clear hown hcp hcc
      go_wp2
      go_returns
      exact ⟨⟨a', c', rfl, HCC.out, HCP.out⟩, hB⟩
end Go.Proofs.YtfdkajefcplfjaaGreat
