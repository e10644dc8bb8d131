/- Several of my texts laid together, each as it was: D37, Xs, D38, D39. Conditions: each names its own. -/
import Derived.Test.YtfdkajefcplfjaaGreatVE
import Derived.Test.YtfdkajefcplfjaaGreatVI
import Derived.Test.YtfdkajefcplfjaaGreatI1
import Derived.Test.YtfdkajefcplfjaaGreatH8
import Derived.Test.YtfdkajefcplfjaaGreatVH
import Derived.Test.YtfdkajefcplfjaaGreatVC
/- The project's layer 14 (delta): toldOfAll: what all parts tell of their net rows: the contract of the call, in whatever memory. Conditions: the plan's and the names' cells are known; the rows are not too many. -/
namespace Go.Proofs.YtfdkajefcplfjaaGreat
open Go.RowKit

/-- The range's own part. -/
structure STa (w0 : World) (B : Nat) (us : List Value) (w : World) : Prop where
  v : VarB w B us
  b : Below w0.heap.size w0 w
theorem STa.below {w0 : World} {B : Nat} {us : List Value} {w w' : World} (h : STa w0 B us w) (hb : Below w.heap.size w w') : STa w0 B us w' := ⟨h.v.below hb, below_through hb h.b.size h.b⟩
theorem dAll_take {old ch : List Nx} {ps : List Px} {i : Nat} (h : i < ps.length) : dAllL old ch (ps.take (i + 1)) = dAllL old ch (ps.take i) ++ toldR ps[i] (netB old ch ps[i]) ∧ dAllE old ch (ps.take (i + 1)) = graverM (dAllE old ch (ps.take i)) (toldG ps[i] (netB old ch ps[i])) := by
  rw [List.take_succ_eq_append_getElem h, dAllL_snoc, dAllE_snoc]; exact ⟨rfl, rfl⟩
/-- What is known of the parts whose rows are told. -/
structure AllOk (w : World) (n : Nat) (a : Option Addr) (c : Nat) (ps : List Px) (old ch now : List Nx) : Prop where
  pok : PsOk w n a c ps
  net : ∀ p ∈ ps, NetOk w old ch now p.fs
  outs : ∀ p ∈ ps, p.os.length ≤ 1000 ∧ p.fs.length ≤ 1000
  vals : ∀ p ∈ ps, ∀ x ∈ netB old ch p, ∀ v ∈ x.1, inI v
  same : ∀ p ∈ ps, ofB (netR old ch now p.fs p.fs.length) = netB old ch p
  few : ∀ k, absS (dAllL old ch (ps.take k)) ≤ 1000000 ∧ (dAllL old ch (ps.take k)).length ≤ 100000
  net1 : ∀ p ∈ ps, (netB old ch p).length ≤ 100000
set_option maxHeartbeats 16000000 in
set_option maxRecDepth 1000000 in
theorem dToldAll_any {n : Nat} (b1 b2 b3 : Nat) (old ch now : List Nx) (a : Option Addr) (c : Nat) (ps : List Px) (w : World) (h1 : SrcD w b1 old) (h2 : SrcD w b2 ch) (h3 : SrcD w b3 now) (hA : AllOk w n a c ps old ch now) :
    Calls Tryz.prog 58 #[planV a ps.length c, .map (some b1), .map (some b2), .map (some b3)] w fun e w' => (∃ a' c' E', e = .returned (.tuple #[.slice a' E'.length c', .int .i64 (dAllE old ch ps)]) ∧ E'.length ≤ c' ∧ ElemsAt w' a' E' ∧ E'.map pr = (if dAllE old ch ps ≠ 0 then [] else ofB (dAllL old ch ps))) ∧ Below w.heap.size w w' := by
  have hfew := hA.pok.few
  have hcap := hA.pok.cap
  have HA := hid0 hA
  have hB0 : Below w.heap.size w (w.alloc (Obj.cells #[.slice a ps.length c] 24)) := (Below.refl _ _).alloc (Nat.le_refl _) _
  have CN := hid0 (fun (p : Px) (hp : p ∈ ps) (W : World) (hW : Below w.heap.size w W) => (show Calls Tryz.prog 98 #[.slice p.fp p.fs.length p.fc, .map (some b1), .map (some b2), .map (some b3)] W (fun e w' => (∃ a c E, e = .returned (.slice a E.length c) ∧ E.length ≤ c ∧ ElemsAt w' a E ∧ E.map pr = netB old ch p) ∧ Below W.heap.size W w') from by
    have hok := hA.pok.ok p hp
    have := dNet_any b1 b2 b3 old ch now p.fp p.fc p.fs W (h1.later hW) (h2.later hW) (h3.later hW) (hok.fs.later hW) hok.capF (hA.outs p hp).2 ((hA.net p hp).later hW)
    refine this.mono ?_
    rintro e w' ⟨⟨a', c', E', rfl, hc', hE', hm'⟩, hb⟩
    exact ⟨⟨a', c', E', rfl, hc', hE', by rw [hm', hA.same p hp]⟩, hb⟩))
  have CT0 := hid0 (fun (p : Px) (hp : p ∈ ps) (a' : Option Addr) (c' : Nat) (E' : List Elem) (W : World) (hW : Below w.heap.size w W) (hE' : ElemsAt W a' E') (hm' : E'.map pr = netB old ch p) => (show Calls Tryz.prog 97 #[p.val, .slice a' E'.length c'] W (fun e w' => ∃ v M, e = .returned (.tuple #[v, .int .i64 (toldG p (netB old ch p))]) ∧ MkE W w' v M ∧ M.map pr = toldR p (netB old ch p)) from by
    have h5 := hA.net1 p hp
    rw [← hm', List.length_map] at h5
    have := dTold_any p a' c' E' W ((hA.pok.ok p hp).later hW) hE' (fun e he x hx => hA.vals p hp (pr e) (by rw [← hm']; exact List.mem_map_of_mem (f := pr) he) x hx) (hA.outs p hp).1 (by omega)
    rw [hm'] at this
    exact this))
  obtain ⟨RE, hRE⟩ : ∃ RE, dAllE old ch ps = RE := ⟨_, rfl⟩
  have HRE := hid0 hRE
  rw [hRE]
  clear hRE h1 h2 h3 hA
  unfold planV
  generalize hWB : w.alloc (Obj.cells #[.slice a ps.length c] 24) = WB at *
  have V := (show VarB WB w.heap.size [.slice a ps.length c] from by rw [← hWB]; exact VarB.new w _ _)
  have q0 := V.cell 0 rfl
  clear V
  go_enter Tryz.func58, Tryz.ntmps58
  go_wp2_with fail
  go_loopw [10, 11, 19] (fun rv ev iv wr => ∃ (i : Nat) (M : List Elem), i ≤ ps.length ∧ iv = .int .i64 i ∧ ev = .int .i64 (dAllE old ch (ps.take i)) ∧ MkE WB wr rv M ∧ Hid (M.map pr = dAllL old ch (ps.take i))) (fun _ _ iv _ => ps.length - (intOf iv).toNat)
  case atStart => exact ⟨0, [], Nat.zero_le _, rfl, rfl, MkE.nil WB, hid0 rfl⟩
  case round =>
    clear q0
    obtain ⟨i, M, hi, rfl, rfl, hM, hT⟩ := hrel
    have hB := below_through hM.b hB0.size hB0
    have hsz := hM.b.size
    by_cases hlt : i < ps.length
    · have hlt' : (i : Int) < (ps.length : Int) := by omega
      have hmem := List.getElem_mem hlt
      obtain ⟨bp, op, rfl, hbp, hR⟩ := HA.out.pok.part i hlt
      have hRx := rangeAt_blk hR (hB.block bp hbp)
      have hpl := (ps[i]).cells_len
      have hone := (ps[i]).one
      have h1c := hid0 (ps[i]).c1
      have CNx := CN.out _ hmem
      have CTx := CT0.out _ hmem
      obtain ⟨HT1, HT2⟩ := dAll_take (old := old) (ch := ch) hlt
      have hfk := HA.out.few (i + 1)
      rw [HT1, List.length_append, ← hT.out, List.length_map] at hfk
      unfold Px.val at CTx
      generalize (ps[i]).cells = us at hRx hpl hone h1c CTx
      generalize toldR ps[i] (netB old ch ps[i]) = TR at CTx HT1 hfk
      generalize toldG ps[i] (netB old ch ps[i]) = TG at CTx HT2
      generalize netB old ch ps[i] = NB at CNx CTx
      generalize (ps[i]).fs.length = fl at h1c CNx
      generalize (ps[i]).fp = fp at h1c CNx
      generalize (ps[i]).fc = fc at h1c CNx
      have CNx := hid0 (fun (W : World) (hW : Below WB.heap.size WB W) => CNx W (below_through hW hB0.size hB0))
      have CT := hid0 (fun (a' : Option Addr) (c' : Nat) (E' : List Elem) (W : World) (hW : Below WB.heap.size WB W) => CTx a' c' E' W (below_through hW hB0.size hB0))
      have HT1 := hid0 HT1
      have HT2 := hid0 HT2
      obtain ⟨er, herr⟩ : ∃ er, dAllE old ch (ps.take i) = er := ⟨_, rfl⟩
      rw [herr] at HT2 ⊢
      have CG := hid0 (fun W => dGraver_any er TG W)
      have hfl := hid0 (show (M.length + TR.length) * 32 ≤ 140737488355328 by omega)
      have V0 : VarB (wr.alloc (Obj.cells #[.bool false, .slice none 0 0, .slice none 0 0, .int .i64 0, .int .i64 0, .int .i64 0, .int .i64 0, .int .i64 0, .int .i64 0, .string ⟨#[]⟩, .slice none 0 0, .int .i64 0, .int .i64 0, .int .i64 0, .int .i64 0, .string ⟨#[]⟩, .slice none 0 0, .slice none 0 0, .slice none 0 0, .slice none 0 0] 50)) wr.heap.size zPx := VarB.new wr zPx 50
      have HM := hid0 hM
      clear herr hfk hmem hR hM hB CTx
      go_wp2_with (first | ((with_reducible refine wp_getB hRx Tryz.underlying50 ?_ ?_ ?_ ?_); (rfl); (rw [hpl]; exact sizePx); (rfl); simp only [Act.put]) | ((with_reducible refine wp_putB V0 hone ?_ ?_ ?_ ?_ ?_); (exact hpl); (exact sizePx); (rfl); (rfl); intro w5 hV5 hw5; (have hb5 : Below wr.heap.size wr w5 := by rw [hw5.out]; exact below_setCells _ 0 ((Below.refl _ _).alloc (Nat.le_refl _) _) (Nat.le_refl _)); clear hw5 V0; simp only [Act.put]) | fail)
      have hM5 := HM.out.below hb5
      have CN5 := hid0 (fun (W : World) (hW : Below w5.heap.size w5 W) => CNx.out W (below_through hW hM5.b.size hM5.b))
      have CT5 := hid0 (fun (a' : Option Addr) (c' : Nat) (E' : List Elem) (W : World) (hW : Below w5.heap.size w5 W) => CT.out a' c' E' W (below_through hW hM5.b.size hM5.b))
      have hS : STa w5 wr.heap.size us w5.drew := ⟨hV5.drew, Below.drew (Below.refl _ _)⟩
      have HM5 := hid0 hM5
      clear hV5 hM5 hb5 hRx CNx CT HM
      refine wp_region_held_drew (S := STa w5 wr.heap.size us) (by kernel_rfl) hS (fun hHeld => ?_)
      refine wpAnyH_take (i := 0) (v := .agg us.toArray) rfl (by kernel_rfl) (by kernel_rfl) (by kernel_rfl) (fun _ _ _ h => h) (yieldsIf_load_mid rfl 50 _ rfl wr.heap.size (0) rfl us _ (fun w h => h.v.at_) Tryz.underlying50 rfl (by rw [hpl]; exact sizePx)) (by assumption) ?_
      (try simp only [Act.put, List.setIfInBounds_toArray, List.set_cons_zero, List.set_cons_succ, List.getElem_toArray, List.getElem_cons_zero])
      refine wpAnyH_take (i := 1) (v := ?_) rfl (by kernel_rfl) (by kernel_rfl) (by kernel_rfl) (fun _ _ _ h => h) (Or.inl ⟨by rfl, ?_⟩) (by assumption) ?_
      rotate_left
      · (intro wx hSw; have q1 := hSw.v.cell 1 h1c.out; go_simp; (try with_reducible rfl); (try omega))
      (try simp only [Act.put, List.setIfInBounds_toArray, List.set_cons_zero, List.set_cons_succ, List.getElem_toArray, List.getElem_cons_zero, List.getElem_cons_succ])
      refine wpAnyH_take (i := 2) (v := ?_) rfl (by kernel_rfl) (by kernel_rfl) (by kernel_rfl) (fun _ _ _ h => h) (Or.inl ⟨by rfl, ?_⟩) (by assumption) ?_
      rotate_left
      · (intro wx hSw; have q1 := hSw.v.cell 1 h1c.out; go_simp; (try with_reducible rfl); (try omega))
      (try simp only [Act.put, List.setIfInBounds_toArray, List.set_cons_zero, List.set_cons_succ, List.getElem_toArray, List.getElem_cons_zero, List.getElem_cons_succ])
      refine wpAnyH_take (i := 3) (v := ?_) rfl (by kernel_rfl) (by kernel_rfl) (by kernel_rfl) (fun _ _ _ h => h) (Or.inl ⟨by rfl, ?_⟩) (by assumption) ?_
      rotate_left
      · (intro wx hSw; have q1 := hSw.v.cell 1 h1c.out; go_simp; (try with_reducible rfl); (try omega))
      (try simp only [Act.put, List.setIfInBounds_toArray, List.set_cons_zero, List.set_cons_succ, List.getElem_toArray, List.getElem_cons_zero, List.getElem_cons_succ])
      refine wpAnyH_take (i := 4) (v := ?_) rfl (by kernel_rfl) (by kernel_rfl) (by kernel_rfl) (fun _ _ _ h => h) (Or.inl ⟨by rfl, ?_⟩) (by assumption) ?_
      rotate_left
      · (intro wx hSw; have q1 := hSw.v.cell 1 h1c.out; go_simp; (try with_reducible rfl); (try omega))
      (try simp only [Act.put, List.setIfInBounds_toArray, List.set_cons_zero, List.set_cons_succ, List.getElem_toArray, List.getElem_cons_zero, List.getElem_cons_succ])
      refine wpAnyH_take (i := 5) (v := ?_) rfl (by kernel_rfl) (by kernel_rfl) (by kernel_rfl) (fun _ _ _ h => h) (Or.inl ⟨by rfl, ?_⟩) (by assumption) ?_
      rotate_left
      · (intro wx hSw; have q1 := hSw.v.cell 1 h1c.out; go_simp; (try with_reducible rfl); (try omega))
      (try simp only [Act.put, List.setIfInBounds_toArray, List.set_cons_zero, List.set_cons_succ, List.getElem_toArray, List.getElem_cons_zero, List.getElem_cons_succ])
      refine wpAnyH_ready (rs := [6]) (by kernel_rfl) (by simp) ?_
      refine AllReadyH.cons rfl (fun K hK => ?_) AllReadyH.nil
      go_simp
      refine (CN5.out _ hS.b).mono ?_
      rintro e W1 ⟨⟨a6, c6, E6, rfl, hc6, hE6, hm6⟩, hb6⟩
      have hS := hS.below hb6
      have CTx := CT5.out a6 c6 E6 W1 hS.b hE6 hm6
      clear hb6 hE6 hc6
      refine hK.out _ _ hS (fun hHeld => ?_)
      clear hK K
      (try simp only [Act.put, List.setIfInBounds_toArray, List.set_cons_zero, List.set_cons_succ, List.getElem_toArray, List.getElem_cons_zero, List.getElem_cons_succ])
      refine wpAnyH_ready (rs := [7]) (by kernel_rfl) (by simp) ?_
      refine AllReadyH.cons rfl (fun K hK => ?_) AllReadyH.nil
      go_simp
      refine CTx.mono ?_
      rintro e W2 ⟨v7, M7, rfl, hM7, hm7⟩
      have hS := hS.below hM7.b
      refine hK.out _ _ hS (fun hHeld => ?_)
      clear hK K
      (try simp only [Act.put, List.setIfInBounds_toArray, List.set_cons_zero, List.set_cons_succ, List.getElem_toArray, List.getElem_cons_zero, List.getElem_cons_succ])
      refine wpAnyH_take (i := 8) (v := ?_) rfl (by kernel_rfl) (by kernel_rfl) (by kernel_rfl) (fun _ _ _ h => h) (Or.inl ⟨by rfl, ?_⟩) (by assumption) ?_
      rotate_left
      · (intro wx hSw; have q1 := hSw.v.cell 1 h1c.out; go_simp; (try with_reducible rfl); (try omega))
      (try simp only [Act.put, List.setIfInBounds_toArray, List.set_cons_zero, List.set_cons_succ, List.getElem_toArray, List.getElem_cons_zero, List.getElem_cons_succ])
      refine wpAnyH_take (i := 9) (v := ?_) rfl (by kernel_rfl) (by kernel_rfl) (by kernel_rfl) (fun _ _ _ h => h) (Or.inl ⟨by rfl, ?_⟩) (by assumption) ?_
      rotate_left
      · (intro wx hSw; have q1 := hSw.v.cell 1 h1c.out; go_simp; (try with_reducible rfl); (try omega))
      (try simp only [Act.put, List.setIfInBounds_toArray, List.set_cons_zero, List.set_cons_succ, List.getElem_toArray, List.getElem_cons_zero, List.getElem_cons_succ])
      refine wpAnyH_take (i := 10) (v := ?_) rfl (by kernel_rfl) (by kernel_rfl) (by kernel_rfl) (fun _ _ _ h => h) (Or.inl ⟨by rfl, ?_⟩) (by assumption) ?_
      rotate_left
      · (intro wx hSw; have q1 := hSw.v.cell 1 h1c.out; go_simp; (try with_reducible rfl); (try omega))
      (try simp only [Act.put, List.setIfInBounds_toArray, List.set_cons_zero, List.set_cons_succ, List.getElem_toArray, List.getElem_cons_zero, List.getElem_cons_succ])
      refine wpAnyH_take (i := 11) (v := ?_) rfl (by kernel_rfl) (by kernel_rfl) (by kernel_rfl) (fun _ _ _ h => h) (Or.inl ⟨by rfl, ?_⟩) (by assumption) ?_
      rotate_left
      · (intro wx hSw; have q1 := hSw.v.cell 1 h1c.out; go_simp; (try with_reducible rfl); (try omega))
      (try simp only [Act.put, List.setIfInBounds_toArray, List.set_cons_zero, List.set_cons_succ, List.getElem_toArray, List.getElem_cons_zero, List.getElem_cons_succ])
      refine wpAnyH_take (i := 12) (v := ?_) rfl (by kernel_rfl) (by kernel_rfl) (by kernel_rfl) (fun _ _ _ h => h) (Or.inl ⟨by rfl, ?_⟩) (by assumption) ?_
      rotate_left
      · (intro wx hSw; have q1 := hSw.v.cell 1 h1c.out; go_simp; (try with_reducible rfl); (try omega))
      (try simp only [Act.put, List.setIfInBounds_toArray, List.set_cons_zero, List.set_cons_succ, List.getElem_toArray, List.getElem_cons_zero, List.getElem_cons_succ])
      refine wpAnyH_done (by kernel_rfl) ?_ _
      have hMx := hid0 (HM5.out.below hS.b)
      have hM7' := hid0 hM7
      have Hm7 := hid0 hm7
      have hl7 := hid0 (show (M.length + M7.length) * 32 ≤ 140737488355328 by
        have h8 := congrArg List.length hm7
        rw [List.length_map] at h8
        have := hfl.out
        omega)
      clear hS hM7 hm7
      go_wp2_with (first | (at_builtin; refine wp_meL rfl _ _ rfl rfl rfl hMx.out hM7'.out hl7.out ?_; intro v8 w8 hM8) | (go_at_call 99; refine (CG.out _).mono ?_; rintro e w9 ⟨rfl, hw9⟩; subst hw9) | fail)
      exact ⟨⟨i + 1, M ++ M7, by omega, by go_num, by rw [HT2.out], hM8, hid0 (by rw [List.map_append, hT.out, Hm7.out, HT1.out])⟩, by simp [intOf]; omega⟩
    · have hie : ¬ (i : Int) < (ps.length : Int) := by omega
      rw [List.take_of_length_le (by omega)] at hT ⊢
      rw [HRE.out]
      have hf := HA.out.few ps.length
      rw [List.take_of_length_le (Nat.le_refl _), ← hT.out, List.length_map] at hf
      obtain ⟨a5, c5, rfl, hc5, hE5⟩ := hM.elems
      have CO := bagOf_any a5 c5 M wr hE5 hc5 (by omega) (by omega)
      rw [hT.out] at CO
      have CO := hid0 CO
      have HBB := hid0 hB
      clear hM hE5 hf hB
      by_cases h0 : RE = 0
      · have g0 : (RE != 0) = false := by simpa using h0
        have H0 := hid0 h0
        clear h0
        go_wp2_with (first | (go_at_call 47; go_must (refine CO.out.mono ?_; rintro e w9 ⟨⟨a9, c9, E9, rfl, hc9, hE9, hm9⟩, hb9⟩)) | fail)
        go_returns
        exact ⟨⟨a9, c9, E9, by rw [H0.out]; rfl, hc9, hE9, hm9⟩, below_through hb9 HBB.out.size HBB.out⟩
      · have g0 : (RE != 0) = true := by simpa using h0
        have H0 := hid0 h0
        clear h0
        go_wp2_with fail
        go_returns
        exact ⟨⟨none, 0, [], rfl, Nat.le_refl _, ElemsAt.nil _ _, rfl⟩, HBB.out⟩
end Go.Proofs.YtfdkajefcplfjaaGreat

/- Ready: the contract of the call. Conditions: the plan's and the names' cells are known. -/
namespace Go.Proofs.YtfdkajefcplfjaaGreat
open Go.RowKit

set_option maxRecDepth 100000 in
set_option maxHeartbeats 4000000 in
theorem planReady_any {n : Nat} (a : Option Addr) (c : Nat) (ps : List Px) (a2 : Option Addr) (c2 : Nat) (l : List Nx) (w : World) (hP : PsOk w n a c ps) (hL : NsOk w a2 l) :
    Calls Tryz.prog 42 #[planV a ps.length c, .slice a2 l.length c2] w fun e w' => e = .returned (.int .i64 (readyE l ps)) ∧ Below w.heap.size w w' := by
  have hS := (⟨VarB.new w [.slice a ps.length c] 24, (Below.refl _ _).alloc (Nat.le_refl _) _⟩ : SPlan w w.heap.size [.slice a ps.length c] _).below (Below.drew (Below.refl _ _))
  unfold planV
  go_enter Tryz.func42, Tryz.ntmps42
  go_wp2_with fail
  refine wp_region_held_drew (S := SPlan w w.heap.size [.slice a ps.length c]) (by kernel_rfl) hS (fun hHeld => ?_)
  refine wpAnyH_take (i := 0) (v := ?_) rfl (by kernel_rfl) (by kernel_rfl) (by kernel_rfl) (fun _ _ _ h => h) (Or.inl ⟨by rfl, ?_⟩) (by assumption) ?_
  rotate_left
  · (intro wx hSw; go_simp; (try with_reducible rfl); (try omega))
  (try simp only [Act.put, List.setIfInBounds_toArray, List.set_cons_zero, List.set_cons_succ, List.getElem_toArray, List.getElem_cons_zero])
  refine wpAnyH_take (i := 2) (v := .agg [.slice a ps.length c].toArray) rfl (by kernel_rfl) (by kernel_rfl) (by kernel_rfl) (fun _ _ _ h => h) (yieldsIf_load_mid rfl 24 _ rfl w.heap.size (0) rfl [.slice a ps.length c] _ (fun w h => h.v.at_) Tryz.underlying24 rfl (sizePlan)) (by assumption) ?_
  (try simp only [Act.put, List.setIfInBounds_toArray, List.set_cons_zero, List.set_cons_succ, List.getElem_toArray, List.getElem_cons_zero, List.getElem_cons_succ])
  refine wpAnyH_ready (rs := [1]) (by kernel_rfl) (by simp) ?_
  refine AllReadyH.cons rfl (fun K hK => ?_) AllReadyH.nil
  go_simp
  refine (there_any _ _ _ _ (hL.later hS.b)).mono ?_
  rintro e W3 ⟨⟨b, rfl, hT⟩, hb⟩
  have hS := hS.below hb
  clear hb
  refine hK.out _ _ hS (fun hHeld => ?_)
  clear hK K
  (try simp only [Act.put, List.setIfInBounds_toArray, List.set_cons_zero, List.set_cons_succ, List.getElem_toArray, List.getElem_cons_zero, List.getElem_cons_succ])
  refine wpAnyH_ready (rs := [3]) (by kernel_rfl) (by simp) ?_
  refine AllReadyH.cons rfl (fun K hK => ?_) AllReadyH.nil
  go_simp
  refine (ready_any _ _ _ _ _ _ hT (fun x hx => ((hL.ok x hx).1.later hS.b)) (hP.later hS.b)).mono ?_
  rintro e W4 ⟨rfl, hb⟩
  have hS := hS.below hb
  clear hb
  refine hK.out _ _ hS (fun hHeld => ?_)
  clear hK K
  (try simp only [Act.put, List.setIfInBounds_toArray, List.set_cons_zero, List.set_cons_succ, List.getElem_toArray, List.getElem_cons_zero, List.getElem_cons_succ])
  refine wpAnyH_take (i := 4) (v := ?_) rfl (by kernel_rfl) (by kernel_rfl) (by kernel_rfl) (fun _ _ _ h => h) (Or.inl ⟨by rfl, ?_⟩) (by assumption) ?_
  rotate_left
  · (intro wx hSw; go_simp; (try with_reducible rfl); (try omega))
  (try simp only [Act.put, List.setIfInBounds_toArray, List.set_cons_zero, List.set_cons_succ, List.getElem_toArray, List.getElem_cons_zero, List.getElem_cons_succ])
  refine wpAnyH_done (by kernel_rfl) ?_ _
  have hb := hS.b
  clear hS hHeld
  go_wp2_with fail
  go_ret
  exact ⟨rfl, hb⟩
end Go.Proofs.YtfdkajefcplfjaaGreat

/- The project's layer 14 (delta): what Rows tells of any plan: the contract of the call, in whatever memory. Conditions: the plan's and the names' cells are known; at most 400000 rows in a list that came in. -/
namespace Go.Proofs.YtfdkajefcplfjaaGreat
open Go.RowKit

/-! ### Plainly: what is read isn't too much -/
theorem bag_few {l : List Nx} (hl : ∀ x ∈ l, x.E.length ≤ 400000) (s : List UInt8) : (bagN l s).length ≤ 400000 := by
  unfold bagN
  cases hf : findN l s with
  | some x => rw [List.length_map]; exact hl x (findN_mem hf)
  | none => simp
theorem plain_n {E : List Elem} (h : plainE E = true) : ∀ y ∈ E.map pr, abI y.2 ≤ maxMany := by
  unfold plainE at h
  simp only [Bool.and_eq_true] at h
  exact fun y hy => (right_n h.1 y hy).2
theorem old_n {l : List Nx} {p : Px} (h : NamesOk l p) {s : ByteArray} (hs : s ∈ p.fs) : ∀ y ∈ bagN l s.data.toList, abI y.2 ≤ maxMany := fun y hy => by
  obtain ⟨x, hx, hp, _⟩ := h.ok s hs
  unfold bagN at hy
  rw [hx] at hy
  exact plain_n hp y hy
theorem names_mem {ps : List Px} {s : ByteArray} (h : s ∈ namesF ps) : ∃ p ∈ ps, s ∈ p.fs := List.mem_flatMap.1 h
theorem fewN_of {old ch : List Nx} {ps : List Px} (ho : readyE old ps = 0) (hc : wrongB ch = false) (lo : ∀ x ∈ old, x.E.length ≤ 400000) (lc : ∀ x ∈ ch, x.E.length ≤ 400000) : ∀ s ∈ namesF ps, FewN old ch s := fun s hs => by
  obtain ⟨p, hp, hsp⟩ := names_mem hs
  have h1 := bag_few lo s.data.toList
  have h2 := bag_few lc s.data.toList
  have h3 := absS_bound (k := maxMany) (old_n (ready_names ho p hp) hsp)
  have h4 := absS_bound (k := maxMany) (fun y hy => ((wrong_at hc s.data.toList).2 y hy).2)
  refine ⟨h1, h2, ?_⟩
  unfold maxMany at h3 h4
  omega
theorem names_few {old : List Nx} {ps : List Px} (ho : readyE old ps = 0) : (namesF ps).length ≤ 12 := by
  have h4 := plan_few ho
  have h : ∀ l : List Px, (∀ p ∈ l, p.fs.length ≤ 3) → (namesF l).length ≤ 3 * l.length := by
    intro l
    induction l with
    | nil => intro _; simp [namesF]
    | cons p l ih =>
      intro h
      have h1 := h p (by simp)
      have h2 := ih (fun q hq => h q (by simp [hq]))
      have e : namesF (p :: l) = p.fs ++ namesF l := rfl
      rw [e, List.length_append, List.length_cons]
      omega
  have := h ps (fun p hp => (ready_names ho p hp).few)
  omega
/-! ### What lies there -/
theorem bx_mem {l : List Nx} {s : List UInt8} {e : Elem} (h : e ∈ (bxD l s).E) : ∃ x ∈ l, e ∈ x.E := by
  unfold bxD at h
  cases hf : findN l s with
  | some x => rw [hf] at h; exact ⟨x, findN_mem hf, h⟩
  | none => rw [hf] at h; exact absurd h (by simp)
theorem bx_at {w : World} {l : List Nx} (h : ∀ x ∈ l, ElemsI w x.a x.c x.E) (s : List UInt8) : ElemsAt w (bxD l s).a (bxD l s).E := by
  unfold bxD
  cases hf : findN l s with
  | some x => exact (h x (findN_mem hf)).at_
  | none => exact ElemsAt.nil _ _
theorem row_z {w : World} {a : Option Addr} {E : List Elem} (h : ElemsAt w a E) (hr : ∀ y ∈ E.map pr, 1 ≤ y.1.length) : ∀ e ∈ E, e.a = none → e.c = 0 := fun e he hn => by
  have h1 := hr (pr e) (List.mem_map_of_mem (f := pr) he)
  obtain ⟨b, o, e2, _⟩ := (h.2 e he).1 (fun e3 => by
    have e4 : (pr e).1 = e.r := rfl
    rw [e4, e3] at h1; simp at h1)
  rw [hn] at e2; cases e2
/-- What is known of the lists that Rows reads when its rows are told. -/
theorem GoD.netOk {w : World} {old ch N : List Nx} {ps : List Px} (h : GoD old ch ps) {p : Px} (hp : p ∈ ps) (ho : ∀ x ∈ old, ElemsI w x.a x.c x.E) (hc : ∀ x ∈ ch, ElemsI w x.a x.c x.E) (hn : ∀ x ∈ N, ElemsI w x.a x.c x.E) (hz : ∀ x ∈ N, ∀ e ∈ x.E, e.a = none → e.c = 0) (hN : ∀ s ∈ p.fs, bagN N s.data.toList = bagN (nowL old ch p.fs) s.data.toList) : NetOk w old ch N p.fs := by
  have hmem : ∀ i (hi : i < p.fs.length), p.fs[i] ∈ p.fs := fun i hi => List.getElem_mem hi
  refine ⟨fun i hi x hx => ?_, fun i hi he => ?_, fun k hk => ?_⟩
  · unfold netX at hx
    rcases List.mem_append.1 hx with hx | hx
    · rcases List.mem_append.1 hx with hx | hx
      · obtain ⟨s, hs, rfl⟩ := List.mem_map.1 hx
        have h1 := bx_at ho s.data.toList
        refine ⟨h1, row_z h1 (fun y hy => (h.row1 hp (List.mem_of_mem_take hs)).1 y ?_)⟩
        rw [← bx_ps]; exact hy
      · obtain rfl := List.mem_singleton.1 hx
        have h1 := bx_at hc p.fs[i].data.toList
        refine ⟨h1, row_z h1 (fun y hy => (h.row1 hp (hmem i hi)).2 y ?_)⟩
        rw [← bx_ps]; exact hy
    · obtain ⟨s, hs, rfl⟩ := List.mem_map.1 hx
      refine ⟨bx_at hn s.data.toList, fun e he hne => ?_⟩
      obtain ⟨x, hx, hex⟩ := bx_mem he
      exact hz x hx e hex hne
  · rw [netL_same hN] at he ⊢
    exact (h.side hp hi he).side
  · rw [netR_same hN]
    obtain ⟨h1, h2, _⟩ := h.net hp k hk
    have h3 := (h.o hp).few
    omega
theorem rows_prod {P : Val → Prop} {L : List (List Pair)} (h : ∀ x ∈ L, ∀ y ∈ x, ∀ v ∈ y.1, P v) : ∀ k, k ≤ L.length → ∀ z ∈ prodL (L.take k), ∀ v ∈ z.1, P v
  | 0, _, z, hz, v, hv => by
    simp [prodL] at hz
    subst hz
    simp at hv
  | k + 1, hk, z, hz, v, hv => by
    rw [prodL_take (show k < L.length by omega)] at hz
    unfold pairsB at hz
    obtain ⟨x, hx, hz⟩ := List.mem_flatMap.1 hz
    obtain ⟨y, hy, rfl⟩ := List.mem_map.1 hz
    rcases List.mem_append.1 hv with hv | hv
    · exact rows_prod h k (by omega) x hx v hv
    · exact h _ (List.getElem_mem (show k < L.length by omega)) y hy v hv
theorem rows_side {P : Val → Prop} {L : List (List Pair)} (h : ∀ x ∈ L, ∀ y ∈ x, ∀ v ∈ y.1, P v) : ∀ z ∈ sideL L, ∀ v ∈ z.1, P v := fun z hz => by
  unfold sideL at hz
  split at hz
  · exact absurd hz (by simp)
  · exact rows_prod h L.length (Nat.le_refl _) z (by rwa [List.take_of_length_le (Nat.le_refl _)])
theorem bag_vals {w : World} {l : List Nx} (h : ∀ x ∈ l, ElemsI w x.a x.c x.E) (s : List UInt8) : ∀ y ∈ bagN l s, ∀ v ∈ y.1, inI v := fun y hy v hv => by
  unfold bagN at hy
  cases hf : findN l s with
  | some x =>
    rw [hf] at hy
    obtain ⟨e, he, rfl⟩ := List.mem_map.1 hy
    exact ((h x (findN_mem hf)).i e he).1 v hv
  | none => rw [hf] at hy; exact absurd hy (by simp)
theorem netB_vals {w : World} {old ch : List Nx} {p : Px} (ho : ∀ x ∈ old, ElemsI w x.a x.c x.E) (hc : ∀ x ∈ ch, ElemsI w x.a x.c x.E) : ∀ x ∈ netB old ch p, ∀ v ∈ x.1, inI v := fun x hx v hv => by
  unfold netB at hx
  obtain ⟨y, hy, e⟩ := ofB_memD hx
  rw [e] at hv
  unfold netR at hy
  obtain ⟨i, hi, hy⟩ := List.mem_flatMap.1 hy
  refine rows_side (P := inI) (fun z hz q hq u hu => ?_) y hy v hv
  unfold netL at hz
  rcases List.mem_append.1 hz with hz | hz
  · rcases List.mem_append.1 hz with hz | hz
    · obtain ⟨s, _, rfl⟩ := List.mem_map.1 hz
      exact bag_vals ho _ q hq u hu
    · obtain rfl := List.mem_singleton.1 hz
      exact bag_vals hc _ q hq u hu
  · obtain ⟨s, hs, rfl⟩ := List.mem_map.1 hz
    rw [bag_now (List.mem_of_mem_drop hs)] at hq
    obtain ⟨q2, hq2, e2⟩ := ofB_memD hq
    rw [e2] at hu
    rcases List.mem_append.1 hq2 with hq2 | hq2
    · exact bag_vals ho _ q2 hq2 u hu
    · exact bag_vals hc _ q2 hq2 u hu
/-- What toldOfAll wants to know. -/
theorem GoD.all {w : World} {n : Nat} {a : Option Addr} {c : Nat} {old ch N : List Nx} {ps : List Px} (h : GoD old ch ps) (hP : PsOk w n a c ps) (ho : ∀ x ∈ old, ElemsI w x.a x.c x.E) (hc : ∀ x ∈ ch, ElemsI w x.a x.c x.E) (hn : ∀ x ∈ N, ElemsI w x.a x.c x.E) (hz : ∀ x ∈ N, ∀ e ∈ x.E, e.a = none → e.c = 0) (hN : N.map nd = (riseB (namesF ps)).map (nowD old ch)) : AllOk w n a c ps old ch N := by
  have hb : ∀ p ∈ ps, ∀ s ∈ p.fs, bagN N s.data.toList = bagN (nowL old ch p.fs) s.data.toList := fun p hp s hs => by
    rw [bag_now hs, ← bag_now (old := old) (ch := ch) (mem_names hp hs)]
    exact bagN_same (by rw [hN, nowL_nd]) _
  refine ⟨hP, fun p hp => h.netOk hp ho hc hn hz (hb p hp), fun p hp => ?_, fun p hp => netB_vals ho hc, fun p hp => ?_, fun k => ?_, fun p hp => ?_⟩
  · have h1 := (h.o hp).outs
    have h2 := (h.o hp).few
    omega
  · rw [netR_same (hb p hp)]; rfl
  · obtain ⟨h1, h2⟩ := dAll_small h
    by_cases hk : k ≤ 4
    · have := h2 k
      omega
    · have := h2 4
      rw [List.take_of_length_le (by omega)] at this ⊢
      omega
  · have := (h.netS hp).2.1
    omega
end Go.Proofs.YtfdkajefcplfjaaGreat

/- The project's layer 14 (delta): Rows of any plan: the contract of the call, in whatever memory. Conditions: the plan's and the names' cells are known; at most 400000 rows in a list that came in. -/
namespace Go.Proofs.YtfdkajefcplfjaaGreat
open Go.RowKit

/-- The plan's box. -/
structure SRw (w : World) (us : List Value) (W : World) : Prop where
  v : VarB W w.heap.size us
  b : Below w.heap.size w W
theorem SRw.below {w : World} {us : List Value} {W W' : World} (h : SRw w us W) (hb : Below W.heap.size W W') : SRw w us W' := ⟨h.v.below hb, below_through hb h.b.size h.b⟩
structure SRx (w w9 : World) (us : List Value) (W : World) : Prop where
  v : VarB W w.heap.size us
  b : Below w.heap.size w W
  c : Below w9.heap.size w9 W
theorem SRx.below {w w9 : World} {us : List Value} {W W' : World} (h : SRx w w9 us W) (hb : Below W.heap.size W W') : SRx w w9 us W' := ⟨h.v.below hb, below_through hb h.b.size h.b, below_through hb h.c.size h.c⟩
set_option maxHeartbeats 16000000 in
set_option maxRecDepth 1000000 in
theorem dRows_any {n : Nat} (a : Option Addr) (c : Nat) (ps : List Px) (a1 : Option Addr) (c1 : Nat) (old : List Nx) (a2 : Option Addr) (c2 : Nat) (ch : List Nx) (w : World) (hP : PsOk w n a c ps) (ho : NsOk w a1 old) (hc : NsOk w a2 ch) (lo : ∀ x ∈ old, x.E.length ≤ 400000) (lc : ∀ x ∈ ch, x.E.length ≤ 400000) :
    Calls Tryz.prog 27 #[planV a ps.length c, .slice a1 old.length c1, .slice a2 ch.length c2] w fun e w' => (∃ a' c' E', e = .returned (.tuple #[.slice a' E'.length c', .int .i64 (dRowsM old ch ps).2]) ∧ E'.length ≤ c' ∧ ElemsAt w' a' E' ∧ E'.map pr = (dRowsM old ch ps).1) ∧ Below w.heap.size w w' := by
  have hfew := hP.few
  have HP := hid0 hP
  have HO := hid0 ho
  have HC := hid0 hc
  have CR := hid0 (fun (W : World) (hW : Below w.heap.size w W) => planReady_any a c ps a1 c1 old W (hP.later hW) (ho.later hW))
  have CW := hid0 (fun (W : World) (hW : Below w.heap.size w W) => (show Calls Tryz.prog 50 #[.slice a2 ch.length c2, .func (.func 51) #[] #[]] W (fun e w' => e = .returned (.bool (wrongB ch)) ∧ Below W.heap.size W w') from dWrongs_any a2 c2 ch W (hc.later hW)))
  have CT1 := hid0 (fun (W : World) (hW : Below w.heap.size w W) => dThere_any a1 c1 old W (ho.later hW))
  have CT2 := hid0 (fun (W : World) (hW : Below w.heap.size w W) => dThere_any a2 c2 ch W (hc.later hW))
  have CS := hid0 (fun (W : World) (hW : Below w.heap.size w W) => dSummaries_any a c ps W (hP.later hW))
  have CR2 := hid0 (fun (an : Option Addr) (cn : Nat) (N : List Nx) (W : World) (hW : Below w.heap.size w W) (hN : NsOk W an N) (hnd : N.map nd = (riseB (namesF ps)).map (nowD old ch)) => (show Calls Tryz.prog 42 #[planV a ps.length c, .slice an N.length cn] W (fun e w' => e = .returned (.int .i64 (readyE (nowP old ch ps) ps)) ∧ Below W.heap.size W w') from by
    have h1 := planReady_any a c ps an cn N W (hP.later hW) hN
    have h2 : readyE N ps = readyE (nowP old ch ps) ps := readyE_same (fun p hp s hs => findN_nd (by unfold nowP; rw [hnd, nowL_nd]) _)
    rw [h2] at h1
    exact h1))
  have hS0 := hid0 (show SRw w [.slice a ps.length c] (w.alloc (Obj.cells #[.slice a ps.length c] 24)) from ⟨VarB.new w [.slice a ps.length c] 24, (Below.refl _ _).alloc (Nat.le_refl _) _⟩)
  obtain ⟨RR, hRR⟩ : ∃ RR, dRowsM old ch ps = RR := ⟨_, rfl⟩
  have HRR := hid0 hRR
  rw [hRR]
  clear hRR
  have hM : dRowsM old ch ps = (if readyE old ps ≠ 0 then ([], readyE old ps) else if wrongB ch = true then ([], 1) else if readyE (nowP old ch ps) ps ≠ 0 then ([], readyE (nowP old ch ps) ps) else if ps.any sumyB = true then ([], 15) else if 2000 < costD old ch ps then ([], 19) else if dAllE old ch ps ≠ 0 then ([], dAllE old ch ps) else (ofB (dAllL old ch ps), 0)) := rfl
  by_cases hr : readyE old ps = 0
  · rw [if_neg (by omega)] at hM
    rw [hr] at CR
    have hN12 := names_few hr
    have HR0 := hid0 hr
    clear hr
    cases hw : wrongB ch with
    | true =>
      rw [hw] at hM CW
      have HMM := hid0 (hM.trans (if_pos rfl))
      unfold planV at CR CR2 ⊢
      clear hM
      go_enter Tryz.func27, Tryz.ntmps27
      go_wp2_with (first | (go_at_call 42; (with_reducible refine (CR.out _ hS0.out.b).mono ?_); rintro e w1 ⟨rfl, hb1⟩; (have hS1 := hid0 (hS0.out.below hb1))) | (go_at_call 50; (with_reducible refine (CW.out _ hS1.out.b).mono ?_); rintro e w2 ⟨rfl, hb2⟩; (have hS2 := hid0 (hS1.out.below hb2))) | ((with_reducible refine wp_getB hS0.out.v.at_ Tryz.underlying24 ?_ ?_ ?_ ?_); (rfl); (exact sizePlan); (rfl); simp only [Act.put]) | fail)
      go_returns
      exact ⟨⟨none, 0, [], by rw [← HRR.out, HMM.out]; rfl, Nat.le_refl _, ElemsAt.nil _ _, by rw [← HRR.out, HMM.out]; rfl⟩, hS2.out.b⟩
    | false =>
      have HFW := hid0 (fewN_of HR0.out hw lo lc)
      have HW0 := hid0 hw
      rw [hw] at CW hM
      rw [if_neg (by simp)] at hM
      have CN := hid0 (fun (W : World) (hW : Below w.heap.size w W) => dNames_any a c ps W (hP.later hW) (by omega))
      have CA := hid0 (fun (ar : Option Addr) (cr b1 b2 : Nat) (W : World) (hW : Below w.heap.size w W) (hL : StrsA W ar (riseB (namesF ps))) (h1 : SrcD W b1 old) (h2 : SrcD W b2 ch) => dAdded_any ar cr (riseB (namesF ps)) b1 b2 old ch W hL h1 h2 (fun x hx => (ho.ok x hx).1.later hW) (fun x hx => (hc.ok x hx).1.later hW) (by have := riseB_len (namesF ps); omega) (fun s hs => HFW.out s ((mem_riseB _ _).1 hs)))
      have CC := hid0 (fun (W : World) (hW : Below w.heap.size w W) => dCost_any a c ps a1 c1 old a2 c2 ch W (hP.later hW) (by omega) (ho.later hW) (hc.later hW) HFW.out)
      unfold planV at CR CR2 CN CC ⊢
      clear hw hP ho hc lo lc
      by_cases h3 : readyE (nowP old ch ps) ps = 0
      · rw [if_neg (by omega)] at hM
        rw [h3] at CR2
        have H3 := hid0 h3
        clear h3
        cases h4 : ps.any sumyB with
        | true =>
          rw [h4] at hM CS
          have HMM := hid0 (hM.trans (if_pos rfl))
          clear hM h4
          go_enter Tryz.func27, Tryz.ntmps27
          go_wp2_with (first | (go_at_call 42; (with_reducible refine (CR.out _ hS0.out.b).mono ?_); rintro e w1 ⟨rfl, hb1⟩; (have hS1 := hid0 (hS0.out.below hb1))) | (go_at_call 50; (with_reducible refine (CW.out _ hS1.out.b).mono ?_); rintro e w2 ⟨rfl, hb2⟩; (have hS2 := hid0 (hS1.out.below hb2))) | (go_at_call 52; (with_reducible refine (CT1.out _ hS2.out.b).mono ?_); rintro e w3 ⟨⟨b1, rfl, hT1⟩, hb3⟩; (have hS3 := hid0 (hS2.out.below hb3))) | (go_at_call 52; (with_reducible refine (CT2.out _ hS3.out.b).mono ?_); rintro e w4 ⟨⟨b2, rfl, hT2⟩, hb4⟩; (have hS4 := hid0 (hS3.out.below hb4)); (have HT1 := hid0 (hT1.later hb4)); (have HT2 := hid0 hT2); clear hT1 hT2) | (go_at_call 54; (with_reducible refine (CN.out _ hS4.out.b).mono ?_); rintro e w5 ⟨⟨ar, cr, rfl, hAr⟩, hb5⟩; (have hS5 := hid0 (hS4.out.below hb5)); (have HT1 := hid0 (HT1.out.later hb5)); (have HT2 := hid0 (HT2.out.later hb5)); (have HAr := hid0 hAr); clear hAr) | (go_at_call 53; (with_reducible refine (CA.out ar cr b1 b2 _ hS5.out.b HAr.out HT1.out HT2.out).mono ?_); rintro e w6 ⟨⟨an, cn, N, rfl, hN, hnd, hz⟩, hb6⟩; (have hS6 := hid0 (hS5.out.below hb6)); (have HT1 := hid0 (HT1.out.later hb6)); (have HT2 := hid0 (HT2.out.later hb6)); (have HN := hid0 hN); (have HND := hid0 hnd); (have HZ := hid0 hz); clear hN hnd hz) | (go_at_call 42; (with_reducible refine (CR2.out an cn N _ hS6.out.b HN.out HND.out).mono ?_); rintro e w7 ⟨rfl, hb7⟩; (have hS7 := hid0 (hS6.out.below hb7)); (have q7 := hS7.out.v.cell 0 rfl)) | (go_at_call 55; (with_reducible refine (CS.out _ hS7.out.b).mono ?_); rintro e w8 ⟨rfl, hb8⟩; (have hS8 := hid0 (hS7.out.below hb8))) | ((with_reducible refine wp_getB hS6.out.v.at_ Tryz.underlying24 ?_ ?_ ?_ ?_); (rfl); (exact sizePlan); (rfl); simp only [Act.put]) | ((with_reducible refine wp_getB hS4.out.v.at_ Tryz.underlying24 ?_ ?_ ?_ ?_); (rfl); (exact sizePlan); (rfl); simp only [Act.put]) | ((with_reducible refine wp_getB hS0.out.v.at_ Tryz.underlying24 ?_ ?_ ?_ ?_); (rfl); (exact sizePlan); (rfl); simp only [Act.put]) | fail)
          go_returns
          exact ⟨⟨none, 0, [], by rw [← HRR.out, HMM.out]; rfl, Nat.le_refl _, ElemsAt.nil _ _, by rw [← HRR.out, HMM.out]; rfl⟩, hS8.out.b⟩
        | false =>
          have H4 := hid0 h4
          rw [h4] at CS hM
          rw [if_neg (by simp)] at hM
          clear h4
          by_cases h5 : 2000 < costD old ch ps
          · have HMM := hid0 (hM.trans (if_pos h5))
            generalize costD old ch ps = cs at CC h5
            clear hM
            go_enter Tryz.func27, Tryz.ntmps27
            go_wp2_with (first | (go_at_call 42; (with_reducible refine (CR.out _ hS0.out.b).mono ?_); rintro e w1 ⟨rfl, hb1⟩; (have hS1 := hid0 (hS0.out.below hb1))) | (go_at_call 50; (with_reducible refine (CW.out _ hS1.out.b).mono ?_); rintro e w2 ⟨rfl, hb2⟩; (have hS2 := hid0 (hS1.out.below hb2))) | (go_at_call 52; (with_reducible refine (CT1.out _ hS2.out.b).mono ?_); rintro e w3 ⟨⟨b1, rfl, hT1⟩, hb3⟩; (have hS3 := hid0 (hS2.out.below hb3))) | (go_at_call 52; (with_reducible refine (CT2.out _ hS3.out.b).mono ?_); rintro e w4 ⟨⟨b2, rfl, hT2⟩, hb4⟩; (have hS4 := hid0 (hS3.out.below hb4)); (have HT1 := hid0 (hT1.later hb4)); (have HT2 := hid0 hT2); clear hT1 hT2) | (go_at_call 54; (with_reducible refine (CN.out _ hS4.out.b).mono ?_); rintro e w5 ⟨⟨ar, cr, rfl, hAr⟩, hb5⟩; (have hS5 := hid0 (hS4.out.below hb5)); (have HT1 := hid0 (HT1.out.later hb5)); (have HT2 := hid0 (HT2.out.later hb5)); (have HAr := hid0 hAr); clear hAr) | (go_at_call 53; (with_reducible refine (CA.out ar cr b1 b2 _ hS5.out.b HAr.out HT1.out HT2.out).mono ?_); rintro e w6 ⟨⟨an, cn, N, rfl, hN, hnd, hz⟩, hb6⟩; (have hS6 := hid0 (hS5.out.below hb6)); (have HT1 := hid0 (HT1.out.later hb6)); (have HT2 := hid0 (HT2.out.later hb6)); (have HN := hid0 hN); (have HND := hid0 hnd); (have HZ := hid0 hz); clear hN hnd hz) | (go_at_call 42; (with_reducible refine (CR2.out an cn N _ hS6.out.b HN.out HND.out).mono ?_); rintro e w7 ⟨rfl, hb7⟩; (have hS7 := hid0 (hS6.out.below hb7)); (have q7 := hS7.out.v.cell 0 rfl)) | (go_at_call 55; (with_reducible refine (CS.out _ hS7.out.b).mono ?_); rintro e w8 ⟨rfl, hb8⟩; (have hS8 := hid0 (hS7.out.below hb8))) | (go_at_call 57; (with_reducible refine (CC.out _ hS8.out.b).mono ?_); rintro e w9 ⟨rfl, hb9⟩; (have hS9 := hid0 (hS8.out.below hb9))) | ((with_reducible refine wp_getB hS8.out.v.at_ Tryz.underlying24 ?_ ?_ ?_ ?_); (rfl); (exact sizePlan); (rfl); simp only [Act.put]) | ((with_reducible refine wp_getB hS6.out.v.at_ Tryz.underlying24 ?_ ?_ ?_ ?_); (rfl); (exact sizePlan); (rfl); simp only [Act.put]) | ((with_reducible refine wp_getB hS4.out.v.at_ Tryz.underlying24 ?_ ?_ ?_ ?_); (rfl); (exact sizePlan); (rfl); simp only [Act.put]) | ((with_reducible refine wp_getB hS0.out.v.at_ Tryz.underlying24 ?_ ?_ ?_ ?_); (rfl); (exact sizePlan); (rfl); simp only [Act.put]) | fail)
            go_returns
            exact ⟨⟨none, 0, [], by rw [← HRR.out, HMM.out]; rfl, Nat.le_refl _, ElemsAt.nil _ _, by rw [← HRR.out, HMM.out]; rfl⟩, hS9.out.b⟩
          · have HMM := hid0 (hM.trans (if_neg h5))
            have HG := hid0 (show GoD old ch ps from ⟨HR0.out, HW0.out, H3.out, H4.out, by omega⟩)
            generalize costD old ch ps = cs at CC h5
            clear hM
            go_enter Tryz.func27, Tryz.ntmps27
            go_wp2_with (first | (go_at_call 42; (with_reducible refine (CR.out _ hS0.out.b).mono ?_); rintro e w1 ⟨rfl, hb1⟩; (have hS1 := hid0 (hS0.out.below hb1))) | (go_at_call 50; (with_reducible refine (CW.out _ hS1.out.b).mono ?_); rintro e w2 ⟨rfl, hb2⟩; (have hS2 := hid0 (hS1.out.below hb2))) | (go_at_call 52; (with_reducible refine (CT1.out _ hS2.out.b).mono ?_); rintro e w3 ⟨⟨b1, rfl, hT1⟩, hb3⟩; (have hS3 := hid0 (hS2.out.below hb3))) | (go_at_call 52; (with_reducible refine (CT2.out _ hS3.out.b).mono ?_); rintro e w4 ⟨⟨b2, rfl, hT2⟩, hb4⟩; (have hS4 := hid0 (hS3.out.below hb4)); (have HT1 := hid0 (hT1.later hb4)); (have HT2 := hid0 hT2); clear hT1 hT2) | (go_at_call 54; (with_reducible refine (CN.out _ hS4.out.b).mono ?_); rintro e w5 ⟨⟨ar, cr, rfl, hAr⟩, hb5⟩; (have hS5 := hid0 (hS4.out.below hb5)); (have HT1 := hid0 (HT1.out.later hb5)); (have HT2 := hid0 (HT2.out.later hb5)); (have HAr := hid0 hAr); clear hAr) | (go_at_call 53; (with_reducible refine (CA.out ar cr b1 b2 _ hS5.out.b HAr.out HT1.out HT2.out).mono ?_); rintro e w6 ⟨⟨an, cn, N, rfl, hN, hnd, hz⟩, hb6⟩; (have hS6 := hid0 (hS5.out.below hb6)); (have HT1 := hid0 (HT1.out.later hb6)); (have HT2 := hid0 (HT2.out.later hb6)); (have HN := hid0 hN); (have HND := hid0 hnd); (have HZ := hid0 hz); clear hN hnd hz) | (go_at_call 42; (with_reducible refine (CR2.out an cn N _ hS6.out.b HN.out HND.out).mono ?_); rintro e w7 ⟨rfl, hb7⟩; (have hS7 := hid0 (hS6.out.below hb7)); (have q7 := hS7.out.v.cell 0 rfl)) | (go_at_call 55; (with_reducible refine (CS.out _ hS7.out.b).mono ?_); rintro e w8 ⟨rfl, hb8⟩; (have hS8 := hid0 (hS7.out.below hb8))) | (go_at_call 57; (with_reducible refine (CC.out _ hS8.out.b).mono ?_); rintro e w9 ⟨rfl, hb9⟩; (have hS9 := hid0 (hS8.out.below hb9))) | ((with_reducible refine wp_getB hS8.out.v.at_ Tryz.underlying24 ?_ ?_ ?_ ?_); (rfl); (exact sizePlan); (rfl); simp only [Act.put]) | ((with_reducible refine wp_getB hS6.out.v.at_ Tryz.underlying24 ?_ ?_ ?_ ?_); (rfl); (exact sizePlan); (rfl); simp only [Act.put]) | ((with_reducible refine wp_getB hS4.out.v.at_ Tryz.underlying24 ?_ ?_ ?_ ?_); (rfl); (exact sizePlan); (rfl); simp only [Act.put]) | ((with_reducible refine wp_getB hS0.out.v.at_ Tryz.underlying24 ?_ ?_ ?_ ?_); (rfl); (exact sizePlan); (rfl); simp only [Act.put]) | fail)
            have HN9 := hid0 (HN.out.later (below_through hb9 (Nat.le_trans hb7.size hb8.size) (below_through hb8 hb7.size hb7)))
            have HT91 := hid0 (HT1.out.later (below_through hb9 (Nat.le_trans hb7.size hb8.size) (below_through hb8 hb7.size hb7)))
            have HT92 := hid0 (HT2.out.later (below_through hb9 (Nat.le_trans hb7.size hb8.size) (below_through hb8 hb7.size hb7)))
            have CT3 := hid0 (fun (W : World) (hW : Below w.heap.size w W) (hW9 : Below w9.heap.size w9 W) => dThere_any an cn N W (HN9.out.later hW9))
            have CAL := hid0 (fun (b3 : Nat) (W : World) (hW9 : Below w9.heap.size w9 W) (h3 : SrcD W b3 N) => (show Calls Tryz.prog 58 #[.agg #[.slice a ps.length c], .map (some b1), .map (some b2), .map (some b3)] W (fun e w' => (∃ a' c' E', e = .returned (.tuple #[.slice a' E'.length c', .int .i64 (dAllE old ch ps)]) ∧ E'.length ≤ c' ∧ ElemsAt w' a' E' ∧ E'.map pr = (if dAllE old ch ps ≠ 0 then [] else ofB (dAllL old ch ps))) ∧ Below W.heap.size W w') from by
              have hWw := below_through hW9 hS9.out.b.size hS9.out.b
              exact dToldAll_any b1 b2 b3 old ch N a c ps W (HT91.out.later hW9) (HT92.out.later hW9) h3 (HG.out.all (HP.out.later hWw) (fun x hx => (HO.out.ok x hx).1.later hWw) (fun x hx => (HC.out.ok x hx).1.later hWw) (fun x hx => (HN9.out.ok x hx).1.later hW9) HZ.out HND.out)))
            have hS : SRx w w9 [.slice a ps.length c] w9.drew := ⟨hS9.out.v.drew, Below.drew hS9.out.b, Below.drew (Below.refl _ _)⟩
            clear hb1 hb2 hb3 hb4 hb5 hb6 hb7 hb8 hb9
            refine wp_region_held_drew (S := SRx w w9 [.slice a ps.length c]) (by kernel_rfl) hS (fun hHeld => ?_)
            refine wpAnyH_take (i := 0) (v := .agg [.slice a ps.length c].toArray) rfl (by kernel_rfl) (by kernel_rfl) (by kernel_rfl) (fun _ _ _ h => h) (yieldsIf_load_mid rfl 24 _ rfl w.heap.size (0) rfl [.slice a ps.length c] _ (fun w h => h.v.at_) Tryz.underlying24 rfl (sizePlan)) (by assumption) ?_
            (try simp only [Act.put, List.setIfInBounds_toArray, List.set_cons_zero, List.set_cons_succ, List.getElem_toArray, List.getElem_cons_zero])
            refine wpAnyH_take (i := 1) (v := ?_) rfl (by kernel_rfl) (by kernel_rfl) (by kernel_rfl) (fun _ _ _ h => h) (Or.inl ⟨by rfl, ?_⟩) (by assumption) ?_
            rotate_left
            · (intro wx hSw; go_simp; (try with_reducible rfl); (try omega))
            (try simp only [Act.put, List.setIfInBounds_toArray, List.set_cons_zero, List.set_cons_succ, List.getElem_toArray, List.getElem_cons_zero, List.getElem_cons_succ])
            refine wpAnyH_take (i := 2) (v := ?_) rfl (by kernel_rfl) (by kernel_rfl) (by kernel_rfl) (fun _ _ _ h => h) (Or.inl ⟨by rfl, ?_⟩) (by assumption) ?_
            rotate_left
            · (intro wx hSw; go_simp; (try with_reducible rfl); (try omega))
            (try simp only [Act.put, List.setIfInBounds_toArray, List.set_cons_zero, List.set_cons_succ, List.getElem_toArray, List.getElem_cons_zero, List.getElem_cons_succ])
            refine wpAnyH_take (i := 3) (v := ?_) rfl (by kernel_rfl) (by kernel_rfl) (by kernel_rfl) (fun _ _ _ h => h) (Or.inl ⟨by rfl, ?_⟩) (by assumption) ?_
            rotate_left
            · (intro wx hSw; go_simp; (try with_reducible rfl); (try omega))
            (try simp only [Act.put, List.setIfInBounds_toArray, List.set_cons_zero, List.set_cons_succ, List.getElem_toArray, List.getElem_cons_zero, List.getElem_cons_succ])
            refine wpAnyH_ready (rs := [4]) (by kernel_rfl) (by simp) ?_
            refine AllReadyH.cons rfl (fun K hK => ?_) AllReadyH.nil
            go_simp
            refine (CT3.out _ hS.b hS.c).mono ?_
            rintro e W1 ⟨⟨b3, rfl, hT3⟩, hbx⟩
            have hS := hS.below hbx
            have CAx := CAL.out b3 _ hS.c hT3
            clear hbx hT3
            refine hK.out _ _ hS (fun hHeld => ?_)
            clear hK K
            (try simp only [Act.put, List.setIfInBounds_toArray, List.set_cons_zero, List.set_cons_succ, List.getElem_toArray, List.getElem_cons_zero, List.getElem_cons_succ])
            refine wpAnyH_ready (rs := [5]) (by kernel_rfl) (by simp) ?_
            refine AllReadyH.cons rfl (fun K hK => ?_) AllReadyH.nil
            go_simp
            refine CAx.mono ?_
            rintro e W2 ⟨⟨a9, c9, E9, rfl, hc9, hE9, hm9⟩, hbx⟩
            have hS := hS.below hbx
            clear hbx
            refine hK.out _ _ hS (fun hHeld => ?_)
            clear hK K
            (try simp only [Act.put, List.setIfInBounds_toArray, List.set_cons_zero, List.set_cons_succ, List.getElem_toArray, List.getElem_cons_zero, List.getElem_cons_succ])
            refine wpAnyH_take (i := 6) (v := ?_) rfl (by kernel_rfl) (by kernel_rfl) (by kernel_rfl) (fun _ _ _ h => h) (Or.inl ⟨by rfl, ?_⟩) (by assumption) ?_
            rotate_left
            · (intro wx hSw; go_simp; (try with_reducible rfl); (try omega))
            (try simp only [Act.put, List.setIfInBounds_toArray, List.set_cons_zero, List.set_cons_succ, List.getElem_toArray, List.getElem_cons_zero, List.getElem_cons_succ])
            refine wpAnyH_take (i := 7) (v := ?_) rfl (by kernel_rfl) (by kernel_rfl) (by kernel_rfl) (fun _ _ _ h => h) (Or.inl ⟨by rfl, ?_⟩) (by assumption) ?_
            rotate_left
            · (intro wx hSw; go_simp; (try with_reducible rfl); (try omega))
            (try simp only [Act.put, List.setIfInBounds_toArray, List.set_cons_zero, List.set_cons_succ, List.getElem_toArray, List.getElem_cons_zero, List.getElem_cons_succ])
            refine wpAnyH_take (i := 8) (v := ?_) rfl (by kernel_rfl) (by kernel_rfl) (by kernel_rfl) (fun _ _ _ h => h) (Or.inl ⟨by rfl, ?_⟩) (by assumption) ?_
            rotate_left
            · (intro wx hSw; go_simp; (try with_reducible rfl); (try omega))
            (try simp only [Act.put, List.setIfInBounds_toArray, List.set_cons_zero, List.set_cons_succ, List.getElem_toArray, List.getElem_cons_zero, List.getElem_cons_succ])
            refine wpAnyH_take (i := 9) (v := ?_) rfl (by kernel_rfl) (by kernel_rfl) (by kernel_rfl) (fun _ _ _ h => h) (Or.inl ⟨by rfl, ?_⟩) (by assumption) ?_
            rotate_left
            · (intro wx hSw; go_simp; (try with_reducible rfl); (try omega))
            (try simp only [Act.put, List.setIfInBounds_toArray, List.set_cons_zero, List.set_cons_succ, List.getElem_toArray, List.getElem_cons_zero, List.getElem_cons_succ])
            refine wpAnyH_done (by kernel_rfl) ?_ _
            have hSe := hid0 hS
            clear hS hHeld
            go_wp2_with fail
            go_returns
            refine ⟨⟨a9, c9, E9, ?_, hc9, hE9, ?_⟩, hSe.out.b⟩
            · rw [← HRR.out, HMM.out]; split <;> rename_i h0
              · rfl
              · have h1 : dAllE old ch ps = 0 := Decidable.not_not.1 h0
                rw [h1]; rfl
            · rw [hm9, ← HRR.out, HMM.out]; split <;> rfl
      · have HMM := hid0 (hM.trans (if_pos h3))
        have g3 : (readyE (nowP old ch ps) ps != 0) = true := by simpa using h3
        generalize readyE (nowP old ch ps) ps = r3 at CR2 g3 HMM
        clear hM h3
        go_enter Tryz.func27, Tryz.ntmps27
        go_wp2_with (first | (go_at_call 42; (with_reducible refine (CR.out _ hS0.out.b).mono ?_); rintro e w1 ⟨rfl, hb1⟩; (have hS1 := hid0 (hS0.out.below hb1))) | (go_at_call 50; (with_reducible refine (CW.out _ hS1.out.b).mono ?_); rintro e w2 ⟨rfl, hb2⟩; (have hS2 := hid0 (hS1.out.below hb2))) | (go_at_call 52; (with_reducible refine (CT1.out _ hS2.out.b).mono ?_); rintro e w3 ⟨⟨b1, rfl, hT1⟩, hb3⟩; (have hS3 := hid0 (hS2.out.below hb3))) | (go_at_call 52; (with_reducible refine (CT2.out _ hS3.out.b).mono ?_); rintro e w4 ⟨⟨b2, rfl, hT2⟩, hb4⟩; (have hS4 := hid0 (hS3.out.below hb4)); (have HT1 := hid0 (hT1.later hb4)); (have HT2 := hid0 hT2); clear hT1 hT2) | (go_at_call 54; (with_reducible refine (CN.out _ hS4.out.b).mono ?_); rintro e w5 ⟨⟨ar, cr, rfl, hAr⟩, hb5⟩; (have hS5 := hid0 (hS4.out.below hb5)); (have HT1 := hid0 (HT1.out.later hb5)); (have HT2 := hid0 (HT2.out.later hb5)); (have HAr := hid0 hAr); clear hAr) | (go_at_call 53; (with_reducible refine (CA.out ar cr b1 b2 _ hS5.out.b HAr.out HT1.out HT2.out).mono ?_); rintro e w6 ⟨⟨an, cn, N, rfl, hN, hnd, hz⟩, hb6⟩; (have hS6 := hid0 (hS5.out.below hb6)); (have HT1 := hid0 (HT1.out.later hb6)); (have HT2 := hid0 (HT2.out.later hb6)); (have HN := hid0 hN); (have HND := hid0 hnd); (have HZ := hid0 hz); clear hN hnd hz) | (go_at_call 42; (with_reducible refine (CR2.out an cn N _ hS6.out.b HN.out HND.out).mono ?_); rintro e w7 ⟨rfl, hb7⟩; (have hS7 := hid0 (hS6.out.below hb7)); (have q7 := hS7.out.v.cell 0 rfl)) | ((with_reducible refine wp_getB hS6.out.v.at_ Tryz.underlying24 ?_ ?_ ?_ ?_); (rfl); (exact sizePlan); (rfl); simp only [Act.put]) | ((with_reducible refine wp_getB hS4.out.v.at_ Tryz.underlying24 ?_ ?_ ?_ ?_); (rfl); (exact sizePlan); (rfl); simp only [Act.put]) | ((with_reducible refine wp_getB hS0.out.v.at_ Tryz.underlying24 ?_ ?_ ?_ ?_); (rfl); (exact sizePlan); (rfl); simp only [Act.put]) | fail)
        go_returns
        exact ⟨⟨none, 0, [], by rw [← HRR.out, HMM.out]; rfl, Nat.le_refl _, ElemsAt.nil _ _, by rw [← HRR.out, HMM.out]; rfl⟩, hS7.out.b⟩
  · have HMM := hid0 (hM.trans (if_pos hr))
    have g3 : (readyE old ps != 0) = true := by simpa using hr
    unfold planV at CR CR2 ⊢
    generalize readyE old ps = r3 at CR g3 HMM
    clear hM hr
    go_enter Tryz.func27, Tryz.ntmps27
    go_wp2_with (first | (go_at_call 42; (with_reducible refine (CR.out _ hS0.out.b).mono ?_); rintro e w1 ⟨rfl, hb1⟩; (have hS1 := hid0 (hS0.out.below hb1))) | ((with_reducible refine wp_getB hS0.out.v.at_ Tryz.underlying24 ?_ ?_ ?_ ?_); (rfl); (exact sizePlan); (rfl); simp only [Act.put]) | fail)
    go_returns
    exact ⟨⟨none, 0, [], by rw [← HRR.out, HMM.out]; rfl, Nat.le_refl _, ElemsAt.nil _ _, by rw [← HRR.out, HMM.out]; rfl⟩, hS1.out.b⟩
end Go.Proofs.YtfdkajefcplfjaaGreat
