/- Several of my texts laid together, each as it was: M4. Conditions: each names its own. -/
import Derived.Test.YtokkgikajammhaaGreatJ2
import Derived.Test.YtokkgikajammhaaGreatJ9
import Derived.Test.YtokkgikajammhaaGreatJ3
import Derived.Test.YtokkgikajammhaaGreatH8
import Derived.Test.YtokkgikajammhaaGreatI8
import Derived.Test.YtokkgikajammhaaGreatL1
import Derived.Test.YtokkgikajammhaaGreatL2
/- PlanMore: the law's call, in whatever memory: it is true. Conditions: what comes in is known; it is not too much. -/
namespace Go.Proofs.YtokkgikajammhaaGreat
open Go.RowKit

set_option maxRecDepth 1000000 in
theorem sizeMo : (Tryz.prog.info? 66).map (·.size) = some 23 := by kernel_rfl
def moreC (us : List Value) (a2 : Option Addr) (n2 c2 : Nat) (at_ : Int) (a3 : Option Addr) (n3 c3 : Nat) : List Value := us ++ [.slice a2 n2 c2, .int .i64 at_, .slice a3 n3 c3]
set_option maxRecDepth 1000000 in
theorem sizeNx : (Tryz.prog.info? 63).map (·.size) = some 2 := by kernel_rfl
/-- The box. -/
structure SMo (w : World) (us : List Value) (W : World) : Prop where
  v : VarB W w.heap.size us
  b : Below w.heap.size w W
theorem SMo.below {w : World} {us : List Value} {W W' : World} (h : SMo w us W) (hb : Below W.heap.size W W') : SMo w us W' := ⟨h.v.below hb, below_through hb h.b.size h.b⟩
/-- Both boxes: what came in, and the part. -/
structure SMq (w : World) (ms us : List Value) (W : World) : Prop where
  v : VarB W w.heap.size ms
  u : VarB W (w.heap.size + 1) us
  b : Below w.heap.size w W
theorem SMq.below {w : World} {ms us : List Value} {W W' : World} (h : SMq w ms us W) (hb : Below W.heap.size W W') : SMq w ms us W' := ⟨h.v.below hb, h.u.below hb, below_through hb h.b.size h.b⟩
theorem fold_zip : ∀ (us : List Value) (z : Array Value) (k : Nat), k + us.length ≤ z.size → (List.foldl (fun (cs : Array Value) (x : Value × Nat) => cs.setIfInBounds x.snd x.fst) z (us.zipIdx k)).toList = z.toList.take k ++ us ++ z.toList.drop (k + us.length)
  | [], z, k, _ => by simp
  | u :: us, z, k, h => by
    rw [List.zipIdx_cons, List.foldl_cons, fold_zip us _ (k + 1) (by simp at h ⊢; omega)]
    have hk : k < z.toList.length := by simp at h ⊢; omega
    simp only [Array.toList_setIfInBounds, List.length_cons]
    rw [List.take_succ_eq_append_getElem (by simpa using hk), List.take_set_of_le (Nat.le_refl _), List.drop_set_of_lt (by omega)]
    simp [Nat.add_assoc, Nat.add_comm 1]
theorem fold20 (us : List Value) (z : Array Value) (h : us.length = 20) (hz : z.size = 20) : List.foldl (fun cs x => cs.setIfInBounds x.snd x.fst) z us.zipIdx = us.toArray := by
  apply Array.toList_inj.1
  rw [fold_zip us z 0 (by omega)]
  simp [h, hz]
theorem rows_part {n : Nat} (p : Px) (hg : groupedB p = false) (l1 : List Nx) (n1 : Nat) (h1 : l1.length = n1) (a1 : Option Addr) (c1 : Nat) (W : World) (B : Nat) (us : List Value) (hus : p.cells = us) (hB : VarB W B us) (hP : PxOk W n p) (hN : NsOk W a1 l1) :
    Calls Tryz.prog 21 #[.agg #[.slice (some ⟨B, 0, none⟩) 1 1], .slice a1 n1 c1] W fun e w' => (∃ a' c' E', e = .returned (.tuple #[.slice a' E'.length c', .int .i64 (rowsM l1 [p]).2]) ∧ E'.length ≤ c' ∧ ElemsAt w' a' E' ∧ E'.map pr = (rowsM l1 [p]).1) ∧ Below W.heap.size W w' := by
  subst h1
  subst hus
  exact planRows_any (some ⟨B, 0, none⟩) 1 [p] a1 c1 l1 W ⟨rowC1 p.cells_len hB, fun q hq => by obtain rfl := List.mem_singleton.1 hq; exact hP, by simp, by simp⟩ hN (fun q hq hgq => by
    obtain rfl := List.mem_singleton.1 hq
    rw [hg] at hgq; cases hgq)
theorem rows_few {W : World} {a : Option Addr} {l1 : List Nx} {p : Px} (hN : NsOk W a l1) (h : (rowsM l1 [p]).2 = 0) : (rowsM l1 [p]).1.length ≤ 2001 := by
  obtain ⟨hc, e⟩ := rowsM_parts h
  have h1 := (toldM_small p (keptB l1 p)).1
  have h2 := (kept_small hc (fun x hx d hd v hv => ((hN.ok x hx).1.i d hd).1 v hv)).1
  have h3 := len_ofB (toldM p (keptB l1 p))
  rw [e]; omega
set_option maxHeartbeats 8000000 in
set_option maxRecDepth 1000000 in
theorem lawPlanMore {n : Nat} (p : Px) (a2 : Option Addr) (c2 : Nat) (l : List Nx) (k : Int) (a3 : Option Addr) (c3 : Nat) (M : List Elem) (w : World) (hP : PxOk w n p) (hL : NsOk w a2 l) (hM : ElemsI w a3 c3 M) (_ : in64 k)
    (hlM : M.length ≤ 400000) (hlL : ∀ x ∈ l, x.E.length ≤ 400000) :
    Calls Tryz.prog 8 #[.agg (moreC p.cells a2 l.length c2 k a3 M.length c3).toArray] w fun e w' => e = .returned (.bool true) ∧ Below w.heap.size w w' := by
  have HP := hid0 hP
  have HL := hid0 hL
  have HM := hid0 hM
  have hcl := p.cells_len
  have hone := p.one
  have CA := hid0 (fun W => awake12_any W)
  clear hP hL hM
  have CG := hid0 (fun (W : World) (hW : Below w.heap.size w W) => refGrouped_any p W (HP.out.later hW))
  have CP := hid0 (fun (W : World) (hW : Below w.heap.size w W) => refBagPlain_all a3 c3 M W (HM.out.later hW))
  unfold Px.val at CG
  obtain ⟨us, hus⟩ : ∃ us, p.cells = us := ⟨_, rfl⟩
  have HUS := hid0 hus
  rw [hus] at hcl hone CG ⊢
  clear hus
  have hcl3 : (moreC us a2 l.length c2 k a3 M.length c3).length = 23 := by unfold moreC; rw [List.length_append, hcl]; rfl
  have hm20 : (moreC us a2 l.length c2 k a3 M.length c3)[20]? = some (.slice a2 l.length c2) := by unfold moreC; rw [List.getElem?_append_right (by omega), hcl]; rfl
  have hm21 : (moreC us a2 l.length c2 k a3 M.length c3)[21]? = some (.int .i64 k) := by unfold moreC; rw [List.getElem?_append_right (by omega), hcl]; rfl
  have hm22 : (moreC us a2 l.length c2 k a3 M.length c3)[22]? = some (.slice a3 M.length c3) := by unfold moreC; rw [List.getElem?_append_right (by omega), hcl]; rfl
  have hmu : ∀ j v, us[j]? = some v → (moreC us a2 l.length c2 k a3 M.length c3)[j]? = some v := fun j v h => by
    have hj : j < us.length := (List.getElem?_eq_some_iff.1 h).1
    unfold moreC; rw [List.getElem?_append_left hj]; exact h
  obtain ⟨ms, hms⟩ : ∃ ms, moreC us a2 l.length c2 k a3 M.length c3 = ms := ⟨_, rfl⟩
  rw [hms] at hcl3 hm20 hm21 hm22 hmu ⊢
  clear hms
  have hS : SMo w ms (w.alloc (Obj.cells ms.toArray 66)) := ⟨VarB.new w ms 66, (Below.refl _ _).alloc (Nat.le_refl _) _⟩
  have sizeU : (Tryz.prog.info? 44).map (·.size) = some us.length := by rw [hcl]; exact sizePx
  go_enter Tryz.func8, Tryz.ntmps8
  go_wp2_with fail
  have hS0 := hS
  have hS := hS.below (Below.drew (Below.refl _ _))
  refine wp_region_held_drew (S := SMo w ms) (by kernel_rfl) hS (fun hHeld => ?_)
  refine wpAnyH_take (i := 0) (v := ?_) rfl (by kernel_rfl) (by kernel_rfl) (by kernel_rfl) (fun _ _ _ h => h) (Or.inl ⟨by rfl, ?_⟩) (by assumption) ?_
  rotate_left
  · (intro wx hSw; go_simp; (try with_reducible rfl); (try omega))
  (try simp only [Act.put, List.setIfInBounds_toArray, List.set_cons_zero, List.set_cons_succ, List.getElem_toArray, List.getElem_cons_zero])
  refine wpAnyH_take (i := 1) (v := .agg us.toArray) rfl (by kernel_rfl) (by kernel_rfl) (by kernel_rfl) (fun _ _ _ h => h) (yieldsIf_load_mid rfl 44 _ rfl w.heap.size 0 rfl us _ (fun w h => (fun j v hv => by rw [Nat.zero_add]; exact h.v.cell j (hmu j v hv))) Tryz.underlying44 rfl (sizeU)) (by assumption) ?_
  (try simp only [Act.put, List.setIfInBounds_toArray, List.set_cons_zero, List.set_cons_succ, List.getElem_toArray, List.getElem_cons_zero, List.getElem_cons_succ])
  refine wpAnyH_take (i := 2) (v := ?_) rfl (by kernel_rfl) (by kernel_rfl) (by kernel_rfl) (fun _ _ _ h => h) (Or.inl ⟨by rfl, ?_⟩) (by assumption) ?_
  rotate_left
  · (intro wx hSw; go_simp; (try with_reducible rfl); (try omega))
  (try simp only [Act.put, List.setIfInBounds_toArray, List.set_cons_zero, List.set_cons_succ, List.getElem_toArray, List.getElem_cons_zero, List.getElem_cons_succ])
  refine wpAnyH_take (i := 3) (v := ?_) rfl (by kernel_rfl) (by kernel_rfl) (by kernel_rfl) (fun _ _ _ h => h) (Or.inl ⟨by rfl, ?_⟩) (by assumption) ?_
  rotate_left
  · (intro wx hSw; have z20 := hSw.v.cell 20 hm20; go_simp; (try with_reducible rfl); (try omega))
  (try simp only [Act.put, List.setIfInBounds_toArray, List.set_cons_zero, List.set_cons_succ, List.getElem_toArray, List.getElem_cons_zero, List.getElem_cons_succ])
  refine wpAnyH_take (i := 4) (v := ?_) rfl (by kernel_rfl) (by kernel_rfl) (by kernel_rfl) (fun _ _ _ h => h) (Or.inl ⟨by rfl, ?_⟩) (by assumption) ?_
  rotate_left
  · (intro wx hSw; go_simp; (try with_reducible rfl); (try omega))
  (try simp only [Act.put, List.setIfInBounds_toArray, List.set_cons_zero, List.set_cons_succ, List.getElem_toArray, List.getElem_cons_zero, List.getElem_cons_succ])
  refine wpAnyH_take (i := 5) (v := ?_) rfl (by kernel_rfl) (by kernel_rfl) (by kernel_rfl) (fun _ _ _ h => h) (Or.inl ⟨by rfl, ?_⟩) (by assumption) ?_
  rotate_left
  · (intro wx hSw; have z22 := hSw.v.cell 22 hm22; go_simp; (try with_reducible rfl); (try omega))
  (try simp only [Act.put, List.setIfInBounds_toArray, List.set_cons_zero, List.set_cons_succ, List.getElem_toArray, List.getElem_cons_zero, List.getElem_cons_succ])
  refine wpAnyH_ready (rs := [6]) (by kernel_rfl) (by simp) ?_
  refine AllReadyH.cons rfl (fun K hK => ?_) AllReadyH.nil
  go_simp
  have hS2 : SMo w ms ((w.alloc (Obj.cells ms.toArray 66)).alloc (Obj.cells zPx.toArray 44)).drew := (hS0.below ((Below.refl _ _).alloc (Nat.le_refl _) _)).below (Below.drew (Below.refl _ _))
  have V0 : VarB ((w.alloc (Obj.cells ms.toArray 66)).alloc (Obj.cells zPx.toArray 44)).drew (w.heap.size + 1) zPx := (VarB.newAt _ zPx 44 (by simp)).drew
  refine hK.out _ _ hS2 (fun hHeld => ?_)
  clear hK K hS hS0
  (try simp only [Act.put, List.setIfInBounds_toArray, List.set_cons_zero, List.set_cons_succ, List.getElem_toArray, List.getElem_cons_zero, List.getElem_cons_succ])
  refine wpAnyH_ready (rs := [7]) (by kernel_rfl) (by simp) ?_
  refine AllReadyH.cons rfl (fun K hK => ?_) AllReadyH.nil
  rw [if_pos (by kernel_rfl)]
  refine wp_store_mid (P := Tryz.prog) 44 (.tmp 3) (.tmp 16) rfl (w.heap.size + 1) 0 us.toArray rfl rfl (by simpa [hcl, zPx] using V0.there) (by simpa using sizeU) (all_oneCell_toArray hone) ?_
  have hq : ∀ W5, W5 = (((w.alloc (Obj.cells ms.toArray 66)).alloc (Obj.cells zPx.toArray 44)).drew).setCells (w.heap.size + 1) 0 us → SMq w ms us W5 := fun W5 e => by
    rw [e]
    exact ⟨hS2.v.other us (by omega), V0.puts us (by rw [hcl]; rfl), below_setCells us 0 hS2.b (by omega)⟩
  obtain ⟨W5, hW5⟩ : ∃ W5, (((w.alloc (Obj.cells ms.toArray 66)).alloc (Obj.cells zPx.toArray 44)).drew).setCells (w.heap.size + 1) 0 us = W5 := ⟨_, rfl⟩
  have hQ5 := hq W5 hW5.symm
  have hS5 : SMo w ms W5 := ⟨hQ5.v, hQ5.b⟩
  unfold zPx at hW5
  rw [hW5]
  clear hW5 hq hS2 V0
  refine hK _ _ hS5 (fun hHeld => ?_)
  clear hK K
  (try simp only [Act.put, List.getElem_toArray, List.getElem_cons_zero, List.getElem_cons_succ])
  refine wpAnyH_take (i := 8) (v := ?_) rfl (by kernel_rfl) (by kernel_rfl) (by kernel_rfl) (fun _ _ _ h => h) (Or.inl ⟨by rfl, ?_⟩) (by assumption) ?_
  rotate_left
  · (intro wx hSw; go_simp; (try with_reducible rfl); (try omega))
  (try simp only [Act.put, List.setIfInBounds_toArray, List.set_cons_zero, List.set_cons_succ, List.getElem_toArray, List.getElem_cons_zero, List.getElem_cons_succ])
  refine wpAnyH_take (i := 9) (v := ?_) rfl (by kernel_rfl) (by kernel_rfl) (by kernel_rfl) (fun _ _ _ h => h) (Or.inl ⟨by rfl, ?_⟩) (by assumption) ?_
  rotate_left
  · (intro wx hSw; go_simp; (try with_reducible rfl); (try omega))
  (try simp only [Act.put, List.setIfInBounds_toArray, List.set_cons_zero, List.set_cons_succ, List.getElem_toArray, List.getElem_cons_zero, List.getElem_cons_succ])
  refine wpAnyH_done (by kernel_rfl) ?_ _
  have hS := hQ5
  clear hQ5 hS5 hHeld
  have HGB := hid0 (show groupedB p = groupedB p from rfl)
  have HPB := hid0 (show plainE M = plainE M from rfl)
  generalize hgb : groupedB p = GB at CG
  generalize hpb : plainE M = PM at CP
  clear HGB HPB
  have hgb := hid0 hgb
  have hpb := hid0 hpb
  by_cases hg : GB = true
  · subst hg
    go_wp2_with (first | ((with_reducible refine wp_getB hS.u.at_ Tryz.underlying44 ?_ ?_ ?_ ?_); (rfl); (exact sizeU); (rfl); simp only [Act.put]) | (go_at_call 20; go_must (refine (CG.out _ hS.b).mono ?_; rintro e w1 ⟨rfl, hb1⟩; have hS1 := hS.below hb1)) | (go_at_call 12; go_must (refine (CA.out _).mono ?_; rintro e w2 ⟨rfl, hb2⟩; have hS2 := hS1.below hb2)) | fail)
    go_ret
    exact ⟨rfl, hS2.b⟩
  · have hg' : GB = false := by simpa using hg
    subst hg'
    by_cases hl0 : l.length = 0
    · have hl1 : (l.length : Int) = 0 := by omega
      go_wp2_with (first | ((with_reducible refine wp_getB hS.u.at_ Tryz.underlying44 ?_ ?_ ?_ ?_); (rfl); (exact sizeU); (rfl); simp only [Act.put]) | (go_at_call 20; go_must (refine (CG.out _ hS.b).mono ?_; rintro e w1 ⟨rfl, hb1⟩; have hS1 := hS.below hb1)) | (go_at_call 12; go_must (refine (CA.out _).mono ?_; rintro e w2 ⟨rfl, hb2⟩; have hS2 := hS1.below hb2)) | fail)
      go_ret
      exact ⟨rfl, hS2.b⟩
    · have hl1 : ¬ (l.length : Int) = 0 := by omega
      by_cases hp : PM = true
      · subst hp
        have hfew := HL.out.few
        have hu0 : ¬ IntKind.u64.wrap (l.length : Int) = 0 := by
          rw [show IntKind.u64.wrap (l.length : Int) = ((l.length : Int) % 18446744073709551616) from rfl]; omega
        clear hfew
        go_wp2_with (first | ((with_reducible refine wp_getB hS.u.at_ Tryz.underlying44 ?_ ?_ ?_ ?_); (rfl); (exact sizeU); (rfl); simp only [Act.put]) | (go_at_call 20; go_must (refine (CG.out _ hS.b).mono ?_; rintro e w1 ⟨rfl, hb1⟩; have hS1 := hS.below hb1)) | (go_at_call 27; go_must (refine (CP.out _ hS1.b).mono ?_; rintro e w2 ⟨rfl, hb2⟩; have hS2 := hS1.below hb2; have z21 := hS2.v.cell 21 hm21)) | fail)
        clear hu0
        generalize IntKind.u64.wrap (l.length : Int) = LU
        generalize IntKind.u64.wrap k = KU
        generalize KU.tmod LU = XT
        generalize wrap64 XT = X
        rw [show ((l.length : Int) == 0) = false by simpa using hl1]
        have hW0 : WideAt w2 w2 (.slice none 0 0) [] := WideAt.nil (Below.refl _ _)
        go_loopw [7, 8] (fun vv iv wr => ∃ (i : Nat) (l' : List Nx), i ≤ l.length ∧ iv = .int .i64 i ∧ WideAt w2 wr vv l' ∧ Hid (AllLe (l.take i) l' ∧ l'.length = i)) (fun _ iv _ => l.length - (intOf iv).toNat)
        case atStart => exact ⟨0, [], Nat.zero_le _, rfl, hW0, hid0 ⟨trivial, rfl⟩⟩
        case round =>
          clear hS hS1 hW0
          obtain ⟨i, l', hi, rfl, hW, hA⟩ := hrel
          have hS3 := hS2.below hW.b
          by_cases hlt : i < l.length
          · obtain ⟨b1, o1, rfl, hb1, hR⟩ := (HL.out.later hS3.b).name i hlt
            have hx := HL.out.ok _ (List.getElem_mem hlt)
            have hxl := hlL _ (List.getElem_mem hlt)
            have hin : (i : Int) < (l.length : Int) := by omega
            have hlf := HL.out.few
            have hAs : ∀ y : Nx, (l[i]).s = y.s → LeP ((l[i]).E.map pr) (y.E.map pr) → AllLe (l.take (i + 1)) (l' ++ [y]) ∧ (l' ++ [y]).length = i + 1 := fun y h1 h2 => by
              rw [List.take_succ_eq_append_getElem hlt]
              exact ⟨AllLe.snoc h1 h2 hA.out.1, by rw [List.length_append, hA.out.2]; rfl⟩
            have HAs := hid0 hAs
            have hll : l'.length = i := hA.out.2
            have hlen8 : (l'.length + 1) * 40 ≤ 140737488355328 := by omega
            clear hAs hA
            unfold Nx.cells at hR
            generalize l[i] = x at hR hx hxl HAs
            have HX := hid0 hx
            have HX0 := hid0 (fun W => (show x.s.size ≤ maxLen ∧ (ElemsI w2 x.a x.c x.E ∨ Apart W x) from ⟨hx.2, .inl (hx.1.later hS2.b)⟩))
            clear hx
            have V0 : VarB (wr.alloc (Obj.cells #[.string ⟨#[]⟩, .slice none 0 0] 63)) wr.heap.size [.string ⟨#[]⟩, .slice none 0 0] := VarB.new wr [.string ⟨#[]⟩, .slice none 0 0] 63
            have hone2 : ∀ u ∈ [Value.string x.s, .slice x.a x.E.length x.c], u.oneCell' = true := fun u hu => by simp at hu; rcases hu with rfl | rfl <;> rfl
            by_cases hik : (i : Int) = X
            · subst hik
              have CPx := hid0 (fun (W : World) (hW : Below w2.heap.size w2 W) => refBagPlain_all x.a x.c x.E W (HX.out.1.later (below_through hW hS2.b.size hS2.b)))
              obtain ⟨px, hpx⟩ : ∃ px, plainE x.E = px := ⟨_, rfl⟩
              rw [hpx] at CPx
              by_cases hpt : px = true
              · subst hpt
                have HSm := hid0 (show absS (x.E.map pr ++ M.map pr) ≤ 4611686018427387904 by
                  have h1 := plain_small hpx
                  have h2 := plain_small hpb.out
                  rw [absS_append]; omega)
                have CAd := hid0 (fun (W : World) (hW : Below w2.heap.size w2 W) => refAdd2 x.a a3 x.c c3 x.E M W (HX.out.1.later (below_through hW hS2.b.size hS2.b)).at_ (HM.out.later (below_through hW hS2.b.size hS2.b)).at_ (by omega) HSm.out)
                have HLe := hid0 (fun (E5 : List Elem) (hm5 : E5.map pr = ofB (x.E.map pr ++ M.map pr)) => show LeP (x.E.map pr) (E5.map pr) from by
                  rw [hm5]
                  exact LeP.add (fun y hy => by
                    obtain ⟨e, he, rfl⟩ := List.mem_map.1 hy
                    have := plainE_pos hpb.out e he
                    show 0 ≤ e.n; omega))
                clear hpx
                go_wp2_with (first | ((with_reducible refine wp_getB hR Tryz.underlying63 ?_ ?_ ?_ ?_); (rfl); (exact sizeNx); (rfl); simp only [Act.put]) | ((with_reducible refine wp_getB (hV8 _).at_ Tryz.underlying63 ?_ ?_ ?_ ?_); (rfl); (exact sizeNx); (rfl); simp only [Act.put]) | ((with_reducible refine wp_putB V0 hone2 ?_ ?_ ?_ ?_ ?_); (rfl); (exact sizeNx); (rfl); (rfl); intro w5 hV5 hw5; (have hw5b : Below wr.heap.size wr w5 := by rw [hw5.out]; exact below_setCells _ 0 ((Below.refl _ _).alloc (Nat.le_refl _) _) (Nat.le_refl _)); (have hT5 : TagN w5 wr.heap.size := by rw [hw5.out]; exact (TagN.new wr _).setCells _ 0); clear hw5; (have z5 := hV5.cell 1 rfl); (have hw25 := below_through hw5b hW.b.size hW.b); simp only [Act.put]) | (go_at_call 27; go_must (refine (CPx.out _ hw25).mono ?_; rintro e w6 ⟨rfl, hb6⟩; (have hV6 := hV5.below hb6); (have hT6 := hT5.later hb6); (have z6 := hV6.cell 1 rfl); (have hw6b := below_through hb6 hw5b.size hw5b); (have hW6 := fun o => hW.below (hw6b.alloc hw6b.size o)); (have hw26 := below_through hb6 hw25.size hw25))) | (go_at_call 22; go_must (refine (CAd.out _ hw26).mono ?_; rintro e w7 ⟨⟨a5, c5, E5, rfl, hc5, hE5, hm5, ht5, hg5⟩, hb7⟩; (have hV7 := hV6.below hb7); (have hT7 := hT6.later hb7); (have z7 := hV7.cell 1 rfl); (have f7 := hV7.frz 1 (by simp)); (have hw7b := below_through hb7 hw6b.size hw6b); (have hV8 : ∀ v, VarB (w7.setCell ⟨wr.heap.size, 1, none⟩ v) wr.heap.size [.string x.s, v] := fun v => hV7.set1 v (by simp)); (have hw8b : ∀ v, Below wr.heap.size wr (w7.setCell ⟨wr.heap.size, 1, none⟩ v) := fun v => hw7b.setCell (Nat.le_refl _) v); (have hW8 := fun v o => hW.below ((hw8b v).alloc (hw8b v).size o)); (have hAp := hid0 (apart_of (s := x.s) HX.out.1 HM.out hxl hlM hE5 hc5 hm5 ht5 hg5 HSm.out)); (have hAp8 := fun v o => (hAp.out.setBox (i := 1) hT7 v).later ((Below.refl _ _).alloc (Nat.le_refl _) o)))) | (at_builtin; go_loud (refine wp_nx rfl _ _ rfl rfl (hW8 _ _) ⟨x.s, a5, c5, E5⟩ _ rfl (elem_at _ _ _ _ (by simp)).1 (elem_at _ _ _ _ (by simp)).2 ⟨HX.out.2, .inr (hAp8 _ _)⟩ hlen8 ?_)) | fail)
                intro v8 w8 hm8 hK8
                go_wp2
                exact ⟨⟨i + 1, _, by omega, by go_num, hm8, hid0 (HAs.out ⟨x.s, a5, c5, E5⟩ rfl (HLe.out _ hm5))⟩, by simp [intOf]; omega⟩
              · have hpt' : px = false := by simpa using hpt
                subst hpt'
                clear hpx
                go_wp2_with (first | ((with_reducible refine wp_getB hR Tryz.underlying63 ?_ ?_ ?_ ?_); (rfl); (exact sizeNx); (rfl); simp only [Act.put]) | ((with_reducible refine wp_getB (hV6).at_ Tryz.underlying63 ?_ ?_ ?_ ?_); (rfl); (exact sizeNx); (rfl); simp only [Act.put]) | ((with_reducible refine wp_putB V0 hone2 ?_ ?_ ?_ ?_ ?_); (rfl); (exact sizeNx); (rfl); (rfl); intro w5 hV5 hw5; (have hw5b : Below wr.heap.size wr w5 := by rw [hw5.out]; exact below_setCells _ 0 ((Below.refl _ _).alloc (Nat.le_refl _) _) (Nat.le_refl _)); (have hT5 : TagN w5 wr.heap.size := by rw [hw5.out]; exact (TagN.new wr _).setCells _ 0); clear hw5; (have z5 := hV5.cell 1 rfl); (have hw25 := below_through hw5b hW.b.size hW.b); simp only [Act.put]) | (go_at_call 27; go_must (refine (CPx.out _ hw25).mono ?_; rintro e w6 ⟨rfl, hb6⟩; (have hV6 := hV5.below hb6); (have hT6 := hT5.later hb6); (have z6 := hV6.cell 1 rfl); (have hw6b := below_through hb6 hw5b.size hw5b); (have hW6 := fun o => hW.below (hw6b.alloc hw6b.size o)); (have hw26 := below_through hb6 hw25.size hw25))) | (at_builtin; go_loud (refine wp_nx rfl _ _ rfl rfl (hW6 _) x w6.heap.size rfl (elem_new _ _ _ _).1 (elem_new _ _ _ _).2 (HX0.out _) hlen8 ?_)) | fail)
                intro v8 w8 hm8 hK8
                go_wp2
                exact ⟨⟨i + 1, _, by omega, by go_num, hm8, hid0 (HAs.out x rfl (LeP.refl _))⟩, by simp [intOf]; omega⟩
            · have hikb : ((i : Int) == X) = false := by simpa using hik
              go_wp2_with (first | ((with_reducible refine wp_getB hR Tryz.underlying63 ?_ ?_ ?_ ?_); (rfl); (exact sizeNx); (rfl); simp only [Act.put]) | ((with_reducible refine wp_getB hV5.at_ Tryz.underlying63 ?_ ?_ ?_ ?_); (rfl); (exact sizeNx); (rfl); simp only [Act.put]) | ((with_reducible refine wp_putB V0 hone2 ?_ ?_ ?_ ?_ ?_); (rfl); (exact sizeNx); (rfl); (rfl); intro w5 hV5 hw5; (have hw5b : Below wr.heap.size wr w5 := by rw [hw5.out]; exact below_setCells _ 0 ((Below.refl _ _).alloc (Nat.le_refl _) _) (Nat.le_refl _)); clear hw5; (have hW5 := fun o => hW.below (hw5b.alloc hw5b.size o)); simp only [Act.put]) | (at_builtin; go_loud (refine wp_nx rfl _ _ rfl rfl (hW5 _) x w5.heap.size rfl (elem_new _ _ _ _).1 (elem_new _ _ _ _).2 (HX0.out _) hlen8 ?_)) | fail)
              intro v8 w8 hm8 hK8
              go_wp2
              exact ⟨⟨i + 1, _, by omega, by go_num, hm8, hid0 (HAs.out x rfl (LeP.refl _))⟩, by simp [intOf]; omega⟩
          · have hie : ¬ (i : Int) < (l.length : Int) := by omega
            have hil : i = l.length := by omega
            have hA1 := hA.out.1
            have hA2 := hA.out.2
            rw [List.take_of_length_le (by omega)] at hA1
            obtain ⟨a4, c4, rfl, hN4⟩ := hW.names (by have := HL.out.few; omega)
            have HN4 := hid0 hN4
            have HA1 := hid0 hA1
            clear hA hA1 hN4
            go_wp2_with (first | ((with_reducible refine wp_getB hS3.u.at_ Tryz.underlying44 ?_ ?_ ?_ ?_); (rfl); (exact sizeU); (rfl); simp only [Act.put]) | fail)
            have C1 := hid0 (fun (W : World) (B : Nat) (hB : VarB W B us) (hb : Below w.heap.size w W) => rows_part p hgb.out l l.length rfl a2 c2 W B us HUS.out hB (HP.out.later hb) (HL.out.later hb))
            have C2 := hid0 (fun (W : World) (B : Nat) (hB : VarB W B us) (hb : Below w.heap.size w W) (hb2 : Below wr.heap.size wr W) => rows_part p hgb.out l' l.length (by omega) a4 c4 W B us HUS.out hB (HP.out.later hb) (HN4.out.later hb2))
            have HM2 := hid0 (And.intro (more_plan HA1.out hgb.out) (And.intro (rows_few (p := p) HL.out) (rows_few (p := p) HN4.out)))
            generalize rowsM l [p] = RA at C1 HM2
            generalize rowsM l' [p] = RB at C2 HM2
            obtain ⟨LA, r1⟩ := RA
            obtain ⟨LB, r2⟩ := RB
            rw [fold20 us _ hcl rfl]
            have hbA : Below wr.heap.size wr (wr.alloc (Obj.cells us.toArray 44)) := (Below.refl _ _).alloc (Nat.le_refl _) _
            refine (C1.out _ _ (VarB.new wr us 44) (hS3.below hbA).b).mono ?_
            rintro e w3 ⟨⟨a5, c5, E5, rfl, hc5, hE5, hm5⟩, hb3⟩
            have hwr3 := below_through hb3 hbA.size hbA
            have hS4 := hS3.below hwr3
            clear hb3 hbA
            go_wp2_with (first | ((with_reducible refine wp_getB hS4.u.at_ Tryz.underlying44 ?_ ?_ ?_ ?_); (rfl); (exact sizeU); (rfl); simp only [Act.put]) | fail)
            rw [fold20 us _ hcl rfl]
            have hbB : Below w3.heap.size w3 (w3.alloc (Obj.cells us.toArray 44)) := (Below.refl _ _).alloc (Nat.le_refl _) _
            refine (C2.out _ _ (VarB.new w3 us 44) (hS4.below hbB).b (below_through hbB hwr3.size hwr3)).mono ?_
            rintro e w4 ⟨⟨a6, c6, E6, rfl, hc6, hE6, hm6⟩, hb4⟩
            have hw34 := below_through hb4 hbB.size hbB
            have HE5 := hid0 (hE5.later hw34)
            have HE6 := hid0 hE6
            have hB4 := (hS4.below hw34).b
            clear hb4 hbB hE5 hE6 hS4 hwr3 hw34 C1 C2
            by_cases hr1 : r1 = 0
            · subst hr1
              by_cases hr2 : r2 = 0
              · subst hr2
                have HFd := hid0 (HM2.out.1 rfl rfl)
                have hf5 : E5.length ≤ 2001 := by
                  have h1 := HM2.out.2.1 rfl
                  rw [← hm5, List.length_map] at h1; exact h1
                have hf6 : E6.length ≤ 2001 := by
                  have h1 := HM2.out.2.2 rfl
                  rw [← hm6, List.length_map] at h1; exact h1
                clear HM2
                have Hm5 := hid0 hm5
                have Hm6 := hid0 hm6
                clear hm5 hm6
                go_wp2_with fail
                go_loopw [14] (fun iv wq => ∃ i : Nat, i ≤ E5.length ∧ iv = .int .i64 i ∧ Below w4.heap.size w4 wq) (fun iv _ => E5.length - (intOf iv).toNat)
                case atStart => exact ⟨0, Nat.zero_le _, rfl, Below.refl _ _⟩
                case round =>
                  obtain ⟨j, hj, rfl, hBj⟩ := hrel
                  by_cases hlt2 : j < E5.length
                  · obtain ⟨b5, o5, rfl, hc5'⟩ := (HE5.out.1.later hBj) (by intro e; rw [e] at hlt2; exact absurd hlt2 (by simp))
                    obtain ⟨q0, q1⟩ := hc5' j hlt2
                    clear hc5'
                    have hmem := List.getElem_mem hlt2
                    have hro := HE5.out.2 _ hmem
                    have CF := fun (W : World) (hW : Below w4.heap.size w4 W) => refFind_any a6 c6 E6 E5[j].a E5[j].c E5[j].r W (HE6.out.later hW) (hro.1.later hW) (by omega)
                    have hnl : ¬ findP (E6.map pr) E5[j].r < E5[j].n := by
                      have h1 := HFd.out (pr E5[j]) (by show pr E5[j] ∈ LA; rw [← Hm5.out]; exact List.mem_map_of_mem hmem)
                      rw [Hm6.out]
                      have e1 : (pr E5[j]).2 = E5[j].n := rfl
                      have e2 : (pr E5[j]).1 = E5[j].r := rfl
                      rw [e1, e2] at h1
                      show ¬ findP LB E5[j].r < E5[j].n
                      omega
                    generalize findP (E6.map pr) E5[j].r = fd at CF hnl
                    generalize E5[j] = ee at q0 q1 CF hnl
                    have CF := hid0 CF
                    have hjn : (j : Int) < (E5.length : Int) := by omega
                    clear hro hmem
                    go_wp2_with fail
                    go_region_held3 (fun w' => w'.cell? ⟨b5, o5 + j * 2, none⟩ = some (.slice ee.a ee.r.length ee.c) ∧ w'.cell? ⟨b5, o5 + j * 2 + 1, none⟩ = some (.int .i64 ee.n) ∧ Below w4.heap.size w4 w')
                      ((go_split_ands; (try dsimp only); (repeat' apply And.intro); all_goals (first
                        | assumption
                        | exact cell_later hbn ‹_›
                        | exact below_through hbn (Below.size ‹Below w4.heap.size w4 _›) ‹_›
                        | exact Below.drew hBj
                        | go_keep)))
                      (first
                        | (go_at_call 24; (try go_split_ands); refine (CF.out _ (by assumption)).mono ?_; rintro e wn ⟨rfl, hbn⟩))
                    have HH := ‹wn.cell? ⟨b5, o5 + j * 2, none⟩ = some (.slice ee.a ee.r.length ee.c) ∧ _›
                    have hBn := HH.2.2
                    have hnl' : ¬ fd < ee.n := by omega
                    clear CF q0 q1 HH hnl
                    go_wp2
                    exact ⟨⟨j + 1, by omega, by go_num, hBn⟩, by simp [intOf]; omega⟩
                  · have hje : ¬ (j : Int) < (E5.length : Int) := by omega
                    have hBw := below_through hBj hB4.size hB4
                    go_wp2_with (first | (go_at_call 12; go_must (refine (CA.out _).mono ?_; rintro e w9 ⟨rfl, hb9⟩; have hb9' := below_through hb9 (Below.size hBw) hBw)) | fail)
                    go_ret
                    exact ⟨rfl, hb9'⟩
              · go_wp2_with (first | (go_at_call 12; go_must (refine (CA.out _).mono ?_; rintro e w9 ⟨rfl, hb9⟩; have hb9' := below_through hb9 (Below.size hB4) hB4)) | fail)
                go_ret
                exact ⟨rfl, hb9'⟩
            · go_wp2_with (first | (go_at_call 12; go_must (refine (CA.out _).mono ?_; rintro e w9 ⟨rfl, hb9⟩; have hb9' := below_through hb9 (Below.size hB4) hB4)) | fail)
              go_ret
              exact ⟨rfl, hb9'⟩
      · have hp' : PM = false := by simpa using hp
        subst hp'
        go_wp2_with (first | ((with_reducible refine wp_getB hS.u.at_ Tryz.underlying44 ?_ ?_ ?_ ?_); (rfl); (exact sizeU); (rfl); simp only [Act.put]) | (go_at_call 20; go_must (refine (CG.out _ hS.b).mono ?_; rintro e w1 ⟨rfl, hb1⟩; have hS1 := hS.below hb1)) | (go_at_call 27; go_must (refine (CP.out _ hS1.b).mono ?_; rintro e w2 ⟨rfl, hb2⟩; have hS2 := hS1.below hb2)) | (go_at_call 12; go_must (refine (CA.out _).mono ?_; rintro e w3 ⟨rfl, hb3⟩; have hS3 := hS2.below hb3)) | fail)
        go_ret
        exact ⟨rfl, hS3.b⟩
end Go.Proofs.YtokkgikajammhaaGreat
