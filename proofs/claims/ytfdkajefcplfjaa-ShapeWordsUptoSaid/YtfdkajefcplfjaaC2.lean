/- Several of my texts laid together, each as it was: S4. Conditions: each names its own. -/
import Derived.Test.YtfdkajefcplfjaaB5
import Derived.Test.YtfdkajefcplfjaaC1
/- Expressions compared field by field, by the project: a contract of the call. Conditions: their cells are known. -/
namespace Go.Proofs.Ytfdkajefcplfjaa
open Go.RowKit

/-- The two boxes and the range's own. -/
structure TriS (w0 : World) (T U G : Nat) (us vs xs : List Value) (w : World) : Prop where
  t : VarB w T us
  u : VarB w U vs
  g : VarB w G xs
  b : Below w0.heap.size w0 w
theorem TriS.drew {w0 w : World} {T U G : Nat} {us vs xs : List Value} (h : TriS w0 T U G us vs xs w) : TriS w0 T U G us vs xs w.drew := ⟨h.t.drew, h.u.drew, h.g.drew, Below.drew h.b⟩
theorem TriS.below {w0 w w1 : World} {T U G : Nat} {us vs xs : List Value} (h : TriS w0 T U G us vs xs w) (hb : Below w.heap.size w w1) : TriS w0 T U G us vs xs w1 := ⟨h.t.below hb, h.u.below hb, h.g.below hb, below_through hb h.b.size h.b⟩
structure PaHalf (w : World) (x y : Cx) : Prop where
  out : ∀ W, Below w.heap.size w W → Calls Try.prog 19 #[x.val, y.val] W (AlAns W (alC x y))
structure PaOk (n : Nat) : Prop where
  out : ∀ (m : Nat) (x y : Cx) (w : World), CxAt w n x → CxAt w m y → Calls Try.prog 19 #[x.val, y.val] w (AlAns w (alC x y))
set_option maxHeartbeats 16000000 in
set_option maxRecDepth 1000000 in
theorem shAlike_step {n m : Nat} (IH : PaOk n) (k a : Int) (v : Val) (p : Option Addr) (c : Nat) (ys : List Cx) (k' a' : Int) (v' : Val) (p' : Option Addr) (c' : Nat) (ys' : List Cx) (w : World) (hx : CxAt w (n + 1) (.mk k a v p c ys)) (hy : CxAt w (m + 1) (.mk k' a' v' p' c' ys')) :
    Calls Try.prog 19 #[(Cx.mk k a v p c ys).val, (Cx.mk k' a' v' p' c' ys').val] w (AlAns w (alC (.mk k a v p c ys) (.mk k' a' v' p' c' ys'))) := by
  have H : ∀ j (h1 : j < ys.length) (h2 : j < ys'.length), PaHalf w ys[j] ys'[j] := fun j h1 h2 => ⟨fun W hb => IH.out m _ _ W ((hx.2 _ (List.getElem_mem h1)).later hb) ((hy.2 _ (List.getElem_mem h2)).later hb)⟩
  have HH := hid0 H
  have HK := hid0 hx.1
  have HK' := hid0 hy.1
  have hroom := hx.1.room
  clear IH hx hy H
  obtain ⟨R, hR⟩ : ∃ R, alC (.mk k a v p c ys) (.mk k' a' v' p' c' ys') = R := ⟨_, rfl⟩
  rw [hR]
  dsimp only [Cx.val, Cx.cells]
  obtain ⟨VA, VB⟩ := VarB.two (w := w) [.int .i64 k, .int .i64 a, .int .i64 v.k, .int .i64 v.n, .string v.s, .slice p ys.length c] [.int .i64 k', .int .i64 a', .int .i64 v'.k, .int .i64 v'.n, .string v'.s, .slice p' ys'.length c'] 34 34
  have hB0 : Below w.heap.size w ((w.alloc (.cells #[.int .i64 k, .int .i64 a, .int .i64 v.k, .int .i64 v.n, .string v.s, .slice p ys.length c] 34)).alloc (.cells #[.int .i64 k', .int .i64 a', .int .i64 v'.k, .int .i64 v'.n, .string v'.s, .slice p' ys'.length c'] 34)) := ((Below.refl _ _).alloc (Nat.le_refl _) _).alloc (by simp) _
  have nv : ∀ W, (binOp .neq 31 (.agg #[.int .i64 v.k, .int .i64 v.n, .string v.s]) (.agg #[.int .i64 v'.k, .int .i64 v'.n, .string v'.s])).run Try.prog W = .ok (.bool (!sameV v.k v.n v.s v'.k v'.n v'.s)) W := fun W => neq23 ..
  by_cases h1 : k = k'
  · by_cases h2 : a = a'
    · subst h1; subst h2
      cases h3 : sameV v.k v.n v.s v'.k v'.n v'.s with
      | true =>
        by_cases h4 : ys.length = ys'.length
        · have HR := hid0 (show (ys.zip ys').all al2 = R by rw [← hR, alC_go rfl rfl h3 h4])
          rw [h3] at nv
          simp only [Bool.not_true] at nv
          clear hR h3
          have HN := hid0 h4.symm
          rw [← h4] at VA VB hB0 ⊢
          obtain ⟨N, hNN⟩ : ∃ N, ys.length = N := ⟨_, rfl⟩
          rw [hNN] at hroom VA VB hB0 ⊢
          have HM := hid0 hNN
          clear h4 hNN
          have HS : Hid (TwoS w w.heap.size (w.heap.size + 1) [.int .i64 k, .int .i64 a, .int .i64 v.k, .int .i64 v.n, .string v.s, .slice p N c] [.int .i64 k, .int .i64 a, .int .i64 v'.k, .int .i64 v'.n, .string v'.s, .slice p' N c'] _) := hid0 ⟨VA, VB, hB0⟩
          have a0 := VA.cell 0 rfl
          have b0 := VB.cell 0 rfl
          have a1 := VA.cell 1 rfl
          have b1 := VB.cell 1 rfl
          have a2 := VA.cell 2 rfl
          have b2 := VB.cell 2 rfl
          have a3 := VA.cell 3 rfl
          have b3 := VB.cell 3 rfl
          have a4 := VA.cell 4 rfl
          have b4 := VB.cell 4 rfl
          have a5 := VA.cell 5 rfl
          have b5 := VB.cell 5 rfl
          have nk : (k != k) = false := by simp
          have na : (a != a) = false := by simp
          have nl : ((N : Int) != (N : Int)) = false := by simp
          clear VA VB hB0
          go_enter Try.func19, Try.ntmps19
          go_wp2_with fail
          clear a0 b0 a1 b1 a2 b2 a3 b3 a4 b4 a5 b5 nk na nl nv
          go_loopw [38] (fun iv wr => ∃ j : Nat, j ≤ N ∧ iv = .int .i64 j ∧ Hid (((ys.zip ys').take j).all al2 = true) ∧ TwoS w w.heap.size (w.heap.size + 1) [.int .i64 k, .int .i64 a, .int .i64 v.k, .int .i64 v.n, .string v.s, .slice p N c] [.int .i64 k, .int .i64 a, .int .i64 v'.k, .int .i64 v'.n, .string v'.s, .slice p' N c'] wr) (fun iv _ => N - (intOf iv).toNat)
          case atStart => exact ⟨0, Nat.zero_le _, rfl, hid0 rfl, HS.out⟩
          case round =>
            obtain ⟨j, hj, rfl, hO, hS⟩ := hrel
            have a5 := hS.t.cell 5 rfl
            have b5 := hS.u.cell 5 rfl
            by_cases hlt : j < N
            · have hlt' : (j : Int) < (N : Int) := by omega
              have h1 : j < ys.length := by rw [HM.out]; exact hlt
              have h2 : j < ys'.length := by rw [HN.out, HM.out]; exact hlt
              have H := HH.out j h1 h2
              have hnext := hid0 (fun hf => zip_next h1 h2 hO.out hf)
              have hbad := hid0 (fun hf => zip_bad h1 h2 hf)
              obtain ⟨b1, o1, rfl, hb1, hX1⟩ := HK.out.arg j h1
              obtain ⟨b2, o2, rfl, hb2, hX2⟩ := HK'.out.arg j h2
              generalize ys[j] = t1 at H hX1 hnext hbad
              generalize ys'[j] = t2 at H hX2 hnext hbad
              obtain ⟨rb, hrb⟩ : ∃ rb, alC t1 t2 = rb := ⟨_, rfl⟩
              have H := H.out
              rw [hrb] at H hnext hbad
              have H := hid0 H
              clear hrb
              obtain ⟨kf, af, vf, pf, cf, yf⟩ := t1
              obtain ⟨kg, ag, vg, pg, cg, yg⟩ := t2
              clear h1 h2
              have hR1 := rangeAt_blk hX1 (hS.b.block b1 hb1)
              have V0 : VarB (wr.alloc (Obj.cells #[.int .i64 0, .int .i64 0, .int .i64 0, .int .i64 0, .string ⟨#[]⟩, .slice none 0 0] 34)) wr.heap.size [.int .i64 0, .int .i64 0, .int .i64 0, .int .i64 0, .string ⟨#[]⟩, .slice none 0 0] := VarB.new wr [.int .i64 0, .int .i64 0, .int .i64 0, .int .i64 0, .string ⟨#[]⟩, .slice none 0 0] 34
              have hSA : TwoS w w.heap.size (w.heap.size + 1) [.int .i64 k, .int .i64 a, .int .i64 v.k, .int .i64 v.n, .string v.s, .slice (some ⟨b1, o1, none⟩) N c] [.int .i64 k, .int .i64 a, .int .i64 v'.k, .int .i64 v'.n, .string v'.s, .slice (some ⟨b2, o2, none⟩) N c'] wr := hS
              have hone : ∀ u ∈ ([.int .i64 kf, .int .i64 af, .int .i64 vf.k, .int .i64 vf.n, .string vf.s, .slice pf yf.length cf] : List Value), u.oneCell' = true := (Cx.mk kf af vf pf cf yf).one
              have hwr := hS.b.size
              have HSA := hid0 hSA
              clear hS hSA a5 b5
              change wr.rangeAt b1 (o1 + j * 6) [.int .i64 kf, .int .i64 af, .int .i64 vf.k, .int .i64 vf.n, .string vf.s, .slice pf yf.length cf] at hR1
              cases rb with
              | true =>
                go_wp2_with (first | ((with_reducible refine wp_getB hR1 Try.underlying34 ?_ ?_ ?_ ?_); (rfl); (exact sizeX); (rfl); simp only [Act.put]) | ((with_reducible refine wp_putB V0 hone ?_ ?_ ?_ ?_ ?_); (rfl); (exact sizeX); (rfl); (rfl); intro w5 hV5 hw5; (have hb5 : Below wr.heap.size wr w5 := by rw [hw5.out]; exact below_setCells _ 0 ((Below.refl _ _).alloc (Nat.le_refl _) _) (Nat.le_refl _)); clear hw5 V0; simp only [Act.put]) | fail)
                have hT5 := HSA.out.below hb5
                have hS : TriS w w.heap.size (w.heap.size + 1) wr.heap.size [.int .i64 k, .int .i64 a, .int .i64 v.k, .int .i64 v.n, .string v.s, .slice (some ⟨b1, o1, none⟩) N c] [.int .i64 k, .int .i64 a, .int .i64 v'.k, .int .i64 v'.n, .string v'.s, .slice (some ⟨b2, o2, none⟩) N c'] [.int .i64 kf, .int .i64 af, .int .i64 vf.k, .int .i64 vf.n, .string vf.s, .slice pf yf.length cf] w5.drew := ⟨hT5.t.drew, hT5.u.drew, hV5.drew, Below.drew hT5.b⟩
                clear hV5 hT5 hb5 hR1
                refine wp_region_held_drew (S := TriS w w.heap.size (w.heap.size + 1) wr.heap.size [.int .i64 k, .int .i64 a, .int .i64 v.k, .int .i64 v.n, .string v.s, .slice (some ⟨b1, o1, none⟩) N c] [.int .i64 k, .int .i64 a, .int .i64 v'.k, .int .i64 v'.n, .string v'.s, .slice (some ⟨b2, o2, none⟩) N c'] [.int .i64 kf, .int .i64 af, .int .i64 vf.k, .int .i64 vf.n, .string vf.s, .slice pf yf.length cf]) (by kernel_rfl) hS (fun hHeld => ?_)
                refine wpAnyH_take (i := 0) (v := .agg [.int .i64 kf, .int .i64 af, .int .i64 vf.k, .int .i64 vf.n, .string vf.s, .slice pf yf.length cf].toArray) rfl (by kernel_rfl) (by kernel_rfl) (by kernel_rfl) (fun _ _ _ h => h) (yieldsIf_load_mid rfl 34 _ rfl wr.heap.size (0) rfl [.int .i64 kf, .int .i64 af, .int .i64 vf.k, .int .i64 vf.n, .string vf.s, .slice pf yf.length cf] _ (fun w h => h.g.at_) Try.underlying34 rfl (sizeX)) (by assumption) ?_
                (try simp only [Act.put, List.setIfInBounds_toArray, List.set_cons_zero, List.set_cons_succ, List.getElem_toArray, List.getElem_cons_zero])
                refine wpAnyH_take (i := 1) (v := ?_) rfl (by kernel_rfl) (by kernel_rfl) (by kernel_rfl) (fun _ _ _ h => h) (Or.inl ⟨by rfl, ?_⟩) (by assumption) ?_
                rotate_left
                · (intro wx hSw; have q5 := hSw.u.cell 5 rfl; go_simp; (try with_reducible rfl); (try omega))
                (try simp only [Act.put, List.setIfInBounds_toArray, List.set_cons_zero, List.set_cons_succ, List.getElem_toArray, List.getElem_cons_zero, List.getElem_cons_succ])
                refine wpAnyH_take (i := 2) (v := ?_) rfl (by kernel_rfl) (by kernel_rfl) (by kernel_rfl) (fun _ _ _ h => h) (Or.inl ⟨by rfl, ?_⟩) (by assumption) ?_
                rotate_left
                · (intro wx hSw; have q5 := hSw.u.cell 5 rfl; go_simp; (try with_reducible rfl); (try omega))
                (try simp only [Act.put, List.setIfInBounds_toArray, List.set_cons_zero, List.set_cons_succ, List.getElem_toArray, List.getElem_cons_zero, List.getElem_cons_succ])
                refine wpAnyH_take (i := 3) (v := ?_) rfl (by kernel_rfl) (by kernel_rfl) (by kernel_rfl) (fun _ _ _ h => h) (Or.inl ⟨by rfl, ?_⟩) (by assumption) ?_
                rotate_left
                · (intro wx hSw; have q5 := hSw.u.cell 5 rfl; go_simp; (try with_reducible rfl); (try omega))
                (try simp only [Act.put, List.setIfInBounds_toArray, List.set_cons_zero, List.set_cons_succ, List.getElem_toArray, List.getElem_cons_zero, List.getElem_cons_succ])
                refine wpAnyH_take (i := 4) (v := ?_) rfl (by kernel_rfl) (by kernel_rfl) (by kernel_rfl) (fun _ _ _ h => h) (Or.inl ⟨by rfl, ?_⟩) (by assumption) ?_
                rotate_left
                · (intro wx hSw; have q5 := hSw.u.cell 5 rfl; go_simp; (try with_reducible rfl); (try omega))
                (try simp only [Act.put, List.setIfInBounds_toArray, List.set_cons_zero, List.set_cons_succ, List.getElem_toArray, List.getElem_cons_zero, List.getElem_cons_succ])
                refine wpAnyH_take (i := 5) (v := .agg [.int .i64 kg, .int .i64 ag, .int .i64 vg.k, .int .i64 vg.n, .string vg.s, .slice pg yg.length cg].toArray) rfl (by kernel_rfl) (by kernel_rfl) (by kernel_rfl) (fun _ _ _ h => h) (yieldsIf_load_mid rfl 34 _ rfl b2 (o2 + j * 6) rfl [.int .i64 kg, .int .i64 ag, .int .i64 vg.k, .int .i64 vg.n, .string vg.s, .slice pg yg.length cg] _ (fun w h => rangeAt_blk hX2 (h.b.block b2 hb2)) Try.underlying34 rfl (sizeX)) (by assumption) ?_
                (try simp only [Act.put, List.setIfInBounds_toArray, List.set_cons_zero, List.set_cons_succ, List.getElem_toArray, List.getElem_cons_zero, List.getElem_cons_succ])
                refine wpAnyH_ready (rs := [6]) (by kernel_rfl) (by simp) ?_
                refine AllReadyH.cons rfl (fun K hK => ?_) AllReadyH.nil
                go_simp
                refine (H.out _ hS.b).mono ?_
                rintro e W3 ⟨rfl, hb⟩
                have hS := hS.below hb
                clear hb
                refine hK.out _ _ hS (fun hHeld => ?_)
                clear hK K
                (try simp only [Act.put, List.setIfInBounds_toArray, List.set_cons_zero, List.set_cons_succ, List.getElem_toArray, List.getElem_cons_zero, List.getElem_cons_succ])
                refine wpAnyH_take (i := 7) (v := ?_) rfl (by kernel_rfl) (by kernel_rfl) (by kernel_rfl) (fun _ _ _ h => h) (Or.inl ⟨by rfl, ?_⟩) (by assumption) ?_
                rotate_left
                · (intro wx hSw; have q5 := hSw.u.cell 5 rfl; go_simp; (try with_reducible rfl); (try omega))
                (try simp only [Act.put, List.setIfInBounds_toArray, List.set_cons_zero, List.set_cons_succ, List.getElem_toArray, List.getElem_cons_zero, List.getElem_cons_succ])
                refine wpAnyH_done (by kernel_rfl) ?_ _
                have hSe := hid0 hS
                clear hS hHeld
                go_wp2_with fail
                exact ⟨⟨j + 1, by omega, by go_num, hid0 (hnext.out (by trivial)), ⟨hSe.out.t, hSe.out.u, hSe.out.b⟩⟩, by simp [intOf]; omega⟩
              | false =>
                go_wp2_with (first | ((with_reducible refine wp_getB hR1 Try.underlying34 ?_ ?_ ?_ ?_); (rfl); (exact sizeX); (rfl); simp only [Act.put]) | ((with_reducible refine wp_putB V0 hone ?_ ?_ ?_ ?_ ?_); (rfl); (exact sizeX); (rfl); (rfl); intro w5 hV5 hw5; (have hb5 : Below wr.heap.size wr w5 := by rw [hw5.out]; exact below_setCells _ 0 ((Below.refl _ _).alloc (Nat.le_refl _) _) (Nat.le_refl _)); clear hw5 V0; simp only [Act.put]) | fail)
                have hT5 := HSA.out.below hb5
                have hS : TriS w w.heap.size (w.heap.size + 1) wr.heap.size [.int .i64 k, .int .i64 a, .int .i64 v.k, .int .i64 v.n, .string v.s, .slice (some ⟨b1, o1, none⟩) N c] [.int .i64 k, .int .i64 a, .int .i64 v'.k, .int .i64 v'.n, .string v'.s, .slice (some ⟨b2, o2, none⟩) N c'] [.int .i64 kf, .int .i64 af, .int .i64 vf.k, .int .i64 vf.n, .string vf.s, .slice pf yf.length cf] w5.drew := ⟨hT5.t.drew, hT5.u.drew, hV5.drew, Below.drew hT5.b⟩
                clear hV5 hT5 hb5 hR1
                refine wp_region_held_drew (S := TriS w w.heap.size (w.heap.size + 1) wr.heap.size [.int .i64 k, .int .i64 a, .int .i64 v.k, .int .i64 v.n, .string v.s, .slice (some ⟨b1, o1, none⟩) N c] [.int .i64 k, .int .i64 a, .int .i64 v'.k, .int .i64 v'.n, .string v'.s, .slice (some ⟨b2, o2, none⟩) N c'] [.int .i64 kf, .int .i64 af, .int .i64 vf.k, .int .i64 vf.n, .string vf.s, .slice pf yf.length cf]) (by kernel_rfl) hS (fun hHeld => ?_)
                refine wpAnyH_take (i := 0) (v := .agg [.int .i64 kf, .int .i64 af, .int .i64 vf.k, .int .i64 vf.n, .string vf.s, .slice pf yf.length cf].toArray) rfl (by kernel_rfl) (by kernel_rfl) (by kernel_rfl) (fun _ _ _ h => h) (yieldsIf_load_mid rfl 34 _ rfl wr.heap.size (0) rfl [.int .i64 kf, .int .i64 af, .int .i64 vf.k, .int .i64 vf.n, .string vf.s, .slice pf yf.length cf] _ (fun w h => h.g.at_) Try.underlying34 rfl (sizeX)) (by assumption) ?_
                (try simp only [Act.put, List.setIfInBounds_toArray, List.set_cons_zero, List.set_cons_succ, List.getElem_toArray, List.getElem_cons_zero])
                refine wpAnyH_take (i := 1) (v := ?_) rfl (by kernel_rfl) (by kernel_rfl) (by kernel_rfl) (fun _ _ _ h => h) (Or.inl ⟨by rfl, ?_⟩) (by assumption) ?_
                rotate_left
                · (intro wx hSw; have q5 := hSw.u.cell 5 rfl; go_simp; (try with_reducible rfl); (try omega))
                (try simp only [Act.put, List.setIfInBounds_toArray, List.set_cons_zero, List.set_cons_succ, List.getElem_toArray, List.getElem_cons_zero, List.getElem_cons_succ])
                refine wpAnyH_take (i := 2) (v := ?_) rfl (by kernel_rfl) (by kernel_rfl) (by kernel_rfl) (fun _ _ _ h => h) (Or.inl ⟨by rfl, ?_⟩) (by assumption) ?_
                rotate_left
                · (intro wx hSw; have q5 := hSw.u.cell 5 rfl; go_simp; (try with_reducible rfl); (try omega))
                (try simp only [Act.put, List.setIfInBounds_toArray, List.set_cons_zero, List.set_cons_succ, List.getElem_toArray, List.getElem_cons_zero, List.getElem_cons_succ])
                refine wpAnyH_take (i := 3) (v := ?_) rfl (by kernel_rfl) (by kernel_rfl) (by kernel_rfl) (fun _ _ _ h => h) (Or.inl ⟨by rfl, ?_⟩) (by assumption) ?_
                rotate_left
                · (intro wx hSw; have q5 := hSw.u.cell 5 rfl; go_simp; (try with_reducible rfl); (try omega))
                (try simp only [Act.put, List.setIfInBounds_toArray, List.set_cons_zero, List.set_cons_succ, List.getElem_toArray, List.getElem_cons_zero, List.getElem_cons_succ])
                refine wpAnyH_take (i := 4) (v := ?_) rfl (by kernel_rfl) (by kernel_rfl) (by kernel_rfl) (fun _ _ _ h => h) (Or.inl ⟨by rfl, ?_⟩) (by assumption) ?_
                rotate_left
                · (intro wx hSw; have q5 := hSw.u.cell 5 rfl; go_simp; (try with_reducible rfl); (try omega))
                (try simp only [Act.put, List.setIfInBounds_toArray, List.set_cons_zero, List.set_cons_succ, List.getElem_toArray, List.getElem_cons_zero, List.getElem_cons_succ])
                refine wpAnyH_take (i := 5) (v := .agg [.int .i64 kg, .int .i64 ag, .int .i64 vg.k, .int .i64 vg.n, .string vg.s, .slice pg yg.length cg].toArray) rfl (by kernel_rfl) (by kernel_rfl) (by kernel_rfl) (fun _ _ _ h => h) (yieldsIf_load_mid rfl 34 _ rfl b2 (o2 + j * 6) rfl [.int .i64 kg, .int .i64 ag, .int .i64 vg.k, .int .i64 vg.n, .string vg.s, .slice pg yg.length cg] _ (fun w h => rangeAt_blk hX2 (h.b.block b2 hb2)) Try.underlying34 rfl (sizeX)) (by assumption) ?_
                (try simp only [Act.put, List.setIfInBounds_toArray, List.set_cons_zero, List.set_cons_succ, List.getElem_toArray, List.getElem_cons_zero, List.getElem_cons_succ])
                refine wpAnyH_ready (rs := [6]) (by kernel_rfl) (by simp) ?_
                refine AllReadyH.cons rfl (fun K hK => ?_) AllReadyH.nil
                go_simp
                refine (H.out _ hS.b).mono ?_
                rintro e W3 ⟨rfl, hb⟩
                have hS := hS.below hb
                clear hb
                refine hK.out _ _ hS (fun hHeld => ?_)
                clear hK K
                (try simp only [Act.put, List.setIfInBounds_toArray, List.set_cons_zero, List.set_cons_succ, List.getElem_toArray, List.getElem_cons_zero, List.getElem_cons_succ])
                refine wpAnyH_take (i := 7) (v := ?_) rfl (by kernel_rfl) (by kernel_rfl) (by kernel_rfl) (fun _ _ _ h => h) (Or.inl ⟨by rfl, ?_⟩) (by assumption) ?_
                rotate_left
                · (intro wx hSw; have q5 := hSw.u.cell 5 rfl; go_simp; (try with_reducible rfl); (try omega))
                (try simp only [Act.put, List.setIfInBounds_toArray, List.set_cons_zero, List.set_cons_succ, List.getElem_toArray, List.getElem_cons_zero, List.getElem_cons_succ])
                refine wpAnyH_done (by kernel_rfl) ?_ _
                have hSe := hid0 hS
                clear hS hHeld
                go_wp2_with fail
                go_ret
                exact ⟨ret_bool (by rw [← HR.out, hbad.out (by trivial)]), hSe.out.b⟩
            · have hie : ¬ (j : Int) < (N : Int) := by omega
              rw [List.take_of_length_le (by rw [List.length_zip, HM.out]; omega)] at hO
              have hSh := hid0 hS
              clear hS
              go_wp2_with fail
              go_ret
              exact ⟨ret_bool (by rw [← HR.out, hO.out]), hSh.out.b⟩
        · have HR := hid0 (show false = R by rw [← hR, alC_n h4])
          rw [h3] at nv
          simp only [Bool.not_true] at nv
          clear HH HK HK' hroom hR
          generalize ys.length = N1 at *
          generalize ys'.length = N2 at *
          have nk : (k != k) = false := by simp
          have na : (a != a) = false := by simp
          have nl : ((N1 : Int) != (N2 : Int)) = true := by simp; omega
          have nl2 : ¬ (N1 : Int) = (N2 : Int) := by omega
          have a0 := VA.cell 0 rfl
          have b0 := VB.cell 0 rfl
          have a1 := VA.cell 1 rfl
          have b1 := VB.cell 1 rfl
          have a2 := VA.cell 2 rfl
          have b2 := VB.cell 2 rfl
          have a3 := VA.cell 3 rfl
          have b3 := VB.cell 3 rfl
          have a4 := VA.cell 4 rfl
          have b4 := VB.cell 4 rfl
          have a5 := VA.cell 5 rfl
          have b5 := VB.cell 5 rfl
          clear VA VB h3 h4
          go_enter Try.func19, Try.ntmps19
          go_wp2_with fail
          go_ret
          exact ⟨ret_bool HR.out, hB0⟩
      | false =>
        have HR := hid0 (show false = R by rw [← hR, alC_v h3])
        rw [h3] at nv
        simp only [Bool.not_false] at nv
        have nk : (k != k) = false := by simp
        have na : (a != a) = false := by simp
        have a0 := VA.cell 0 rfl
        have b0 := VB.cell 0 rfl
        have a1 := VA.cell 1 rfl
        have b1 := VB.cell 1 rfl
        have a2 := VA.cell 2 rfl
        have b2 := VB.cell 2 rfl
        have a3 := VA.cell 3 rfl
        have b3 := VB.cell 3 rfl
        have a4 := VA.cell 4 rfl
        have b4 := VB.cell 4 rfl
        have a5 := VA.cell 5 rfl
        have b5 := VB.cell 5 rfl
        clear VA VB hR h3
        go_enter Try.func19, Try.ntmps19
        go_wp2_with fail
        go_ret
        exact ⟨ret_bool HR.out, hB0⟩
    · subst h1
      have HR := hid0 (show false = R by rw [← hR, alC_a h2])
      have nk : (k != k) = false := by simp
      have na : (a != a') = true := by simpa using h2
      have a0 := VA.cell 0 rfl
      have b0 := VB.cell 0 rfl
      have a1 := VA.cell 1 rfl
      have b1 := VB.cell 1 rfl
      have a2 := VA.cell 2 rfl
      have b2 := VB.cell 2 rfl
      have a3 := VA.cell 3 rfl
      have b3 := VB.cell 3 rfl
      have a4 := VA.cell 4 rfl
      have b4 := VB.cell 4 rfl
      have a5 := VA.cell 5 rfl
      have b5 := VB.cell 5 rfl
      clear VA VB hR nv
      go_enter Try.func19, Try.ntmps19
      go_wp2_with fail
      go_ret
      exact ⟨ret_bool HR.out, hB0⟩
  · have HR := hid0 (show false = R by rw [← hR, alC_k h1])
    have nk : (k != k') = true := by simpa using h1
    have a0 := VA.cell 0 rfl
    have b0 := VB.cell 0 rfl
    have a1 := VA.cell 1 rfl
    have b1 := VB.cell 1 rfl
    have a2 := VA.cell 2 rfl
    have b2 := VB.cell 2 rfl
    have a3 := VA.cell 3 rfl
    have b3 := VB.cell 3 rfl
    have a4 := VA.cell 4 rfl
    have b4 := VB.cell 4 rfl
    have a5 := VA.cell 5 rfl
    have b5 := VB.cell 5 rfl
    clear VA VB hR nv
    go_enter Try.func19, Try.ntmps19
    go_wp2_with fail
    go_ret
    exact ⟨ret_bool HR.out, hB0⟩
theorem shAlike_all : ∀ n, PaOk n
  | 0 => ⟨fun _ _ _ _ h => h.elim⟩
  | n + 1 => ⟨fun m x y w hx hy => by
    obtain ⟨k, a, v, p, c, ys⟩ := x
    obtain ⟨k', a', v', p', c', ys'⟩ := y
    match m, hy with
    | m + 1, hy => exact shAlike_step (shAlike_all n) k a v p c ys k' a' v' p' c' ys' w hx hy⟩
end Go.Proofs.Ytfdkajefcplfjaa
