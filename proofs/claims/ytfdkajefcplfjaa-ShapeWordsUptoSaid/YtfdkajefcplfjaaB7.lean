/- Several of my texts laid together, each as it was: Yk. Conditions: each names its own. -/
import Derived.Test.YtfdkajefcplfjaaB6
/- The project's asked: the places of a condition's columns: a contract of the call, in whatever memory. Conditions: as read's. -/
namespace Go.Proofs.Ytfdkajefcplfjaa
open Go.RowKit

theorem Grw.ne {w w' : World} {v v' : Value} {b : Nat} (h : Grw w v w' v') (hv : v.ownBlock ≠ some b) (hb : b < w.heap.size) : v'.ownBlock ≠ some b := by
  rcases h.o with e | e
  · rw [e]; exact hv
  · intro e2; have := e b e2; omega
structure AkOk (n : Nat) : Prop where
  out : ∀ (x : Tx) (w0 w : World) (v : Value) (F : List Int), TxAt w0 n x → IRow w0 w v F → F.length + sizeT x ≤ 8000000 → Calls Try.prog 71 #[v, x.val] w (RdAns w0 w v (F ++ asT x))
structure AkHalf (w0 : World) (x : Tx) (s : Nat) : Prop where
  out : ∀ (w : World) (v : Value) (F : List Int), IRow w0 w v F → F.length + s ≤ 8000000 → Calls Try.prog 71 #[v, x.val] w (RdAns w0 w v (F ++ asT x))
theorem AkOk.half {n : Nat} (H : AkOk n) {w0 : World} {x : Tx} (hx : TxAt w0 n x) : AkHalf w0 x (sizeT x) := ⟨fun w v F h1 h2 => H.out x w0 w v F hx h1 h2⟩
set_option maxHeartbeats 8000000 in
set_option maxRecDepth 1000000 in
theorem asked_step {n : Nat} (IH : AkOk n) (k op : Int) (kl al : Int) (vl : Val) (pl : Option Addr) (cl : Nat) (yl : List Cx) (kr ar : Int) (vr : Val) (pr : Option Addr) (cr : Nat) (yr : List Cx) (p : Option Addr) (c : Nat) (ys : List Tx) (w0 w : World) (v : Value) (F : List Int) (hx : TxAt w0 (n + 1) (.mk k op (.mk kl al vl pl cl yl) (.mk kr ar vr pr cr yr) p c ys)) (hF : IRow w0 w v F) (hs : F.length + sizeT (.mk k op (.mk kl al vl pl cl yl) (.mk kr ar vr pr cr yr) p c ys) ≤ 8000000) :
    Calls Try.prog 71 #[v, .agg #[.int .i64 k, .int .i64 op, .int .i64 kl, .int .i64 al, .int .i64 vl.k, .int .i64 vl.n, .string vl.s, .slice pl yl.length cl, .int .i64 kr, .int .i64 ar, .int .i64 vr.k, .int .i64 vr.n, .string vr.s, .slice pr yr.length cr, .slice p ys.length c]] w (RdAns w0 w v (F ++ asT (.mk k op (.mk kl al vl pl cl yl) (.mk kr ar vr pr cr yr) p c ys))) := by
  obtain ⟨⟨hl, hr⟩, hk, hA⟩ := hx
  have H : ∀ j (hj : j < ys.length), AkHalf w0 ys[j] (sizeT ys[j]) := fun j hj => IH.half (hA _ (List.getElem_mem hj))
  have HH := hid0 H
  have HK := hid0 hk
  have hroom := hk.room
  rw [sizeT] at hs
  have hL := (read_allY n).half hl
  have hRr := (read_allY n).half hr
  have sl := rdC_len (.mk kl al vl pl cl yl)
  have sr := rdC_len (.mk kr ar vr pr cr yr)
  have hF0 := hF.b.size
  clear IH hA H hk hl hr
  have HR := hid0 (show F ++ asT (.mk k op (.mk kl al vl pl cl yl) (.mk kr ar vr pr cr yr) p c ys) = (F ++ rdC (.mk kl al vl pl cl yl) ++ rdC (.mk kr ar vr pr cr yr)) ++ asL ys by rw [asT]; simp only [List.append_assoc])
  generalize hgl : rdC (.mk kl al vl pl cl yl) = FL at HR hL sl
  generalize hgr : rdC (.mk kr ar vr pr cr yr) = FR at HR hRr sr
  generalize hsl : sizeC (.mk kl al vl pl cl yl) = SL at hs hL sl
  generalize hsr : sizeC (.mk kr ar vr pr cr yr) = SR at hs hRr sr
  have C1 : ∀ (w : World) (v : Value) (F : List Int), IRow w0 w v F → F.length + SL ≤ 8000000 → Calls Try.prog 72 #[v, .agg #[.int .i64 kl, .int .i64 al, .int .i64 vl.k, .int .i64 vl.n, .string vl.s, .slice pl yl.length cl]] w (RdAns w0 w v (F ++ FL)) := fun w v F h1 h2 => by have h := hL.out w v F h1 h2; rw [hgl] at h; exact h
  have C2 : ∀ (w : World) (v : Value) (F : List Int), IRow w0 w v F → F.length + SR ≤ 8000000 → Calls Try.prog 72 #[v, .agg #[.int .i64 kr, .int .i64 ar, .int .i64 vr.k, .int .i64 vr.n, .string vr.s, .slice pr yr.length cr]] w (RdAns w0 w v (F ++ FR)) := fun w v F h1 h2 => by have h := hRr.out w v F h1 h2; rw [hgr] at h; exact h
  have C1 := hid0 C1
  have C2 := hid0 C2
  clear hL hRr hgl hgr hsl hsr
  have V := VarB.new w [.int .i64 k, .int .i64 op, .int .i64 kl, .int .i64 al, .int .i64 vl.k, .int .i64 vl.n, .string vl.s, .slice pl yl.length cl, .int .i64 kr, .int .i64 ar, .int .i64 vr.k, .int .i64 vr.n, .string vr.s, .slice pr yr.length cr, .slice p ys.length c] 37
  have HV := hid0 V
  have HF := hid0 hF
  have hbx := hF.box
  clear V hF
  go_enter Try.func71, Try.ntmps71
  go_wp2_with fail
  have hI1 : IRow w0 _ v F := (HF.out.alloc (.cells #[.int .i64 k, .int .i64 op, .int .i64 kl, .int .i64 al, .int .i64 vl.k, .int .i64 vl.n, .string vl.s, .slice pl yl.length cl, .int .i64 kr, .int .i64 ar, .int .i64 vr.k, .int .i64 vr.n, .string vr.s, .slice pr yr.length cr, .slice p ys.length c] 37)).drew
  have hG1 : Grw w v _ v := ((Grw.refl w v).alloc (.cells #[.int .i64 k, .int .i64 op, .int .i64 kl, .int .i64 al, .int .i64 vl.k, .int .i64 vl.n, .string vl.s, .slice pl yl.length cl, .int .i64 kr, .int .i64 ar, .int .i64 vr.k, .int .i64 vr.n, .string vr.s, .slice pr yr.length cr, .slice p ys.length c] 37)).drew
  have hS : BoxS w0 w.heap.size [.int .i64 k, .int .i64 op, .int .i64 kl, .int .i64 al, .int .i64 vl.k, .int .i64 vl.n, .string vl.s, .slice pl yl.length cl, .int .i64 kr, .int .i64 ar, .int .i64 vr.k, .int .i64 vr.n, .string vr.s, .slice pr yr.length cr, .slice p ys.length c] _ := ⟨HV.out.drew, hI1.b⟩
  clear HV HF
  refine wp_region_held_drew (S := BoxS w0 w.heap.size [.int .i64 k, .int .i64 op, .int .i64 kl, .int .i64 al, .int .i64 vl.k, .int .i64 vl.n, .string vl.s, .slice pl yl.length cl, .int .i64 kr, .int .i64 ar, .int .i64 vr.k, .int .i64 vr.n, .string vr.s, .slice pr yr.length cr, .slice p ys.length c]) (by kernel_rfl) hS (fun hHeld => ?_)
  refine wpAnyH_take (i := 0) (v := ?_) rfl (by kernel_rfl) (by kernel_rfl) (by kernel_rfl) (fun _ _ _ h => h) (Or.inl ⟨by rfl, ?_⟩) (by assumption) ?_
  rotate_left
  · (intro wx hSw; have q1 := hSw.a.cell 1 rfl; go_simp; (try with_reducible rfl); (try omega))
  (try simp only [Act.put, List.setIfInBounds_toArray, List.set_cons_zero, List.set_cons_succ, List.getElem_toArray, List.getElem_cons_zero])
  refine wpAnyH_take (i := 1) (v := ?_) rfl (by kernel_rfl) (by kernel_rfl) (by kernel_rfl) (fun _ _ _ h => h) (Or.inl ⟨by rfl, ?_⟩) (by assumption) ?_
  rotate_left
  · (intro wx hSw; have q1 := hSw.a.cell 1 rfl; go_simp; (try with_reducible rfl); (try omega))
  (try simp only [Act.put, List.setIfInBounds_toArray, List.set_cons_zero, List.set_cons_succ, List.getElem_toArray, List.getElem_cons_zero, List.getElem_cons_succ])
  refine wpAnyH_take (i := 2) (v := .agg [.int .i64 kl, .int .i64 al, .int .i64 vl.k, .int .i64 vl.n, .string vl.s, .slice pl yl.length cl].toArray) rfl (by kernel_rfl) (by kernel_rfl) (by kernel_rfl) (fun _ _ _ h => h) (yieldsIf_load_mid rfl 34 _ rfl w.heap.size (2) rfl [.int .i64 kl, .int .i64 al, .int .i64 vl.k, .int .i64 vl.n, .string vl.s, .slice pl yl.length cl] _ (fun w h => range_mid (xs := [.int .i64 k, .int .i64 op]) (ys := [.int .i64 kl, .int .i64 al, .int .i64 vl.k, .int .i64 vl.n, .string vl.s, .slice pl yl.length cl]) (zs := [.int .i64 kr, .int .i64 ar, .int .i64 vr.k, .int .i64 vr.n, .string vr.s, .slice pr yr.length cr, .slice p ys.length c]) h.a.at_) Try.underlying34 rfl (sizeX)) (by assumption) ?_
  (try simp only [Act.put, List.setIfInBounds_toArray, List.set_cons_zero, List.set_cons_succ, List.getElem_toArray, List.getElem_cons_zero, List.getElem_cons_succ])
  refine wpAnyH_take (i := 4) (v := ?_) rfl (by kernel_rfl) (by kernel_rfl) (by kernel_rfl) (fun _ _ _ h => h) (Or.inl ⟨by rfl, ?_⟩) (by assumption) ?_
  rotate_left
  · (intro wx hSw; have q1 := hSw.a.cell 1 rfl; go_simp; (try with_reducible rfl); (try omega))
  (try simp only [Act.put, List.setIfInBounds_toArray, List.set_cons_zero, List.set_cons_succ, List.getElem_toArray, List.getElem_cons_zero, List.getElem_cons_succ])
  refine wpAnyH_take (i := 5) (v := .agg [.int .i64 kr, .int .i64 ar, .int .i64 vr.k, .int .i64 vr.n, .string vr.s, .slice pr yr.length cr].toArray) rfl (by kernel_rfl) (by kernel_rfl) (by kernel_rfl) (fun _ _ _ h => h) (yieldsIf_load_mid rfl 34 _ rfl w.heap.size (8) rfl [.int .i64 kr, .int .i64 ar, .int .i64 vr.k, .int .i64 vr.n, .string vr.s, .slice pr yr.length cr] _ (fun w h => range_mid (xs := [.int .i64 k, .int .i64 op, .int .i64 kl, .int .i64 al, .int .i64 vl.k, .int .i64 vl.n, .string vl.s, .slice pl yl.length cl]) (ys := [.int .i64 kr, .int .i64 ar, .int .i64 vr.k, .int .i64 vr.n, .string vr.s, .slice pr yr.length cr]) (zs := [.slice p ys.length c]) h.a.at_) Try.underlying34 rfl (sizeX)) (by assumption) ?_
  (try simp only [Act.put, List.setIfInBounds_toArray, List.set_cons_zero, List.set_cons_succ, List.getElem_toArray, List.getElem_cons_zero, List.getElem_cons_succ])
  refine wpAnyH_ready (rs := [3]) (by kernel_rfl) (by simp) ?_
  refine AllReadyH.cons rfl (fun K hK => ?_) AllReadyH.nil
  go_simp
  refine (C1.out _ _ _ hI1 (by omega)).mono ?_
  rintro e w3 ⟨v3, rfl, hI3, hG3⟩
  have hS3 : BoxS w0 w.heap.size [.int .i64 k, .int .i64 op, .int .i64 kl, .int .i64 al, .int .i64 vl.k, .int .i64 vl.n, .string vl.s, .slice pl yl.length cl, .int .i64 kr, .int .i64 ar, .int .i64 vr.k, .int .i64 vr.n, .string vr.s, .slice pr yr.length cr, .slice p ys.length c] _ := ⟨hG3.var hS.a hbx, hI3.b⟩
  have hbx3 := hG3.ne hbx hS.a.lt
  have hG3 := hG1.trans hG3
  refine hK.out _ _ hS3 (fun hHeld => ?_)
  clear hK K
  (try simp only [Act.put, List.setIfInBounds_toArray, List.set_cons_zero, List.set_cons_succ, List.getElem_toArray, List.getElem_cons_zero, List.getElem_cons_succ])
  refine wpAnyH_ready (rs := [6]) (by kernel_rfl) (by simp) ?_
  refine AllReadyH.cons rfl (fun K hK => ?_) AllReadyH.nil
  go_simp
  refine (C2.out _ _ _ hI3 (by rw [List.length_append]; omega)).mono ?_
  rintro e w4 ⟨v4, rfl, hI4, hG4⟩
  have hS4 : BoxS w0 w.heap.size [.int .i64 k, .int .i64 op, .int .i64 kl, .int .i64 al, .int .i64 vl.k, .int .i64 vl.n, .string vl.s, .slice pl yl.length cl, .int .i64 kr, .int .i64 ar, .int .i64 vr.k, .int .i64 vr.n, .string vr.s, .slice pr yr.length cr, .slice p ys.length c] _ := ⟨hG4.var hS3.a hbx3, hI4.b⟩
  have hG4 := hG3.trans hG4
  refine hK.out _ _ hS4 (fun hHeld => ?_)
  clear hK K
  (try simp only [Act.put, List.setIfInBounds_toArray, List.set_cons_zero, List.set_cons_succ, List.getElem_toArray, List.getElem_cons_zero, List.getElem_cons_succ])
  refine wpAnyH_take (i := 7) (v := ?_) rfl (by kernel_rfl) (by kernel_rfl) (by kernel_rfl) (fun _ _ _ h => h) (Or.inl ⟨by rfl, ?_⟩) (by assumption) ?_
  rotate_left
  · (intro wx hSw; have q1 := hSw.a.cell 1 rfl; go_simp; (try with_reducible rfl); (try omega))
  (try simp only [Act.put, List.setIfInBounds_toArray, List.set_cons_zero, List.getElem_toArray, List.getElem_cons_zero, List.getElem_cons_succ])
  refine wpAnyH_done (by kernel_rfl) ?_ _
  have a14 := hS4.a.cell 14 rfl
  have HI1 := hid0 hI4
  have HG1 := hid0 hG4
  have hz4 := hS4.b.size
  clear hI4 hG4 hI3 hG3 hI1 hG1 hS hS3 hS4 hHeld C1 C2 hbx hbx3
  go_wp2_with fail
  clear a14
  go_loopw [0, 17] (fun u i wr => ∃ k : Nat, k ≤ ys.length ∧ i = .int .i64 k ∧ IRow w0 wr u ((F ++ FL ++ FR) ++ asL (ys.take k)) ∧ Grw w v wr u) (fun _ i _ => ys.length - (intOf i).toNat)
  case atStart => exact ⟨0, Nat.zero_le _, rfl, by simpa [asL] using HI1.out, HG1.out⟩
  case round =>
    obtain ⟨j, hk, rfl, hI, hG⟩ := hrel
    have hsz := hI.b.size
    by_cases hlt : j < ys.length
    · have H := HH.out j hlt
      have HT := hid0 (asL_take ys j hlt)
      have hs1 := sizeTL_take ys j hlt
      have hs2 := asL_len (ys.take j)
      obtain ⟨b, o, rfl, hb, hX⟩ := HK.out.arg j hlt
      generalize hy : ys[j] = t at H hX HT hs1
      clear hy
      obtain ⟨kt, ot, ⟨kf, af, vf, pf, cf, yf⟩, ⟨kg, ag, vg, pg, cg, yg⟩, pt, ct, yt⟩ := t
      have hb' : b < wr.heap.size := by omega
      have q0 := cell_later hI.b (rng hX 0 rfl)
      have q1 := cell_later hI.b (rng hX 1 rfl)
      have q2 := cell_later hI.b (rng hX 2 rfl)
      have q3 := cell_later hI.b (rng hX 3 rfl)
      have q4 := cell_later hI.b (rng hX 4 rfl)
      have q5 := cell_later hI.b (rng hX 5 rfl)
      have q6 := cell_later hI.b (rng hX 6 rfl)
      have q7 := cell_later hI.b (rng hX 7 rfl)
      have q8 := cell_later hI.b (rng hX 8 rfl)
      have q9 := cell_later hI.b (rng hX 9 rfl)
      have q10 := cell_later hI.b (rng hX 10 rfl)
      have q11 := cell_later hI.b (rng hX 11 rfl)
      have q12 := cell_later hI.b (rng hX 12 rfl)
      have q13 := cell_later hI.b (rng hX 13 rfl)
      have q14 := cell_later hI.b (rng hX 14 rfl)
      simp only [Nat.add_zero] at q0
      have HI := hid0 hI
      have HG := hid0 hG
      clear hX hI hG
      go_wp2_with fail
      go_at_call 71
      refine (H.out _ _ _ (HI.out.alloc _) (by simp only [List.length_append]; omega)).mono ?_
      rintro e w5 ⟨v5, rfl, hI5, hG5⟩
      rw [List.append_assoc, ← HT.out] at hI5
      have hG6 := (HG.out.alloc _).trans hG5
      have HI5 := hid0 hI5
      have HG6 := hid0 hG6
      clear hI5 hG5 hG6 HI HG q0 q1 q2 q3 q4 q5 q6 q7 q8 q9 q10 q11 q12 q13 q14
      go_wp2_with fail
      exact ⟨⟨j + 1, by omega, by go_num, HI5.out, HG6.out⟩, by simp [intOf]; omega⟩
    · obtain rfl : j = ys.length := by omega
      rw [List.take_length] at hI
      have HI := hid0 hI
      have HG := hid0 hG
      clear hI hG
      go_wp2_with fail
      go_ret
      exact ⟨_, rfl, by rw [HR.out]; exact HI.out, HG.out⟩
theorem asked_all : ∀ n, AkOk n
  | 0 => ⟨fun _ _ _ _ _ h _ _ => h.elim⟩
  | n + 1 => ⟨fun x w0 w v F hx hF hs => by
    obtain ⟨k, op, ⟨kl, al, vl, pl, cl, yl⟩, ⟨kr, ar, vr, pr, cr, yr⟩, p, c, ys⟩ := x
    exact asked_step (asked_all n) k op kl al vl pl cl yl kr ar vr pr cr yr p c ys w0 w v F hx hF hs⟩
theorem asked_any {n : Nat} {x : Tx} {w0 w : World} {v : Value} {F : List Int} (hx : TxAt w0 n x) (hF : IRow w0 w v F) (hs : F.length + sizeT x ≤ 8000000) : Calls Try.prog 71 #[v, x.val] w (RdAns w0 w v (F ++ asT x)) := (asked_all n).out x w0 w v F hx hF hs
end Go.Proofs.Ytfdkajefcplfjaa
