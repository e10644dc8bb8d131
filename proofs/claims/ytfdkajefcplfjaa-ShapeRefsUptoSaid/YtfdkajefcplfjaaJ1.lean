/- Several of my texts laid together, each as it was: Xn. Conditions: each names its own. -/
import Derived.Test.YtfdkajefcplfjaaB9
/- Whether a plan may be. Conditions: its parts are known. -/
namespace Go.Proofs.Ytfdkajefcplfjaa
open Go.RowKit

/-- What a round of the loop over a plan's parts keeps. -/
structure SRight (w0 : World) (pb b0 o0 n c : Nat) (us : List Value) (fo : Value) (w : World) : Prop where
  v : VarB w w0.heap.size [.slice (some ⟨b0, o0, none⟩) n c]
  p : VarB w pb us
  f : w.cell? ⟨b0, o0 + 19, none⟩ = some fo
  b : Below w0.heap.size w0 w
theorem SRight.below {w0 : World} {pb b0 o0 n c : Nat} {us : List Value} {fo : Value} {w w' : World} (h : SRight w0 pb b0 o0 n c us fo w) (hb : Below w.heap.size w w') : SRight w0 pb b0 o0 n c us fo w' :=
  ⟨h.v.below hb, h.p.below hb, cell_later hb h.f, below_through hb h.b.size h.b⟩
theorem SRight.of {w0 wr w5 : World} {b0 o0 n c : Nat} {us : List Value} {fo : Value} {o : Obj} (hI : VarB wr w0.heap.size [.slice (some ⟨b0, o0, none⟩) n c]) (hB : Below w0.heap.size w0 wr) (hV : VarB w5 wr.heap.size us)
    (hw : w5 = (wr.alloc o).setCells wr.heap.size 0 us) (hf : w0.cell? ⟨b0, o0 + 19, none⟩ = some fo) : SRight w0 wr.heap.size b0 o0 n c us fo w5 := by
  have hb : Below w0.heap.size w0 w5 := by rw [hw]; exact below_setCells us 0 (hB.alloc hB.size o) hB.size
  exact ⟨by rw [hw]; exact (hI.alloc o).other us (by have := hI.lt; omega), hV, cell_later hb hf, hb⟩
def partM (k0 : Nat) (p : Px) : Bool := partB p && decide (p.os.length = k0)
theorem planB_at {ps : List Px} {n : Nat} (hn : ps.length = n) (h : 0 < ps.length) : planB ps = (inN n 1 4 && ps.all (partM ps[0].os.length)) := by
  subst hn
  cases ps with
  | nil => simp at h
  | cons p ps => rfl
theorem planB_no {ps : List Px} (h : inN ps.length 1 4 = false) : planB ps = false := by unfold planB; rw [h]; rfl
set_option maxRecDepth 100000 in
set_option maxHeartbeats 4000000 in
theorem planRight_any {k : Nat} (a : Option Addr) (c : Nat) (ps : List Px) (w : World) (h : PsOk w k a c ps) :
    Calls Try.prog 21 #[planV a ps.length c] w fun e w' => e = .returned (.bool (planB ps)) ∧ Below w.heap.size w w' := by
  obtain ⟨n, hn⟩ : ∃ n, ps.length = n := ⟨_, rfl⟩
  have CF := hid0 (fun W => within_any ps.length 1 4 W)
  have hno := hid0 (planB_no (ps := ps))
  have hat := hid0 (planB_at hn)
  have hin : inN ps.length 1 4 = true → 1 ≤ ps.length ∧ ps.length ≤ 4 := fun h => by have := inN_in h; omega
  have V := VarB.new w [.slice a ps.length c] 24
  have hB0 : Below w.heap.size w (w.alloc (.cells #[.slice a ps.length c] 24)) := (Below.refl _ _).alloc (Nat.le_refl _) _
  have HN := hid0 hn
  have H := hid0 h
  unfold planV
  generalize planB ps = R at hno hat ⊢
  rw [hn] at V CF hno hin hB0 ⊢
  clear hn h
  have q00 := V.cell 0 rfl
  have HV := hid0 V
  clear V
  generalize inN n 1 4 = rf at *
  cases rf with
  | false =>
    go_enter Try.func21, Try.ntmps21
    go_wp2_with (go_at_call 29; go_must (refine (CF.out _).mono ?_; rintro e w1 ⟨rfl, hw⟩; rw [hw]))
    go_ret
    exact ⟨ret_bool (hno.out (by trivial)).symm, hB0⟩
  | true =>
    obtain ⟨hn1, hn4⟩ := hin rfl
    have hn0 : 0 < n := by omega
    clear hin hno
    have h0 : 0 < ps.length := by rw [HN.out]; omega
    have hat := hid0 (show ps.all (partM ps[0].os.length) = R by rw [hat.out (by omega)]; rfl)
    obtain ⟨b0, o0, rfl, hb0, hR0⟩ := H.out.part 0 h0
    have q0 := rng hR0 19 ps[0].c19
    rw [Nat.zero_mul, Nat.add_zero] at q0
    have Hq0 := hid0 q0
    generalize ps[0].os.length = k0 at hat Hq0
    generalize ps[0].op = fa at Hq0
    generalize ps[0].oc = fc at Hq0
    clear hR0 q0
    go_enter Try.func21, Try.ntmps21
    go_wp2_with (go_at_call 29; go_must (refine (CF.out _).mono ?_; rintro e w1 ⟨rfl, hw⟩; rw [hw]))
    clear q00 CF
    go_loopw [13] (fun iv wr => ∃ i : Nat, i ≤ n ∧ iv = .int .i64 i ∧ Hid ((ps.take i).all (partM k0) = true) ∧ VarB wr w.heap.size [.slice (some ⟨b0, o0, none⟩) n c] ∧ Below w.heap.size w wr) (fun iv _ => n - (intOf iv).toNat)
    case atStart => exact ⟨0, Nat.zero_le _, rfl, hid0 rfl, HV.out, hB0⟩
    case round =>
      obtain ⟨i, hi, rfl, hO, hI, hB⟩ := hrel
      clear hB0 HV
      have hsz := hB.size
      by_cases hlt : i < n
      · have hlt1 : i < ps.length := by rw [HN.out]; exact hlt
        obtain ⟨b, o, e, hb, hR⟩ := (H.out.later hB).part i hlt1
        cases e
        have hbad := hid0 (fun hf => all_bad (f := partM k0) hlt1 hf)
        have hnext := hid0 (fun hf => all_take hlt1 hO.out hf)
        have hok := H.out.ok _ (List.getElem_mem hlt1)
        generalize ps[i] = p at hR hbad hnext hok
        have hfx : partM k0 p = (partB p && decide (p.os.length = k0)) := rfl
        have CR : Hid (∀ W, Below w.heap.size w W → Calls Try.prog 30 #[.agg p.cells.toArray] W fun e w' => e = .returned (.bool (partB p)) ∧ Below W.heap.size W w') := hid0 (fun W hW => right_any p W (hok.later hW))
        have hcl := p.cells_len
        have h1' := p.one
        have H19 := hid0 p.c19
        have V0 : VarB (wr.alloc (Obj.cells #[.bool false, .slice none 0 0, .slice none 0 0, .int .i64 0, .int .i64 0, .int .i64 0, .int .i64 0, .int .i64 0, .int .i64 0, .string ⟨#[]⟩, .slice none 0 0, .int .i64 0, .int .i64 0, .int .i64 0, .int .i64 0, .string ⟨#[]⟩, .slice none 0 0, .slice none 0 0, .slice none 0 0, .slice none 0 0] 40)) wr.heap.size zPx := VarB.new wr zPx 40
        clear hok
        generalize p.cells = us at hR hcl h1' H19 CR
        generalize p.os.length = kp at hfx H19
        generalize p.op = pa at H19
        generalize p.oc = pc at H19
        generalize partB p = rp at CR hfx
        generalize partM k0 p = fx at hfx hbad hnext
        have HFX := hid0 hfx
        clear hfx
        have q00 := Hq0.out
        cases rp with
        | false =>
          go_wp2_with (first | ((with_reducible refine wp_getB hR Try.underlying40 ?_ ?_ ?_ ?_); (rfl); (rw [hcl]; exact sizePx); (rfl); (try simp only [Act.put])) | ((with_reducible refine wp_putB V0 h1' ?_ ?_ ?_ ?_ ?_); (exact hcl); (exact sizePx); (rfl); (rfl); intro w5 hV5 hw5; (have hS := (SRight.of hI hB hV5 hw5.out q00).below (Below.drew (Below.refl _ _))); clear hw5; simp only [Act.put]) | fail)
          refine wp_region_held_drew (S := SRight w wr.heap.size b0 o0 n c us (.slice fa k0 fc)) (by kernel_rfl) hS (fun hHeld => ?_)
          refine wpAnyH_take (i := 0) (v := .agg us.toArray) rfl (by kernel_rfl) (by kernel_rfl) (by kernel_rfl) (fun _ _ _ h => h) (yieldsIf_load_mid rfl 40 _ rfl wr.heap.size (0) rfl us _ (fun w h => h.p.at_) Try.underlying40 rfl (by rw [hcl]; exact sizePx)) (by assumption) ?_
          (try simp only [Act.put, List.setIfInBounds_toArray, List.set_cons_zero, List.set_cons_succ, List.getElem_toArray, List.getElem_cons_zero])
          refine wpAnyH_ready (rs := [1]) (by kernel_rfl) (by simp) ?_
          refine AllReadyH.cons rfl (fun K hK => ?_) AllReadyH.nil
          go_simp
          refine (CR.out _ hS.b).mono ?_
          rintro e W3 ⟨rfl, hb⟩
          have hS := hS.below hb
          clear hb
          refine hK.out _ _ hS (fun hHeld => ?_)
          clear hK K
          (try simp only [Act.put, List.setIfInBounds_toArray, List.set_cons_zero, List.set_cons_succ, List.getElem_toArray, List.getElem_cons_zero, List.getElem_cons_succ])
          refine wpAnyH_take (i := 2) (v := ?_) rfl (by kernel_rfl) (by kernel_rfl) (by kernel_rfl) (fun _ _ _ h => h) (Or.inl ⟨by rfl, ?_⟩) (by assumption) ?_
          rotate_left
          · (intro wx hSw; have q1 := hSw.v.cell 0 rfl; have q2 := hSw.p.cell 19 H19.out; have q3 := hSw.f; have q9 := hn0; go_simp; (try with_reducible rfl); (try omega))
          (try simp only [Act.put, List.setIfInBounds_toArray, List.set_cons_zero, List.set_cons_succ, List.getElem_toArray, List.getElem_cons_zero, List.getElem_cons_succ])
          refine wpAnyH_take (i := 3) (v := ?_) rfl (by kernel_rfl) (by kernel_rfl) (by kernel_rfl) (fun _ _ _ h => h) (Or.inl ⟨by rfl, ?_⟩) (by assumption) ?_
          rotate_left
          · (intro wx hSw; have q1 := hSw.v.cell 0 rfl; have q2 := hSw.p.cell 19 H19.out; have q3 := hSw.f; have q9 := hn0; go_simp; (try with_reducible rfl); (try omega))
          (try simp only [Act.put, List.setIfInBounds_toArray, List.set_cons_zero, List.set_cons_succ, List.getElem_toArray, List.getElem_cons_zero, List.getElem_cons_succ])
          refine wpAnyH_take (i := 4) (v := undef) rfl (by kernel_rfl) (by kernel_rfl) (by kernel_rfl) (fun _ _ _ h => h) (Or.inr ⟨by rfl, rfl⟩) (by assumption) ?_
          (try simp only [Act.put, List.setIfInBounds_toArray, List.set_cons_zero, List.set_cons_succ, List.getElem_toArray, List.getElem_cons_zero, List.getElem_cons_succ])
          refine wpAnyH_take (i := 5) (v := undef) rfl (by kernel_rfl) (by kernel_rfl) (by kernel_rfl) (fun _ _ _ h => h) (Or.inr ⟨by rfl, rfl⟩) (by assumption) ?_
          (try simp only [Act.put, List.setIfInBounds_toArray, List.set_cons_zero, List.set_cons_succ, List.getElem_toArray, List.getElem_cons_zero, List.getElem_cons_succ])
          refine wpAnyH_take (i := 6) (v := undef) rfl (by kernel_rfl) (by kernel_rfl) (by kernel_rfl) (fun _ _ _ h => h) (Or.inr ⟨by rfl, rfl⟩) (by assumption) ?_
          (try simp only [Act.put, List.setIfInBounds_toArray, List.set_cons_zero, List.set_cons_succ, List.getElem_toArray, List.getElem_cons_zero, List.getElem_cons_succ])
          refine wpAnyH_take (i := 7) (v := undef) rfl (by kernel_rfl) (by kernel_rfl) (by kernel_rfl) (fun _ _ _ h => h) (Or.inr ⟨by rfl, rfl⟩) (by assumption) ?_
          (try simp only [Act.put, List.setIfInBounds_toArray, List.set_cons_zero, List.set_cons_succ, List.getElem_toArray, List.getElem_cons_zero, List.getElem_cons_succ])
          refine wpAnyH_take (i := 8) (v := undef) rfl (by kernel_rfl) (by kernel_rfl) (by kernel_rfl) (fun _ _ _ h => h) (Or.inr ⟨by rfl, rfl⟩) (by assumption) ?_
          (try simp only [Act.put, List.setIfInBounds_toArray, List.set_cons_zero, List.set_cons_succ, List.getElem_toArray, List.getElem_cons_zero, List.getElem_cons_succ])
          refine wpAnyH_take (i := 9) (v := undef) rfl (by kernel_rfl) (by kernel_rfl) (by kernel_rfl) (fun _ _ _ h => h) (Or.inr ⟨by rfl, rfl⟩) (by assumption) ?_
          (try simp only [Act.put, List.setIfInBounds_toArray, List.set_cons_zero, List.set_cons_succ, List.getElem_toArray, List.getElem_cons_zero, List.getElem_cons_succ])
          refine wpAnyH_take (i := 10) (v := undef) rfl (by kernel_rfl) (by kernel_rfl) (by kernel_rfl) (fun _ _ _ h => h) (Or.inr ⟨by rfl, rfl⟩) (by assumption) ?_
          (try simp only [Act.put, List.setIfInBounds_toArray, List.set_cons_zero, List.set_cons_succ, List.getElem_toArray, List.getElem_cons_zero, List.getElem_cons_succ])
          refine wpAnyH_take (i := 11) (v := undef) rfl (by kernel_rfl) (by kernel_rfl) (by kernel_rfl) (fun _ _ _ h => h) (Or.inr ⟨by rfl, rfl⟩) (by assumption) ?_
          (try simp only [Act.put, List.setIfInBounds_toArray, List.set_cons_zero, List.set_cons_succ, List.getElem_toArray, List.getElem_cons_zero, List.getElem_cons_succ])
          refine wpAnyH_take (i := 12) (v := undef) rfl (by kernel_rfl) (by kernel_rfl) (by kernel_rfl) (fun _ _ _ h => h) (Or.inr ⟨by rfl, rfl⟩) (by assumption) ?_
          (try simp only [Act.put, List.setIfInBounds_toArray, List.set_cons_zero, List.set_cons_succ, List.getElem_toArray, List.getElem_cons_zero, List.getElem_cons_succ])
          refine wpAnyH_take (i := 13) (v := undef) rfl (by kernel_rfl) (by kernel_rfl) (by kernel_rfl) (fun _ _ _ h => h) (Or.inr ⟨by rfl, rfl⟩) (by assumption) ?_
          (try simp only [Act.put, List.setIfInBounds_toArray, List.set_cons_zero, List.set_cons_succ, List.getElem_toArray, List.getElem_cons_zero, List.getElem_cons_succ])
          refine wpAnyH_take (i := 14) (v := ?_) rfl (by kernel_rfl) (by kernel_rfl) (by kernel_rfl) (fun _ _ _ h => h) (Or.inl ⟨by rfl, ?_⟩) (by assumption) ?_
          rotate_left
          · (intro wx hSw; have q1 := hSw.v.cell 0 rfl; have q2 := hSw.p.cell 19 H19.out; have q3 := hSw.f; have q9 := hn0; go_simp; (try with_reducible rfl); (try omega))
          (try simp only [Act.put, List.setIfInBounds_toArray, List.set_cons_zero, List.set_cons_succ, List.getElem_toArray, List.getElem_cons_zero, List.getElem_cons_succ])
          refine wpAnyH_done (by kernel_rfl) ?_ _
          have hv9 := hS.v
          have hb9 := hS.b
          clear hS hHeld hI
          go_wp2_with fail
          go_ret
          exact ⟨ret_bool (by rw [← hat.out, hbad.out (by rw [HFX.out]; rfl)]), hb9⟩
        | true =>
          by_cases hk : kp = k0
          · subst hk
            go_wp2_with (first | ((with_reducible refine wp_getB hR Try.underlying40 ?_ ?_ ?_ ?_); (rfl); (rw [hcl]; exact sizePx); (rfl); (try simp only [Act.put])) | ((with_reducible refine wp_putB V0 h1' ?_ ?_ ?_ ?_ ?_); (exact hcl); (exact sizePx); (rfl); (rfl); intro w5 hV5 hw5; (have hS := (SRight.of hI hB hV5 hw5.out q00).below (Below.drew (Below.refl _ _))); clear hw5; simp only [Act.put]) | fail)
            refine wp_region_held_drew (S := SRight w wr.heap.size b0 o0 n c us (.slice fa kp fc)) (by kernel_rfl) hS (fun hHeld => ?_)
            refine wpAnyH_take (i := 0) (v := .agg us.toArray) rfl (by kernel_rfl) (by kernel_rfl) (by kernel_rfl) (fun _ _ _ h => h) (yieldsIf_load_mid rfl 40 _ rfl wr.heap.size (0) rfl us _ (fun w h => h.p.at_) Try.underlying40 rfl (by rw [hcl]; exact sizePx)) (by assumption) ?_
            (try simp only [Act.put, List.setIfInBounds_toArray, List.set_cons_zero, List.set_cons_succ, List.getElem_toArray, List.getElem_cons_zero])
            refine wpAnyH_ready (rs := [1]) (by kernel_rfl) (by simp) ?_
            refine AllReadyH.cons rfl (fun K hK => ?_) AllReadyH.nil
            go_simp
            refine (CR.out _ hS.b).mono ?_
            rintro e W3 ⟨rfl, hb⟩
            have hS := hS.below hb
            clear hb
            refine hK.out _ _ hS (fun hHeld => ?_)
            clear hK K
            (try simp only [Act.put, List.setIfInBounds_toArray, List.set_cons_zero, List.set_cons_succ, List.getElem_toArray, List.getElem_cons_zero, List.getElem_cons_succ])
            refine wpAnyH_take (i := 2) (v := ?_) rfl (by kernel_rfl) (by kernel_rfl) (by kernel_rfl) (fun _ _ _ h => h) (Or.inl ⟨by rfl, ?_⟩) (by assumption) ?_
            rotate_left
            · (intro wx hSw; have q1 := hSw.v.cell 0 rfl; have q2 := hSw.p.cell 19 H19.out; have q3 := hSw.f; have q9 := hn0; go_simp; (try with_reducible rfl); (try omega))
            (try simp only [Act.put, List.setIfInBounds_toArray, List.set_cons_zero, List.set_cons_succ, List.getElem_toArray, List.getElem_cons_zero, List.getElem_cons_succ])
            refine wpAnyH_take (i := 3) (v := ?_) rfl (by kernel_rfl) (by kernel_rfl) (by kernel_rfl) (fun _ _ _ h => h) (Or.inl ⟨by rfl, ?_⟩) (by assumption) ?_
            rotate_left
            · (intro wx hSw; have q1 := hSw.v.cell 0 rfl; have q2 := hSw.p.cell 19 H19.out; have q3 := hSw.f; have q9 := hn0; go_simp; (try with_reducible rfl); (try omega))
            (try simp only [Act.put, List.setIfInBounds_toArray, List.set_cons_zero, List.set_cons_succ, List.getElem_toArray, List.getElem_cons_zero, List.getElem_cons_succ])
            refine wpAnyH_take (i := 4) (v := ?_) rfl (by kernel_rfl) (by kernel_rfl) (by kernel_rfl) (fun _ _ _ h => h) (Or.inl ⟨by rfl, ?_⟩) (by assumption) ?_
            rotate_left
            · (intro wx hSw; have q1 := hSw.v.cell 0 rfl; have q2 := hSw.p.cell 19 H19.out; have q3 := hSw.f; have q9 := hn0; go_simp; (try with_reducible rfl); (try omega))
            (try simp only [Act.put, List.setIfInBounds_toArray, List.set_cons_zero, List.set_cons_succ, List.getElem_toArray, List.getElem_cons_zero, List.getElem_cons_succ])
            refine wpAnyH_take (i := 5) (v := ?_) rfl (by kernel_rfl) (by kernel_rfl) (by kernel_rfl) (fun _ _ _ h => h) (Or.inl ⟨by rfl, ?_⟩) (by assumption) ?_
            rotate_left
            · (intro wx hSw; have q1 := hSw.v.cell 0 rfl; have q2 := hSw.p.cell 19 H19.out; have q3 := hSw.f; have q9 := hn0; go_simp; (try with_reducible rfl); (try omega))
            (try simp only [Act.put, List.setIfInBounds_toArray, List.set_cons_zero, List.set_cons_succ, List.getElem_toArray, List.getElem_cons_zero, List.getElem_cons_succ])
            refine wpAnyH_take (i := 6) (v := ?_) rfl (by kernel_rfl) (by kernel_rfl) (by kernel_rfl) (fun _ _ _ h => h) (Or.inl ⟨by rfl, ?_⟩) (by assumption) ?_
            rotate_left
            · (intro wx hSw; have q1 := hSw.v.cell 0 rfl; have q2 := hSw.p.cell 19 H19.out; have q3 := hSw.f; have q9 := hn0; go_simp; (try with_reducible rfl); (try omega))
            (try simp only [Act.put, List.setIfInBounds_toArray, List.set_cons_zero, List.set_cons_succ, List.getElem_toArray, List.getElem_cons_zero, List.getElem_cons_succ])
            refine wpAnyH_take (i := 7) (v := ?_) rfl (by kernel_rfl) (by kernel_rfl) (by kernel_rfl) (fun _ _ _ h => h) (Or.inl ⟨by rfl, ?_⟩) (by assumption) ?_
            rotate_left
            · (intro wx hSw; have q1 := hSw.v.cell 0 rfl; have q2 := hSw.p.cell 19 H19.out; have q3 := hSw.f; have q9 := hn0; go_simp; (try with_reducible rfl); (try omega))
            (try simp only [Act.put, List.setIfInBounds_toArray, List.set_cons_zero, List.set_cons_succ, List.getElem_toArray, List.getElem_cons_zero, List.getElem_cons_succ])
            refine wpAnyH_take (i := 8) (v := ?_) rfl (by kernel_rfl) (by kernel_rfl) (by kernel_rfl) (fun _ _ _ h => h) (Or.inl ⟨by rfl, ?_⟩) (by assumption) ?_
            rotate_left
            · (intro wx hSw; have q1 := hSw.v.cell 0 rfl; have q2 := hSw.p.cell 19 H19.out; have q3 := hSw.f; have q9 := hn0; go_simp; (try with_reducible rfl); (try omega))
            (try simp only [Act.put, List.setIfInBounds_toArray, List.set_cons_zero, List.set_cons_succ, List.getElem_toArray, List.getElem_cons_zero, List.getElem_cons_succ])
            refine wpAnyH_take (i := 9) (v := ?_) rfl (by kernel_rfl) (by kernel_rfl) (by kernel_rfl) (fun _ _ _ h => h) (Or.inl ⟨by rfl, ?_⟩) (by assumption) ?_
            rotate_left
            · (intro wx hSw; have q1 := hSw.v.cell 0 rfl; have q2 := hSw.p.cell 19 H19.out; have q3 := hSw.f; have q9 := hn0; go_simp; (try with_reducible rfl); (try omega))
            (try simp only [Act.put, List.setIfInBounds_toArray, List.set_cons_zero, List.set_cons_succ, List.getElem_toArray, List.getElem_cons_zero, List.getElem_cons_succ])
            refine wpAnyH_take (i := 10) (v := ?_) rfl (by kernel_rfl) (by kernel_rfl) (by kernel_rfl) (fun _ _ _ h => h) (Or.inl ⟨by rfl, ?_⟩) (by assumption) ?_
            rotate_left
            · (intro wx hSw; have q1 := hSw.v.cell 0 rfl; have q2 := hSw.p.cell 19 H19.out; have q3 := hSw.f; have q9 := hn0; go_simp; (try with_reducible rfl); (try omega))
            (try simp only [Act.put, List.setIfInBounds_toArray, List.set_cons_zero, List.set_cons_succ, List.getElem_toArray, List.getElem_cons_zero, List.getElem_cons_succ])
            refine wpAnyH_take (i := 11) (v := ?_) rfl (by kernel_rfl) (by kernel_rfl) (by kernel_rfl) (fun _ _ _ h => h) (Or.inl ⟨by rfl, ?_⟩) (by assumption) ?_
            rotate_left
            · (intro wx hSw; have q1 := hSw.v.cell 0 rfl; have q2 := hSw.p.cell 19 H19.out; have q3 := hSw.f; have q9 := hn0; go_simp; (try with_reducible rfl); (try omega))
            (try simp only [Act.put, List.setIfInBounds_toArray, List.set_cons_zero, List.set_cons_succ, List.getElem_toArray, List.getElem_cons_zero, List.getElem_cons_succ])
            refine wpAnyH_take (i := 12) (v := ?_) rfl (by kernel_rfl) (by kernel_rfl) (by kernel_rfl) (fun _ _ _ h => h) (Or.inl ⟨by rfl, ?_⟩) (by assumption) ?_
            rotate_left
            · (intro wx hSw; have q1 := hSw.v.cell 0 rfl; have q2 := hSw.p.cell 19 H19.out; have q3 := hSw.f; have q9 := hn0; go_simp; (try with_reducible rfl); (try omega))
            (try simp only [Act.put, List.setIfInBounds_toArray, List.set_cons_zero, List.set_cons_succ, List.getElem_toArray, List.getElem_cons_zero, List.getElem_cons_succ])
            refine wpAnyH_take (i := 13) (v := ?_) rfl (by kernel_rfl) (by kernel_rfl) (by kernel_rfl) (fun _ _ _ h => h) (Or.inl ⟨by rfl, ?_⟩) (by assumption) ?_
            rotate_left
            · (intro wx hSw; have q1 := hSw.v.cell 0 rfl; have q2 := hSw.p.cell 19 H19.out; have q3 := hSw.f; have q9 := hn0; go_simp; (try with_reducible rfl); (try omega))
            (try simp only [Act.put, List.setIfInBounds_toArray, List.set_cons_zero, List.set_cons_succ, List.getElem_toArray, List.getElem_cons_zero, List.getElem_cons_succ])
            refine wpAnyH_take (i := 14) (v := ?_) rfl (by kernel_rfl) (by kernel_rfl) (by kernel_rfl) (fun _ _ _ h => h) (Or.inl ⟨by rfl, ?_⟩) (by assumption) ?_
            rotate_left
            · (intro wx hSw; have q1 := hSw.v.cell 0 rfl; have q2 := hSw.p.cell 19 H19.out; have q3 := hSw.f; have q9 := hn0; go_simp; (try with_reducible rfl); (try omega))
            (try simp only [Act.put, List.setIfInBounds_toArray, List.set_cons_zero, List.set_cons_succ, List.getElem_toArray, List.getElem_cons_zero, List.getElem_cons_succ])
            refine wpAnyH_done (by kernel_rfl) ?_ _
            have hv9 := hS.v
            have hb9 := hS.b
            clear hS hHeld hI
            go_wp2_with fail
            exact ⟨⟨i + 1, by omega, by go_num, hid0 (hnext.out (by rw [HFX.out]; simp)), hv9, hb9⟩, by simp [intOf]; omega⟩
          · have hne : ¬ (kp : Int) = (k0 : Int) := by omega
            have HK := hid0 hk
            clear hk
            go_wp2_with (first | ((with_reducible refine wp_getB hR Try.underlying40 ?_ ?_ ?_ ?_); (rfl); (rw [hcl]; exact sizePx); (rfl); (try simp only [Act.put])) | ((with_reducible refine wp_putB V0 h1' ?_ ?_ ?_ ?_ ?_); (exact hcl); (exact sizePx); (rfl); (rfl); intro w5 hV5 hw5; (have hS := (SRight.of hI hB hV5 hw5.out q00).below (Below.drew (Below.refl _ _))); clear hw5; simp only [Act.put]) | fail)
            refine wp_region_held_drew (S := SRight w wr.heap.size b0 o0 n c us (.slice fa k0 fc)) (by kernel_rfl) hS (fun hHeld => ?_)
            refine wpAnyH_take (i := 0) (v := .agg us.toArray) rfl (by kernel_rfl) (by kernel_rfl) (by kernel_rfl) (fun _ _ _ h => h) (yieldsIf_load_mid rfl 40 _ rfl wr.heap.size (0) rfl us _ (fun w h => h.p.at_) Try.underlying40 rfl (by rw [hcl]; exact sizePx)) (by assumption) ?_
            (try simp only [Act.put, List.setIfInBounds_toArray, List.set_cons_zero, List.set_cons_succ, List.getElem_toArray, List.getElem_cons_zero])
            refine wpAnyH_ready (rs := [1]) (by kernel_rfl) (by simp) ?_
            refine AllReadyH.cons rfl (fun K hK => ?_) AllReadyH.nil
            go_simp
            refine (CR.out _ hS.b).mono ?_
            rintro e W3 ⟨rfl, hb⟩
            have hS := hS.below hb
            clear hb
            refine hK.out _ _ hS (fun hHeld => ?_)
            clear hK K
            (try simp only [Act.put, List.setIfInBounds_toArray, List.set_cons_zero, List.set_cons_succ, List.getElem_toArray, List.getElem_cons_zero, List.getElem_cons_succ])
            refine wpAnyH_take (i := 2) (v := ?_) rfl (by kernel_rfl) (by kernel_rfl) (by kernel_rfl) (fun _ _ _ h => h) (Or.inl ⟨by rfl, ?_⟩) (by assumption) ?_
            rotate_left
            · (intro wx hSw; have q1 := hSw.v.cell 0 rfl; have q2 := hSw.p.cell 19 H19.out; have q3 := hSw.f; have q9 := hn0; go_simp; (try with_reducible rfl); (try omega))
            (try simp only [Act.put, List.setIfInBounds_toArray, List.set_cons_zero, List.set_cons_succ, List.getElem_toArray, List.getElem_cons_zero, List.getElem_cons_succ])
            refine wpAnyH_take (i := 3) (v := ?_) rfl (by kernel_rfl) (by kernel_rfl) (by kernel_rfl) (fun _ _ _ h => h) (Or.inl ⟨by rfl, ?_⟩) (by assumption) ?_
            rotate_left
            · (intro wx hSw; have q1 := hSw.v.cell 0 rfl; have q2 := hSw.p.cell 19 H19.out; have q3 := hSw.f; have q9 := hn0; go_simp; (try with_reducible rfl); (try omega))
            (try simp only [Act.put, List.setIfInBounds_toArray, List.set_cons_zero, List.set_cons_succ, List.getElem_toArray, List.getElem_cons_zero, List.getElem_cons_succ])
            refine wpAnyH_take (i := 4) (v := ?_) rfl (by kernel_rfl) (by kernel_rfl) (by kernel_rfl) (fun _ _ _ h => h) (Or.inl ⟨by rfl, ?_⟩) (by assumption) ?_
            rotate_left
            · (intro wx hSw; have q1 := hSw.v.cell 0 rfl; have q2 := hSw.p.cell 19 H19.out; have q3 := hSw.f; have q9 := hn0; go_simp; (try with_reducible rfl); (try omega))
            (try simp only [Act.put, List.setIfInBounds_toArray, List.set_cons_zero, List.set_cons_succ, List.getElem_toArray, List.getElem_cons_zero, List.getElem_cons_succ])
            refine wpAnyH_take (i := 5) (v := ?_) rfl (by kernel_rfl) (by kernel_rfl) (by kernel_rfl) (fun _ _ _ h => h) (Or.inl ⟨by rfl, ?_⟩) (by assumption) ?_
            rotate_left
            · (intro wx hSw; have q1 := hSw.v.cell 0 rfl; have q2 := hSw.p.cell 19 H19.out; have q3 := hSw.f; have q9 := hn0; go_simp; (try with_reducible rfl); (try omega))
            (try simp only [Act.put, List.setIfInBounds_toArray, List.set_cons_zero, List.set_cons_succ, List.getElem_toArray, List.getElem_cons_zero, List.getElem_cons_succ])
            refine wpAnyH_take (i := 6) (v := ?_) rfl (by kernel_rfl) (by kernel_rfl) (by kernel_rfl) (fun _ _ _ h => h) (Or.inl ⟨by rfl, ?_⟩) (by assumption) ?_
            rotate_left
            · (intro wx hSw; have q1 := hSw.v.cell 0 rfl; have q2 := hSw.p.cell 19 H19.out; have q3 := hSw.f; have q9 := hn0; go_simp; (try with_reducible rfl); (try omega))
            (try simp only [Act.put, List.setIfInBounds_toArray, List.set_cons_zero, List.set_cons_succ, List.getElem_toArray, List.getElem_cons_zero, List.getElem_cons_succ])
            refine wpAnyH_take (i := 7) (v := ?_) rfl (by kernel_rfl) (by kernel_rfl) (by kernel_rfl) (fun _ _ _ h => h) (Or.inl ⟨by rfl, ?_⟩) (by assumption) ?_
            rotate_left
            · (intro wx hSw; have q1 := hSw.v.cell 0 rfl; have q2 := hSw.p.cell 19 H19.out; have q3 := hSw.f; have q9 := hn0; go_simp; (try with_reducible rfl); (try omega))
            (try simp only [Act.put, List.setIfInBounds_toArray, List.set_cons_zero, List.set_cons_succ, List.getElem_toArray, List.getElem_cons_zero, List.getElem_cons_succ])
            refine wpAnyH_take (i := 8) (v := ?_) rfl (by kernel_rfl) (by kernel_rfl) (by kernel_rfl) (fun _ _ _ h => h) (Or.inl ⟨by rfl, ?_⟩) (by assumption) ?_
            rotate_left
            · (intro wx hSw; have q1 := hSw.v.cell 0 rfl; have q2 := hSw.p.cell 19 H19.out; have q3 := hSw.f; have q9 := hn0; go_simp; (try with_reducible rfl); (try omega))
            (try simp only [Act.put, List.setIfInBounds_toArray, List.set_cons_zero, List.set_cons_succ, List.getElem_toArray, List.getElem_cons_zero, List.getElem_cons_succ])
            refine wpAnyH_take (i := 9) (v := ?_) rfl (by kernel_rfl) (by kernel_rfl) (by kernel_rfl) (fun _ _ _ h => h) (Or.inl ⟨by rfl, ?_⟩) (by assumption) ?_
            rotate_left
            · (intro wx hSw; have q1 := hSw.v.cell 0 rfl; have q2 := hSw.p.cell 19 H19.out; have q3 := hSw.f; have q9 := hn0; go_simp; (try with_reducible rfl); (try omega))
            (try simp only [Act.put, List.setIfInBounds_toArray, List.set_cons_zero, List.set_cons_succ, List.getElem_toArray, List.getElem_cons_zero, List.getElem_cons_succ])
            refine wpAnyH_take (i := 10) (v := ?_) rfl (by kernel_rfl) (by kernel_rfl) (by kernel_rfl) (fun _ _ _ h => h) (Or.inl ⟨by rfl, ?_⟩) (by assumption) ?_
            rotate_left
            · (intro wx hSw; have q1 := hSw.v.cell 0 rfl; have q2 := hSw.p.cell 19 H19.out; have q3 := hSw.f; have q9 := hn0; go_simp; (try with_reducible rfl); (try omega))
            (try simp only [Act.put, List.setIfInBounds_toArray, List.set_cons_zero, List.set_cons_succ, List.getElem_toArray, List.getElem_cons_zero, List.getElem_cons_succ])
            refine wpAnyH_take (i := 11) (v := ?_) rfl (by kernel_rfl) (by kernel_rfl) (by kernel_rfl) (fun _ _ _ h => h) (Or.inl ⟨by rfl, ?_⟩) (by assumption) ?_
            rotate_left
            · (intro wx hSw; have q1 := hSw.v.cell 0 rfl; have q2 := hSw.p.cell 19 H19.out; have q3 := hSw.f; have q9 := hn0; go_simp; (try with_reducible rfl); (try omega))
            (try simp only [Act.put, List.setIfInBounds_toArray, List.set_cons_zero, List.set_cons_succ, List.getElem_toArray, List.getElem_cons_zero, List.getElem_cons_succ])
            refine wpAnyH_take (i := 12) (v := ?_) rfl (by kernel_rfl) (by kernel_rfl) (by kernel_rfl) (fun _ _ _ h => h) (Or.inl ⟨by rfl, ?_⟩) (by assumption) ?_
            rotate_left
            · (intro wx hSw; have q1 := hSw.v.cell 0 rfl; have q2 := hSw.p.cell 19 H19.out; have q3 := hSw.f; have q9 := hn0; go_simp; (try with_reducible rfl); (try omega))
            (try simp only [Act.put, List.setIfInBounds_toArray, List.set_cons_zero, List.set_cons_succ, List.getElem_toArray, List.getElem_cons_zero, List.getElem_cons_succ])
            refine wpAnyH_take (i := 13) (v := ?_) rfl (by kernel_rfl) (by kernel_rfl) (by kernel_rfl) (fun _ _ _ h => h) (Or.inl ⟨by rfl, ?_⟩) (by assumption) ?_
            rotate_left
            · (intro wx hSw; have q1 := hSw.v.cell 0 rfl; have q2 := hSw.p.cell 19 H19.out; have q3 := hSw.f; have q9 := hn0; go_simp; (try with_reducible rfl); (try omega))
            (try simp only [Act.put, List.setIfInBounds_toArray, List.set_cons_zero, List.set_cons_succ, List.getElem_toArray, List.getElem_cons_zero, List.getElem_cons_succ])
            refine wpAnyH_take (i := 14) (v := ?_) rfl (by kernel_rfl) (by kernel_rfl) (by kernel_rfl) (fun _ _ _ h => h) (Or.inl ⟨by rfl, ?_⟩) (by assumption) ?_
            rotate_left
            · (intro wx hSw; have q1 := hSw.v.cell 0 rfl; have q2 := hSw.p.cell 19 H19.out; have q3 := hSw.f; have q9 := hn0; go_simp; (try with_reducible rfl); (try omega))
            (try simp only [Act.put, List.setIfInBounds_toArray, List.set_cons_zero, List.set_cons_succ, List.getElem_toArray, List.getElem_cons_zero, List.getElem_cons_succ])
            refine wpAnyH_done (by kernel_rfl) ?_ _
            have hv9 := hS.v
            have hb9 := hS.b
            clear hS hHeld hI
            go_wp2_with fail
            go_ret
            exact ⟨ret_bool (by rw [← hat.out, hbad.out (by rw [HFX.out]; simp [HK.out])]), hb9⟩
      · have hie : ¬ (i : Int) < n := by omega
        rw [List.take_of_length_le (by rw [HN.out]; omega)] at hO
        go_wp2
        go_ret
        exact ⟨ret_bool (by rw [← hat.out, hO.out]), hB⟩
end Go.Proofs.Ytfdkajefcplfjaa
