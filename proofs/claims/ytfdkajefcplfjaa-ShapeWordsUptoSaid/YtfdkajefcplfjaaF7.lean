/- Several of my texts laid together, each as it was: Xw. Conditions: each names its own. -/
import Derived.Test.YtfdkajefcplfjaaF6
import Derived.Test.YtfdkajefcplfjaaJ1
/- The reference: whether a plan may be. Conditions: its parts are known. -/
namespace Go.Proofs.Ytfdkajefcplfjaa
open Go.RowKit

structure SRef (w0 : World) (b0 o0 off n c : Nat) (us : List Value) (fo : Value) (w : World) : Prop where
  v : VarB w w0.heap.size [.slice (some ⟨b0, o0, none⟩) n c]
  r : w.rangeAt b0 off us
  f : w.cell? ⟨b0, o0 + 19, none⟩ = some fo
  b : Below w0.heap.size w0 w
theorem SRef.below {w0 : World} {b0 o0 off n c : Nat} {us : List Value} {fo : Value} {w w' : World} (h : SRef w0 b0 o0 off n c us fo w) (hb : Below w.heap.size w w') : SRef w0 b0 o0 off n c us fo w' :=
  ⟨h.v.below hb, rangeAt_blk h.r (hb.block b0 (World.block_lt_of_cell? _ _ h.f)), cell_later hb h.f, below_through hb h.b.size h.b⟩
set_option maxRecDepth 100000 in
set_option maxHeartbeats 4000000 in
theorem refPlanRight_any {k : Nat} (a : Option Addr) (c : Nat) (ps : List Px) (w : World) (h : PsOk w k a c ps) :
    Calls Try.prog 13 #[planV a ps.length c] w fun e w' => e = .returned (.bool (planB ps)) ∧ Below w.heap.size w w' := by
  obtain ⟨n, hn⟩ : ∃ n, ps.length = n := ⟨_, rfl⟩
  have hno := hid0 (planB_no (ps := ps))
  have hat := hid0 (planB_at hn)
  have V := VarB.new w [.slice a ps.length c] 24
  have hB0 : Below w.heap.size w (w.alloc (.cells #[.slice a ps.length c] 24)) := (Below.refl _ _).alloc (Nat.le_refl _) _
  have HN := hid0 hn
  have H := hid0 h
  unfold planV
  generalize planB ps = R at hno hat ⊢
  rw [hn] at V hno hB0 ⊢
  clear hn h
  have q00 := V.cell 0 rfl
  have HV := hid0 V
  clear V
  by_cases h1 : n < 1
  · have h1' : (n : Int) < 1 := by omega
    have HF := hid0 (show inN n 1 4 = false by unfold inN; simp; omega)
    clear h1
    go_enter Try.func13, Try.ntmps13
    go_wp2
    go_ret
    exact ⟨ret_bool (hno.out HF.out).symm, hB0⟩
  have h1' : decide ((n : Int) < 1) = false := by simp; omega
  by_cases h2 : 4 < n
  · have h2' : (4 : Int) < n := by omega
    have HF := hid0 (show inN n 1 4 = false by unfold inN; simp; omega)
    clear h1 h2
    go_enter Try.func13, Try.ntmps13
    go_wp2
    go_ret
    exact ⟨ret_bool (hno.out HF.out).symm, hB0⟩
  have h2' : decide ((4 : Int) < n) = false := by simp; omega
  have hn0 : 0 < n := by omega
  have hn4 : n ≤ 4 := by omega
  have h0 : 0 < ps.length := by rw [HN.out]; omega
  have hat := hid0 (show ps.all (partM ps[0].os.length) = R by rw [hat.out h0, show inN n 1 4 = true by unfold inN; simp; omega]; rfl)
  clear h1 h2 hno
  obtain ⟨b0, o0, rfl, hb0, hR0⟩ := H.out.part 0 h0
  have q0 := rng hR0 19 ps[0].c19
  rw [Nat.zero_mul, Nat.add_zero] at q0
  have Hq0 := hid0 q0
  generalize ps[0].os.length = k0 at hat Hq0
  generalize ps[0].op = fa at Hq0
  generalize ps[0].oc = fc at Hq0
  clear hR0 q0
  go_enter Try.func13, Try.ntmps13
  go_wp2
  clear q00 h1' h2'
  go_loopw [3] (fun iv wr => ∃ i : Nat, i ≤ n ∧ iv = .int .i64 i ∧ Hid ((ps.take i).all (partM k0) = true) ∧ VarB wr w.heap.size [.slice (some ⟨b0, o0, none⟩) n c] ∧ Below w.heap.size w wr) (fun iv _ => n - (intOf iv).toNat)
  case atStart => exact ⟨0, Nat.zero_le _, rfl, hid0 rfl, HV.out, hB0⟩
  case round =>
    obtain ⟨i, hi, rfl, hO, hI, hB⟩ := hrel
    clear hB0 HV
    have hsz := hB.size
    have q0 := hI.cell 0 rfl
    by_cases hlt : i < n
    · have hlt1 : i < ps.length := by rw [HN.out]; exact hlt
      have hlti : (i : Int) < (n : Int) := by omega
      obtain ⟨b, o, e, hb, hR⟩ := (H.out.later hB).part i hlt1
      cases e
      have hbad := hid0 (fun hf => all_bad (f := partM k0) hlt1 hf)
      have hnext := hid0 (fun hf => all_take hlt1 hO.out hf)
      have hok := H.out.ok _ (List.getElem_mem hlt1)
      generalize ps[i] = p at hR hbad hnext hok
      have hfx : partM k0 p = (partB p && decide (p.os.length = k0)) := rfl
      have CR : Hid (∀ W, Below w.heap.size w W → Calls Try.prog 26 #[.agg p.cells.toArray] W fun e w' => e = .returned (.bool (partB p)) ∧ Below W.heap.size W w') := hid0 (fun W hW => refOne_any p W (hok.later hW))
      have hcl := p.cells_len
      have H19 := hid0 p.c19
      clear hok
      generalize p.cells = us at hR hcl H19 CR
      generalize p.os.length = kp at hfx H19
      generalize p.op = pa at H19
      generalize p.oc = pc at H19
      generalize partB p = rp at CR hfx
      generalize partM k0 p = fx at hfx hbad hnext
      have HFX := hid0 hfx
      clear hfx
      cases rp with
      | false =>
        as_aux_lemma =>
          have hS := (⟨hI, hR, cell_later hB Hq0.out, hB⟩ : SRef w b0 o0 (o0 + i * 20) n c us (.slice fa k0 fc) wr).below (Below.drew (Below.refl _ _))
          clear hR hI hB
          go_wp2_with fail
          refine wp_region_held_drew (S := SRef w b0 o0 (o0 + i * 20) n c us (.slice fa k0 fc)) (by kernel_rfl) hS (fun hHeld => ?_)
          refine wpAnyH_take (i := 0) (v := ?_) rfl (by kernel_rfl) (by kernel_rfl) (by kernel_rfl) (fun _ _ _ h => h) (Or.inl ⟨by rfl, ?_⟩) (by assumption) ?_
          rotate_left
          · (intro wx hSw; have q1 := hSw.v.cell 0 rfl; have q2 := rng hSw.r 19 H19.out; have q3 := hSw.f; have q9 := hn0; have q8 := hlt; have q7 := hlti; go_simp; (try with_reducible rfl); (try omega))
          (try simp only [Act.put, List.setIfInBounds_toArray, List.set_cons_zero, List.set_cons_succ, List.getElem_toArray, List.getElem_cons_zero])
          refine wpAnyH_take (i := 1) (v := ?_) rfl (by kernel_rfl) (by kernel_rfl) (by kernel_rfl) (fun _ _ _ h => h) (Or.inl ⟨by rfl, ?_⟩) (by assumption) ?_
          rotate_left
          · (intro wx hSw; have q1 := hSw.v.cell 0 rfl; have q2 := rng hSw.r 19 H19.out; have q3 := hSw.f; have q9 := hn0; have q8 := hlt; have q7 := hlti; go_simp; (try with_reducible rfl); (try omega))
          (try simp only [Act.put, List.setIfInBounds_toArray, List.set_cons_zero, List.set_cons_succ, List.getElem_toArray, List.getElem_cons_zero, List.getElem_cons_succ])
          refine wpAnyH_take (i := 2) (v := ?_) rfl (by kernel_rfl) (by kernel_rfl) (by kernel_rfl) (fun _ _ _ h => h) (Or.inl ⟨by rfl, ?_⟩) (by assumption) ?_
          rotate_left
          · (intro wx hSw; have q1 := hSw.v.cell 0 rfl; have q2 := rng hSw.r 19 H19.out; have q3 := hSw.f; have q9 := hn0; have q8 := hlt; have q7 := hlti; go_simp; (try with_reducible rfl); (try omega))
          (try simp only [Act.put, List.setIfInBounds_toArray, List.set_cons_zero, List.set_cons_succ, List.getElem_toArray, List.getElem_cons_zero, List.getElem_cons_succ])
          refine wpAnyH_take (i := 3) (v := ?_) rfl (by kernel_rfl) (by kernel_rfl) (by kernel_rfl) (fun _ _ _ h => h) (Or.inl ⟨by rfl, ?_⟩) (by assumption) ?_
          rotate_left
          · (intro wx hSw; have q1 := hSw.v.cell 0 rfl; have q2 := rng hSw.r 19 H19.out; have q3 := hSw.f; have q9 := hn0; have q8 := hlt; have q7 := hlti; go_simp; (try with_reducible rfl); (try omega))
          (try simp only [Act.put, List.setIfInBounds_toArray, List.set_cons_zero, List.set_cons_succ, List.getElem_toArray, List.getElem_cons_zero, List.getElem_cons_succ])
          refine wpAnyH_take (i := 4) (v := .agg us.toArray) rfl (by kernel_rfl) (by kernel_rfl) (by kernel_rfl) (fun _ _ _ h => h) (yieldsIf_load_mid rfl 40 _ rfl b0 (o0 + i * 20) rfl us _ (fun w h => h.r) Try.underlying40 rfl (by rw [hcl]; exact sizePx)) (by assumption) ?_
          (try simp only [Act.put, List.setIfInBounds_toArray, List.set_cons_zero, List.set_cons_succ, List.getElem_toArray, List.getElem_cons_zero, List.getElem_cons_succ])
          refine wpAnyH_ready (rs := [5]) (by kernel_rfl) (by simp) ?_
          refine AllReadyH.cons rfl (fun K hK => ?_) AllReadyH.nil
          go_simp
          refine (CR.out _ hS.b).mono ?_
          rintro e W3 ⟨rfl, hb⟩
          have hS := hS.below hb
          clear hb
          refine hK.out _ _ hS (fun hHeld => ?_)
          clear hK K
          (try simp only [Act.put, List.setIfInBounds_toArray, List.set_cons_zero, List.set_cons_succ, List.getElem_toArray, List.getElem_cons_zero, List.getElem_cons_succ])
          refine wpAnyH_take (i := 6) (v := ?_) rfl (by kernel_rfl) (by kernel_rfl) (by kernel_rfl) (fun _ _ _ h => h) (Or.inl ⟨by rfl, ?_⟩) (by assumption) ?_
          rotate_left
          · (intro wx hSw; have q1 := hSw.v.cell 0 rfl; have q2 := rng hSw.r 19 H19.out; have q3 := hSw.f; have q9 := hn0; have q8 := hlt; have q7 := hlti; go_simp; (try with_reducible rfl); (try omega))
          (try simp only [Act.put, List.setIfInBounds_toArray, List.set_cons_zero, List.set_cons_succ, List.getElem_toArray, List.getElem_cons_zero, List.getElem_cons_succ])
          refine wpAnyH_take (i := 7) (v := ?_) rfl (by kernel_rfl) (by kernel_rfl) (by kernel_rfl) (fun _ _ _ h => h) (Or.inl ⟨by rfl, ?_⟩) (by assumption) ?_
          rotate_left
          · (intro wx hSw; have q1 := hSw.v.cell 0 rfl; have q2 := rng hSw.r 19 H19.out; have q3 := hSw.f; have q9 := hn0; have q8 := hlt; have q7 := hlti; go_simp; (try with_reducible rfl); (try omega))
          (try simp only [Act.put, List.setIfInBounds_toArray, List.set_cons_zero, List.set_cons_succ, List.getElem_toArray, List.getElem_cons_zero, List.getElem_cons_succ])
          refine wpAnyH_take (i := 8) (v := undef) rfl (by kernel_rfl) (by kernel_rfl) (by kernel_rfl) (fun _ _ _ h => h) (Or.inr ⟨by rfl, rfl⟩) (by assumption) ?_
          (try simp only [Act.put, List.setIfInBounds_toArray, List.set_cons_zero, List.set_cons_succ, List.getElem_toArray, List.getElem_cons_zero, List.getElem_cons_succ])
          refine wpAnyH_take (i := 9) (v := undef) rfl (by kernel_rfl) (by kernel_rfl) (by kernel_rfl) (fun _ _ _ h => h) (Or.inr ⟨by rfl, rfl⟩) (by assumption) ?_
          (try simp only [Act.put, List.setIfInBounds_toArray, List.set_cons_zero, List.set_cons_succ, List.getElem_toArray, List.getElem_cons_zero, List.getElem_cons_succ])
          refine wpAnyH_take (i := 10) (v := undef) rfl (by kernel_rfl) (by kernel_rfl) (by kernel_rfl) (fun _ _ _ h => h) (Or.inr ⟨by rfl, rfl⟩) (by assumption) ?_
          (try simp only [Act.put, List.setIfInBounds_toArray, List.set_cons_zero, List.set_cons_succ, List.getElem_toArray, List.getElem_cons_zero, List.getElem_cons_succ])
          refine wpAnyH_take (i := 11) (v := undef) rfl (by kernel_rfl) (by kernel_rfl) (by kernel_rfl) (fun _ _ _ h => h) (Or.inr ⟨by rfl, rfl⟩) (by assumption) ?_
          (try simp only [Act.put, List.setIfInBounds_toArray, List.set_cons_zero, List.set_cons_succ, List.getElem_toArray, List.getElem_cons_zero, List.getElem_cons_succ])
          refine wpAnyH_take (i := 12) (v := undef) rfl (by kernel_rfl) (by kernel_rfl) (by kernel_rfl) (fun _ _ _ h => h) (Or.inr ⟨by rfl, rfl⟩) (by assumption) ?_
          (try simp only [Act.put, List.setIfInBounds_toArray, List.set_cons_zero, List.set_cons_succ, List.getElem_toArray, List.getElem_cons_zero, List.getElem_cons_succ])
          refine wpAnyH_take (i := 13) (v := undef) rfl (by kernel_rfl) (by kernel_rfl) (by kernel_rfl) (fun _ _ _ h => h) (Or.inr ⟨by rfl, rfl⟩) (by assumption) ?_
          (try simp only [Act.put, List.setIfInBounds_toArray, List.set_cons_zero, List.set_cons_succ, List.getElem_toArray, List.getElem_cons_zero, List.getElem_cons_succ])
          refine wpAnyH_take (i := 14) (v := undef) rfl (by kernel_rfl) (by kernel_rfl) (by kernel_rfl) (fun _ _ _ h => h) (Or.inr ⟨by rfl, rfl⟩) (by assumption) ?_
          (try simp only [Act.put, List.setIfInBounds_toArray, List.set_cons_zero, List.set_cons_succ, List.getElem_toArray, List.getElem_cons_zero, List.getElem_cons_succ])
          refine wpAnyH_take (i := 15) (v := undef) rfl (by kernel_rfl) (by kernel_rfl) (by kernel_rfl) (fun _ _ _ h => h) (Or.inr ⟨by rfl, rfl⟩) (by assumption) ?_
          (try simp only [Act.put, List.setIfInBounds_toArray, List.set_cons_zero, List.set_cons_succ, List.getElem_toArray, List.getElem_cons_zero, List.getElem_cons_succ])
          refine wpAnyH_take (i := 16) (v := undef) rfl (by kernel_rfl) (by kernel_rfl) (by kernel_rfl) (fun _ _ _ h => h) (Or.inr ⟨by rfl, rfl⟩) (by assumption) ?_
          (try simp only [Act.put, List.setIfInBounds_toArray, List.set_cons_zero, List.set_cons_succ, List.getElem_toArray, List.getElem_cons_zero, List.getElem_cons_succ])
          refine wpAnyH_take (i := 17) (v := undef) rfl (by kernel_rfl) (by kernel_rfl) (by kernel_rfl) (fun _ _ _ h => h) (Or.inr ⟨by rfl, rfl⟩) (by assumption) ?_
          (try simp only [Act.put, List.setIfInBounds_toArray, List.set_cons_zero, List.set_cons_succ, List.getElem_toArray, List.getElem_cons_zero, List.getElem_cons_succ])
          refine wpAnyH_take (i := 18) (v := undef) rfl (by kernel_rfl) (by kernel_rfl) (by kernel_rfl) (fun _ _ _ h => h) (Or.inr ⟨by rfl, rfl⟩) (by assumption) ?_
          (try simp only [Act.put, List.setIfInBounds_toArray, List.set_cons_zero, List.set_cons_succ, List.getElem_toArray, List.getElem_cons_zero, List.getElem_cons_succ])
          refine wpAnyH_take (i := 19) (v := undef) rfl (by kernel_rfl) (by kernel_rfl) (by kernel_rfl) (fun _ _ _ h => h) (Or.inr ⟨by rfl, rfl⟩) (by assumption) ?_
          (try simp only [Act.put, List.setIfInBounds_toArray, List.set_cons_zero, List.set_cons_succ, List.getElem_toArray, List.getElem_cons_zero, List.getElem_cons_succ])
          refine wpAnyH_take (i := 20) (v := undef) rfl (by kernel_rfl) (by kernel_rfl) (by kernel_rfl) (fun _ _ _ h => h) (Or.inr ⟨by rfl, rfl⟩) (by assumption) ?_
          (try simp only [Act.put, List.setIfInBounds_toArray, List.set_cons_zero, List.set_cons_succ, List.getElem_toArray, List.getElem_cons_zero, List.getElem_cons_succ])
          refine wpAnyH_take (i := 21) (v := undef) rfl (by kernel_rfl) (by kernel_rfl) (by kernel_rfl) (fun _ _ _ h => h) (Or.inr ⟨by rfl, rfl⟩) (by assumption) ?_
          (try simp only [Act.put, List.setIfInBounds_toArray, List.set_cons_zero, List.set_cons_succ, List.getElem_toArray, List.getElem_cons_zero, List.getElem_cons_succ])
          refine wpAnyH_take (i := 22) (v := ?_) rfl (by kernel_rfl) (by kernel_rfl) (by kernel_rfl) (fun _ _ _ h => h) (Or.inl ⟨by rfl, ?_⟩) (by assumption) ?_
          rotate_left
          · (intro wx hSw; have q1 := hSw.v.cell 0 rfl; have q2 := rng hSw.r 19 H19.out; have q3 := hSw.f; have q9 := hn0; have q8 := hlt; have q7 := hlti; go_simp; (try with_reducible rfl); (try omega))
          (try simp only [Act.put, List.setIfInBounds_toArray, List.set_cons_zero, List.set_cons_succ, List.getElem_toArray, List.getElem_cons_zero, List.getElem_cons_succ])
          refine wpAnyH_done (by kernel_rfl) ?_ _
          have hv9 := hS.v
          have hb9 := hS.b
          clear hS hHeld
          go_wp2_with fail
          go_ret
          exact ⟨ret_bool (by rw [← hat.out, hbad.out (by rw [HFX.out]; rfl)]), hb9⟩
      | true =>
        by_cases hk : kp = k0
        · subst hk
          as_aux_lemma =>
            have hS := (⟨hI, hR, cell_later hB Hq0.out, hB⟩ : SRef w b0 o0 (o0 + i * 20) n c us (.slice fa kp fc) wr).below (Below.drew (Below.refl _ _))
            clear hR hI hB
            go_wp2_with fail
            refine wp_region_held_drew (S := SRef w b0 o0 (o0 + i * 20) n c us (.slice fa kp fc)) (by kernel_rfl) hS (fun hHeld => ?_)
            refine wpAnyH_take (i := 0) (v := ?_) rfl (by kernel_rfl) (by kernel_rfl) (by kernel_rfl) (fun _ _ _ h => h) (Or.inl ⟨by rfl, ?_⟩) (by assumption) ?_
            rotate_left
            · (intro wx hSw; have q1 := hSw.v.cell 0 rfl; have q2 := rng hSw.r 19 H19.out; have q3 := hSw.f; have q9 := hn0; have q8 := hlt; have q7 := hlti; go_simp; (try with_reducible rfl); (try omega))
            (try simp only [Act.put, List.setIfInBounds_toArray, List.set_cons_zero, List.set_cons_succ, List.getElem_toArray, List.getElem_cons_zero])
            refine wpAnyH_take (i := 1) (v := ?_) rfl (by kernel_rfl) (by kernel_rfl) (by kernel_rfl) (fun _ _ _ h => h) (Or.inl ⟨by rfl, ?_⟩) (by assumption) ?_
            rotate_left
            · (intro wx hSw; have q1 := hSw.v.cell 0 rfl; have q2 := rng hSw.r 19 H19.out; have q3 := hSw.f; have q9 := hn0; have q8 := hlt; have q7 := hlti; go_simp; (try with_reducible rfl); (try omega))
            (try simp only [Act.put, List.setIfInBounds_toArray, List.set_cons_zero, List.set_cons_succ, List.getElem_toArray, List.getElem_cons_zero, List.getElem_cons_succ])
            refine wpAnyH_take (i := 2) (v := ?_) rfl (by kernel_rfl) (by kernel_rfl) (by kernel_rfl) (fun _ _ _ h => h) (Or.inl ⟨by rfl, ?_⟩) (by assumption) ?_
            rotate_left
            · (intro wx hSw; have q1 := hSw.v.cell 0 rfl; have q2 := rng hSw.r 19 H19.out; have q3 := hSw.f; have q9 := hn0; have q8 := hlt; have q7 := hlti; go_simp; (try with_reducible rfl); (try omega))
            (try simp only [Act.put, List.setIfInBounds_toArray, List.set_cons_zero, List.set_cons_succ, List.getElem_toArray, List.getElem_cons_zero, List.getElem_cons_succ])
            refine wpAnyH_take (i := 3) (v := ?_) rfl (by kernel_rfl) (by kernel_rfl) (by kernel_rfl) (fun _ _ _ h => h) (Or.inl ⟨by rfl, ?_⟩) (by assumption) ?_
            rotate_left
            · (intro wx hSw; have q1 := hSw.v.cell 0 rfl; have q2 := rng hSw.r 19 H19.out; have q3 := hSw.f; have q9 := hn0; have q8 := hlt; have q7 := hlti; go_simp; (try with_reducible rfl); (try omega))
            (try simp only [Act.put, List.setIfInBounds_toArray, List.set_cons_zero, List.set_cons_succ, List.getElem_toArray, List.getElem_cons_zero, List.getElem_cons_succ])
            refine wpAnyH_take (i := 4) (v := .agg us.toArray) rfl (by kernel_rfl) (by kernel_rfl) (by kernel_rfl) (fun _ _ _ h => h) (yieldsIf_load_mid rfl 40 _ rfl b0 (o0 + i * 20) rfl us _ (fun w h => h.r) Try.underlying40 rfl (by rw [hcl]; exact sizePx)) (by assumption) ?_
            (try simp only [Act.put, List.setIfInBounds_toArray, List.set_cons_zero, List.set_cons_succ, List.getElem_toArray, List.getElem_cons_zero, List.getElem_cons_succ])
            refine wpAnyH_ready (rs := [5]) (by kernel_rfl) (by simp) ?_
            refine AllReadyH.cons rfl (fun K hK => ?_) AllReadyH.nil
            go_simp
            refine (CR.out _ hS.b).mono ?_
            rintro e W3 ⟨rfl, hb⟩
            have hS := hS.below hb
            clear hb
            refine hK.out _ _ hS (fun hHeld => ?_)
            clear hK K
            (try simp only [Act.put, List.setIfInBounds_toArray, List.set_cons_zero, List.set_cons_succ, List.getElem_toArray, List.getElem_cons_zero, List.getElem_cons_succ])
            refine wpAnyH_take (i := 6) (v := ?_) rfl (by kernel_rfl) (by kernel_rfl) (by kernel_rfl) (fun _ _ _ h => h) (Or.inl ⟨by rfl, ?_⟩) (by assumption) ?_
            rotate_left
            · (intro wx hSw; have q1 := hSw.v.cell 0 rfl; have q2 := rng hSw.r 19 H19.out; have q3 := hSw.f; have q9 := hn0; have q8 := hlt; have q7 := hlti; go_simp; (try with_reducible rfl); (try omega))
            (try simp only [Act.put, List.setIfInBounds_toArray, List.set_cons_zero, List.set_cons_succ, List.getElem_toArray, List.getElem_cons_zero, List.getElem_cons_succ])
            refine wpAnyH_take (i := 7) (v := ?_) rfl (by kernel_rfl) (by kernel_rfl) (by kernel_rfl) (fun _ _ _ h => h) (Or.inl ⟨by rfl, ?_⟩) (by assumption) ?_
            rotate_left
            · (intro wx hSw; have q1 := hSw.v.cell 0 rfl; have q2 := rng hSw.r 19 H19.out; have q3 := hSw.f; have q9 := hn0; have q8 := hlt; have q7 := hlti; go_simp; (try with_reducible rfl); (try omega))
            (try simp only [Act.put, List.setIfInBounds_toArray, List.set_cons_zero, List.set_cons_succ, List.getElem_toArray, List.getElem_cons_zero, List.getElem_cons_succ])
            refine wpAnyH_take (i := 8) (v := ?_) rfl (by kernel_rfl) (by kernel_rfl) (by kernel_rfl) (fun _ _ _ h => h) (Or.inl ⟨by rfl, ?_⟩) (by assumption) ?_
            rotate_left
            · (intro wx hSw; have q1 := hSw.v.cell 0 rfl; have q2 := rng hSw.r 19 H19.out; have q3 := hSw.f; have q9 := hn0; have q8 := hlt; have q7 := hlti; go_simp; (try with_reducible rfl); (try omega))
            (try simp only [Act.put, List.setIfInBounds_toArray, List.set_cons_zero, List.set_cons_succ, List.getElem_toArray, List.getElem_cons_zero, List.getElem_cons_succ])
            refine wpAnyH_take (i := 9) (v := ?_) rfl (by kernel_rfl) (by kernel_rfl) (by kernel_rfl) (fun _ _ _ h => h) (Or.inl ⟨by rfl, ?_⟩) (by assumption) ?_
            rotate_left
            · (intro wx hSw; have q1 := hSw.v.cell 0 rfl; have q2 := rng hSw.r 19 H19.out; have q3 := hSw.f; have q9 := hn0; have q8 := hlt; have q7 := hlti; go_simp; (try with_reducible rfl); (try omega))
            (try simp only [Act.put, List.setIfInBounds_toArray, List.set_cons_zero, List.set_cons_succ, List.getElem_toArray, List.getElem_cons_zero, List.getElem_cons_succ])
            refine wpAnyH_take (i := 10) (v := ?_) rfl (by kernel_rfl) (by kernel_rfl) (by kernel_rfl) (fun _ _ _ h => h) (Or.inl ⟨by rfl, ?_⟩) (by assumption) ?_
            rotate_left
            · (intro wx hSw; have q1 := hSw.v.cell 0 rfl; have q2 := rng hSw.r 19 H19.out; have q3 := hSw.f; have q9 := hn0; have q8 := hlt; have q7 := hlti; go_simp; (try with_reducible rfl); (try omega))
            (try simp only [Act.put, List.setIfInBounds_toArray, List.set_cons_zero, List.set_cons_succ, List.getElem_toArray, List.getElem_cons_zero, List.getElem_cons_succ])
            refine wpAnyH_take (i := 11) (v := ?_) rfl (by kernel_rfl) (by kernel_rfl) (by kernel_rfl) (fun _ _ _ h => h) (Or.inl ⟨by rfl, ?_⟩) (by assumption) ?_
            rotate_left
            · (intro wx hSw; have q1 := hSw.v.cell 0 rfl; have q2 := rng hSw.r 19 H19.out; have q3 := hSw.f; have q9 := hn0; have q8 := hlt; have q7 := hlti; go_simp; (try with_reducible rfl); (try omega))
            (try simp only [Act.put, List.setIfInBounds_toArray, List.set_cons_zero, List.set_cons_succ, List.getElem_toArray, List.getElem_cons_zero, List.getElem_cons_succ])
            refine wpAnyH_take (i := 12) (v := ?_) rfl (by kernel_rfl) (by kernel_rfl) (by kernel_rfl) (fun _ _ _ h => h) (Or.inl ⟨by rfl, ?_⟩) (by assumption) ?_
            rotate_left
            · (intro wx hSw; have q1 := hSw.v.cell 0 rfl; have q2 := rng hSw.r 19 H19.out; have q3 := hSw.f; have q9 := hn0; have q8 := hlt; have q7 := hlti; go_simp; (try with_reducible rfl); (try omega))
            (try simp only [Act.put, List.setIfInBounds_toArray, List.set_cons_zero, List.set_cons_succ, List.getElem_toArray, List.getElem_cons_zero, List.getElem_cons_succ])
            refine wpAnyH_take (i := 13) (v := ?_) rfl (by kernel_rfl) (by kernel_rfl) (by kernel_rfl) (fun _ _ _ h => h) (Or.inl ⟨by rfl, ?_⟩) (by assumption) ?_
            rotate_left
            · (intro wx hSw; have q1 := hSw.v.cell 0 rfl; have q2 := rng hSw.r 19 H19.out; have q3 := hSw.f; have q9 := hn0; have q8 := hlt; have q7 := hlti; go_simp; (try with_reducible rfl); (try omega))
            (try simp only [Act.put, List.setIfInBounds_toArray, List.set_cons_zero, List.set_cons_succ, List.getElem_toArray, List.getElem_cons_zero, List.getElem_cons_succ])
            refine wpAnyH_take (i := 14) (v := ?_) rfl (by kernel_rfl) (by kernel_rfl) (by kernel_rfl) (fun _ _ _ h => h) (Or.inl ⟨by rfl, ?_⟩) (by assumption) ?_
            rotate_left
            · (intro wx hSw; have q1 := hSw.v.cell 0 rfl; have q2 := rng hSw.r 19 H19.out; have q3 := hSw.f; have q9 := hn0; have q8 := hlt; have q7 := hlti; go_simp; (try with_reducible rfl); (try omega))
            (try simp only [Act.put, List.setIfInBounds_toArray, List.set_cons_zero, List.set_cons_succ, List.getElem_toArray, List.getElem_cons_zero, List.getElem_cons_succ])
            refine wpAnyH_take (i := 15) (v := ?_) rfl (by kernel_rfl) (by kernel_rfl) (by kernel_rfl) (fun _ _ _ h => h) (Or.inl ⟨by rfl, ?_⟩) (by assumption) ?_
            rotate_left
            · (intro wx hSw; have q1 := hSw.v.cell 0 rfl; have q2 := rng hSw.r 19 H19.out; have q3 := hSw.f; have q9 := hn0; have q8 := hlt; have q7 := hlti; go_simp; (try with_reducible rfl); (try omega))
            (try simp only [Act.put, List.setIfInBounds_toArray, List.set_cons_zero, List.set_cons_succ, List.getElem_toArray, List.getElem_cons_zero, List.getElem_cons_succ])
            refine wpAnyH_take (i := 16) (v := ?_) rfl (by kernel_rfl) (by kernel_rfl) (by kernel_rfl) (fun _ _ _ h => h) (Or.inl ⟨by rfl, ?_⟩) (by assumption) ?_
            rotate_left
            · (intro wx hSw; have q1 := hSw.v.cell 0 rfl; have q2 := rng hSw.r 19 H19.out; have q3 := hSw.f; have q9 := hn0; have q8 := hlt; have q7 := hlti; go_simp; (try with_reducible rfl); (try omega))
            (try simp only [Act.put, List.setIfInBounds_toArray, List.set_cons_zero, List.set_cons_succ, List.getElem_toArray, List.getElem_cons_zero, List.getElem_cons_succ])
            refine wpAnyH_take (i := 17) (v := ?_) rfl (by kernel_rfl) (by kernel_rfl) (by kernel_rfl) (fun _ _ _ h => h) (Or.inl ⟨by rfl, ?_⟩) (by assumption) ?_
            rotate_left
            · (intro wx hSw; have q1 := hSw.v.cell 0 rfl; have q2 := rng hSw.r 19 H19.out; have q3 := hSw.f; have q9 := hn0; have q8 := hlt; have q7 := hlti; go_simp; (try with_reducible rfl); (try omega))
            (try simp only [Act.put, List.setIfInBounds_toArray, List.set_cons_zero, List.set_cons_succ, List.getElem_toArray, List.getElem_cons_zero, List.getElem_cons_succ])
            refine wpAnyH_take (i := 18) (v := ?_) rfl (by kernel_rfl) (by kernel_rfl) (by kernel_rfl) (fun _ _ _ h => h) (Or.inl ⟨by rfl, ?_⟩) (by assumption) ?_
            rotate_left
            · (intro wx hSw; have q1 := hSw.v.cell 0 rfl; have q2 := rng hSw.r 19 H19.out; have q3 := hSw.f; have q9 := hn0; have q8 := hlt; have q7 := hlti; go_simp; (try with_reducible rfl); (try omega))
            (try simp only [Act.put, List.setIfInBounds_toArray, List.set_cons_zero, List.set_cons_succ, List.getElem_toArray, List.getElem_cons_zero, List.getElem_cons_succ])
            refine wpAnyH_take (i := 19) (v := ?_) rfl (by kernel_rfl) (by kernel_rfl) (by kernel_rfl) (fun _ _ _ h => h) (Or.inl ⟨by rfl, ?_⟩) (by assumption) ?_
            rotate_left
            · (intro wx hSw; have q1 := hSw.v.cell 0 rfl; have q2 := rng hSw.r 19 H19.out; have q3 := hSw.f; have q9 := hn0; have q8 := hlt; have q7 := hlti; go_simp; (try with_reducible rfl); (try omega))
            (try simp only [Act.put, List.setIfInBounds_toArray, List.set_cons_zero, List.set_cons_succ, List.getElem_toArray, List.getElem_cons_zero, List.getElem_cons_succ])
            refine wpAnyH_take (i := 20) (v := ?_) rfl (by kernel_rfl) (by kernel_rfl) (by kernel_rfl) (fun _ _ _ h => h) (Or.inl ⟨by rfl, ?_⟩) (by assumption) ?_
            rotate_left
            · (intro wx hSw; have q1 := hSw.v.cell 0 rfl; have q2 := rng hSw.r 19 H19.out; have q3 := hSw.f; have q9 := hn0; have q8 := hlt; have q7 := hlti; go_simp; (try with_reducible rfl); (try omega))
            (try simp only [Act.put, List.setIfInBounds_toArray, List.set_cons_zero, List.set_cons_succ, List.getElem_toArray, List.getElem_cons_zero, List.getElem_cons_succ])
            refine wpAnyH_take (i := 21) (v := ?_) rfl (by kernel_rfl) (by kernel_rfl) (by kernel_rfl) (fun _ _ _ h => h) (Or.inl ⟨by rfl, ?_⟩) (by assumption) ?_
            rotate_left
            · (intro wx hSw; have q1 := hSw.v.cell 0 rfl; have q2 := rng hSw.r 19 H19.out; have q3 := hSw.f; have q9 := hn0; have q8 := hlt; have q7 := hlti; go_simp; (try with_reducible rfl); (try omega))
            (try simp only [Act.put, List.setIfInBounds_toArray, List.set_cons_zero, List.set_cons_succ, List.getElem_toArray, List.getElem_cons_zero, List.getElem_cons_succ])
            refine wpAnyH_take (i := 22) (v := ?_) rfl (by kernel_rfl) (by kernel_rfl) (by kernel_rfl) (fun _ _ _ h => h) (Or.inl ⟨by rfl, ?_⟩) (by assumption) ?_
            rotate_left
            · (intro wx hSw; have q1 := hSw.v.cell 0 rfl; have q2 := rng hSw.r 19 H19.out; have q3 := hSw.f; have q9 := hn0; have q8 := hlt; have q7 := hlti; go_simp; (try with_reducible rfl); (try omega))
            (try simp only [Act.put, List.setIfInBounds_toArray, List.set_cons_zero, List.set_cons_succ, List.getElem_toArray, List.getElem_cons_zero, List.getElem_cons_succ])
            refine wpAnyH_done (by kernel_rfl) ?_ _
            have hv9 := hS.v
            have hb9 := hS.b
            clear hS hHeld
            go_wp2_with fail
            exact ⟨⟨i + 1, by omega, by go_num, hid0 (hnext.out (by rw [HFX.out]; simp)), hv9, hb9⟩, by simp [intOf]; omega⟩
        · have hne : ¬ (kp : Int) = (k0 : Int) := by omega
          have HK := hid0 hk
          clear hk
          as_aux_lemma =>
            have hS := (⟨hI, hR, cell_later hB Hq0.out, hB⟩ : SRef w b0 o0 (o0 + i * 20) n c us (.slice fa k0 fc) wr).below (Below.drew (Below.refl _ _))
            clear hR hI hB
            go_wp2_with fail
            refine wp_region_held_drew (S := SRef w b0 o0 (o0 + i * 20) n c us (.slice fa k0 fc)) (by kernel_rfl) hS (fun hHeld => ?_)
            refine wpAnyH_take (i := 0) (v := ?_) rfl (by kernel_rfl) (by kernel_rfl) (by kernel_rfl) (fun _ _ _ h => h) (Or.inl ⟨by rfl, ?_⟩) (by assumption) ?_
            rotate_left
            · (intro wx hSw; have q1 := hSw.v.cell 0 rfl; have q2 := rng hSw.r 19 H19.out; have q3 := hSw.f; have q9 := hn0; have q8 := hlt; have q7 := hlti; go_simp; (try with_reducible rfl); (try omega))
            (try simp only [Act.put, List.setIfInBounds_toArray, List.set_cons_zero, List.set_cons_succ, List.getElem_toArray, List.getElem_cons_zero])
            refine wpAnyH_take (i := 1) (v := ?_) rfl (by kernel_rfl) (by kernel_rfl) (by kernel_rfl) (fun _ _ _ h => h) (Or.inl ⟨by rfl, ?_⟩) (by assumption) ?_
            rotate_left
            · (intro wx hSw; have q1 := hSw.v.cell 0 rfl; have q2 := rng hSw.r 19 H19.out; have q3 := hSw.f; have q9 := hn0; have q8 := hlt; have q7 := hlti; go_simp; (try with_reducible rfl); (try omega))
            (try simp only [Act.put, List.setIfInBounds_toArray, List.set_cons_zero, List.set_cons_succ, List.getElem_toArray, List.getElem_cons_zero, List.getElem_cons_succ])
            refine wpAnyH_take (i := 2) (v := ?_) rfl (by kernel_rfl) (by kernel_rfl) (by kernel_rfl) (fun _ _ _ h => h) (Or.inl ⟨by rfl, ?_⟩) (by assumption) ?_
            rotate_left
            · (intro wx hSw; have q1 := hSw.v.cell 0 rfl; have q2 := rng hSw.r 19 H19.out; have q3 := hSw.f; have q9 := hn0; have q8 := hlt; have q7 := hlti; go_simp; (try with_reducible rfl); (try omega))
            (try simp only [Act.put, List.setIfInBounds_toArray, List.set_cons_zero, List.set_cons_succ, List.getElem_toArray, List.getElem_cons_zero, List.getElem_cons_succ])
            refine wpAnyH_take (i := 3) (v := ?_) rfl (by kernel_rfl) (by kernel_rfl) (by kernel_rfl) (fun _ _ _ h => h) (Or.inl ⟨by rfl, ?_⟩) (by assumption) ?_
            rotate_left
            · (intro wx hSw; have q1 := hSw.v.cell 0 rfl; have q2 := rng hSw.r 19 H19.out; have q3 := hSw.f; have q9 := hn0; have q8 := hlt; have q7 := hlti; go_simp; (try with_reducible rfl); (try omega))
            (try simp only [Act.put, List.setIfInBounds_toArray, List.set_cons_zero, List.set_cons_succ, List.getElem_toArray, List.getElem_cons_zero, List.getElem_cons_succ])
            refine wpAnyH_take (i := 4) (v := .agg us.toArray) rfl (by kernel_rfl) (by kernel_rfl) (by kernel_rfl) (fun _ _ _ h => h) (yieldsIf_load_mid rfl 40 _ rfl b0 (o0 + i * 20) rfl us _ (fun w h => h.r) Try.underlying40 rfl (by rw [hcl]; exact sizePx)) (by assumption) ?_
            (try simp only [Act.put, List.setIfInBounds_toArray, List.set_cons_zero, List.set_cons_succ, List.getElem_toArray, List.getElem_cons_zero, List.getElem_cons_succ])
            refine wpAnyH_ready (rs := [5]) (by kernel_rfl) (by simp) ?_
            refine AllReadyH.cons rfl (fun K hK => ?_) AllReadyH.nil
            go_simp
            refine (CR.out _ hS.b).mono ?_
            rintro e W3 ⟨rfl, hb⟩
            have hS := hS.below hb
            clear hb
            refine hK.out _ _ hS (fun hHeld => ?_)
            clear hK K
            (try simp only [Act.put, List.setIfInBounds_toArray, List.set_cons_zero, List.set_cons_succ, List.getElem_toArray, List.getElem_cons_zero, List.getElem_cons_succ])
            refine wpAnyH_take (i := 6) (v := ?_) rfl (by kernel_rfl) (by kernel_rfl) (by kernel_rfl) (fun _ _ _ h => h) (Or.inl ⟨by rfl, ?_⟩) (by assumption) ?_
            rotate_left
            · (intro wx hSw; have q1 := hSw.v.cell 0 rfl; have q2 := rng hSw.r 19 H19.out; have q3 := hSw.f; have q9 := hn0; have q8 := hlt; have q7 := hlti; go_simp; (try with_reducible rfl); (try omega))
            (try simp only [Act.put, List.setIfInBounds_toArray, List.set_cons_zero, List.set_cons_succ, List.getElem_toArray, List.getElem_cons_zero, List.getElem_cons_succ])
            refine wpAnyH_take (i := 7) (v := ?_) rfl (by kernel_rfl) (by kernel_rfl) (by kernel_rfl) (fun _ _ _ h => h) (Or.inl ⟨by rfl, ?_⟩) (by assumption) ?_
            rotate_left
            · (intro wx hSw; have q1 := hSw.v.cell 0 rfl; have q2 := rng hSw.r 19 H19.out; have q3 := hSw.f; have q9 := hn0; have q8 := hlt; have q7 := hlti; go_simp; (try with_reducible rfl); (try omega))
            (try simp only [Act.put, List.setIfInBounds_toArray, List.set_cons_zero, List.set_cons_succ, List.getElem_toArray, List.getElem_cons_zero, List.getElem_cons_succ])
            refine wpAnyH_take (i := 8) (v := ?_) rfl (by kernel_rfl) (by kernel_rfl) (by kernel_rfl) (fun _ _ _ h => h) (Or.inl ⟨by rfl, ?_⟩) (by assumption) ?_
            rotate_left
            · (intro wx hSw; have q1 := hSw.v.cell 0 rfl; have q2 := rng hSw.r 19 H19.out; have q3 := hSw.f; have q9 := hn0; have q8 := hlt; have q7 := hlti; go_simp; (try with_reducible rfl); (try omega))
            (try simp only [Act.put, List.setIfInBounds_toArray, List.set_cons_zero, List.set_cons_succ, List.getElem_toArray, List.getElem_cons_zero, List.getElem_cons_succ])
            refine wpAnyH_take (i := 9) (v := ?_) rfl (by kernel_rfl) (by kernel_rfl) (by kernel_rfl) (fun _ _ _ h => h) (Or.inl ⟨by rfl, ?_⟩) (by assumption) ?_
            rotate_left
            · (intro wx hSw; have q1 := hSw.v.cell 0 rfl; have q2 := rng hSw.r 19 H19.out; have q3 := hSw.f; have q9 := hn0; have q8 := hlt; have q7 := hlti; go_simp; (try with_reducible rfl); (try omega))
            (try simp only [Act.put, List.setIfInBounds_toArray, List.set_cons_zero, List.set_cons_succ, List.getElem_toArray, List.getElem_cons_zero, List.getElem_cons_succ])
            refine wpAnyH_take (i := 10) (v := ?_) rfl (by kernel_rfl) (by kernel_rfl) (by kernel_rfl) (fun _ _ _ h => h) (Or.inl ⟨by rfl, ?_⟩) (by assumption) ?_
            rotate_left
            · (intro wx hSw; have q1 := hSw.v.cell 0 rfl; have q2 := rng hSw.r 19 H19.out; have q3 := hSw.f; have q9 := hn0; have q8 := hlt; have q7 := hlti; go_simp; (try with_reducible rfl); (try omega))
            (try simp only [Act.put, List.setIfInBounds_toArray, List.set_cons_zero, List.set_cons_succ, List.getElem_toArray, List.getElem_cons_zero, List.getElem_cons_succ])
            refine wpAnyH_take (i := 11) (v := ?_) rfl (by kernel_rfl) (by kernel_rfl) (by kernel_rfl) (fun _ _ _ h => h) (Or.inl ⟨by rfl, ?_⟩) (by assumption) ?_
            rotate_left
            · (intro wx hSw; have q1 := hSw.v.cell 0 rfl; have q2 := rng hSw.r 19 H19.out; have q3 := hSw.f; have q9 := hn0; have q8 := hlt; have q7 := hlti; go_simp; (try with_reducible rfl); (try omega))
            (try simp only [Act.put, List.setIfInBounds_toArray, List.set_cons_zero, List.set_cons_succ, List.getElem_toArray, List.getElem_cons_zero, List.getElem_cons_succ])
            refine wpAnyH_take (i := 12) (v := ?_) rfl (by kernel_rfl) (by kernel_rfl) (by kernel_rfl) (fun _ _ _ h => h) (Or.inl ⟨by rfl, ?_⟩) (by assumption) ?_
            rotate_left
            · (intro wx hSw; have q1 := hSw.v.cell 0 rfl; have q2 := rng hSw.r 19 H19.out; have q3 := hSw.f; have q9 := hn0; have q8 := hlt; have q7 := hlti; go_simp; (try with_reducible rfl); (try omega))
            (try simp only [Act.put, List.setIfInBounds_toArray, List.set_cons_zero, List.set_cons_succ, List.getElem_toArray, List.getElem_cons_zero, List.getElem_cons_succ])
            refine wpAnyH_take (i := 13) (v := ?_) rfl (by kernel_rfl) (by kernel_rfl) (by kernel_rfl) (fun _ _ _ h => h) (Or.inl ⟨by rfl, ?_⟩) (by assumption) ?_
            rotate_left
            · (intro wx hSw; have q1 := hSw.v.cell 0 rfl; have q2 := rng hSw.r 19 H19.out; have q3 := hSw.f; have q9 := hn0; have q8 := hlt; have q7 := hlti; go_simp; (try with_reducible rfl); (try omega))
            (try simp only [Act.put, List.setIfInBounds_toArray, List.set_cons_zero, List.set_cons_succ, List.getElem_toArray, List.getElem_cons_zero, List.getElem_cons_succ])
            refine wpAnyH_take (i := 14) (v := ?_) rfl (by kernel_rfl) (by kernel_rfl) (by kernel_rfl) (fun _ _ _ h => h) (Or.inl ⟨by rfl, ?_⟩) (by assumption) ?_
            rotate_left
            · (intro wx hSw; have q1 := hSw.v.cell 0 rfl; have q2 := rng hSw.r 19 H19.out; have q3 := hSw.f; have q9 := hn0; have q8 := hlt; have q7 := hlti; go_simp; (try with_reducible rfl); (try omega))
            (try simp only [Act.put, List.setIfInBounds_toArray, List.set_cons_zero, List.set_cons_succ, List.getElem_toArray, List.getElem_cons_zero, List.getElem_cons_succ])
            refine wpAnyH_take (i := 15) (v := ?_) rfl (by kernel_rfl) (by kernel_rfl) (by kernel_rfl) (fun _ _ _ h => h) (Or.inl ⟨by rfl, ?_⟩) (by assumption) ?_
            rotate_left
            · (intro wx hSw; have q1 := hSw.v.cell 0 rfl; have q2 := rng hSw.r 19 H19.out; have q3 := hSw.f; have q9 := hn0; have q8 := hlt; have q7 := hlti; go_simp; (try with_reducible rfl); (try omega))
            (try simp only [Act.put, List.setIfInBounds_toArray, List.set_cons_zero, List.set_cons_succ, List.getElem_toArray, List.getElem_cons_zero, List.getElem_cons_succ])
            refine wpAnyH_take (i := 16) (v := ?_) rfl (by kernel_rfl) (by kernel_rfl) (by kernel_rfl) (fun _ _ _ h => h) (Or.inl ⟨by rfl, ?_⟩) (by assumption) ?_
            rotate_left
            · (intro wx hSw; have q1 := hSw.v.cell 0 rfl; have q2 := rng hSw.r 19 H19.out; have q3 := hSw.f; have q9 := hn0; have q8 := hlt; have q7 := hlti; go_simp; (try with_reducible rfl); (try omega))
            (try simp only [Act.put, List.setIfInBounds_toArray, List.set_cons_zero, List.set_cons_succ, List.getElem_toArray, List.getElem_cons_zero, List.getElem_cons_succ])
            refine wpAnyH_take (i := 17) (v := ?_) rfl (by kernel_rfl) (by kernel_rfl) (by kernel_rfl) (fun _ _ _ h => h) (Or.inl ⟨by rfl, ?_⟩) (by assumption) ?_
            rotate_left
            · (intro wx hSw; have q1 := hSw.v.cell 0 rfl; have q2 := rng hSw.r 19 H19.out; have q3 := hSw.f; have q9 := hn0; have q8 := hlt; have q7 := hlti; go_simp; (try with_reducible rfl); (try omega))
            (try simp only [Act.put, List.setIfInBounds_toArray, List.set_cons_zero, List.set_cons_succ, List.getElem_toArray, List.getElem_cons_zero, List.getElem_cons_succ])
            refine wpAnyH_take (i := 18) (v := ?_) rfl (by kernel_rfl) (by kernel_rfl) (by kernel_rfl) (fun _ _ _ h => h) (Or.inl ⟨by rfl, ?_⟩) (by assumption) ?_
            rotate_left
            · (intro wx hSw; have q1 := hSw.v.cell 0 rfl; have q2 := rng hSw.r 19 H19.out; have q3 := hSw.f; have q9 := hn0; have q8 := hlt; have q7 := hlti; go_simp; (try with_reducible rfl); (try omega))
            (try simp only [Act.put, List.setIfInBounds_toArray, List.set_cons_zero, List.set_cons_succ, List.getElem_toArray, List.getElem_cons_zero, List.getElem_cons_succ])
            refine wpAnyH_take (i := 19) (v := ?_) rfl (by kernel_rfl) (by kernel_rfl) (by kernel_rfl) (fun _ _ _ h => h) (Or.inl ⟨by rfl, ?_⟩) (by assumption) ?_
            rotate_left
            · (intro wx hSw; have q1 := hSw.v.cell 0 rfl; have q2 := rng hSw.r 19 H19.out; have q3 := hSw.f; have q9 := hn0; have q8 := hlt; have q7 := hlti; go_simp; (try with_reducible rfl); (try omega))
            (try simp only [Act.put, List.setIfInBounds_toArray, List.set_cons_zero, List.set_cons_succ, List.getElem_toArray, List.getElem_cons_zero, List.getElem_cons_succ])
            refine wpAnyH_take (i := 20) (v := ?_) rfl (by kernel_rfl) (by kernel_rfl) (by kernel_rfl) (fun _ _ _ h => h) (Or.inl ⟨by rfl, ?_⟩) (by assumption) ?_
            rotate_left
            · (intro wx hSw; have q1 := hSw.v.cell 0 rfl; have q2 := rng hSw.r 19 H19.out; have q3 := hSw.f; have q9 := hn0; have q8 := hlt; have q7 := hlti; go_simp; (try with_reducible rfl); (try omega))
            (try simp only [Act.put, List.setIfInBounds_toArray, List.set_cons_zero, List.set_cons_succ, List.getElem_toArray, List.getElem_cons_zero, List.getElem_cons_succ])
            refine wpAnyH_take (i := 21) (v := ?_) rfl (by kernel_rfl) (by kernel_rfl) (by kernel_rfl) (fun _ _ _ h => h) (Or.inl ⟨by rfl, ?_⟩) (by assumption) ?_
            rotate_left
            · (intro wx hSw; have q1 := hSw.v.cell 0 rfl; have q2 := rng hSw.r 19 H19.out; have q3 := hSw.f; have q9 := hn0; have q8 := hlt; have q7 := hlti; go_simp; (try with_reducible rfl); (try omega))
            (try simp only [Act.put, List.setIfInBounds_toArray, List.set_cons_zero, List.set_cons_succ, List.getElem_toArray, List.getElem_cons_zero, List.getElem_cons_succ])
            refine wpAnyH_take (i := 22) (v := ?_) rfl (by kernel_rfl) (by kernel_rfl) (by kernel_rfl) (fun _ _ _ h => h) (Or.inl ⟨by rfl, ?_⟩) (by assumption) ?_
            rotate_left
            · (intro wx hSw; have q1 := hSw.v.cell 0 rfl; have q2 := rng hSw.r 19 H19.out; have q3 := hSw.f; have q9 := hn0; have q8 := hlt; have q7 := hlti; go_simp; (try with_reducible rfl); (try omega))
            (try simp only [Act.put, List.setIfInBounds_toArray, List.set_cons_zero, List.set_cons_succ, List.getElem_toArray, List.getElem_cons_zero, List.getElem_cons_succ])
            refine wpAnyH_done (by kernel_rfl) ?_ _
            have hv9 := hS.v
            have hb9 := hS.b
            clear hS hHeld
            go_wp2_with fail
            go_ret
            exact ⟨ret_bool (by rw [← hat.out, hbad.out (by rw [HFX.out]; simp [HK.out])]), hb9⟩
    · have hie : ¬ (i : Int) < n := by omega
      rw [List.take_of_length_le (by rw [HN.out]; omega)] at hO
      go_wp2
      go_ret
      exact ⟨ret_bool (by rw [← hat.out, hO.out]), hB⟩
end Go.Proofs.Ytfdkajefcplfjaa
