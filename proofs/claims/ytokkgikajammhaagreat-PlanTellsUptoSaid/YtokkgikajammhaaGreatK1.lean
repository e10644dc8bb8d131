/- Several of my texts laid together, each as it was: XC. Conditions: each names its own. -/
import Derived.Test.YtokkgikajammhaaGreatJ9
import Derived.Test.YtokkgikajammhaaGreatI1
import Derived.Test.YtokkgikajammhaaGreatJ8
import Derived.Test.YtokkgikajammhaaGreatJ3
/- The reference: whether what a plan reads is there. Conditions: the plan's and the names' cells are known. -/
namespace Go.Proofs.YtokkgikajammhaaGreat
open Go.RowKit

theorem fitsE_some {l : List Nx} {s : List UInt8} {x : Nx} (h : findN l s = some x) (wd : Int) : fitsE l s wd = if plainE x.E = true ∧ x.E.any (fun e => decide ((e.r.length : Int) ≠ wd)) = false then 0 else 1 := by unfold fitsE; rw [h]
theorem fitsE_none {l : List Nx} {s : List UInt8} (h : findN l s = none) (wd : Int) : fitsE l s wd = 5 := by unfold fitsE; rw [h]
theorem hasV_some {l : List Nx} {s : List UInt8} {x : Nx} (h : findN l s = some x) : hasV l s = .tuple #[.slice x.a x.E.length x.c, .bool true] := by unfold hasV; rw [h]
theorem hasV_none {l : List Nx} {s : List UInt8} (h : findN l s = none) : hasV l s = .tuple #[.slice none 0 0, .bool false] := by unfold hasV; rw [h]
set_option maxRecDepth 100000 in
set_option maxHeartbeats 2000000 in
theorem refReady_any {k : Nat} (a : Option Addr) (c : Nat) (ps : List Px) (a2 : Option Addr) (c2 : Nat) (l : List Nx) (w : World) (hp : PsOk w k a c ps) (hL : NsOk w a2 l) :
    Calls Tryz.prog 16 #[planV a ps.length c, .slice a2 l.length c2] w fun e w' => e = .returned (.int .i64 (readyE l ps)) ∧ Below w.heap.size w w' := by
  have hfew := hp.few
  have V0 := VarB.new w [.slice a ps.length c] 24
  have q0 := V0.cell 0 rfl
  have hB0 : Below w.heap.size w (w.alloc (.cells #[.slice a ps.length c] 24)) := (Below.refl _ _).alloc (Nat.le_refl _) _
  have CR := hid0 (refPlanRight_any a c ps _ (hp.later hB0))
  have HL := hid0 hL
  have HP := hid0 hp
  have hwid := hid0 (plan_widths (ps := ps))
  obtain ⟨R, hr⟩ : ∃ R, readyE l ps = R := ⟨_, rfl⟩
  rw [hr]
  have HR := hid0 (show (if planB ps = true then readyLE l ps else 1) = R from hr)
  clear hr hp hL
  unfold planV at *
  obtain ⟨n, hn⟩ : ∃ n, ps.length = n := ⟨_, rfl⟩
  have HN := hid0 hn
  rw [hn] at V0 q0 hB0 CR hfew ⊢
  clear hn
  generalize planB ps = rp at *
  cases rp with
  | false =>
    go_enter Tryz.func16, Tryz.ntmps16
    go_wp2_with (first | ((with_reducible refine wp_getB V0.at_ Tryz.underlying24 ?_ ?_ ?_ ?_); (rfl); (exact sizePlan); (rfl); (try simp only [Act.put])) | (go_at_call 14; ((with_reducible refine CR.out.mono ?_); rintro e w1 ⟨rfl, hb1⟩; (have hB1 := below_through hb1 hB0.size hB0); (have V1 := V0.below hb1); (have q1 := V1.cell 0 rfl); clear hb1)) | fail)
    go_ret
    exact ⟨ret_i64 (by rw [← HR.out]; rfl), hB1⟩
  | true =>
    have HRL := hid0 (show readyLE l ps = R by rw [← HR.out]; rfl)
    go_enter Tryz.func16, Tryz.ntmps16
    go_wp2_with (first | ((with_reducible refine wp_getB V0.at_ Tryz.underlying24 ?_ ?_ ?_ ?_); (rfl); (exact sizePlan); (rfl); (try simp only [Act.put])) | (go_at_call 14; ((with_reducible refine CR.out.mono ?_); rintro e w1 ⟨rfl, hb1⟩; (have hB1 := below_through hb1 hB0.size hB0); (have V1 := V0.below hb1); (have q1 := V1.cell 0 rfl); clear hb1)) | fail)
    clear q0 q1 V0 CR hB0
    go_loopw [5] (fun iv wr => ∃ i : Nat, i ≤ n ∧ iv = .int .i64 i ∧ Hid (readyLE l (ps.drop i) = R) ∧ VarB wr w.heap.size [.slice a n c] ∧ Below w.heap.size w wr) (fun iv _ => n - (intOf iv).toNat)
    case atStart => exact ⟨0, Nat.zero_le _, rfl, hid0 HRL.out, V1, hB1⟩
    case round =>
      obtain ⟨i, hi, rfl, hO, hV, hB⟩ := hrel
      clear hB1 V1
      have v0 := hV.cell 0 rfl
      by_cases hlt : i < n
      · have hlt1 : i < ps.length := by rw [HN.out]; exact hlt
        have hlti : (i : Int) < (n : Int) := by omega
        obtain ⟨bp, op, rfl, hbp, hR⟩ := HP.out.part i hlt1
        have hok := HP.out.ok _ (List.getElem_mem hlt1)
        have hwd := hwid.out (by trivial) _ (List.getElem_mem hlt1)
        have hstep := hid0 ((readyLE_at (l := l) hlt1).symm.trans hO.out)
        generalize ps[i] = p at hR hok hwd hstep
        have D1 := hid0 (rng hR 1 p.c1)
        have D2 := hid0 (rng hR 2 p.c2)
        have hfF := hok.fewF
        have HFS := hid0 hok.fs
        have HWS := hid0 hok.ws
        clear hok hR
        generalize p.fs = fs at *
        generalize p.ws = ws at *
        generalize p.fp = fp at *
        generalize p.fc = fc at *
        generalize p.wp = wp at *
        generalize p.wc = wc at *
        obtain ⟨m, hm⟩ : ∃ m, fs.length = m := ⟨_, rfl⟩
        have HM := hid0 hm
        rw [hm] at D1 hfF hwd
        have HW := hid0 hwd
        rw [hwd] at D2
        clear hm hwd
        go_wp2
        clear v0
        go_loopw [6] (fun jv wi => ∃ j : Nat, j ≤ m ∧ jv = .int .i64 j ∧ Hid (readyFE l (fs.drop j) (ws.drop j) = readyFE l fs ws) ∧ VarB wi w.heap.size [.slice (some ⟨bp, op, none⟩) n c] ∧ Below w.heap.size w wi) (fun jv _ => m - (intOf jv).toNat)
        case atStart => exact ⟨0, Nat.zero_le _, rfl, hid0 rfl, hV, hB⟩
        case round =>
          obtain ⟨j, hj, rfl, hO2, hVi, hBi⟩ := hrel
          clear hV hB
          have v0 := hVi.cell 0 rfl
          have d1 := cell_later hBi D1.out
          by_cases hjl : j < m
          · have hj1 : j < fs.length := by rw [HM.out]; exact hjl
            have hj2 : j < ws.length := by rw [HW.out]; exact hjl
            have hjli : (j : Int) < (m : Int) := by omega
            obtain ⟨b1, o1, rfl, hc1⟩ := (HFS.out.later hBi).out (by intro e; rw [e] at hj1; exact absurd hj1 (by simp))
            have s0 := hc1 j hj1
            obtain ⟨b2, o2, rfl, hc2⟩ := HWS.out.at_ (by intro e; rw [e] at hj2; exact absurd hj2 (by simp))
            have T0 := hid0 (hc2 j hj2)
            have hst2 := hid0 ((readyFE_at (l := l) hj1 hj2).symm.trans hO2.out)
            generalize fs[j] = sj at *
            generalize ws[j] = wj at *
            clear hc1 hc2
            have hh := refHas_any a2 c2 l sj wr (HL.out.later hBi)
            cases hf : findN l sj.data.toList with
            | none =>
              rw [hasV_none hf] at hh
              have CH := hid0 hh
              have HF := hid0 (fitsE_none hf wj)
              clear hh hf
              go_wp2_with (first | (go_at_call 44; go_must (refine CH.out.mono ?_; rintro e w5 ⟨rfl, hw5⟩; rw [hw5])) | fail)
              go_ret
              exact ⟨ret_i64 (by rw [← hstep.out, ← hst2.out, HF.out]; simp), hBi⟩
            | some x =>
              rw [hasV_some hf] at hh
              have CH := hid0 hh
              have HF := hid0 (fitsE_some hf wj)
              have hx := (HL.out.ok x (findN_mem hf)).1
              have CP := hid0 (refBagPlain_all x.a x.c x.E wr (hx.later hBi))
              have HX := hid0 hx
              have hfewx := hx.few
              clear hh hf hx
              generalize plainE x.E = pl at CP HF
              generalize x.E = E at *
              generalize x.a = xa at *
              generalize x.c = xc at *
              cases pl with
              | false =>
                go_wp2_with (first | (go_at_call 44; go_must (refine CH.out.mono ?_; rintro e w5 ⟨rfl, hw5⟩; rw [hw5])) | (go_at_call 27; go_must (refine CP.out.mono ?_; rintro e w6 ⟨rfl, hb6⟩; (have V6 := hVi.below hb6); (have hB6 := below_through hb6 hBi.size hBi); clear hb6)) | fail)
                go_ret
                exact ⟨ret_i64 (by rw [← hstep.out, ← hst2.out, HF.out]; simp), hB6⟩
              | true =>
                go_wp2_with (first | (go_at_call 44; go_must (refine CH.out.mono ?_; rintro e w5 ⟨rfl, hw5⟩; rw [hw5])) | (go_at_call 27; go_must (refine CP.out.mono ?_; rintro e w6 ⟨rfl, hb6⟩; (have V6 := hVi.below hb6); (have hB6 := below_through hb6 hBi.size hBi); clear hb6)) | fail)
                clear v0 d1 s0 hVi hBi
                go_loopw [9] (fun kv wk => ∃ kk : Nat, kk ≤ E.length ∧ kv = .int .i64 kk ∧ Hid ((E.take kk).all (fun e => !decide ((e.r.length : Int) ≠ wj)) = true) ∧ VarB wk w.heap.size [.slice (some ⟨bp, op, none⟩) n c] ∧ Below w.heap.size w wk) (fun kv _ => E.length - (intOf kv).toNat)
                case atStart => exact ⟨0, Nat.zero_le _, rfl, hid0 rfl, V6, hB6⟩
                case round =>
                  obtain ⟨kk, hkk, rfl, hO3, hVk, hBk⟩ := hrel
                  clear V6 hB6
                  have v0 := hVk.cell 0 rfl
                  have d2 := cell_later hBk D2.out
                  have t0 := cell_later hBk T0.out
                  by_cases hkl : kk < E.length
                  · have hkli : (kk : Int) < (E.length : Int) := by omega
                    obtain ⟨bx, ox, rfl, hcx⟩ := ((HX.out.later hBk).at_.1) (by intro e; rw [e] at hkl; exact absurd hkl (by simp))
                    obtain ⟨e0, e1⟩ := hcx kk hkl
                    have hmem := List.getElem_mem hkl
                    have hnext := hid0 (fun hf => all_take hkl hO3.out hf)
                    generalize E[kk] = y at e0 e1 hmem hnext
                    have HMY := hid0 (fun hx : decide ((y.r.length : Int) ≠ wj) = true => (List.any_eq_true.2 ⟨y, hmem, hx⟩ : E.any (fun e => decide ((e.r.length : Int) ≠ wj)) = true))
                    clear hcx hmem e1
                    generalize y.r.length = em at *
                    generalize y.a = ea at *
                    generalize y.c = ec at *
                    by_cases g : (em : Int) = wj
                    · have HK := hid0 (hnext.out (by simpa using g))
                      have HG := hid0 g
                      subst g
                      have hS : (fun w' => (w'.cell? ⟨w.heap.size, 0, none⟩ = some (.slice (some ⟨bp, op, none⟩) n c) ∧ w'.cell? ⟨bp, op + i * 20 + 2, none⟩ = some (.slice (some ⟨b2, o2, none⟩) m wc) ∧ w'.cell? ⟨b2, o2 + j, none⟩ = some (.int .i64 em) ∧ w'.cell? ⟨bx, ox + kk * 2, none⟩ = some (.slice ea em ec)) ∧ VarB w' w.heap.size [.slice (some ⟨bp, op, none⟩) n c] ∧ Below w.heap.size w w') wr.drew := ⟨⟨v0, d2, t0, e0⟩, hVk.drew, Below.drew hBk⟩
                      clear v0 d2 t0 e0 hVk hBk
                      go_wp2_with fail
                      refine wp_region_held_drew (S := fun w' => (w'.cell? ⟨w.heap.size, 0, none⟩ = some (.slice (some ⟨bp, op, none⟩) n c) ∧ w'.cell? ⟨bp, op + i * 20 + 2, none⟩ = some (.slice (some ⟨b2, o2, none⟩) m wc) ∧ w'.cell? ⟨b2, o2 + j, none⟩ = some (.int .i64 em) ∧ w'.cell? ⟨bx, ox + kk * 2, none⟩ = some (.slice ea em ec)) ∧ VarB w' w.heap.size [.slice (some ⟨bp, op, none⟩) n c] ∧ Below w.heap.size w w') (by kernel_rfl) hS (fun hHeld => ?_)
                      refine wpAnyH_take (i := 0) (v := ?_) rfl (by kernel_rfl) (by kernel_rfl) (by kernel_rfl) (fun _ _ _ h => h) (Or.inl ⟨by rfl, ?_⟩) (by assumption) ?_
                      rotate_left
                      · (intro wx hSw; have y0 := hSw.1.1; have y1 := hSw.1.2.1; have y2 := hSw.1.2.2.1; have y3 := hSw.1.2.2.2; have y4 := hlti; have y5 := hjli; have y6 := hkli; have y7 := hlt; have y8 := hjl; have y9 := hkl; go_simp; (try with_reducible rfl); (try omega))
                      (try simp only [Act.put, List.setIfInBounds_toArray, List.set_cons_zero, List.set_cons_succ, List.getElem_toArray, List.getElem_cons_zero])
                      refine wpAnyH_take (i := 1) (v := ?_) rfl (by kernel_rfl) (by kernel_rfl) (by kernel_rfl) (fun _ _ _ h => h) (Or.inl ⟨by rfl, ?_⟩) (by assumption) ?_
                      rotate_left
                      · (intro wx hSw; have y0 := hSw.1.1; have y1 := hSw.1.2.1; have y2 := hSw.1.2.2.1; have y3 := hSw.1.2.2.2; have y4 := hlti; have y5 := hjli; have y6 := hkli; have y7 := hlt; have y8 := hjl; have y9 := hkl; go_simp; (try with_reducible rfl); (try omega))
                      (try simp only [Act.put, List.setIfInBounds_toArray, List.set_cons_zero, List.set_cons_succ, List.getElem_toArray, List.getElem_cons_zero, List.getElem_cons_succ])
                      refine wpAnyH_take (i := 2) (v := ?_) rfl (by kernel_rfl) (by kernel_rfl) (by kernel_rfl) (fun _ _ _ h => h) (Or.inl ⟨by rfl, ?_⟩) (by assumption) ?_
                      rotate_left
                      · (intro wx hSw; have y0 := hSw.1.1; have y1 := hSw.1.2.1; have y2 := hSw.1.2.2.1; have y3 := hSw.1.2.2.2; have y4 := hlti; have y5 := hjli; have y6 := hkli; have y7 := hlt; have y8 := hjl; have y9 := hkl; go_simp; (try with_reducible rfl); (try omega))
                      (try simp only [Act.put, List.setIfInBounds_toArray, List.set_cons_zero, List.set_cons_succ, List.getElem_toArray, List.getElem_cons_zero, List.getElem_cons_succ])
                      refine wpAnyH_take (i := 3) (v := ?_) rfl (by kernel_rfl) (by kernel_rfl) (by kernel_rfl) (fun _ _ _ h => h) (Or.inl ⟨by rfl, ?_⟩) (by assumption) ?_
                      rotate_left
                      · (intro wx hSw; have y0 := hSw.1.1; have y1 := hSw.1.2.1; have y2 := hSw.1.2.2.1; have y3 := hSw.1.2.2.2; have y4 := hlti; have y5 := hjli; have y6 := hkli; have y7 := hlt; have y8 := hjl; have y9 := hkl; go_simp; (try with_reducible rfl); (try omega))
                      (try simp only [Act.put, List.setIfInBounds_toArray, List.set_cons_zero, List.set_cons_succ, List.getElem_toArray, List.getElem_cons_zero, List.getElem_cons_succ])
                      refine wpAnyH_take (i := 4) (v := ?_) rfl (by kernel_rfl) (by kernel_rfl) (by kernel_rfl) (fun _ _ _ h => h) (Or.inl ⟨by rfl, ?_⟩) (by assumption) ?_
                      rotate_left
                      · (intro wx hSw; have y0 := hSw.1.1; have y1 := hSw.1.2.1; have y2 := hSw.1.2.2.1; have y3 := hSw.1.2.2.2; have y4 := hlti; have y5 := hjli; have y6 := hkli; have y7 := hlt; have y8 := hjl; have y9 := hkl; go_simp; (try with_reducible rfl); (try omega))
                      (try simp only [Act.put, List.setIfInBounds_toArray, List.set_cons_zero, List.set_cons_succ, List.getElem_toArray, List.getElem_cons_zero, List.getElem_cons_succ])
                      refine wpAnyH_take (i := 5) (v := ?_) rfl (by kernel_rfl) (by kernel_rfl) (by kernel_rfl) (fun _ _ _ h => h) (Or.inl ⟨by rfl, ?_⟩) (by assumption) ?_
                      rotate_left
                      · (intro wx hSw; have y0 := hSw.1.1; have y1 := hSw.1.2.1; have y2 := hSw.1.2.2.1; have y3 := hSw.1.2.2.2; have y4 := hlti; have y5 := hjli; have y6 := hkli; have y7 := hlt; have y8 := hjl; have y9 := hkl; go_simp; (try with_reducible rfl); (try omega))
                      (try simp only [Act.put, List.setIfInBounds_toArray, List.set_cons_zero, List.set_cons_succ, List.getElem_toArray, List.getElem_cons_zero, List.getElem_cons_succ])
                      refine wpAnyH_take (i := 6) (v := ?_) rfl (by kernel_rfl) (by kernel_rfl) (by kernel_rfl) (fun _ _ _ h => h) (Or.inl ⟨by rfl, ?_⟩) (by assumption) ?_
                      rotate_left
                      · (intro wx hSw; have y0 := hSw.1.1; have y1 := hSw.1.2.1; have y2 := hSw.1.2.2.1; have y3 := hSw.1.2.2.2; have y4 := hlti; have y5 := hjli; have y6 := hkli; have y7 := hlt; have y8 := hjl; have y9 := hkl; go_simp; (try with_reducible rfl); (try omega))
                      (try simp only [Act.put, List.setIfInBounds_toArray, List.set_cons_zero, List.set_cons_succ, List.getElem_toArray, List.getElem_cons_zero, List.getElem_cons_succ])
                      refine wpAnyH_take (i := 7) (v := ?_) rfl (by kernel_rfl) (by kernel_rfl) (by kernel_rfl) (fun _ _ _ h => h) (Or.inl ⟨by rfl, ?_⟩) (by assumption) ?_
                      rotate_left
                      · (intro wx hSw; have y0 := hSw.1.1; have y1 := hSw.1.2.1; have y2 := hSw.1.2.2.1; have y3 := hSw.1.2.2.2; have y4 := hlti; have y5 := hjli; have y6 := hkli; have y7 := hlt; have y8 := hjl; have y9 := hkl; go_simp; (try with_reducible rfl); (try omega))
                      (try simp only [Act.put, List.setIfInBounds_toArray, List.set_cons_zero, List.set_cons_succ, List.getElem_toArray, List.getElem_cons_zero, List.getElem_cons_succ])
                      refine wpAnyH_take (i := 8) (v := ?_) rfl (by kernel_rfl) (by kernel_rfl) (by kernel_rfl) (fun _ _ _ h => h) (Or.inl ⟨by rfl, ?_⟩) (by assumption) ?_
                      rotate_left
                      · (intro wx hSw; have y0 := hSw.1.1; have y1 := hSw.1.2.1; have y2 := hSw.1.2.2.1; have y3 := hSw.1.2.2.2; have y4 := hlti; have y5 := hjli; have y6 := hkli; have y7 := hlt; have y8 := hjl; have y9 := hkl; go_simp; (try with_reducible rfl); (try omega))
                      (try simp only [Act.put, List.setIfInBounds_toArray, List.set_cons_zero, List.set_cons_succ, List.getElem_toArray, List.getElem_cons_zero, List.getElem_cons_succ])
                      refine wpAnyH_take (i := 9) (v := ?_) rfl (by kernel_rfl) (by kernel_rfl) (by kernel_rfl) (fun _ _ _ h => h) (Or.inl ⟨by rfl, ?_⟩) (by assumption) ?_
                      rotate_left
                      · (intro wx hSw; have y0 := hSw.1.1; have y1 := hSw.1.2.1; have y2 := hSw.1.2.2.1; have y3 := hSw.1.2.2.2; have y4 := hlti; have y5 := hjli; have y6 := hkli; have y7 := hlt; have y8 := hjl; have y9 := hkl; go_simp; (try with_reducible rfl); (try omega))
                      (try simp only [Act.put, List.setIfInBounds_toArray, List.set_cons_zero, List.set_cons_succ, List.getElem_toArray, List.getElem_cons_zero, List.getElem_cons_succ])
                      refine wpAnyH_take (i := 10) (v := ?_) rfl (by kernel_rfl) (by kernel_rfl) (by kernel_rfl) (fun _ _ _ h => h) (Or.inl ⟨by rfl, ?_⟩) (by assumption) ?_
                      rotate_left
                      · (intro wx hSw; have y0 := hSw.1.1; have y1 := hSw.1.2.1; have y2 := hSw.1.2.2.1; have y3 := hSw.1.2.2.2; have y4 := hlti; have y5 := hjli; have y6 := hkli; have y7 := hlt; have y8 := hjl; have y9 := hkl; go_simp; (try with_reducible rfl); (try omega))
                      (try simp only [Act.put, List.setIfInBounds_toArray, List.set_cons_zero, List.set_cons_succ, List.getElem_toArray, List.getElem_cons_zero, List.getElem_cons_succ])
                      refine wpAnyH_take (i := 11) (v := ?_) rfl (by kernel_rfl) (by kernel_rfl) (by kernel_rfl) (fun _ _ _ h => h) (Or.inl ⟨by rfl, ?_⟩) (by assumption) ?_
                      rotate_left
                      · (intro wx hSw; have y0 := hSw.1.1; have y1 := hSw.1.2.1; have y2 := hSw.1.2.2.1; have y3 := hSw.1.2.2.2; have y4 := hlti; have y5 := hjli; have y6 := hkli; have y7 := hlt; have y8 := hjl; have y9 := hkl; go_simp; (try with_reducible rfl); (try omega))
                      (try simp only [Act.put, List.setIfInBounds_toArray, List.set_cons_zero, List.set_cons_succ, List.getElem_toArray, List.getElem_cons_zero, List.getElem_cons_succ])
                      refine wpAnyH_take (i := 12) (v := ?_) rfl (by kernel_rfl) (by kernel_rfl) (by kernel_rfl) (fun _ _ _ h => h) (Or.inl ⟨by rfl, ?_⟩) (by assumption) ?_
                      rotate_left
                      · (intro wx hSw; have y0 := hSw.1.1; have y1 := hSw.1.2.1; have y2 := hSw.1.2.2.1; have y3 := hSw.1.2.2.2; have y4 := hlti; have y5 := hjli; have y6 := hkli; have y7 := hlt; have y8 := hjl; have y9 := hkl; go_simp; (try with_reducible rfl); (try omega))
                      (try simp only [Act.put, List.setIfInBounds_toArray, List.set_cons_zero, List.set_cons_succ, List.getElem_toArray, List.getElem_cons_zero, List.getElem_cons_succ])
                      refine wpAnyH_take (i := 13) (v := ?_) rfl (by kernel_rfl) (by kernel_rfl) (by kernel_rfl) (fun _ _ _ h => h) (Or.inl ⟨by rfl, ?_⟩) (by assumption) ?_
                      rotate_left
                      · (intro wx hSw; have y0 := hSw.1.1; have y1 := hSw.1.2.1; have y2 := hSw.1.2.2.1; have y3 := hSw.1.2.2.2; have y4 := hlti; have y5 := hjli; have y6 := hkli; have y7 := hlt; have y8 := hjl; have y9 := hkl; go_simp; (try with_reducible rfl); (try omega))
                      (try simp only [Act.put, List.setIfInBounds_toArray, List.set_cons_zero, List.set_cons_succ, List.getElem_toArray, List.getElem_cons_zero, List.getElem_cons_succ])
                      refine wpAnyH_take (i := 14) (v := ?_) rfl (by kernel_rfl) (by kernel_rfl) (by kernel_rfl) (fun _ _ _ h => h) (Or.inl ⟨by rfl, ?_⟩) (by assumption) ?_
                      rotate_left
                      · (intro wx hSw; have y0 := hSw.1.1; have y1 := hSw.1.2.1; have y2 := hSw.1.2.2.1; have y3 := hSw.1.2.2.2; have y4 := hlti; have y5 := hjli; have y6 := hkli; have y7 := hlt; have y8 := hjl; have y9 := hkl; go_simp; (try with_reducible rfl); (try omega))
                      (try simp only [Act.put, List.setIfInBounds_toArray, List.set_cons_zero, List.set_cons_succ, List.getElem_toArray, List.getElem_cons_zero, List.getElem_cons_succ])
                      refine wpAnyH_take (i := 15) (v := ?_) rfl (by kernel_rfl) (by kernel_rfl) (by kernel_rfl) (fun _ _ _ h => h) (Or.inl ⟨by rfl, ?_⟩) (by assumption) ?_
                      rotate_left
                      · (intro wx hSw; have y0 := hSw.1.1; have y1 := hSw.1.2.1; have y2 := hSw.1.2.2.1; have y3 := hSw.1.2.2.2; have y4 := hlti; have y5 := hjli; have y6 := hkli; have y7 := hlt; have y8 := hjl; have y9 := hkl; go_simp; (try with_reducible rfl); (try omega))
                      (try simp only [Act.put, List.setIfInBounds_toArray, List.set_cons_zero, List.set_cons_succ, List.getElem_toArray, List.getElem_cons_zero, List.getElem_cons_succ])
                      refine wpAnyH_done (by kernel_rfl) ?_ _
                      clear hHeld
                      have V9 := hS.2.1
                      have hB9 := hS.2.2
                      clear hS
                      go_wp2_with fail
                      exact ⟨⟨kk + 1, by omega, by go_num, HK, V9, hB9⟩, by simp [intOf]; omega⟩
                    · have HK := hid0 (HMY.out (by simpa using g))
                      have hne : ¬ (em : Int) = wj := g
                      clear g
                      have hS : (fun w' => (w'.cell? ⟨w.heap.size, 0, none⟩ = some (.slice (some ⟨bp, op, none⟩) n c) ∧ w'.cell? ⟨bp, op + i * 20 + 2, none⟩ = some (.slice (some ⟨b2, o2, none⟩) m wc) ∧ w'.cell? ⟨b2, o2 + j, none⟩ = some (.int .i64 wj) ∧ w'.cell? ⟨bx, ox + kk * 2, none⟩ = some (.slice ea em ec)) ∧ VarB w' w.heap.size [.slice (some ⟨bp, op, none⟩) n c] ∧ Below w.heap.size w w') wr.drew := ⟨⟨v0, d2, t0, e0⟩, hVk.drew, Below.drew hBk⟩
                      clear v0 d2 t0 e0 hVk hBk
                      go_wp2_with fail
                      refine wp_region_held_drew (S := fun w' => (w'.cell? ⟨w.heap.size, 0, none⟩ = some (.slice (some ⟨bp, op, none⟩) n c) ∧ w'.cell? ⟨bp, op + i * 20 + 2, none⟩ = some (.slice (some ⟨b2, o2, none⟩) m wc) ∧ w'.cell? ⟨b2, o2 + j, none⟩ = some (.int .i64 wj) ∧ w'.cell? ⟨bx, ox + kk * 2, none⟩ = some (.slice ea em ec)) ∧ VarB w' w.heap.size [.slice (some ⟨bp, op, none⟩) n c] ∧ Below w.heap.size w w') (by kernel_rfl) hS (fun hHeld => ?_)
                      refine wpAnyH_take (i := 0) (v := ?_) rfl (by kernel_rfl) (by kernel_rfl) (by kernel_rfl) (fun _ _ _ h => h) (Or.inl ⟨by rfl, ?_⟩) (by assumption) ?_
                      rotate_left
                      · (intro wx hSw; have y0 := hSw.1.1; have y1 := hSw.1.2.1; have y2 := hSw.1.2.2.1; have y3 := hSw.1.2.2.2; have y4 := hlti; have y5 := hjli; have y6 := hkli; have y7 := hlt; have y8 := hjl; have y9 := hkl; go_simp; (try with_reducible rfl); (try omega))
                      (try simp only [Act.put, List.setIfInBounds_toArray, List.set_cons_zero, List.set_cons_succ, List.getElem_toArray, List.getElem_cons_zero])
                      refine wpAnyH_take (i := 1) (v := ?_) rfl (by kernel_rfl) (by kernel_rfl) (by kernel_rfl) (fun _ _ _ h => h) (Or.inl ⟨by rfl, ?_⟩) (by assumption) ?_
                      rotate_left
                      · (intro wx hSw; have y0 := hSw.1.1; have y1 := hSw.1.2.1; have y2 := hSw.1.2.2.1; have y3 := hSw.1.2.2.2; have y4 := hlti; have y5 := hjli; have y6 := hkli; have y7 := hlt; have y8 := hjl; have y9 := hkl; go_simp; (try with_reducible rfl); (try omega))
                      (try simp only [Act.put, List.setIfInBounds_toArray, List.set_cons_zero, List.set_cons_succ, List.getElem_toArray, List.getElem_cons_zero, List.getElem_cons_succ])
                      refine wpAnyH_take (i := 2) (v := ?_) rfl (by kernel_rfl) (by kernel_rfl) (by kernel_rfl) (fun _ _ _ h => h) (Or.inl ⟨by rfl, ?_⟩) (by assumption) ?_
                      rotate_left
                      · (intro wx hSw; have y0 := hSw.1.1; have y1 := hSw.1.2.1; have y2 := hSw.1.2.2.1; have y3 := hSw.1.2.2.2; have y4 := hlti; have y5 := hjli; have y6 := hkli; have y7 := hlt; have y8 := hjl; have y9 := hkl; go_simp; (try with_reducible rfl); (try omega))
                      (try simp only [Act.put, List.setIfInBounds_toArray, List.set_cons_zero, List.set_cons_succ, List.getElem_toArray, List.getElem_cons_zero, List.getElem_cons_succ])
                      refine wpAnyH_take (i := 3) (v := ?_) rfl (by kernel_rfl) (by kernel_rfl) (by kernel_rfl) (fun _ _ _ h => h) (Or.inl ⟨by rfl, ?_⟩) (by assumption) ?_
                      rotate_left
                      · (intro wx hSw; have y0 := hSw.1.1; have y1 := hSw.1.2.1; have y2 := hSw.1.2.2.1; have y3 := hSw.1.2.2.2; have y4 := hlti; have y5 := hjli; have y6 := hkli; have y7 := hlt; have y8 := hjl; have y9 := hkl; go_simp; (try with_reducible rfl); (try omega))
                      (try simp only [Act.put, List.setIfInBounds_toArray, List.set_cons_zero, List.set_cons_succ, List.getElem_toArray, List.getElem_cons_zero, List.getElem_cons_succ])
                      refine wpAnyH_take (i := 4) (v := ?_) rfl (by kernel_rfl) (by kernel_rfl) (by kernel_rfl) (fun _ _ _ h => h) (Or.inl ⟨by rfl, ?_⟩) (by assumption) ?_
                      rotate_left
                      · (intro wx hSw; have y0 := hSw.1.1; have y1 := hSw.1.2.1; have y2 := hSw.1.2.2.1; have y3 := hSw.1.2.2.2; have y4 := hlti; have y5 := hjli; have y6 := hkli; have y7 := hlt; have y8 := hjl; have y9 := hkl; go_simp; (try with_reducible rfl); (try omega))
                      (try simp only [Act.put, List.setIfInBounds_toArray, List.set_cons_zero, List.set_cons_succ, List.getElem_toArray, List.getElem_cons_zero, List.getElem_cons_succ])
                      refine wpAnyH_take (i := 5) (v := ?_) rfl (by kernel_rfl) (by kernel_rfl) (by kernel_rfl) (fun _ _ _ h => h) (Or.inl ⟨by rfl, ?_⟩) (by assumption) ?_
                      rotate_left
                      · (intro wx hSw; have y0 := hSw.1.1; have y1 := hSw.1.2.1; have y2 := hSw.1.2.2.1; have y3 := hSw.1.2.2.2; have y4 := hlti; have y5 := hjli; have y6 := hkli; have y7 := hlt; have y8 := hjl; have y9 := hkl; go_simp; (try with_reducible rfl); (try omega))
                      (try simp only [Act.put, List.setIfInBounds_toArray, List.set_cons_zero, List.set_cons_succ, List.getElem_toArray, List.getElem_cons_zero, List.getElem_cons_succ])
                      refine wpAnyH_take (i := 6) (v := ?_) rfl (by kernel_rfl) (by kernel_rfl) (by kernel_rfl) (fun _ _ _ h => h) (Or.inl ⟨by rfl, ?_⟩) (by assumption) ?_
                      rotate_left
                      · (intro wx hSw; have y0 := hSw.1.1; have y1 := hSw.1.2.1; have y2 := hSw.1.2.2.1; have y3 := hSw.1.2.2.2; have y4 := hlti; have y5 := hjli; have y6 := hkli; have y7 := hlt; have y8 := hjl; have y9 := hkl; go_simp; (try with_reducible rfl); (try omega))
                      (try simp only [Act.put, List.setIfInBounds_toArray, List.set_cons_zero, List.set_cons_succ, List.getElem_toArray, List.getElem_cons_zero, List.getElem_cons_succ])
                      refine wpAnyH_take (i := 7) (v := ?_) rfl (by kernel_rfl) (by kernel_rfl) (by kernel_rfl) (fun _ _ _ h => h) (Or.inl ⟨by rfl, ?_⟩) (by assumption) ?_
                      rotate_left
                      · (intro wx hSw; have y0 := hSw.1.1; have y1 := hSw.1.2.1; have y2 := hSw.1.2.2.1; have y3 := hSw.1.2.2.2; have y4 := hlti; have y5 := hjli; have y6 := hkli; have y7 := hlt; have y8 := hjl; have y9 := hkl; go_simp; (try with_reducible rfl); (try omega))
                      (try simp only [Act.put, List.setIfInBounds_toArray, List.set_cons_zero, List.set_cons_succ, List.getElem_toArray, List.getElem_cons_zero, List.getElem_cons_succ])
                      refine wpAnyH_take (i := 8) (v := ?_) rfl (by kernel_rfl) (by kernel_rfl) (by kernel_rfl) (fun _ _ _ h => h) (Or.inl ⟨by rfl, ?_⟩) (by assumption) ?_
                      rotate_left
                      · (intro wx hSw; have y0 := hSw.1.1; have y1 := hSw.1.2.1; have y2 := hSw.1.2.2.1; have y3 := hSw.1.2.2.2; have y4 := hlti; have y5 := hjli; have y6 := hkli; have y7 := hlt; have y8 := hjl; have y9 := hkl; go_simp; (try with_reducible rfl); (try omega))
                      (try simp only [Act.put, List.setIfInBounds_toArray, List.set_cons_zero, List.set_cons_succ, List.getElem_toArray, List.getElem_cons_zero, List.getElem_cons_succ])
                      refine wpAnyH_take (i := 9) (v := ?_) rfl (by kernel_rfl) (by kernel_rfl) (by kernel_rfl) (fun _ _ _ h => h) (Or.inl ⟨by rfl, ?_⟩) (by assumption) ?_
                      rotate_left
                      · (intro wx hSw; have y0 := hSw.1.1; have y1 := hSw.1.2.1; have y2 := hSw.1.2.2.1; have y3 := hSw.1.2.2.2; have y4 := hlti; have y5 := hjli; have y6 := hkli; have y7 := hlt; have y8 := hjl; have y9 := hkl; go_simp; (try with_reducible rfl); (try omega))
                      (try simp only [Act.put, List.setIfInBounds_toArray, List.set_cons_zero, List.set_cons_succ, List.getElem_toArray, List.getElem_cons_zero, List.getElem_cons_succ])
                      refine wpAnyH_take (i := 10) (v := ?_) rfl (by kernel_rfl) (by kernel_rfl) (by kernel_rfl) (fun _ _ _ h => h) (Or.inl ⟨by rfl, ?_⟩) (by assumption) ?_
                      rotate_left
                      · (intro wx hSw; have y0 := hSw.1.1; have y1 := hSw.1.2.1; have y2 := hSw.1.2.2.1; have y3 := hSw.1.2.2.2; have y4 := hlti; have y5 := hjli; have y6 := hkli; have y7 := hlt; have y8 := hjl; have y9 := hkl; go_simp; (try with_reducible rfl); (try omega))
                      (try simp only [Act.put, List.setIfInBounds_toArray, List.set_cons_zero, List.set_cons_succ, List.getElem_toArray, List.getElem_cons_zero, List.getElem_cons_succ])
                      refine wpAnyH_take (i := 11) (v := ?_) rfl (by kernel_rfl) (by kernel_rfl) (by kernel_rfl) (fun _ _ _ h => h) (Or.inl ⟨by rfl, ?_⟩) (by assumption) ?_
                      rotate_left
                      · (intro wx hSw; have y0 := hSw.1.1; have y1 := hSw.1.2.1; have y2 := hSw.1.2.2.1; have y3 := hSw.1.2.2.2; have y4 := hlti; have y5 := hjli; have y6 := hkli; have y7 := hlt; have y8 := hjl; have y9 := hkl; go_simp; (try with_reducible rfl); (try omega))
                      (try simp only [Act.put, List.setIfInBounds_toArray, List.set_cons_zero, List.set_cons_succ, List.getElem_toArray, List.getElem_cons_zero, List.getElem_cons_succ])
                      refine wpAnyH_take (i := 12) (v := ?_) rfl (by kernel_rfl) (by kernel_rfl) (by kernel_rfl) (fun _ _ _ h => h) (Or.inl ⟨by rfl, ?_⟩) (by assumption) ?_
                      rotate_left
                      · (intro wx hSw; have y0 := hSw.1.1; have y1 := hSw.1.2.1; have y2 := hSw.1.2.2.1; have y3 := hSw.1.2.2.2; have y4 := hlti; have y5 := hjli; have y6 := hkli; have y7 := hlt; have y8 := hjl; have y9 := hkl; go_simp; (try with_reducible rfl); (try omega))
                      (try simp only [Act.put, List.setIfInBounds_toArray, List.set_cons_zero, List.set_cons_succ, List.getElem_toArray, List.getElem_cons_zero, List.getElem_cons_succ])
                      refine wpAnyH_take (i := 13) (v := ?_) rfl (by kernel_rfl) (by kernel_rfl) (by kernel_rfl) (fun _ _ _ h => h) (Or.inl ⟨by rfl, ?_⟩) (by assumption) ?_
                      rotate_left
                      · (intro wx hSw; have y0 := hSw.1.1; have y1 := hSw.1.2.1; have y2 := hSw.1.2.2.1; have y3 := hSw.1.2.2.2; have y4 := hlti; have y5 := hjli; have y6 := hkli; have y7 := hlt; have y8 := hjl; have y9 := hkl; go_simp; (try with_reducible rfl); (try omega))
                      (try simp only [Act.put, List.setIfInBounds_toArray, List.set_cons_zero, List.set_cons_succ, List.getElem_toArray, List.getElem_cons_zero, List.getElem_cons_succ])
                      refine wpAnyH_take (i := 14) (v := ?_) rfl (by kernel_rfl) (by kernel_rfl) (by kernel_rfl) (fun _ _ _ h => h) (Or.inl ⟨by rfl, ?_⟩) (by assumption) ?_
                      rotate_left
                      · (intro wx hSw; have y0 := hSw.1.1; have y1 := hSw.1.2.1; have y2 := hSw.1.2.2.1; have y3 := hSw.1.2.2.2; have y4 := hlti; have y5 := hjli; have y6 := hkli; have y7 := hlt; have y8 := hjl; have y9 := hkl; go_simp; (try with_reducible rfl); (try omega))
                      (try simp only [Act.put, List.setIfInBounds_toArray, List.set_cons_zero, List.set_cons_succ, List.getElem_toArray, List.getElem_cons_zero, List.getElem_cons_succ])
                      refine wpAnyH_take (i := 15) (v := ?_) rfl (by kernel_rfl) (by kernel_rfl) (by kernel_rfl) (fun _ _ _ h => h) (Or.inl ⟨by rfl, ?_⟩) (by assumption) ?_
                      rotate_left
                      · (intro wx hSw; have y0 := hSw.1.1; have y1 := hSw.1.2.1; have y2 := hSw.1.2.2.1; have y3 := hSw.1.2.2.2; have y4 := hlti; have y5 := hjli; have y6 := hkli; have y7 := hlt; have y8 := hjl; have y9 := hkl; go_simp; (try with_reducible rfl); (try omega))
                      (try simp only [Act.put, List.setIfInBounds_toArray, List.set_cons_zero, List.set_cons_succ, List.getElem_toArray, List.getElem_cons_zero, List.getElem_cons_succ])
                      refine wpAnyH_done (by kernel_rfl) ?_ _
                      clear hHeld
                      have V9 := hS.2.1
                      have hB9 := hS.2.2
                      clear hS
                      go_wp2_with fail
                      go_ret
                      exact ⟨ret_i64 (by rw [← hstep.out, ← hst2.out, HF.out, HK.out]; simp), hB9⟩
                  · have hke : ¬ (kk : Int) < E.length := by omega
                    rw [List.take_of_length_le (by omega)] at hO3
                    have HA := hid0 (show E.any (fun e => decide ((e.r.length : Int) ≠ wj)) = false by
                      rw [List.any_eq_false]
                      intro y hy
                      simpa using List.all_eq_true.1 hO3.out y hy)
                    have HS2 := hid0 (show readyFE l (fs.drop (j + 1)) (ws.drop (j + 1)) = readyFE l fs ws by rw [← hst2.out, HF.out, HA.out]; simp)
                    clear v0 d2 t0
                    go_wp2
                    exact ⟨⟨j + 1, by omega, by go_num, HS2, hVk, hBk⟩, by simp [intOf]; omega⟩
          · have hje : ¬ (j : Int) < m := by omega
            have h0 := hO2.out
            rw [readyFE_end (by rw [HM.out]; exact hjl)] at h0
            have H0 := hid0 h0
            clear h0
            go_wp2
            exact ⟨⟨i + 1, by omega, by go_num, hid0 (by rw [← hstep.out, ← H0.out]; simp), hVi, hBi⟩, by simp [intOf]; omega⟩
      · have hie : ¬ (i : Int) < n := by omega
        have h0 := hO.out
        rw [readyLE_end (by rw [HN.out]; exact hlt)] at h0
        have H0 := hid0 h0
        clear h0
        go_wp2
        go_ret
        exact ⟨ret_i64 (by rw [← H0.out]), hB⟩
end Go.Proofs.YtokkgikajammhaaGreat
