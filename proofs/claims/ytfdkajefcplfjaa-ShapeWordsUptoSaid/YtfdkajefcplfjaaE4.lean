/- Several of my texts laid together, each as it was: S20, S21. Conditions: each names its own. -/
import Derived.Test.YtfdkajefcplfjaaE1
import Derived.Test.YtfdkajefcplfjaaF7
import Derived.Test.YtfdkajefcplfjaaB1
import Derived.Deep.CondSized
import Derived.JoinedCond
import Derived.Test.YtfdkajefcplfjaaB2
/- ShapeWords: the law's call, in whatever memory: it is true. Conditions: the plan's cells are known. -/
namespace Go.Proofs.Ytfdkajefcplfjaa
open Go.RowKit

def badO (o : Ox) : Bool := decide (o.g = 4) || decide (o.g = 5)
def badP (p : Px) : Bool := p.d || p.os.any badO
theorem bad_step (b : Bool) (os : List Ox) {j : Nat} (h : j < os.length) : (b || (os.take (j + 1)).any badO) = ((b || (os.take j).any badO) || badO os[j]) := by
  rw [List.take_succ_eq_append_getElem h, List.any_append]
  simp [Bool.or_assoc]
theorem bad_part (ps : List Px) {i : Nat} (h : i < ps.length) : (ps.take (i + 1)).any badP = (((ps.take i).any badP || (ps[i]).d) || (ps[i]).os.any badO) := by
  rw [List.take_succ_eq_append_getElem h, List.any_append]
  simp [badP, Bool.or_assoc]
theorem badO_bar {o : Ox} (h : badO o = true) : barB o.g = true ∧ (o.g != 0) = true := by
  unfold badO at h
  simp only [Bool.or_eq_true, decide_eq_true_eq] at h
  unfold barB
  rcases h with h | h <;> simp [h]
theorem fast_bad {ps : List Px} (h : ps.any badP = true) : fastB ps = false := by
  obtain ⟨p, hp, hb⟩ := List.any_eq_true.1 h
  unfold badP at hb
  simp only [Bool.or_eq_true] at hb
  rcases hb with hd | ho
  · have : ps.any Px.d = true := List.any_eq_true.2 ⟨p, hp, hd⟩
    unfold fastB
    rw [this]; simp
  · obtain ⟨o, ho1, ho2⟩ := List.any_eq_true.1 ho
    obtain ⟨h1, h2⟩ := badO_bar ho2
    have hg : groupedB p = true := by
      unfold groupedB
      rw [List.any_eq_true.2 ⟨o, ho1, h2⟩]; simp
    have hga : ps.any groupedB = true := List.any_eq_true.2 ⟨p, hp, hg⟩
    have hs : soleB ps = false := by
      match ps, hp with
      | [q], hp =>
        obtain rfl := List.mem_singleton.1 hp
        show followsB p = false
        unfold followsB
        rw [List.any_eq_true.2 ⟨o, ho1, h1⟩]; simp
      | q :: r :: l, _ => rfl
    unfold fastB
    rw [hga, hs]; simp
theorem fast_more {ps : List Px} (h : ps.any groupedB = true) (hl : 1 < ps.length) : fastB ps = false := by
  have hs : soleB ps = false := by
    match ps, hl with
    | q :: r :: l, _ => rfl
  unfold fastB
  rw [h, hs]; simp
theorem fast_wrong {ps : List Px} (h : planB ps = false) : fastB ps = false := by
  unfold fastB; rw [h]; simp
theorem fast_plain {ps : List Px} (h1 : ps.any badP = false) (h2 : ps.any groupedB = false) (h3 : planB ps = true) : fastB ps = true := by
  have hd : ps.any Px.d = false := by
    rw [List.any_eq_false]
    intro p hp hd
    have := List.any_eq_false.1 h1 p hp
    unfold badP at this
    simp [hd] at this
  unfold fastB
  rw [h3, hd, h2]; rfl
def grpN (ps : List Px) : Nat := (ps.filter groupedB).length
theorem grp_step (ps : List Px) {i : Nat} (h : i < ps.length) : grpN (ps.take (i + 1)) = grpN (ps.take i) + (if groupedB ps[i] = true then 1 else 0) := by
  unfold grpN
  rw [List.take_succ_eq_append_getElem h, List.filter_append, List.length_append, List.filter_cons]
  split <;> simp
theorem grp_any (ps : List Px) : ps.any groupedB = decide (0 < grpN ps) := by
  unfold grpN
  rw [Bool.eq_iff_iff, List.any_eq_true, decide_eq_true_eq, List.length_pos_iff_exists_mem]
  simp [List.mem_filter]
theorem grp_le (ps : List Px) : grpN ps ≤ ps.length := List.length_filter_le _ _
set_option maxHeartbeats 8000000 in
set_option maxRecDepth 1000000 in
theorem lawShapeWords {n : Nat} (a : Option Addr) (c : Nat) (ps : List Px) (w : World) (hP : PsOk w n a c ps) :
    Calls Try.prog 5 #[planV a ps.length c] w fun e w' => e = .returned (.bool true) ∧ Below w.heap.size w w' := by
  have hfew := hP.few
  have CA := hid0 (fun W => awake15_any W)
  have CF := hid0 (fun (W : World) (hW : Below w.heap.size w W) => shFast_any a c ps W (hP.later hW))
  have CR := hid0 (fun (W : World) (hW : Below w.heap.size w W) => refPlanRight_any a c ps W (hP.later hW))
  have CG := hid0 (fun (p : Px) (hp : p ∈ ps) (W : World) (hW : Below w.heap.size w W) => refGrouped_any p W ((hP.ok p hp).later hW))
  have HP := hid0 hP
  have HS0 := hid0 (show SRf w [.slice a ps.length c] (w.alloc (.cells #[.slice a ps.length c] 24)) from ⟨VarB.new w [.slice a ps.length c] 24, (Below.refl _ _).alloc (Nat.le_refl _) _⟩)
  have HF1 := hid0 (fun h => fast_bad (ps := ps) h)
  have HF2 := hid0 (fun h => fast_more (ps := ps) h)
  have HF3 := hid0 (fun h => fast_wrong (ps := ps) h)
  have HF4 := hid0 (fun h1 => fast_plain (ps := ps) h1)
  clear hP
  unfold planV at CF CR ⊢
  go_enter Try.func5, Try.ntmps5
  go_wp2_with fail
  go_loopw [3, 4, 5] (fun bv gv iv wr => ∃ (i : Nat) (b : Bool), i ≤ ps.length ∧ iv = .int .i64 i ∧ bv = .bool b ∧ gv = .int .i64 (grpN (ps.take i) : Nat) ∧ Hid (b = (ps.take i).any badP) ∧ SRf w [.slice a ps.length c] wr) (fun _ _ iv _ => ps.length - (intOf iv).toNat)
  case atStart => exact ⟨0, false, Nat.zero_le _, rfl, rfl, rfl, hid0 rfl, HS0.out⟩
  case round =>
    clear HS0
    obtain ⟨i, b, hi, rfl, rfl, rfl, hO, hS⟩ := hrel
    have v0 := hS.v.cell 0 rfl
    by_cases hlt : i < ps.length
    · have hlt' : (i : Int) < (ps.length : Int) := by omega
      obtain ⟨bp, op, rfl, hbp, hR⟩ := HP.out.part i hlt
      have hok := HP.out.ok _ (List.getElem_mem hlt)
      have CGx := CG.out _ (List.getElem_mem hlt)
      have hbad := hid0 (bad_part ps hlt)
      have hgs := grp_step ps hlt
      have hgl := grp_le (ps.take i)
      rw [List.length_take] at hgl
      have HOs := hid0 hok.outs
      have hfewO := hok.fewO
      have d0 : w.cell? ⟨bp, op + i * 20, none⟩ = some (.bool (ps[i]).d) := by have := rng hR 0 (ps[i]).c0; rwa [Nat.add_zero] at this
      have d19 : w.cell? ⟨bp, op + i * 20 + 19, none⟩ = some (.slice (ps[i]).op (ps[i]).os.length (ps[i]).oc) := rng hR 19 (ps[i]).c19
      have hpl := (ps[i]).cells_len
      have HRW := hid0 (fun (W : World) (hW : Below w.heap.size w W) => rangeAt_blk hR (hW.block bp hbp))
      unfold Px.val at CGx
      generalize (ps[i]).cells = us at CGx hpl HRW
      generalize ps[i] = p at hbad hgs HOs hfewO d0 d19 CGx
      generalize groupedB p = gr at CGx hgs
      obtain ⟨dd, hdd⟩ : ∃ dd, p.d = dd := ⟨_, rfl⟩
      obtain ⟨os, hos⟩ : ∃ os, p.os = os := ⟨_, rfl⟩
      generalize p.op = oo at *
      generalize p.oc = oc at *
      rw [hdd] at d0 hbad
      rw [hos] at d19 hbad HOs hfewO
      obtain ⟨M, hM⟩ : ∃ M, os.length = M := ⟨_, rfl⟩
      rw [hM] at d19 hfewO
      have HM := hid0 hM
      have CGx := hid0 CGx
      have HD19 := hid0 d19
      have dw := cell_later hS.b d0
      have HB1 := hid0 (show (b || dd) = ((ps.take i).any badP || dd) by rw [hO.out])
      obtain ⟨gn, hgn⟩ : ∃ gn, grpN (ps.take i) = gn := ⟨_, rfl⟩
      rw [hgn] at hgs hgl ⊢
      have HGS := hid0 hgs
      have HS := hid0 hS
      clear hok hR hM hos hdd hgn hS hO d19 d0 hgs
      obtain ⟨b1, hb1⟩ : ∃ b1, (b || dd) = b1 := ⟨_, rfl⟩
      have HB1' := hid0 hb1
      have step : ∀ (Q : Prop), (b = true → Q) → (b = false → Q) → Q := fun Q h1 h2 => by cases b with | true => exact h1 rfl | false => exact h2 rfl
      clear step
      have key : Hid (b1 = ((ps.take i).any badP || dd)) := hid0 (by rw [← hb1]; exact HB1.out)
      clear hb1
      cases b with
      | true =>
        have hbe := hid0 (show b1 = true by rw [← HB1'.out]; rfl)
        go_wp2_with fail
        go_loopw [3, 6] (fun bv kv wr => ∃ (k : Nat) (b2 : Bool), k ≤ M ∧ kv = .int .i64 k ∧ bv = .bool b2 ∧ Hid (b2 = (b1 || (os.take k).any badO)) ∧ SRf w [.slice (some ⟨bp, op, none⟩) ps.length c] wr) (fun _ kv _ => M - (intOf kv).toNat)
        case atStart => exact ⟨0, b1, Nat.zero_le _, rfl, by rw [hbe.out], hid0 (by simp), HS.out⟩
        case round =>
          clear HS v0 dw
          obtain ⟨k, b2, hk, rfl, rfl, hO2, hS⟩ := hrel
          have v0 := hS.v.cell 0 rfl
          have e19 := cell_later hS.b HD19.out
          have HS := hid0 hS
          by_cases hltk : k < M
          · have hltk' : (k : Int) < (M : Int) := by omega
            have hk1 : k < os.length := by rw [HM.out]; exact hltk
            obtain ⟨bo, oo2, rfl, hbo, hRo⟩ := (HOs.out.later hS.b).at_ k hk1
            have hst := bad_step b1 os hk1
            generalize os[k] = x at hRo hst
            have q0 : wr.cell? ⟨bo, oo2 + k * 9, none⟩ = some (.int .i64 x.g) := by have := rng hRo 0 (u := .int .i64 x.g) rfl; rwa [Nat.add_zero] at this
            have hbx : badO x = (decide (x.g = 4) || decide (x.g = 5)) := rfl
            rw [← hO2.out] at hst
            generalize x.g = gx at q0 hbx
            clear hRo hS
            cases b2 with
            | true =>
              have HN2 := hid0 (show true = (b1 || (os.take (k + 1)).any badO) by rw [hst]; rfl)
              clear hst hbx
              go_wp2_with fail
              exact ⟨⟨k + 1, true, by omega, by go_num, rfl, HN2, HS.out⟩, by simp [intOf]; omega⟩
            | false =>
              by_cases h4 : gx = 4
              · have g4 : (gx == 4) = true := by simpa using h4
                have HN2 := hid0 (show true = (b1 || (os.take (k + 1)).any badO) by rw [hst, hbx, h4]; rfl)
                clear hst hbx h4
                go_wp2_with fail
                exact ⟨⟨k + 1, true, by omega, by go_num, rfl, HN2, HS.out⟩, by simp [intOf]; omega⟩
              · have g4 : (gx == 4) = false := by simpa using h4
                obtain ⟨r5, h5⟩ : ∃ r, (gx == 5) = r := ⟨_, rfl⟩
                have HN2 := hid0 (show r5 = (b1 || (os.take (k + 1)).any badO) by rw [hst, hbx, ← h5]; simp only [h4, decide_false, Bool.false_or]; by_cases h : gx = 5 <;> simp [h])
                clear hst hbx h4
                go_wp2_with fail
                exact ⟨⟨k + 1, r5, by omega, by go_num, rfl, HN2, HS.out⟩, by simp [intOf]; omega⟩
          · have hke : ¬ (k : Int) < (M : Int) := by omega
            rw [List.take_of_length_le (by rw [HM.out]; omega)] at hO2
            have HN3 := hid0 (show b2 = (ps.take (i + 1)).any badP by rw [hO2.out, hbad.out, ← key.out])
            have hRg := HRW.out _ hS.b
            clear hS hO2
            cases gr with
            | true =>
              have HG2 := hid0 (show grpN (ps.take (i + 1)) = gn + 1 by rw [HGS.out]; rfl)
              go_wp2_with (first | ((with_reducible refine wp_getB hRg Try.underlying40 ?_ ?_ ?_ ?_); (rfl); (rw [hpl]; exact sizePx); (rfl); simp only [Act.put]) | (go_at_call 11; go_must (refine (CGx.out _ HS.out.b).mono ?_; rintro e w3 ⟨rfl, hb3⟩)) | fail)
              exact ⟨⟨i + 1, b2, by omega, by go_num, rfl, by rw [HG2.out]; go_num, HN3, HS.out.below hb3⟩, by simp [intOf]; omega⟩
            | false =>
              have HG2 := hid0 (show grpN (ps.take (i + 1)) = gn by rw [HGS.out]; rfl)
              go_wp2_with (first | ((with_reducible refine wp_getB hRg Try.underlying40 ?_ ?_ ?_ ?_); (rfl); (rw [hpl]; exact sizePx); (rfl); simp only [Act.put]) | (go_at_call 11; go_must (refine (CGx.out _ HS.out.b).mono ?_; rintro e w3 ⟨rfl, hb3⟩)) | fail)
              exact ⟨⟨i + 1, b2, by omega, by go_num, rfl, by rw [HG2.out], HN3, HS.out.below hb3⟩, by simp [intOf]; omega⟩
      | false =>
        have hbe := hid0 (show b1 = dd by rw [← HB1'.out]; rfl)
        go_wp2_with fail
        go_loopw [3, 6] (fun bv kv wr => ∃ (k : Nat) (b2 : Bool), k ≤ M ∧ kv = .int .i64 k ∧ bv = .bool b2 ∧ Hid (b2 = (b1 || (os.take k).any badO)) ∧ SRf w [.slice (some ⟨bp, op, none⟩) ps.length c] wr) (fun _ kv _ => M - (intOf kv).toNat)
        case atStart => exact ⟨0, b1, Nat.zero_le _, rfl, by rw [hbe.out], hid0 (by simp), HS.out⟩
        case round =>
          clear HS v0 dw
          obtain ⟨k, b2, hk, rfl, rfl, hO2, hS⟩ := hrel
          have v0 := hS.v.cell 0 rfl
          have e19 := cell_later hS.b HD19.out
          have HS := hid0 hS
          by_cases hltk : k < M
          · have hltk' : (k : Int) < (M : Int) := by omega
            have hk1 : k < os.length := by rw [HM.out]; exact hltk
            obtain ⟨bo, oo2, rfl, hbo, hRo⟩ := (HOs.out.later hS.b).at_ k hk1
            have hst := bad_step b1 os hk1
            generalize os[k] = x at hRo hst
            have q0 : wr.cell? ⟨bo, oo2 + k * 9, none⟩ = some (.int .i64 x.g) := by have := rng hRo 0 (u := .int .i64 x.g) rfl; rwa [Nat.add_zero] at this
            have hbx : badO x = (decide (x.g = 4) || decide (x.g = 5)) := rfl
            rw [← hO2.out] at hst
            generalize x.g = gx at q0 hbx
            clear hRo hS
            cases b2 with
            | true =>
              have HN2 := hid0 (show true = (b1 || (os.take (k + 1)).any badO) by rw [hst]; rfl)
              clear hst hbx
              go_wp2_with fail
              exact ⟨⟨k + 1, true, by omega, by go_num, rfl, HN2, HS.out⟩, by simp [intOf]; omega⟩
            | false =>
              by_cases h4 : gx = 4
              · have g4 : (gx == 4) = true := by simpa using h4
                have HN2 := hid0 (show true = (b1 || (os.take (k + 1)).any badO) by rw [hst, hbx, h4]; rfl)
                clear hst hbx h4
                go_wp2_with fail
                exact ⟨⟨k + 1, true, by omega, by go_num, rfl, HN2, HS.out⟩, by simp [intOf]; omega⟩
              · have g4 : (gx == 4) = false := by simpa using h4
                obtain ⟨r5, h5⟩ : ∃ r, (gx == 5) = r := ⟨_, rfl⟩
                have HN2 := hid0 (show r5 = (b1 || (os.take (k + 1)).any badO) by rw [hst, hbx, ← h5]; simp only [h4, decide_false, Bool.false_or]; by_cases h : gx = 5 <;> simp [h])
                clear hst hbx h4
                go_wp2_with fail
                exact ⟨⟨k + 1, r5, by omega, by go_num, rfl, HN2, HS.out⟩, by simp [intOf]; omega⟩
          · have hke : ¬ (k : Int) < (M : Int) := by omega
            rw [List.take_of_length_le (by rw [HM.out]; omega)] at hO2
            have HN3 := hid0 (show b2 = (ps.take (i + 1)).any badP by rw [hO2.out, hbad.out, ← key.out])
            have hRg := HRW.out _ hS.b
            clear hS hO2
            cases gr with
            | true =>
              have HG2 := hid0 (show grpN (ps.take (i + 1)) = gn + 1 by rw [HGS.out]; rfl)
              go_wp2_with (first | ((with_reducible refine wp_getB hRg Try.underlying40 ?_ ?_ ?_ ?_); (rfl); (rw [hpl]; exact sizePx); (rfl); simp only [Act.put]) | (go_at_call 11; go_must (refine (CGx.out _ HS.out.b).mono ?_; rintro e w3 ⟨rfl, hb3⟩)) | fail)
              exact ⟨⟨i + 1, b2, by omega, by go_num, rfl, by rw [HG2.out]; go_num, HN3, HS.out.below hb3⟩, by simp [intOf]; omega⟩
            | false =>
              have HG2 := hid0 (show grpN (ps.take (i + 1)) = gn by rw [HGS.out]; rfl)
              go_wp2_with (first | ((with_reducible refine wp_getB hRg Try.underlying40 ?_ ?_ ?_ ?_); (rfl); (rw [hpl]; exact sizePx); (rfl); simp only [Act.put]) | (go_at_call 11; go_must (refine (CGx.out _ HS.out.b).mono ?_; rintro e w3 ⟨rfl, hb3⟩)) | fail)
              exact ⟨⟨i + 1, b2, by omega, by go_num, rfl, by rw [HG2.out], HN3, HS.out.below hb3⟩, by simp [intOf]; omega⟩
    · have hie : ¬ (i : Int) < (ps.length : Int) := by omega
      obtain rfl : i = ps.length := by omega
      rw [List.take_of_length_le (Nat.le_refl _)] at hO ⊢
      have HS := hid0 hS
      have hga := grp_any ps
      have hgl := grp_le ps
      generalize grpN ps = gn at hga hgl ⊢
      generalize ps.any badP = bb at hO HF1 HF4
      obtain rfl : b = bb := hO.out
      generalize ps.any groupedB = gg at hga HF2 HF4
      generalize planB ps = rr at CR HF3 HF4
      obtain ⟨ff, hff⟩ : ∃ ff, fastB ps = ff := ⟨_, rfl⟩
      rw [hff] at CF HF1 HF2 HF3 HF4
      clear hff hS hO
      cases b with
      | true =>
        obtain rfl : ff = false := HF1.out rfl
        go_wp2_with (first | (go_at_call 12; go_must (refine (CF.out _ HS.out.b).mono ?_; rintro e w4 ⟨rfl, hb4⟩; (have hSF := hid0 (HS.out.below hb4)); (have v4 := hSF.out.v.cell 0 rfl))) | (go_at_call 8; go_must (refine (CA.out _).mono ?_; rintro e w6 ⟨rfl, hb6⟩; (have hSA := hid0 (hSF.out.below hb6)))) | ((with_reducible refine wp_getG ?_ (HS.out.v.at_) Try.underlying24 ?_ ?_ ?_ ?_); (rfl); (rfl); (exact sizePlan); (rfl); (try simp only [Act.put])) | fail)
        go_ret
        exact ⟨ret_bool (by simp), hSA.out.b⟩
      | false =>
        by_cases hg : 0 < gn
        · obtain rfl : gg = true := by rw [hga]; simpa using hg
          have hg' : (0 : Int) < (gn : Int) := by omega
          by_cases hl1 : 1 < ps.length
          · obtain rfl : ff = false := HF2.out rfl hl1
            have hl1' : (1 : Int) < (ps.length : Int) := by omega
            clear hga hg
            go_wp2_with (first | (go_at_call 12; go_must (refine (CF.out _ HS.out.b).mono ?_; rintro e w4 ⟨rfl, hb4⟩; (have hSF := hid0 (HS.out.below hb4)); (have v4 := hSF.out.v.cell 0 rfl))) | (go_at_call 8; go_must (refine (CA.out _).mono ?_; rintro e w6 ⟨rfl, hb6⟩; (have hSA := hid0 (hSF.out.below hb6)))) | ((with_reducible refine wp_getG ?_ (HS.out.v.at_) Try.underlying24 ?_ ?_ ?_ ?_); (rfl); (rfl); (exact sizePlan); (rfl); (try simp only [Act.put])) | fail)
            go_ret
            exact ⟨ret_bool (by simp), hSA.out.b⟩
          · have hl1' : ¬ (1 : Int) < (ps.length : Int) := by omega
            clear hga hg
            cases rr with
            | false =>
              obtain rfl : ff = false := HF3.out rfl
              go_wp2_with (first | (go_at_call 12; go_must (refine (CF.out _ HS.out.b).mono ?_; rintro e w4 ⟨rfl, hb4⟩; (have hSF := hid0 (HS.out.below hb4)); (have v4 := hSF.out.v.cell 0 rfl))) | (go_at_call 13; go_must (refine (CR.out _ hSF.out.b).mono ?_; rintro e w5 ⟨rfl, hb5⟩; (have hSR := hid0 (hSF.out.below hb5)))) | (go_at_call 8; go_must (refine (CA.out _).mono ?_; rintro e w6 ⟨rfl, hb6⟩; (have hSA := hid0 (hSR.out.below hb6)))) | ((with_reducible refine wp_getG ?_ (hSF.out.v.at_) Try.underlying24 ?_ ?_ ?_ ?_); (rfl); (rfl); (exact sizePlan); (rfl); (try simp only [Act.put])) | ((with_reducible refine wp_getG ?_ (HS.out.v.at_) Try.underlying24 ?_ ?_ ?_ ?_); (rfl); (rfl); (exact sizePlan); (rfl); (try simp only [Act.put])) | fail)
              go_ret
              exact ⟨ret_bool (by simp), hSA.out.b⟩
            | true =>
              go_wp2_with (first | (go_at_call 12; go_must (refine (CF.out _ HS.out.b).mono ?_; rintro e w4 ⟨rfl, hb4⟩; (have hSF := hid0 (HS.out.below hb4)); (have v4 := hSF.out.v.cell 0 rfl))) | (go_at_call 13; go_must (refine (CR.out _ hSF.out.b).mono ?_; rintro e w5 ⟨rfl, hb5⟩; (have hSR := hid0 (hSF.out.below hb5)))) | (go_at_call 8; go_must (refine (CA.out _).mono ?_; rintro e w6 ⟨rfl, hb6⟩; (have hSA := hid0 (hSR.out.below hb6)))) | ((with_reducible refine wp_getG ?_ (hSF.out.v.at_) Try.underlying24 ?_ ?_ ?_ ?_); (rfl); (rfl); (exact sizePlan); (rfl); (try simp only [Act.put])) | ((with_reducible refine wp_getG ?_ (HS.out.v.at_) Try.underlying24 ?_ ?_ ?_ ?_); (rfl); (rfl); (exact sizePlan); (rfl); (try simp only [Act.put])) | fail)
              go_ret
              exact ⟨ret_bool (by simp), hSA.out.b⟩
        · obtain rfl : gg = false := by rw [hga]; simpa using hg
          have hg' : ¬ (0 : Int) < (gn : Int) := by omega
          clear hga hg
          cases rr with
          | false =>
            obtain rfl : ff = false := HF3.out rfl
            go_wp2_with (first | (go_at_call 12; go_must (refine (CF.out _ HS.out.b).mono ?_; rintro e w4 ⟨rfl, hb4⟩; (have hSF := hid0 (HS.out.below hb4)); (have v4 := hSF.out.v.cell 0 rfl))) | (go_at_call 13; go_must (refine (CR.out _ hSF.out.b).mono ?_; rintro e w5 ⟨rfl, hb5⟩; (have hSR := hid0 (hSF.out.below hb5)))) | (go_at_call 8; go_must (refine (CA.out _).mono ?_; rintro e w6 ⟨rfl, hb6⟩; (have hSA := hid0 (hSR.out.below hb6)))) | ((with_reducible refine wp_getG ?_ (hSF.out.v.at_) Try.underlying24 ?_ ?_ ?_ ?_); (rfl); (rfl); (exact sizePlan); (rfl); (try simp only [Act.put])) | ((with_reducible refine wp_getG ?_ (HS.out.v.at_) Try.underlying24 ?_ ?_ ?_ ?_); (rfl); (rfl); (exact sizePlan); (rfl); (try simp only [Act.put])) | fail)
            go_ret
            exact ⟨ret_bool (by simp), hSA.out.b⟩
          | true =>
            obtain rfl : ff = true := HF4.out rfl rfl rfl
            go_wp2_with (first | (go_at_call 12; go_must (refine (CF.out _ HS.out.b).mono ?_; rintro e w4 ⟨rfl, hb4⟩; (have hSF := hid0 (HS.out.below hb4)); (have v4 := hSF.out.v.cell 0 rfl))) | (go_at_call 13; go_must (refine (CR.out _ hSF.out.b).mono ?_; rintro e w5 ⟨rfl, hb5⟩; (have hSR := hid0 (hSF.out.below hb5)))) | (go_at_call 8; go_must (refine (CA.out _).mono ?_; rintro e w6 ⟨rfl, hb6⟩; (have hSA := hid0 (hSR.out.below hb6)))) | ((with_reducible refine wp_getG ?_ (hSF.out.v.at_) Try.underlying24 ?_ ?_ ?_ ?_); (rfl); (rfl); (exact sizePlan); (rfl); (try simp only [Act.put])) | ((with_reducible refine wp_getG ?_ (HS.out.v.at_) Try.underlying24 ?_ ?_ ?_ ?_); (rfl); (rfl); (exact sizePlan); (rfl); (try simp only [Act.put])) | fail)
            go_ret
            exact ⟨ret_bool (by simp), hSA.out.b⟩
end Go.Proofs.Ytfdkajefcplfjaa

/- ShapeWords: which plans can not be refreshed fast, and which can: the row. Conditions: what comes in holds at most 1048576 values and letters. -/
namespace Go.Proofs.Ytfdkajefcplfjaa
open Go.ChangeShapes Go.WideShapes Go.ChangeAt Go.RowKit Go.Joins

set_option maxRecDepth 1000000 in
theorem words_contract (H : Type) (enc : TypeId × Value → H) (W : World) (base : Nat) (args : Array Value) (ds gs : List (DataW H)) (before : List MemPlace)
    (hval0 : ∀ (j : Nat) t v, Try.f5.params[j]? = some t → args[j]? = some v → Value.okWide Try.prog W .any base t v)
    (hW : DataW.Whole enc Try.prog Try.f5.params.toList Rows.shapeWordsSpec.vars false W args.toList ds gs before) (hk : Rows.uptoSmall H (ds ++ gs) = true)
    (hsz0 : (DataW.weightsEach Try.prog (Try.f5.params.toList ++ Rows.shapeWordsSpec.plain.varTypes Try.prog) (ds ++ gs)).all (· ≤ reachBytes) = true) :
    Calls Try.prog 5 args W fun e W' => ∃ v, e = .returned v ∧ Rows.shapeWordsSpec.post enc Try.prog Try.f5 false true false false W args v W' := by
  have hval : ∀ (j : Nat) t v, Try.f5.params[j]? = some t → args[j]? = some v → Value.okWide Try.prog W .any base t v := hval0
  have hbk : Rows.uptoBulkAll (ds ++ gs) ≤ 1048576 := of_decide_eq_true hk
  have hsz : (DataW.weightsEach Try.prog (Try.f5.params.toList ++ Rows.shapeWordsSpec.plain.varTypes Try.prog) (ds ++ gs)).all (· ≤ reachBytes) = true := hsz0
  clear hsz0
  have hW' := hW
  obtain ⟨p, q, hA0, hV, rfl, _, _⟩ := hW
  have hA : DataW.TrodAll enc Try.prog W 0 (fun _ => true) true Try.f5.params.toList args.toList ds p := hA0
  rw [Try.params5] at hA hval hsz
  obtain ⟨v0, d0, rfl, rfl, h0⟩ := trodAll_one hA
  obtain ⟨rfl, rfl⟩ := trodVars_none hV
  simp only [List.append_nil, Rows.uptoBulkAll] at hbk
  have hlt : ∀ x ∈ p, x.block < W.heap.size := fun x hx => hW'.lt x (by simpa using hx)
  have h0k := h0
  have hw0 : ∀ n ∈ d0.weights Try.prog 24, n ≤ reachBytes := fun n hn => by
    have := List.all_eq_true.1 hsz n (DataW.weights_mem_each (j := 0) (t := 24) rfl rfl n hn)
    simpa using this
  obtain ⟨a0, ps0, c0, rfl, hP0⟩ := open_plan (hval 0 24 v0 rfl rfl) h0 hw0 (by omega)
  refine (lawShapeWords a0 c0 ps0 W hP0).mono fun e W' ⟨he, hb⟩ => ?_
  subst he
  have shP : ∀ {v : Value} {d : DataW H} {ps : List MemPlace}, DataW.Trod enc Try.prog W 0 (fun _ => true) true 24 v d ps → (∀ x ∈ ps, x.block < W.heap.size) → DataW.Trod enc Try.prog W' 0 (fun b => decide (b < W.heap.size)) true 24 v d ps :=
    fun h hl => Below.trod laidOut (by kernel_rfl) (of_decide_eq_true (by kernel_rfl)) h hb hl
  exact ⟨_, rfl, _, _, _, [], _, [], hW', trodAll_mk1 (shut_bool Try.underlying4 true), trodAll_mk1 (shP h0k (fun x hx => hlt x (by simp [hx]))), rfl, hb.frame _, fun h => by cases h⟩

set_option maxRecDepth 1000000 in
theorem words_lifted (os : Os) (started : os.Started) (H : Type) (enc : TypeId × Value → H) (F : Stop.Interp) :
    ReturnsInHanded {} Try.checked os 5 .any ((Rows.OpenSpec.upto Rows.shapeWordsSpec).pre6 enc Try.prog Try.f5 Rows.shapeWordsUptoRow.domain false) (((Rows.OpenSpec.upto Rows.shapeWordsSpec).at F).post enc Try.prog Try.f5 false true false false) := by
  refine returnsInHanded_of_cond_sized (C := Try.checked) (s := Rows.OpenSpec.upto Rows.shapeWordsSpec) (k := Rows.uptoSmall) rfl own started (by kernel_rfl) Try.func5
    (OpenSpec.witness (enc := enc) (C := Try.checked) (s := Rows.OpenSpec.upto Rows.shapeWordsSpec) (k := Rows.uptoSmall) rfl false ⟨#[], #[.agg #[.slice none 0 0]], []⟩ 8 (by kernel_rfl) (by kernel_rfl) (by kernel_rfl) (by kernel_rfl)
      (x := ([.agg [.nil]], [], [])) (by kernel_rfl) rfl (by kernel_rfl)) ?_
  intro W base args ds gs before hval hW _ hk hsz _
  exact words_contract H enc W base args ds gs before hval hW hk hsz

theorem words_row : Rows.ShapeWordsUptoSaid :=
  OpenClaim.holds_of_cond 5 Try.f5 rfl rfl rfl rfl rfl rfl rfl ⟨rfl, rfl, rfl, rfl, rfl⟩ rfl rfl rfl rfl rfl (by kernel_rfl) Try.func5 (by kernel_rfl)
    (of_decide_eq_true (by kernel_rfl)) (by unfold Func.isWrapper; first | (rw [if_pos (by decide +kernel)]; kernel_rfl) | (rw [if_neg (by decide +kernel)]; exact ⟨rfl, rfl⟩))
    (fun os started H enc _ F => words_lifted os started H enc F)
end Go.Proofs.Ytfdkajefcplfjaa
