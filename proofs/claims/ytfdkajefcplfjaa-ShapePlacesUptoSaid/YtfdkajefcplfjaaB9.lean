/- Several of my texts laid together, each as it was: Xj, Xk. Conditions: each names its own. -/
import Derived.Test.YtfdkajefcplfjaaB6
import Derived.Test.YtfdkajefcplfjaaB8
/- Whether a part has neither too few nor too many outs and reads nothing but its columns. Conditions: the part's lists are known. -/
namespace Go.Proofs.Ytfdkajefcplfjaa
open Go.RowKit

def outB (W : Int) (o : Ox) : Bool := inN o.g 0 6 && insideB (rise (rdC o.e)) W
theorem lists_all (p : Px) (W : Int) : listsB p W = (inN p.os.length 1 8 && decide (p.gs.length ≤ 4) && insideB p.gs W && insideB (rise (asT p.wh)) W && p.os.all (outB W)) := rfl
theorem Px.where_at {w : World} {b : Nat} (p : Px) (h : w.rangeAt b 0 p.cells) : w.rangeAt b 3 p.wh.cells :=
  range_mid (xs := [.bool p.d, .slice p.fp p.fs.length p.fc, .slice p.wp p.ws.length p.wc]) (ys := p.wh.cells) (zs := [.slice p.gp p.gs.length p.gc, .slice p.op p.os.length p.oc]) h
theorem Ox.calc_at (o : Ox) (w : World) (b : Nat) (h : w.rangeAt b 0 o.cells) : w.rangeAt b 1 o.e.cells :=
  range_mid (xs := [.int .i64 o.g]) (ys := o.e.cells) (zs := [.string o.nm, .int .i64 o.ty]) h
set_option maxRecDepth 100000 in
set_option maxHeartbeats 1000000 in
theorem lists_any {n : Nat} (p : Px) (W : Int) (hW : 0 ≤ W ∧ W ≤ 1000) (w : World) (h : PxOk w n p) :
    Calls Try.prog 56 #[p.val, .int .i64 W] w fun e w' => e = .returned (.bool (listsB p W)) ∧ Below w.heap.size w w' := by
  obtain ⟨V, hB0⟩ := part_box p w
  have q18 := V.cell 18 p.c18
  have q19 := V.cell 19 p.c19
  have RW := hid0 (p.where_at V.at_)
  have HO := hid0 h.outs
  have HE := hid0 h.es
  have HSC := hid0 h.sizeC
  have hfew := h.fewO
  have hfewG := h.gs.few
  have CF := hid0 (fun W => within_any p.os.length 1 8 W)
  have CG := hid0 (inside_any p.gp p.gc p.gs W _ (h.gs.at_.later hB0) h.gs.few hW)
  have CA := hid0 (asks_any (h.wh.later hB0) h.sizeT)
  have hlA : (rise (asT p.wh)).length ≤ 17592186044416 := by have := rise_len (asT p.wh); have := asT_len p.wh; have := h.sizeT; omega
  have CI := hid0 (fun a c W' hL => inside_any a c (rise (asT p.wh)) W W' hL hlA hW)
  rw [lists_all]
  clear h V hlA
  unfold Px.val
  unfold Tx.val at CA
  have hct : p.wh.cells.length = 15 := Tx.cells_len _
  obtain ⟨R, hr⟩ : ∃ R, (inN p.os.length 1 8 && decide (p.gs.length ≤ 4) && insideB p.gs W && insideB (rise (asT p.wh)) W && p.os.all (outB W)) = R := ⟨_, rfl⟩
  rw [hr]
  have HR := hid0 hr
  clear hr
  generalize p.cells = us at *
  generalize p.wh.cells = tc at *
  generalize insideB p.gs W = ig at *
  generalize insideB (rise (asT p.wh)) W = ia at *
  generalize rise (asT p.wh) = la at *
  generalize p.gs.length = mg at *
  generalize p.gp = gp at *
  generalize p.gc = gc at *
  generalize p.os = os at *
  generalize p.op = op at *
  generalize p.oc = oc at *
  obtain ⟨m, hm⟩ : ∃ m, os.length = m := ⟨_, rfl⟩
  have HM := hid0 hm
  rw [hm] at q19 hfew CF
  clear hm
  have hin : inN m 1 8 = true → m ≤ 8 := fun h => by have := inN_in h; omega
  have HR := hid0 (show (inN m 1 8 && decide (mg ≤ 4) && ig && ia && os.all (outB W)) = R by rw [← HM.out]; exact HR.out)
  generalize inN (m : Int) 1 8 = rf at *
  cases rf with
  | false =>
    go_enter Try.func56, Try.ntmps56
    go_wp2_with (go_at_call 29; go_must (refine (CF.out _).mono ?_; rintro e w1 ⟨rfl, hw⟩; rw [hw]))
    go_ret
    exact ⟨ret_bool (by rw [← HR.out]; simp), hB0⟩
  | true =>
    have hin := hin rfl
    by_cases hg : mg ≤ 4
    · have hg1 : decide ((4 : Int) < mg) = false := by simp; omega
      have HG := hid0 hg
      clear hg
      cases ig with
      | false =>
        go_enter Try.func56, Try.ntmps56
        go_wp2_with (first | (go_at_call 29; go_must (refine (CF.out _).mono ?_; rintro e w1 ⟨rfl, hw⟩; rw [hw])) | (go_at_call 65; ((with_reducible refine CG.out.mono ?_); rintro e w2 ⟨rfl, hw2⟩; rw [hw2])) | fail)
        go_ret
        exact ⟨ret_bool (by rw [← HR.out]; simp), hB0⟩
      | true =>
        cases ia with
        | false =>
          go_enter Try.func56, Try.ntmps56
          go_wp2_with (first | (go_at_call 29; go_must (refine (CF.out _).mono ?_; rintro e w1 ⟨rfl, hw⟩; rw [hw])) | (go_at_call 65; ((with_reducible refine CG.out.mono ?_); rintro e w2 ⟨rfl, hw2⟩; rw [hw2])) | ((with_reducible refine wp_getG ?_ RW.out Try.underlying37 ?_ ?_ ?_ ?_); (rfl); (rfl); (rw [hct]; exact sizeTT); (rfl); (try simp only [Act.put])) | (go_at_call 66; go_must (refine CA.out.mono ?_; rintro e w3 ⟨⟨aa, ac, rfl, hL3⟩, hb3⟩; (have hB3 := below_through hb3 hB0.size hB0); (have r19 := cell_later hb3 q19); clear hb3)) | (go_at_call 65; ((with_reducible refine (CI.out _ _ _ hL3).mono ?_); rintro e w4 ⟨rfl, hw4⟩; rw [hw4])) | fail)
          go_ret
          exact ⟨ret_bool (by rw [← HR.out]; simp), hB3⟩
        | true =>
          have hbase := hid0 (show (os.all (outB W)) = R by rw [← HR.out]; simp [HG.out])
          have hq := hid0 q19
          go_enter Try.func56, Try.ntmps56
          go_wp2_with (first | (go_at_call 29; go_must (refine (CF.out _).mono ?_; rintro e w1 ⟨rfl, hw⟩; rw [hw])) | (go_at_call 65; ((with_reducible refine CG.out.mono ?_); rintro e w2 ⟨rfl, hw2⟩; rw [hw2])) | ((with_reducible refine wp_getG ?_ RW.out Try.underlying37 ?_ ?_ ?_ ?_); (rfl); (rfl); (rw [hct]; exact sizeTT); (rfl); (try simp only [Act.put])) | (go_at_call 66; go_must (refine CA.out.mono ?_; rintro e w3 ⟨⟨aa, ac, rfl, hL3⟩, hb3⟩; (have hB3 := below_through hb3 hB0.size hB0); (have r19 := cell_later hb3 q19); clear hb3)) | (go_at_call 65; ((with_reducible refine (CI.out _ _ _ hL3).mono ?_); rintro e w4 ⟨rfl, hw4⟩; rw [hw4])) | fail)
          clear q18 q19 r19 RW CG CA CI CF
          go_loopw [34] (fun iv wr => ∃ i : Nat, i ≤ m ∧ iv = .int .i64 i ∧ Hid ((os.take i).all (outB W) = true) ∧ Below w.heap.size w wr) (fun iv _ => m - (intOf iv).toNat)
          case atStart => exact ⟨0, Nat.zero_le _, rfl, hid0 rfl, hB3⟩
          case round =>
            obtain ⟨i, hi, rfl, hO, hB⟩ := hrel
            clear hB0 hB3 hL3
            have hsz := hB.size
            by_cases hlt : i < m
            · have hlt1 : i < os.length := by rw [HM.out]; exact hlt
              obtain ⟨b, o, rfl, hb, hR⟩ := (HO.out.later hB).at_ i hlt1
              have hbad := hid0 (fun hf => all_bad (f := outB W) hlt1 hf)
              have hnext := hid0 (fun hf => all_take hlt1 hO.out hf)
              have hEx := HE.out _ (List.getElem_mem hlt1)
              have hSx := HSC.out _ (List.getElem_mem hlt1)
              generalize os[i] = x at hR hbad hnext hEx hSx
              have hfx : outB W x = (inN x.g 0 6 && insideB (rise (rdC x.e)) W) := rfl
              have CO := hid0 (fun W => within_any x.g 0 6 W)
              have CR : Hid (∀ W, Below w.heap.size w W → Calls Try.prog 67 #[.agg x.e.cells.toArray] W (ListAns W (rise (rdC x.e)))) := hid0 (fun W hW => reads_any (hEx.1.later hW) hSx)
              have hlR : (rise (rdC x.e)).length ≤ 17592186044416 := by have := rise_len (rdC x.e); have := rdC_len x.e; omega
              have CL := hid0 (fun a c W' hL => inside_any a c (rise (rdC x.e)) W W' hL hlR hW)
              have hcl := x.cells_len
              have hce : x.e.cells.length = 6 := Cx.cells_len _
              have h1' := x.one
              have H0 := hid0 (show x.cells[0]? = some (.int .i64 x.g) from rfl)
              have HRC := hid0 (fun W b h => x.calc_at W b h)
              have V0 : VarB (wr.alloc (Obj.cells #[.int .i64 0, .int .i64 0, .int .i64 0, .int .i64 0, .int .i64 0, .string ⟨#[]⟩, .slice none 0 0, .string ⟨#[]⟩, .int .i64 0] 44)) wr.heap.size zOx := VarB.new wr zOx 44
              clear hlR hEx hSx
              generalize x.cells = xs at hR hcl h1' H0 HRC
              generalize x.e.cells = ce at hce HRC CR
              generalize insideB (rise (rdC x.e)) W = rd at CL hfx
              generalize rise (rdC x.e) = lr at CL CR
              generalize inN x.g 0 6 = rg at CO hfx
              generalize x.g = g at CO H0
              generalize outB W x = fx at hfx hbad hnext
              have HFX := hid0 hfx
              clear hfx
              cases rg with
              | false =>
                go_wp2_with (first | ((with_reducible refine wp_getB hR Try.underlying44 ?_ ?_ ?_ ?_); (rfl); (rw [hcl]; exact sizeOut); (rfl); simp only [Act.put]) | ((with_reducible refine wp_putB V0 h1' ?_ ?_ ?_ ?_ ?_); (exact hcl); (exact sizeOut); (rfl); (rfl); intro w5 hV5 hw5; (have hb5 : Below w.heap.size w w5 := by rw [hw5.out]; exact below_setCells _ 0 (hB.alloc hsz _) hsz); clear hw5; (have r0 := hV5.cell 0 H0.out); (have RC := HRC.out w5 _ hV5.at_); simp only [Act.put]) | (go_at_call 29; go_must (refine (CO.out _).mono ?_; rintro e w1 ⟨rfl, hw⟩; rw [hw])) | fail)
                go_ret
                exact ⟨ret_bool (by rw [← hbase.out, hbad.out (by rw [HFX.out]; rfl)]), hb5⟩
              | true =>
                cases rd with
                | false =>
                  go_wp2_with (first | ((with_reducible refine wp_getB hR Try.underlying44 ?_ ?_ ?_ ?_); (rfl); (rw [hcl]; exact sizeOut); (rfl); simp only [Act.put]) | ((with_reducible refine wp_putB V0 h1' ?_ ?_ ?_ ?_ ?_); (exact hcl); (exact sizeOut); (rfl); (rfl); intro w5 hV5 hw5; (have hb5 : Below w.heap.size w w5 := by rw [hw5.out]; exact below_setCells _ 0 (hB.alloc hsz _) hsz); clear hw5; (have r0 := hV5.cell 0 H0.out); (have RC := HRC.out w5 _ hV5.at_); simp only [Act.put]) | (go_at_call 29; go_must (refine (CO.out _).mono ?_; rintro e w1 ⟨rfl, hw⟩; rw [hw])) | ((with_reducible refine wp_getG ?_ RC Try.underlying34 ?_ ?_ ?_ ?_); (rfl); (rfl); (rw [hce]; exact sizeX); (rfl); simp only [Act.put]) | (go_at_call 67; go_must (refine (CR.out _ hb5).mono ?_; rintro e w6 ⟨⟨ra, rc, rfl, hL6⟩, hb6⟩; (have hb7 := below_through hb6 hb5.size hb5); clear hb6)) | (go_at_call 65; go_must (refine (CL.out _ _ _ hL6).mono ?_; rintro e w8 ⟨rfl, hw8⟩; rw [hw8])) | fail)
                  go_ret
                  exact ⟨ret_bool (by rw [← hbase.out, hbad.out (by rw [HFX.out]; rfl)]), hb7⟩
                | true =>
                  go_wp2_with (first | ((with_reducible refine wp_getB hR Try.underlying44 ?_ ?_ ?_ ?_); (rfl); (rw [hcl]; exact sizeOut); (rfl); simp only [Act.put]) | ((with_reducible refine wp_putB V0 h1' ?_ ?_ ?_ ?_ ?_); (exact hcl); (exact sizeOut); (rfl); (rfl); intro w5 hV5 hw5; (have hb5 : Below w.heap.size w w5 := by rw [hw5.out]; exact below_setCells _ 0 (hB.alloc hsz _) hsz); clear hw5; (have r0 := hV5.cell 0 H0.out); (have RC := HRC.out w5 _ hV5.at_); simp only [Act.put]) | (go_at_call 29; go_must (refine (CO.out _).mono ?_; rintro e w1 ⟨rfl, hw⟩; rw [hw])) | ((with_reducible refine wp_getG ?_ RC Try.underlying34 ?_ ?_ ?_ ?_); (rfl); (rfl); (rw [hce]; exact sizeX); (rfl); simp only [Act.put]) | (go_at_call 67; go_must (refine (CR.out _ hb5).mono ?_; rintro e w6 ⟨⟨ra, rc, rfl, hL6⟩, hb6⟩; (have hb7 := below_through hb6 hb5.size hb5); clear hb6)) | (go_at_call 65; go_must (refine (CL.out _ _ _ hL6).mono ?_; rintro e w8 ⟨rfl, hw8⟩; rw [hw8])) | fail)
                  exact ⟨⟨i + 1, by omega, by go_num, hid0 (hnext.out (by rw [HFX.out]; rfl)), hb7⟩, by simp [intOf]; omega⟩
            · have hie : ¬ (i : Int) < m := by omega
              rw [List.take_of_length_le (by rw [HM.out]; omega)] at hO
              go_wp2
              go_ret
              exact ⟨ret_bool (by rw [← hbase.out, hO.out]), hB⟩
    · have hg1 : decide ((4 : Int) < mg) = true := by simp; omega
      have HG := hid0 hg
      clear hg
      go_enter Try.func56, Try.ntmps56
      go_wp2_with (go_at_call 29; go_must (refine (CF.out _).mono ?_; rintro e w1 ⟨rfl, hw⟩; rw [hw]))
      go_ret
      exact ⟨ret_bool (by rw [← HR.out]; simp [HG.out]), hB0⟩
end Go.Proofs.Ytfdkajefcplfjaa

/- Whether a part may be. Conditions: the part's lists are known. -/
namespace Go.Proofs.Ytfdkajefcplfjaa
open Go.RowKit

theorem across_len {p : Px} (h : acrossB p = true) : 0 ≤ sumW p.ws ∧ sumW p.ws ≤ 1000 := by
  unfold acrossB at h
  simp only [Bool.and_eq_true, decide_eq_true_eq] at h
  have h1 := inN_in h.1.1
  have h2 := sumW_le h.2
  omega
set_option maxRecDepth 100000 in
set_option maxHeartbeats 2000000 in
theorem right_any {n : Nat} (p : Px) (w : World) (h : PxOk w n p) :
    Calls Try.prog 30 #[p.val] w fun e w' => e = .returned (.bool (partB p)) ∧ Below w.heap.size w w' := by
  obtain ⟨V, hB⟩ := part_box p w
  have CA := hid0 (fun W (hW : Below w.heap.size w W) => across_any p W (h.later hW))
  have CL := hid0 (fun (ha : acrossB p = true) W (hW : Below w.heap.size w W) => lists_any p (sumW p.ws) (across_len ha) W (h.later hW))
  have CG := hid0 (fun W (hW : Below w.heap.size w W) => grouped_any p W (h.later hW))
  have CS := hid0 (fun W (hW : Below w.heap.size w W) => settled_any p W (h.later hW))
  obtain ⟨R, hr⟩ : ∃ R, partB p = R := ⟨_, rfl⟩
  rw [hr]
  have HR := hid0 (show (acrossB p && listsB p (sumW p.ws) && (!groupedB p || settledB p)) = R from hr)
  have hcl := p.cells_len
  clear h hr
  have hav : acrossV p = if acrossB p = true then sumW p.ws else 0 := rfl
  unfold Px.val at *
  generalize p.cells = us at *
  generalize sumW p.ws = W0 at *
  generalize listsB p W0 = rl at *
  generalize groupedB p = rg at *
  generalize settledB p = rs at *
  generalize acrossV p = av at *
  generalize acrossB p = ra at *
  cases ra with
  | false =>
    clear CL hav
    go_enter Try.func30, Try.ntmps30
    go_wp2_with (first | ((with_reducible refine wp_getB V.at_ Try.underlying40 ?_ ?_ ?_ ?_); (rfl); (rw [hcl]; exact sizePx); (rfl); (try simp only [Act.put])) | ((with_reducible refine wp_getG ?_ V.at_ Try.underlying40 ?_ ?_ ?_ ?_); (rfl); (rfl); (rw [hcl]; exact sizePx); (rfl); (try simp only [Act.put])) | (go_at_call 55; ((with_reducible refine (CA.out _ hB).mono ?_); rintro e w1 ⟨rfl, hb⟩; (have V := V.below hb); (have hB := below_through hb hB.size hB); clear hb)) | (go_at_call 56; ((with_reducible refine (CL2.out _ hB).mono ?_); rintro e w1 ⟨rfl, hb⟩; (have V := V.below hb); (have hB := below_through hb hB.size hB); clear hb)) | (go_at_call 24; ((with_reducible refine (CG.out _ hB).mono ?_); rintro e w1 ⟨rfl, hb⟩; (have V := V.below hb); (have hB := below_through hb hB.size hB); clear hb)) | (go_at_call 57; ((with_reducible refine (CS.out _ hB).mono ?_); rintro e w1 ⟨rfl, hb⟩; (have V := V.below hb); (have hB := below_through hb hB.size hB); clear hb)) | fail)
    go_ret
    exact ⟨ret_bool (by rw [← HR.out]; rfl), hB⟩
  | true =>
    have CL2 := hid0 (CL.out rfl)
    clear CL
    obtain rfl : av = W0 := by simpa using hav
    clear hav
    cases rl with
    | false =>
      go_enter Try.func30, Try.ntmps30
      go_wp2_with (first | ((with_reducible refine wp_getB V.at_ Try.underlying40 ?_ ?_ ?_ ?_); (rfl); (rw [hcl]; exact sizePx); (rfl); (try simp only [Act.put])) | ((with_reducible refine wp_getG ?_ V.at_ Try.underlying40 ?_ ?_ ?_ ?_); (rfl); (rfl); (rw [hcl]; exact sizePx); (rfl); (try simp only [Act.put])) | (go_at_call 55; ((with_reducible refine (CA.out _ hB).mono ?_); rintro e w1 ⟨rfl, hb⟩; (have V := V.below hb); (have hB := below_through hb hB.size hB); clear hb)) | (go_at_call 56; ((with_reducible refine (CL2.out _ hB).mono ?_); rintro e w1 ⟨rfl, hb⟩; (have V := V.below hb); (have hB := below_through hb hB.size hB); clear hb)) | (go_at_call 24; ((with_reducible refine (CG.out _ hB).mono ?_); rintro e w1 ⟨rfl, hb⟩; (have V := V.below hb); (have hB := below_through hb hB.size hB); clear hb)) | (go_at_call 57; ((with_reducible refine (CS.out _ hB).mono ?_); rintro e w1 ⟨rfl, hb⟩; (have V := V.below hb); (have hB := below_through hb hB.size hB); clear hb)) | fail)
      go_ret
      exact ⟨ret_bool (by rw [← HR.out]; rfl), hB⟩
    | true =>
      cases rg with
      | false =>
        go_enter Try.func30, Try.ntmps30
        go_wp2_with (first | ((with_reducible refine wp_getB V.at_ Try.underlying40 ?_ ?_ ?_ ?_); (rfl); (rw [hcl]; exact sizePx); (rfl); (try simp only [Act.put])) | ((with_reducible refine wp_getG ?_ V.at_ Try.underlying40 ?_ ?_ ?_ ?_); (rfl); (rfl); (rw [hcl]; exact sizePx); (rfl); (try simp only [Act.put])) | (go_at_call 55; ((with_reducible refine (CA.out _ hB).mono ?_); rintro e w1 ⟨rfl, hb⟩; (have V := V.below hb); (have hB := below_through hb hB.size hB); clear hb)) | (go_at_call 56; ((with_reducible refine (CL2.out _ hB).mono ?_); rintro e w1 ⟨rfl, hb⟩; (have V := V.below hb); (have hB := below_through hb hB.size hB); clear hb)) | (go_at_call 24; ((with_reducible refine (CG.out _ hB).mono ?_); rintro e w1 ⟨rfl, hb⟩; (have V := V.below hb); (have hB := below_through hb hB.size hB); clear hb)) | (go_at_call 57; ((with_reducible refine (CS.out _ hB).mono ?_); rintro e w1 ⟨rfl, hb⟩; (have V := V.below hb); (have hB := below_through hb hB.size hB); clear hb)) | fail)
        go_ret
        exact ⟨ret_bool (by rw [← HR.out]; rfl), hB⟩
      | true =>
        cases rs with
        | false =>
          go_enter Try.func30, Try.ntmps30
          go_wp2_with (first | ((with_reducible refine wp_getB V.at_ Try.underlying40 ?_ ?_ ?_ ?_); (rfl); (rw [hcl]; exact sizePx); (rfl); (try simp only [Act.put])) | ((with_reducible refine wp_getG ?_ V.at_ Try.underlying40 ?_ ?_ ?_ ?_); (rfl); (rfl); (rw [hcl]; exact sizePx); (rfl); (try simp only [Act.put])) | (go_at_call 55; ((with_reducible refine (CA.out _ hB).mono ?_); rintro e w1 ⟨rfl, hb⟩; (have V := V.below hb); (have hB := below_through hb hB.size hB); clear hb)) | (go_at_call 56; ((with_reducible refine (CL2.out _ hB).mono ?_); rintro e w1 ⟨rfl, hb⟩; (have V := V.below hb); (have hB := below_through hb hB.size hB); clear hb)) | (go_at_call 24; ((with_reducible refine (CG.out _ hB).mono ?_); rintro e w1 ⟨rfl, hb⟩; (have V := V.below hb); (have hB := below_through hb hB.size hB); clear hb)) | (go_at_call 57; ((with_reducible refine (CS.out _ hB).mono ?_); rintro e w1 ⟨rfl, hb⟩; (have V := V.below hb); (have hB := below_through hb hB.size hB); clear hb)) | fail)
          go_ret
          exact ⟨ret_bool (by rw [← HR.out]; rfl), hB⟩
        | true =>
          go_enter Try.func30, Try.ntmps30
          go_wp2_with (first | ((with_reducible refine wp_getB V.at_ Try.underlying40 ?_ ?_ ?_ ?_); (rfl); (rw [hcl]; exact sizePx); (rfl); (try simp only [Act.put])) | ((with_reducible refine wp_getG ?_ V.at_ Try.underlying40 ?_ ?_ ?_ ?_); (rfl); (rfl); (rw [hcl]; exact sizePx); (rfl); (try simp only [Act.put])) | (go_at_call 55; ((with_reducible refine (CA.out _ hB).mono ?_); rintro e w1 ⟨rfl, hb⟩; (have V := V.below hb); (have hB := below_through hb hB.size hB); clear hb)) | (go_at_call 56; ((with_reducible refine (CL2.out _ hB).mono ?_); rintro e w1 ⟨rfl, hb⟩; (have V := V.below hb); (have hB := below_through hb hB.size hB); clear hb)) | (go_at_call 24; ((with_reducible refine (CG.out _ hB).mono ?_); rintro e w1 ⟨rfl, hb⟩; (have V := V.below hb); (have hB := below_through hb hB.size hB); clear hb)) | (go_at_call 57; ((with_reducible refine (CS.out _ hB).mono ?_); rintro e w1 ⟨rfl, hb⟩; (have V := V.below hb); (have hB := below_through hb hB.size hB); clear hb)) | fail)
          go_ret
          exact ⟨ret_bool (by rw [← HR.out]; rfl), hB⟩
end Go.Proofs.Ytfdkajefcplfjaa
