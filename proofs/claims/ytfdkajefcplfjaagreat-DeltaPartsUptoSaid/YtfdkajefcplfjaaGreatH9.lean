/- Several of my texts laid together, each as it was: Xj, Xk, Xn. Conditions: each names its own. -/
import Derived.Test.YtfdkajefcplfjaaGreatH8
import Derived.Test.YtfdkajefcplfjaaGreatH7
/- Whether a part has neither too few nor too many outs and reads nothing but its columns. Conditions: the part's lists are known. -/
namespace Go.Proofs.YtfdkajefcplfjaaGreat
open Go.RowKit

def outB (W : Int) (o : Ox) : Bool := inN o.g 0 6 && insideB (rise (rdC o.e)) W
theorem lists_all (p : Px) (W : Int) : listsB p W = (inN p.os.length 1 8 && decide (p.gs.length ≤ 4) && insideB p.gs W && insideB (rise (asT p.wh)) W && p.os.all (outB W)) := rfl
theorem Px.where_at {w : World} {b : Nat} (p : Px) (h : w.rangeAt b 0 p.cells) : w.rangeAt b 3 p.wh.cells :=
  range_mid (xs := [.bool p.d, .slice p.fp p.fs.length p.fc, .slice p.wp p.ws.length p.wc]) (ys := p.wh.cells) (zs := [.slice p.gp p.gs.length p.gc, .slice p.op p.os.length p.oc]) h
theorem Ox.calc_at (o : Ox) (w : World) (b : Nat) (h : w.rangeAt b 0 o.cells) : w.rangeAt b 1 o.e.cells :=
  range_mid (xs := [.int .i64 o.g]) (ys := o.e.cells) (zs := [.string o.nm, .int .i64 o.ty]) h
set_option maxRecDepth 100000 in
set_option maxHeartbeats 1000000 in
theorem lists_any {n : Nat} (p : Px) (W : Int) (hW : 0 ≤ W ∧ W ≤ 1000) (w : World) (h : PxOk w n p) :
    Calls Tryz.prog 212 #[p.val, .int .i64 W] w fun e w' => e = .returned (.bool (listsB p W)) ∧ Below w.heap.size w w' := by
  obtain ⟨V, hB0⟩ := part_box p w
  have q18 := V.cell 18 p.c18
  have q19 := V.cell 19 p.c19
  have RW := hid0 (p.where_at V.at_)
  have HO := hid0 h.outs
  have HE := hid0 h.es
  have HSC := hid0 h.sizeC
  have hfew := h.fewO
  have hfewG := h.gs.few
  have CF := hid0 (fun W => within_any p.os.length 1 8 W)
  have CG := hid0 (inside_any p.gp p.gc p.gs W _ (h.gs.at_.later hB0) h.gs.few hW)
  have CA := hid0 (asks_any (h.wh.later hB0) h.sizeT)
  have hlA : (rise (asT p.wh)).length ≤ 17592186044416 := by have := rise_len (asT p.wh); have := asT_len p.wh; have := h.sizeT; omega
  have CI := hid0 (fun a c W' hL => inside_any a c (rise (asT p.wh)) W W' hL hlA hW)
  rw [lists_all]
  clear h V hlA
  unfold Px.val
  unfold Tx.val at CA
  have hct : p.wh.cells.length = 15 := Tx.cells_len _
  obtain ⟨R, hr⟩ : ∃ R, (inN p.os.length 1 8 && decide (p.gs.length ≤ 4) && insideB p.gs W && insideB (rise (asT p.wh)) W && p.os.all (outB W)) = R := ⟨_, rfl⟩
  rw [hr]
  have HR := hid0 hr
  clear hr
  generalize p.cells = us at *
  generalize p.wh.cells = tc at *
  generalize insideB p.gs W = ig at *
  generalize insideB (rise (asT p.wh)) W = ia at *
  generalize rise (asT p.wh) = la at *
  generalize p.gs.length = mg at *
  generalize p.gp = gp at *
  generalize p.gc = gc at *
  generalize p.os = os at *
  generalize p.op = op at *
  generalize p.oc = oc at *
  obtain ⟨m, hm⟩ : ∃ m, os.length = m := ⟨_, rfl⟩
  have HM := hid0 hm
  rw [hm] at q19 hfew CF
  clear hm
  have hin : inN m 1 8 = true → m ≤ 8 := fun h => by have := inN_in h; omega
  have HR := hid0 (show (inN m 1 8 && decide (mg ≤ 4) && ig && ia && os.all (outB W)) = R by rw [← HM.out]; exact HR.out)
  generalize inN (m : Int) 1 8 = rf at *
  cases rf with
  | false =>
    go_enter Tryz.func212, Tryz.ntmps212
    go_wp2_with (go_at_call 147; go_must (refine (CF.out _).mono ?_; rintro e w1 ⟨rfl, hw⟩; rw [hw]))
    go_ret
    exact ⟨ret_bool (by rw [← HR.out]; simp), hB0⟩
  | true =>
    have hin := hin rfl
    by_cases hg : mg ≤ 4
    · have hg1 : decide ((4 : Int) < mg) = false := by simp; omega
      have HG := hid0 hg
      clear hg
      cases ig with
      | false =>
        go_enter Tryz.func212, Tryz.ntmps212
        go_wp2_with (first | (go_at_call 147; go_must (refine (CF.out _).mono ?_; rintro e w1 ⟨rfl, hw⟩; rw [hw])) | (go_at_call 247; ((with_reducible refine CG.out.mono ?_); rintro e w2 ⟨rfl, hw2⟩; rw [hw2])) | fail)
        go_ret
        exact ⟨ret_bool (by rw [← HR.out]; simp), hB0⟩
      | true =>
        cases ia with
        | false =>
          go_enter Tryz.func212, Tryz.ntmps212
          go_wp2_with (first | (go_at_call 147; go_must (refine (CF.out _).mono ?_; rintro e w1 ⟨rfl, hw⟩; rw [hw])) | (go_at_call 247; ((with_reducible refine CG.out.mono ?_); rintro e w2 ⟨rfl, hw2⟩; rw [hw2])) | ((with_reducible refine wp_getG ?_ RW.out Tryz.underlying47 ?_ ?_ ?_ ?_); (rfl); (rfl); (rw [hct]; exact sizeTT); (rfl); (try simp only [Act.put])) | (go_at_call 118; go_must (refine CA.out.mono ?_; rintro e w3 ⟨⟨aa, ac, rfl, hL3⟩, hb3⟩; (have hB3 := below_through hb3 hB0.size hB0); (have r19 := cell_later hb3 q19); clear hb3)) | (go_at_call 247; ((with_reducible refine (CI.out _ _ _ hL3).mono ?_); rintro e w4 ⟨rfl, hw4⟩; rw [hw4])) | fail)
          go_ret
          exact ⟨ret_bool (by rw [← HR.out]; simp), hB3⟩
        | true =>
          have hbase := hid0 (show (os.all (outB W)) = R by rw [← HR.out]; simp [HG.out])
          have hq := hid0 q19
          go_enter Tryz.func212, Tryz.ntmps212
          go_wp2_with (first | (go_at_call 147; go_must (refine (CF.out _).mono ?_; rintro e w1 ⟨rfl, hw⟩; rw [hw])) | (go_at_call 247; ((with_reducible refine CG.out.mono ?_); rintro e w2 ⟨rfl, hw2⟩; rw [hw2])) | ((with_reducible refine wp_getG ?_ RW.out Tryz.underlying47 ?_ ?_ ?_ ?_); (rfl); (rfl); (rw [hct]; exact sizeTT); (rfl); (try simp only [Act.put])) | (go_at_call 118; go_must (refine CA.out.mono ?_; rintro e w3 ⟨⟨aa, ac, rfl, hL3⟩, hb3⟩; (have hB3 := below_through hb3 hB0.size hB0); (have r19 := cell_later hb3 q19); clear hb3)) | (go_at_call 247; ((with_reducible refine (CI.out _ _ _ hL3).mono ?_); rintro e w4 ⟨rfl, hw4⟩; rw [hw4])) | fail)
          clear q18 q19 r19 RW CG CA CI CF
          go_loopw [34] (fun iv wr => ∃ i : Nat, i ≤ m ∧ iv = .int .i64 i ∧ Hid ((os.take i).all (outB W) = true) ∧ Below w.heap.size w wr) (fun iv _ => m - (intOf iv).toNat)
          case atStart => exact ⟨0, Nat.zero_le _, rfl, hid0 rfl, hB3⟩
          case round =>
            obtain ⟨i, hi, rfl, hO, hB⟩ := hrel
            clear hB0 hB3 hL3
            have hsz := hB.size
            by_cases hlt : i < m
            · have hlt1 : i < os.length := by rw [HM.out]; exact hlt
              obtain ⟨b, o, rfl, hb, hR⟩ := (HO.out.later hB).at_ i hlt1
              have hbad := hid0 (fun hf => all_bad (f := outB W) hlt1 hf)
              have hnext := hid0 (fun hf => all_take hlt1 hO.out hf)
              have hEx := HE.out _ (List.getElem_mem hlt1)
              have hSx := HSC.out _ (List.getElem_mem hlt1)
              generalize os[i] = x at hR hbad hnext hEx hSx
              have hfx : outB W x = (inN x.g 0 6 && insideB (rise (rdC x.e)) W) := rfl
              have CO := hid0 (fun W => within_any x.g 0 6 W)
              have CR : Hid (∀ W, Below w.heap.size w W → Calls Tryz.prog 248 #[.agg x.e.cells.toArray] W (ListAns W (rise (rdC x.e)))) := hid0 (fun W hW => reads_any (hEx.1.later hW) hSx)
              have hlR : (rise (rdC x.e)).length ≤ 17592186044416 := by have := rise_len (rdC x.e); have := rdC_len x.e; omega
              have CL := hid0 (fun a c W' hL => inside_any a c (rise (rdC x.e)) W W' hL hlR hW)
              have hcl := x.cells_len
              have hce : x.e.cells.length = 6 := Cx.cells_len _
              have h1' := x.one
              have H0 := hid0 (show x.cells[0]? = some (.int .i64 x.g) from rfl)
              have HRC := hid0 (fun W b h => x.calc_at W b h)
              have V0 : VarB (wr.alloc (Obj.cells #[.int .i64 0, .int .i64 0, .int .i64 0, .int .i64 0, .int .i64 0, .string ⟨#[]⟩, .slice none 0 0, .string ⟨#[]⟩, .int .i64 0] 55)) wr.heap.size zOx := VarB.new wr zOx 55
              clear hlR hEx hSx
              generalize x.cells = xs at hR hcl h1' H0 HRC
              generalize x.e.cells = ce at hce HRC CR
              generalize insideB (rise (rdC x.e)) W = rd at CL hfx
              generalize rise (rdC x.e) = lr at CL CR
              generalize inN x.g 0 6 = rg at CO hfx
              generalize x.g = g at CO H0
              generalize outB W x = fx at hfx hbad hnext
              have HFX := hid0 hfx
              clear hfx
              cases rg with
              | false =>
                go_wp2_with (first | ((with_reducible refine wp_getB hR Tryz.underlying55 ?_ ?_ ?_ ?_); (rfl); (rw [hcl]; exact sizeOut); (rfl); simp only [Act.put]) | ((with_reducible refine wp_putB V0 h1' ?_ ?_ ?_ ?_ ?_); (exact hcl); (exact sizeOut); (rfl); (rfl); intro w5 hV5 hw5; (have hb5 : Below w.heap.size w w5 := by rw [hw5.out]; exact below_setCells _ 0 (hB.alloc hsz _) hsz); clear hw5; (have r0 := hV5.cell 0 H0.out); (have RC := HRC.out w5 _ hV5.at_); simp only [Act.put]) | (go_at_call 147; go_must (refine (CO.out _).mono ?_; rintro e w1 ⟨rfl, hw⟩; rw [hw])) | fail)
                go_ret
                exact ⟨ret_bool (by rw [← hbase.out, hbad.out (by rw [HFX.out]; rfl)]), hb5⟩
              | true =>
                cases rd with
                | false =>
                  go_wp2_with (first | ((with_reducible refine wp_getB hR Tryz.underlying55 ?_ ?_ ?_ ?_); (rfl); (rw [hcl]; exact sizeOut); (rfl); simp only [Act.put]) | ((with_reducible refine wp_putB V0 h1' ?_ ?_ ?_ ?_ ?_); (exact hcl); (exact sizeOut); (rfl); (rfl); intro w5 hV5 hw5; (have hb5 : Below w.heap.size w w5 := by rw [hw5.out]; exact below_setCells _ 0 (hB.alloc hsz _) hsz); clear hw5; (have r0 := hV5.cell 0 H0.out); (have RC := HRC.out w5 _ hV5.at_); simp only [Act.put]) | (go_at_call 147; go_must (refine (CO.out _).mono ?_; rintro e w1 ⟨rfl, hw⟩; rw [hw])) | ((with_reducible refine wp_getG ?_ RC Tryz.underlying44 ?_ ?_ ?_ ?_); (rfl); (rfl); (rw [hce]; exact sizeX); (rfl); simp only [Act.put]) | (go_at_call 248; go_must (refine (CR.out _ hb5).mono ?_; rintro e w6 ⟨⟨ra, rc, rfl, hL6⟩, hb6⟩; (have hb7 := below_through hb6 hb5.size hb5); clear hb6)) | (go_at_call 247; go_must (refine (CL.out _ _ _ hL6).mono ?_; rintro e w8 ⟨rfl, hw8⟩; rw [hw8])) | fail)
                  go_ret
                  exact ⟨ret_bool (by rw [← hbase.out, hbad.out (by rw [HFX.out]; rfl)]), hb7⟩
                | true =>
                  go_wp2_with (first | ((with_reducible refine wp_getB hR Tryz.underlying55 ?_ ?_ ?_ ?_); (rfl); (rw [hcl]; exact sizeOut); (rfl); simp only [Act.put]) | ((with_reducible refine wp_putB V0 h1' ?_ ?_ ?_ ?_ ?_); (exact hcl); (exact sizeOut); (rfl); (rfl); intro w5 hV5 hw5; (have hb5 : Below w.heap.size w w5 := by rw [hw5.out]; exact below_setCells _ 0 (hB.alloc hsz _) hsz); clear hw5; (have r0 := hV5.cell 0 H0.out); (have RC := HRC.out w5 _ hV5.at_); simp only [Act.put]) | (go_at_call 147; go_must (refine (CO.out _).mono ?_; rintro e w1 ⟨rfl, hw⟩; rw [hw])) | ((with_reducible refine wp_getG ?_ RC Tryz.underlying44 ?_ ?_ ?_ ?_); (rfl); (rfl); (rw [hce]; exact sizeX); (rfl); simp only [Act.put]) | (go_at_call 248; go_must (refine (CR.out _ hb5).mono ?_; rintro e w6 ⟨⟨ra, rc, rfl, hL6⟩, hb6⟩; (have hb7 := below_through hb6 hb5.size hb5); clear hb6)) | (go_at_call 247; go_must (refine (CL.out _ _ _ hL6).mono ?_; rintro e w8 ⟨rfl, hw8⟩; rw [hw8])) | fail)
                  exact ⟨⟨i + 1, by omega, by go_num, hid0 (hnext.out (by rw [HFX.out]; rfl)), hb7⟩, by simp [intOf]; omega⟩
            · have hie : ¬ (i : Int) < m := by omega
              rw [List.take_of_length_le (by rw [HM.out]; omega)] at hO
              go_wp2
              go_ret
              exact ⟨ret_bool (by rw [← hbase.out, hO.out]), hB⟩
    · have hg1 : decide ((4 : Int) < mg) = true := by simp; omega
      have HG := hid0 hg
      clear hg
      go_enter Tryz.func212, Tryz.ntmps212
      go_wp2_with (go_at_call 147; go_must (refine (CF.out _).mono ?_; rintro e w1 ⟨rfl, hw⟩; rw [hw]))
      go_ret
      exact ⟨ret_bool (by rw [← HR.out]; simp [HG.out]), hB0⟩
end Go.Proofs.YtfdkajefcplfjaaGreat

/- Whether a part may be. Conditions: the part's lists are known. -/
namespace Go.Proofs.YtfdkajefcplfjaaGreat
open Go.RowKit

theorem across_len {p : Px} (h : acrossB p = true) : 0 ≤ sumW p.ws ∧ sumW p.ws ≤ 1000 := by
  unfold acrossB at h
  simp only [Bool.and_eq_true, decide_eq_true_eq] at h
  have h1 := inN_in h.1.1
  have h2 := sumW_le h.2
  omega
set_option maxRecDepth 100000 in
set_option maxHeartbeats 2000000 in
theorem right_any {n : Nat} (p : Px) (w : World) (h : PxOk w n p) :
    Calls Tryz.prog 148 #[p.val] w fun e w' => e = .returned (.bool (partB p)) ∧ Below w.heap.size w w' := by
  obtain ⟨V, hB⟩ := part_box p w
  have CA := hid0 (fun W (hW : Below w.heap.size w W) => across_any p W (h.later hW))
  have CL := hid0 (fun (ha : acrossB p = true) W (hW : Below w.heap.size w W) => lists_any p (sumW p.ws) (across_len ha) W (h.later hW))
  have CG := hid0 (fun W (hW : Below w.heap.size w W) => grouped_any p W (h.later hW))
  have CS := hid0 (fun W (hW : Below w.heap.size w W) => settled_any p W (h.later hW))
  obtain ⟨R, hr⟩ : ∃ R, partB p = R := ⟨_, rfl⟩
  rw [hr]
  have HR := hid0 (show (acrossB p && listsB p (sumW p.ws) && (!groupedB p || settledB p)) = R from hr)
  have hcl := p.cells_len
  clear h hr
  have hav : acrossV p = if acrossB p = true then sumW p.ws else 0 := rfl
  unfold Px.val at *
  generalize p.cells = us at *
  generalize sumW p.ws = W0 at *
  generalize listsB p W0 = rl at *
  generalize groupedB p = rg at *
  generalize settledB p = rs at *
  generalize acrossV p = av at *
  generalize acrossB p = ra at *
  cases ra with
  | false =>
    clear CL hav
    go_enter Tryz.func148, Tryz.ntmps148
    go_wp2_with (first | ((with_reducible refine wp_getB V.at_ Tryz.underlying50 ?_ ?_ ?_ ?_); (rfl); (rw [hcl]; exact sizePx); (rfl); (try simp only [Act.put])) | ((with_reducible refine wp_getG ?_ V.at_ Tryz.underlying50 ?_ ?_ ?_ ?_); (rfl); (rfl); (rw [hcl]; exact sizePx); (rfl); (try simp only [Act.put])) | (go_at_call 211; ((with_reducible refine (CA.out _ hB).mono ?_); rintro e w1 ⟨rfl, hb⟩; (have V := V.below hb); (have hB := below_through hb hB.size hB); clear hb)) | (go_at_call 212; ((with_reducible refine (CL2.out _ hB).mono ?_); rintro e w1 ⟨rfl, hb⟩; (have V := V.below hb); (have hB := below_through hb hB.size hB); clear hb)) | (go_at_call 93; ((with_reducible refine (CG.out _ hB).mono ?_); rintro e w1 ⟨rfl, hb⟩; (have V := V.below hb); (have hB := below_through hb hB.size hB); clear hb)) | (go_at_call 213; ((with_reducible refine (CS.out _ hB).mono ?_); rintro e w1 ⟨rfl, hb⟩; (have V := V.below hb); (have hB := below_through hb hB.size hB); clear hb)) | fail)
    go_ret
    exact ⟨ret_bool (by rw [← HR.out]; rfl), hB⟩
  | true =>
    have CL2 := hid0 (CL.out rfl)
    clear CL
    obtain rfl : av = W0 := by simpa using hav
    clear hav
    cases rl with
    | false =>
      go_enter Tryz.func148, Tryz.ntmps148
      go_wp2_with (first | ((with_reducible refine wp_getB V.at_ Tryz.underlying50 ?_ ?_ ?_ ?_); (rfl); (rw [hcl]; exact sizePx); (rfl); (try simp only [Act.put])) | ((with_reducible refine wp_getG ?_ V.at_ Tryz.underlying50 ?_ ?_ ?_ ?_); (rfl); (rfl); (rw [hcl]; exact sizePx); (rfl); (try simp only [Act.put])) | (go_at_call 211; ((with_reducible refine (CA.out _ hB).mono ?_); rintro e w1 ⟨rfl, hb⟩; (have V := V.below hb); (have hB := below_through hb hB.size hB); clear hb)) | (go_at_call 212; ((with_reducible refine (CL2.out _ hB).mono ?_); rintro e w1 ⟨rfl, hb⟩; (have V := V.below hb); (have hB := below_through hb hB.size hB); clear hb)) | (go_at_call 93; ((with_reducible refine (CG.out _ hB).mono ?_); rintro e w1 ⟨rfl, hb⟩; (have V := V.below hb); (have hB := below_through hb hB.size hB); clear hb)) | (go_at_call 213; ((with_reducible refine (CS.out _ hB).mono ?_); rintro e w1 ⟨rfl, hb⟩; (have V := V.below hb); (have hB := below_through hb hB.size hB); clear hb)) | fail)
      go_ret
      exact ⟨ret_bool (by rw [← HR.out]; rfl), hB⟩
    | true =>
      cases rg with
      | false =>
        go_enter Tryz.func148, Tryz.ntmps148
        go_wp2_with (first | ((with_reducible refine wp_getB V.at_ Tryz.underlying50 ?_ ?_ ?_ ?_); (rfl); (rw [hcl]; exact sizePx); (rfl); (try simp only [Act.put])) | ((with_reducible refine wp_getG ?_ V.at_ Tryz.underlying50 ?_ ?_ ?_ ?_); (rfl); (rfl); (rw [hcl]; exact sizePx); (rfl); (try simp only [Act.put])) | (go_at_call 211; ((with_reducible refine (CA.out _ hB).mono ?_); rintro e w1 ⟨rfl, hb⟩; (have V := V.below hb); (have hB := below_through hb hB.size hB); clear hb)) | (go_at_call 212; ((with_reducible refine (CL2.out _ hB).mono ?_); rintro e w1 ⟨rfl, hb⟩; (have V := V.below hb); (have hB := below_through hb hB.size hB); clear hb)) | (go_at_call 93; ((with_reducible refine (CG.out _ hB).mono ?_); rintro e w1 ⟨rfl, hb⟩; (have V := V.below hb); (have hB := below_through hb hB.size hB); clear hb)) | (go_at_call 213; ((with_reducible refine (CS.out _ hB).mono ?_); rintro e w1 ⟨rfl, hb⟩; (have V := V.below hb); (have hB := below_through hb hB.size hB); clear hb)) | fail)
        go_ret
        exact ⟨ret_bool (by rw [← HR.out]; rfl), hB⟩
      | true =>
        cases rs with
        | false =>
          go_enter Tryz.func148, Tryz.ntmps148
          go_wp2_with (first | ((with_reducible refine wp_getB V.at_ Tryz.underlying50 ?_ ?_ ?_ ?_); (rfl); (rw [hcl]; exact sizePx); (rfl); (try simp only [Act.put])) | ((with_reducible refine wp_getG ?_ V.at_ Tryz.underlying50 ?_ ?_ ?_ ?_); (rfl); (rfl); (rw [hcl]; exact sizePx); (rfl); (try simp only [Act.put])) | (go_at_call 211; ((with_reducible refine (CA.out _ hB).mono ?_); rintro e w1 ⟨rfl, hb⟩; (have V := V.below hb); (have hB := below_through hb hB.size hB); clear hb)) | (go_at_call 212; ((with_reducible refine (CL2.out _ hB).mono ?_); rintro e w1 ⟨rfl, hb⟩; (have V := V.below hb); (have hB := below_through hb hB.size hB); clear hb)) | (go_at_call 93; ((with_reducible refine (CG.out _ hB).mono ?_); rintro e w1 ⟨rfl, hb⟩; (have V := V.below hb); (have hB := below_through hb hB.size hB); clear hb)) | (go_at_call 213; ((with_reducible refine (CS.out _ hB).mono ?_); rintro e w1 ⟨rfl, hb⟩; (have V := V.below hb); (have hB := below_through hb hB.size hB); clear hb)) | fail)
          go_ret
          exact ⟨ret_bool (by rw [← HR.out]; rfl), hB⟩
        | true =>
          go_enter Tryz.func148, Tryz.ntmps148
          go_wp2_with (first | ((with_reducible refine wp_getB V.at_ Tryz.underlying50 ?_ ?_ ?_ ?_); (rfl); (rw [hcl]; exact sizePx); (rfl); (try simp only [Act.put])) | ((with_reducible refine wp_getG ?_ V.at_ Tryz.underlying50 ?_ ?_ ?_ ?_); (rfl); (rfl); (rw [hcl]; exact sizePx); (rfl); (try simp only [Act.put])) | (go_at_call 211; ((with_reducible refine (CA.out _ hB).mono ?_); rintro e w1 ⟨rfl, hb⟩; (have V := V.below hb); (have hB := below_through hb hB.size hB); clear hb)) | (go_at_call 212; ((with_reducible refine (CL2.out _ hB).mono ?_); rintro e w1 ⟨rfl, hb⟩; (have V := V.below hb); (have hB := below_through hb hB.size hB); clear hb)) | (go_at_call 93; ((with_reducible refine (CG.out _ hB).mono ?_); rintro e w1 ⟨rfl, hb⟩; (have V := V.below hb); (have hB := below_through hb hB.size hB); clear hb)) | (go_at_call 213; ((with_reducible refine (CS.out _ hB).mono ?_); rintro e w1 ⟨rfl, hb⟩; (have V := V.below hb); (have hB := below_through hb hB.size hB); clear hb)) | fail)
          go_ret
          exact ⟨ret_bool (by rw [← HR.out]; rfl), hB⟩
end Go.Proofs.YtfdkajefcplfjaaGreat

/- Whether a plan may be. Conditions: its parts are known. -/
namespace Go.Proofs.YtfdkajefcplfjaaGreat
open Go.RowKit

/-- What a round of the loop over a plan's parts keeps. -/
structure SRight (w0 : World) (pb b0 o0 n c : Nat) (us : List Value) (fo : Value) (w : World) : Prop where
  v : VarB w w0.heap.size [.slice (some ⟨b0, o0, none⟩) n c]
  p : VarB w pb us
  f : w.cell? ⟨b0, o0 + 19, none⟩ = some fo
  b : Below w0.heap.size w0 w
theorem SRight.below {w0 : World} {pb b0 o0 n c : Nat} {us : List Value} {fo : Value} {w w' : World} (h : SRight w0 pb b0 o0 n c us fo w) (hb : Below w.heap.size w w') : SRight w0 pb b0 o0 n c us fo w' :=
  ⟨h.v.below hb, h.p.below hb, cell_later hb h.f, below_through hb h.b.size h.b⟩
theorem SRight.of {w0 wr w5 : World} {b0 o0 n c : Nat} {us : List Value} {fo : Value} {o : Obj} (hI : VarB wr w0.heap.size [.slice (some ⟨b0, o0, none⟩) n c]) (hB : Below w0.heap.size w0 wr) (hV : VarB w5 wr.heap.size us)
    (hw : w5 = (wr.alloc o).setCells wr.heap.size 0 us) (hf : w0.cell? ⟨b0, o0 + 19, none⟩ = some fo) : SRight w0 wr.heap.size b0 o0 n c us fo w5 := by
  have hb : Below w0.heap.size w0 w5 := by rw [hw]; exact below_setCells us 0 (hB.alloc hB.size o) hB.size
  exact ⟨by rw [hw]; exact (hI.alloc o).other us (by have := hI.lt; omega), hV, cell_later hb hf, hb⟩
def partM (k0 : Nat) (p : Px) : Bool := partB p && decide (p.os.length = k0)
theorem planB_at {ps : List Px} {n : Nat} (hn : ps.length = n) (h : 0 < ps.length) : planB ps = (inN n 1 4 && ps.all (partM ps[0].os.length)) := by
  subst hn
  cases ps with
  | nil => simp at h
  | cons p ps => rfl
theorem planB_no {ps : List Px} (h : inN ps.length 1 4 = false) : planB ps = false := by unfold planB; rw [h]; rfl
set_option maxRecDepth 100000 in
set_option maxHeartbeats 4000000 in
theorem planRight_any {k : Nat} (a : Option Addr) (c : Nat) (ps : List Px) (w : World) (h : PsOk w k a c ps) :
    Calls Tryz.prog 108 #[planV a ps.length c] w fun e w' => e = .returned (.bool (planB ps)) ∧ Below w.heap.size w w' := by
  obtain ⟨n, hn⟩ : ∃ n, ps.length = n := ⟨_, rfl⟩
  have CF := hid0 (fun W => within_any ps.length 1 4 W)
  have hno := hid0 (planB_no (ps := ps))
  have hat := hid0 (planB_at hn)
  have hin : inN ps.length 1 4 = true → 1 ≤ ps.length ∧ ps.length ≤ 4 := fun h => by have := inN_in h; omega
  have V := VarB.new w [.slice a ps.length c] 24
  have hB0 : Below w.heap.size w (w.alloc (.cells #[.slice a ps.length c] 24)) := (Below.refl _ _).alloc (Nat.le_refl _) _
  have HN := hid0 hn
  have H := hid0 h
  unfold planV
  generalize planB ps = R at hno hat ⊢
  rw [hn] at V CF hno hin hB0 ⊢
  clear hn h
  have q00 := V.cell 0 rfl
  have HV := hid0 V
  clear V
  generalize inN n 1 4 = rf at *
  cases rf with
  | false =>
    go_enter Tryz.func108, Tryz.ntmps108
    go_wp2_with (go_at_call 147; go_must (refine (CF.out _).mono ?_; rintro e w1 ⟨rfl, hw⟩; rw [hw]))
    go_ret
    exact ⟨ret_bool (hno.out (by trivial)).symm, hB0⟩
  | true =>
    obtain ⟨hn1, hn4⟩ := hin rfl
    have hn0 : 0 < n := by omega
    clear hin hno
    have h0 : 0 < ps.length := by rw [HN.out]; omega
    have hat := hid0 (show ps.all (partM ps[0].os.length) = R by rw [hat.out (by omega)]; rfl)
    obtain ⟨b0, o0, rfl, hb0, hR0⟩ := H.out.part 0 h0
    have q0 := rng hR0 19 ps[0].c19
    rw [Nat.zero_mul, Nat.add_zero] at q0
    have Hq0 := hid0 q0
    generalize ps[0].os.length = k0 at hat Hq0
    generalize ps[0].op = fa at Hq0
    generalize ps[0].oc = fc at Hq0
    clear hR0 q0
    go_enter Tryz.func108, Tryz.ntmps108
    go_wp2_with (go_at_call 147; go_must (refine (CF.out _).mono ?_; rintro e w1 ⟨rfl, hw⟩; rw [hw]))
    clear q00 CF
    go_loopw [13] (fun iv wr => ∃ i : Nat, i ≤ n ∧ iv = .int .i64 i ∧ Hid ((ps.take i).all (partM k0) = true) ∧ VarB wr w.heap.size [.slice (some ⟨b0, o0, none⟩) n c] ∧ Below w.heap.size w wr) (fun iv _ => n - (intOf iv).toNat)
    case atStart => exact ⟨0, Nat.zero_le _, rfl, hid0 rfl, HV.out, hB0⟩
    case round =>
      obtain ⟨i, hi, rfl, hO, hI, hB⟩ := hrel
      clear hB0 HV
      have hsz := hB.size
      by_cases hlt : i < n
      · have hlt1 : i < ps.length := by rw [HN.out]; exact hlt
        obtain ⟨b, o, e, hb, hR⟩ := (H.out.later hB).part i hlt1
        cases e
        have hbad := hid0 (fun hf => all_bad (f := partM k0) hlt1 hf)
        have hnext := hid0 (fun hf => all_take hlt1 hO.out hf)
        have hok := H.out.ok _ (List.getElem_mem hlt1)
        generalize ps[i] = p at hR hbad hnext hok
        have hfx : partM k0 p = (partB p && decide (p.os.length = k0)) := rfl
        have CR : Hid (∀ W, Below w.heap.size w W → Calls Tryz.prog 148 #[.agg p.cells.toArray] W fun e w' => e = .returned (.bool (partB p)) ∧ Below W.heap.size W w') := hid0 (fun W hW => right_any p W (hok.later hW))
        have hcl := p.cells_len
        have h1' := p.one
        have H19 := hid0 p.c19
        have V0 : VarB (wr.alloc (Obj.cells #[.bool false, .slice none 0 0, .slice none 0 0, .int .i64 0, .int .i64 0, .int .i64 0, .int .i64 0, .int .i64 0, .int .i64 0, .string ⟨#[]⟩, .slice none 0 0, .int .i64 0, .int .i64 0, .int .i64 0, .int .i64 0, .string ⟨#[]⟩, .slice none 0 0, .slice none 0 0, .slice none 0 0, .slice none 0 0] 50)) wr.heap.size zPx := VarB.new wr zPx 50
        clear hok
        generalize p.cells = us at hR hcl h1' H19 CR
        generalize p.os.length = kp at hfx H19
        generalize p.op = pa at H19
        generalize p.oc = pc at H19
        generalize partB p = rp at CR hfx
        generalize partM k0 p = fx at hfx hbad hnext
        have HFX := hid0 hfx
        clear hfx
        have q00 := Hq0.out
        cases rp with
        | false =>
          go_wp2_with (first | ((with_reducible refine wp_getB hR Tryz.underlying50 ?_ ?_ ?_ ?_); (rfl); (rw [hcl]; exact sizePx); (rfl); (try simp only [Act.put])) | ((with_reducible refine wp_putB V0 h1' ?_ ?_ ?_ ?_ ?_); (exact hcl); (exact sizePx); (rfl); (rfl); intro w5 hV5 hw5; (have hS := (SRight.of hI hB hV5 hw5.out q00).below (Below.drew (Below.refl _ _))); clear hw5; simp only [Act.put]) | fail)
          refine wp_region_held_drew (S := SRight w wr.heap.size b0 o0 n c us (.slice fa k0 fc)) (by kernel_rfl) hS (fun hHeld => ?_)
          refine wpAnyH_take (i := 0) (v := .agg us.toArray) rfl (by kernel_rfl) (by kernel_rfl) (by kernel_rfl) (fun _ _ _ h => h) (yieldsIf_load_mid rfl 50 _ rfl wr.heap.size (0) rfl us _ (fun w h => h.p.at_) Tryz.underlying50 rfl (by rw [hcl]; exact sizePx)) (by assumption) ?_
          (try simp only [Act.put, List.setIfInBounds_toArray, List.set_cons_zero, List.set_cons_succ, List.getElem_toArray, List.getElem_cons_zero])
          refine wpAnyH_ready (rs := [1]) (by kernel_rfl) (by simp) ?_
          refine AllReadyH.cons rfl (fun K hK => ?_) AllReadyH.nil
          go_simp
          refine (CR.out _ hS.b).mono ?_
          rintro e W3 ⟨rfl, hb⟩
          have hS := hS.below hb
          clear hb
          refine hK.out _ _ hS (fun hHeld => ?_)
          clear hK K
          (try simp only [Act.put, List.setIfInBounds_toArray, List.set_cons_zero, List.set_cons_succ, List.getElem_toArray, List.getElem_cons_zero, List.getElem_cons_succ])
          refine wpAnyH_take (i := 2) (v := ?_) rfl (by kernel_rfl) (by kernel_rfl) (by kernel_rfl) (fun _ _ _ h => h) (Or.inl ⟨by rfl, ?_⟩) (by assumption) ?_
          rotate_left
          · (intro wx hSw; have q1 := hSw.v.cell 0 rfl; have q2 := hSw.p.cell 19 H19.out; have q3 := hSw.f; have q9 := hn0; go_simp; (try with_reducible rfl); (try omega))
          (try simp only [Act.put, List.setIfInBounds_toArray, List.set_cons_zero, List.set_cons_succ, List.getElem_toArray, List.getElem_cons_zero, List.getElem_cons_succ])
          refine wpAnyH_take (i := 3) (v := ?_) rfl (by kernel_rfl) (by kernel_rfl) (by kernel_rfl) (fun _ _ _ h => h) (Or.inl ⟨by rfl, ?_⟩) (by assumption) ?_
          rotate_left
          · (intro wx hSw; have q1 := hSw.v.cell 0 rfl; have q2 := hSw.p.cell 19 H19.out; have q3 := hSw.f; have q9 := hn0; go_simp; (try with_reducible rfl); (try omega))
          (try simp only [Act.put, List.setIfInBounds_toArray, List.set_cons_zero, List.set_cons_succ, List.getElem_toArray, List.getElem_cons_zero, List.getElem_cons_succ])
          refine wpAnyH_take (i := 4) (v := undef) rfl (by kernel_rfl) (by kernel_rfl) (by kernel_rfl) (fun _ _ _ h => h) (Or.inr ⟨by rfl, rfl⟩) (by assumption) ?_
          (try simp only [Act.put, List.setIfInBounds_toArray, List.set_cons_zero, List.set_cons_succ, List.getElem_toArray, List.getElem_cons_zero, List.getElem_cons_succ])
          refine wpAnyH_take (i := 5) (v := undef) rfl (by kernel_rfl) (by kernel_rfl) (by kernel_rfl) (fun _ _ _ h => h) (Or.inr ⟨by rfl, rfl⟩) (by assumption) ?_
          (try simp only [Act.put, List.setIfInBounds_toArray, List.set_cons_zero, List.set_cons_succ, List.getElem_toArray, List.getElem_cons_zero, List.getElem_cons_succ])
          refine wpAnyH_take (i := 6) (v := undef) rfl (by kernel_rfl) (by kernel_rfl) (by kernel_rfl) (fun _ _ _ h => h) (Or.inr ⟨by rfl, rfl⟩) (by assumption) ?_
          (try simp only [Act.put, List.setIfInBounds_toArray, List.set_cons_zero, List.set_cons_succ, List.getElem_toArray, List.getElem_cons_zero, List.getElem_cons_succ])
          refine wpAnyH_take (i := 7) (v := undef) rfl (by kernel_rfl) (by kernel_rfl) (by kernel_rfl) (fun _ _ _ h => h) (Or.inr ⟨by rfl, rfl⟩) (by assumption) ?_
          (try simp only [Act.put, List.setIfInBounds_toArray, List.set_cons_zero, List.set_cons_succ, List.getElem_toArray, List.getElem_cons_zero, List.getElem_cons_succ])
          refine wpAnyH_take (i := 8) (v := undef) rfl (by kernel_rfl) (by kernel_rfl) (by kernel_rfl) (fun _ _ _ h => h) (Or.inr ⟨by rfl, rfl⟩) (by assumption) ?_
          (try simp only [Act.put, List.setIfInBounds_toArray, List.set_cons_zero, List.set_cons_succ, List.getElem_toArray, List.getElem_cons_zero, List.getElem_cons_succ])
          refine wpAnyH_take (i := 9) (v := undef) rfl (by kernel_rfl) (by kernel_rfl) (by kernel_rfl) (fun _ _ _ h => h) (Or.inr ⟨by rfl, rfl⟩) (by assumption) ?_
          (try simp only [Act.put, List.setIfInBounds_toArray, List.set_cons_zero, List.set_cons_succ, List.getElem_toArray, List.getElem_cons_zero, List.getElem_cons_succ])
          refine wpAnyH_take (i := 10) (v := undef) rfl (by kernel_rfl) (by kernel_rfl) (by kernel_rfl) (fun _ _ _ h => h) (Or.inr ⟨by rfl, rfl⟩) (by assumption) ?_
          (try simp only [Act.put, List.setIfInBounds_toArray, List.set_cons_zero, List.set_cons_succ, List.getElem_toArray, List.getElem_cons_zero, List.getElem_cons_succ])
          refine wpAnyH_take (i := 11) (v := undef) rfl (by kernel_rfl) (by kernel_rfl) (by kernel_rfl) (fun _ _ _ h => h) (Or.inr ⟨by rfl, rfl⟩) (by assumption) ?_
          (try simp only [Act.put, List.setIfInBounds_toArray, List.set_cons_zero, List.set_cons_succ, List.getElem_toArray, List.getElem_cons_zero, List.getElem_cons_succ])
          refine wpAnyH_take (i := 12) (v := undef) rfl (by kernel_rfl) (by kernel_rfl) (by kernel_rfl) (fun _ _ _ h => h) (Or.inr ⟨by rfl, rfl⟩) (by assumption) ?_
          (try simp only [Act.put, List.setIfInBounds_toArray, List.set_cons_zero, List.set_cons_succ, List.getElem_toArray, List.getElem_cons_zero, List.getElem_cons_succ])
          refine wpAnyH_take (i := 13) (v := undef) rfl (by kernel_rfl) (by kernel_rfl) (by kernel_rfl) (fun _ _ _ h => h) (Or.inr ⟨by rfl, rfl⟩) (by assumption) ?_
          (try simp only [Act.put, List.setIfInBounds_toArray, List.set_cons_zero, List.set_cons_succ, List.getElem_toArray, List.getElem_cons_zero, List.getElem_cons_succ])
          refine wpAnyH_take (i := 14) (v := ?_) rfl (by kernel_rfl) (by kernel_rfl) (by kernel_rfl) (fun _ _ _ h => h) (Or.inl ⟨by rfl, ?_⟩) (by assumption) ?_
          rotate_left
          · (intro wx hSw; have q1 := hSw.v.cell 0 rfl; have q2 := hSw.p.cell 19 H19.out; have q3 := hSw.f; have q9 := hn0; go_simp; (try with_reducible rfl); (try omega))
          (try simp only [Act.put, List.setIfInBounds_toArray, List.set_cons_zero, List.set_cons_succ, List.getElem_toArray, List.getElem_cons_zero, List.getElem_cons_succ])
          refine wpAnyH_done (by kernel_rfl) ?_ _
          have hv9 := hS.v
          have hb9 := hS.b
          clear hS hHeld hI
          go_wp2_with fail
          go_ret
          exact ⟨ret_bool (by rw [← hat.out, hbad.out (by rw [HFX.out]; rfl)]), hb9⟩
        | true =>
          by_cases hk : kp = k0
          · subst hk
            go_wp2_with (first | ((with_reducible refine wp_getB hR Tryz.underlying50 ?_ ?_ ?_ ?_); (rfl); (rw [hcl]; exact sizePx); (rfl); (try simp only [Act.put])) | ((with_reducible refine wp_putB V0 h1' ?_ ?_ ?_ ?_ ?_); (exact hcl); (exact sizePx); (rfl); (rfl); intro w5 hV5 hw5; (have hS := (SRight.of hI hB hV5 hw5.out q00).below (Below.drew (Below.refl _ _))); clear hw5; simp only [Act.put]) | fail)
            refine wp_region_held_drew (S := SRight w wr.heap.size b0 o0 n c us (.slice fa kp fc)) (by kernel_rfl) hS (fun hHeld => ?_)
            refine wpAnyH_take (i := 0) (v := .agg us.toArray) rfl (by kernel_rfl) (by kernel_rfl) (by kernel_rfl) (fun _ _ _ h => h) (yieldsIf_load_mid rfl 50 _ rfl wr.heap.size (0) rfl us _ (fun w h => h.p.at_) Tryz.underlying50 rfl (by rw [hcl]; exact sizePx)) (by assumption) ?_
            (try simp only [Act.put, List.setIfInBounds_toArray, List.set_cons_zero, List.set_cons_succ, List.getElem_toArray, List.getElem_cons_zero])
            refine wpAnyH_ready (rs := [1]) (by kernel_rfl) (by simp) ?_
            refine AllReadyH.cons rfl (fun K hK => ?_) AllReadyH.nil
            go_simp
            refine (CR.out _ hS.b).mono ?_
            rintro e W3 ⟨rfl, hb⟩
            have hS := hS.below hb
            clear hb
            refine hK.out _ _ hS (fun hHeld => ?_)
            clear hK K
            (try simp only [Act.put, List.setIfInBounds_toArray, List.set_cons_zero, List.set_cons_succ, List.getElem_toArray, List.getElem_cons_zero, List.getElem_cons_succ])
            refine wpAnyH_take (i := 2) (v := ?_) rfl (by kernel_rfl) (by kernel_rfl) (by kernel_rfl) (fun _ _ _ h => h) (Or.inl ⟨by rfl, ?_⟩) (by assumption) ?_
            rotate_left
            · (intro wx hSw; have q1 := hSw.v.cell 0 rfl; have q2 := hSw.p.cell 19 H19.out; have q3 := hSw.f; have q9 := hn0; go_simp; (try with_reducible rfl); (try omega))
            (try simp only [Act.put, List.setIfInBounds_toArray, List.set_cons_zero, List.set_cons_succ, List.getElem_toArray, List.getElem_cons_zero, List.getElem_cons_succ])
            refine wpAnyH_take (i := 3) (v := ?_) rfl (by kernel_rfl) (by kernel_rfl) (by kernel_rfl) (fun _ _ _ h => h) (Or.inl ⟨by rfl, ?_⟩) (by assumption) ?_
            rotate_left
            · (intro wx hSw; have q1 := hSw.v.cell 0 rfl; have q2 := hSw.p.cell 19 H19.out; have q3 := hSw.f; have q9 := hn0; go_simp; (try with_reducible rfl); (try omega))
            (try simp only [Act.put, List.setIfInBounds_toArray, List.set_cons_zero, List.set_cons_succ, List.getElem_toArray, List.getElem_cons_zero, List.getElem_cons_succ])
            refine wpAnyH_take (i := 4) (v := ?_) rfl (by kernel_rfl) (by kernel_rfl) (by kernel_rfl) (fun _ _ _ h => h) (Or.inl ⟨by rfl, ?_⟩) (by assumption) ?_
            rotate_left
            · (intro wx hSw; have q1 := hSw.v.cell 0 rfl; have q2 := hSw.p.cell 19 H19.out; have q3 := hSw.f; have q9 := hn0; go_simp; (try with_reducible rfl); (try omega))
            (try simp only [Act.put, List.setIfInBounds_toArray, List.set_cons_zero, List.set_cons_succ, List.getElem_toArray, List.getElem_cons_zero, List.getElem_cons_succ])
            refine wpAnyH_take (i := 5) (v := ?_) rfl (by kernel_rfl) (by kernel_rfl) (by kernel_rfl) (fun _ _ _ h => h) (Or.inl ⟨by rfl, ?_⟩) (by assumption) ?_
            rotate_left
            · (intro wx hSw; have q1 := hSw.v.cell 0 rfl; have q2 := hSw.p.cell 19 H19.out; have q3 := hSw.f; have q9 := hn0; go_simp; (try with_reducible rfl); (try omega))
            (try simp only [Act.put, List.setIfInBounds_toArray, List.set_cons_zero, List.set_cons_succ, List.getElem_toArray, List.getElem_cons_zero, List.getElem_cons_succ])
            refine wpAnyH_take (i := 6) (v := ?_) rfl (by kernel_rfl) (by kernel_rfl) (by kernel_rfl) (fun _ _ _ h => h) (Or.inl ⟨by rfl, ?_⟩) (by assumption) ?_
            rotate_left
            · (intro wx hSw; have q1 := hSw.v.cell 0 rfl; have q2 := hSw.p.cell 19 H19.out; have q3 := hSw.f; have q9 := hn0; go_simp; (try with_reducible rfl); (try omega))
            (try simp only [Act.put, List.setIfInBounds_toArray, List.set_cons_zero, List.set_cons_succ, List.getElem_toArray, List.getElem_cons_zero, List.getElem_cons_succ])
            refine wpAnyH_take (i := 7) (v := ?_) rfl (by kernel_rfl) (by kernel_rfl) (by kernel_rfl) (fun _ _ _ h => h) (Or.inl ⟨by rfl, ?_⟩) (by assumption) ?_
            rotate_left
            · (intro wx hSw; have q1 := hSw.v.cell 0 rfl; have q2 := hSw.p.cell 19 H19.out; have q3 := hSw.f; have q9 := hn0; go_simp; (try with_reducible rfl); (try omega))
            (try simp only [Act.put, List.setIfInBounds_toArray, List.set_cons_zero, List.set_cons_succ, List.getElem_toArray, List.getElem_cons_zero, List.getElem_cons_succ])
            refine wpAnyH_take (i := 8) (v := ?_) rfl (by kernel_rfl) (by kernel_rfl) (by kernel_rfl) (fun _ _ _ h => h) (Or.inl ⟨by rfl, ?_⟩) (by assumption) ?_
            rotate_left
            · (intro wx hSw; have q1 := hSw.v.cell 0 rfl; have q2 := hSw.p.cell 19 H19.out; have q3 := hSw.f; have q9 := hn0; go_simp; (try with_reducible rfl); (try omega))
            (try simp only [Act.put, List.setIfInBounds_toArray, List.set_cons_zero, List.set_cons_succ, List.getElem_toArray, List.getElem_cons_zero, List.getElem_cons_succ])
            refine wpAnyH_take (i := 9) (v := ?_) rfl (by kernel_rfl) (by kernel_rfl) (by kernel_rfl) (fun _ _ _ h => h) (Or.inl ⟨by rfl, ?_⟩) (by assumption) ?_
            rotate_left
            · (intro wx hSw; have q1 := hSw.v.cell 0 rfl; have q2 := hSw.p.cell 19 H19.out; have q3 := hSw.f; have q9 := hn0; go_simp; (try with_reducible rfl); (try omega))
            (try simp only [Act.put, List.setIfInBounds_toArray, List.set_cons_zero, List.set_cons_succ, List.getElem_toArray, List.getElem_cons_zero, List.getElem_cons_succ])
            refine wpAnyH_take (i := 10) (v := ?_) rfl (by kernel_rfl) (by kernel_rfl) (by kernel_rfl) (fun _ _ _ h => h) (Or.inl ⟨by rfl, ?_⟩) (by assumption) ?_
            rotate_left
            · (intro wx hSw; have q1 := hSw.v.cell 0 rfl; have q2 := hSw.p.cell 19 H19.out; have q3 := hSw.f; have q9 := hn0; go_simp; (try with_reducible rfl); (try omega))
            (try simp only [Act.put, List.setIfInBounds_toArray, List.set_cons_zero, List.set_cons_succ, List.getElem_toArray, List.getElem_cons_zero, List.getElem_cons_succ])
            refine wpAnyH_take (i := 11) (v := ?_) rfl (by kernel_rfl) (by kernel_rfl) (by kernel_rfl) (fun _ _ _ h => h) (Or.inl ⟨by rfl, ?_⟩) (by assumption) ?_
            rotate_left
            · (intro wx hSw; have q1 := hSw.v.cell 0 rfl; have q2 := hSw.p.cell 19 H19.out; have q3 := hSw.f; have q9 := hn0; go_simp; (try with_reducible rfl); (try omega))
            (try simp only [Act.put, List.setIfInBounds_toArray, List.set_cons_zero, List.set_cons_succ, List.getElem_toArray, List.getElem_cons_zero, List.getElem_cons_succ])
            refine wpAnyH_take (i := 12) (v := ?_) rfl (by kernel_rfl) (by kernel_rfl) (by kernel_rfl) (fun _ _ _ h => h) (Or.inl ⟨by rfl, ?_⟩) (by assumption) ?_
            rotate_left
            · (intro wx hSw; have q1 := hSw.v.cell 0 rfl; have q2 := hSw.p.cell 19 H19.out; have q3 := hSw.f; have q9 := hn0; go_simp; (try with_reducible rfl); (try omega))
            (try simp only [Act.put, List.setIfInBounds_toArray, List.set_cons_zero, List.set_cons_succ, List.getElem_toArray, List.getElem_cons_zero, List.getElem_cons_succ])
            refine wpAnyH_take (i := 13) (v := ?_) rfl (by kernel_rfl) (by kernel_rfl) (by kernel_rfl) (fun _ _ _ h => h) (Or.inl ⟨by rfl, ?_⟩) (by assumption) ?_
            rotate_left
            · (intro wx hSw; have q1 := hSw.v.cell 0 rfl; have q2 := hSw.p.cell 19 H19.out; have q3 := hSw.f; have q9 := hn0; go_simp; (try with_reducible rfl); (try omega))
            (try simp only [Act.put, List.setIfInBounds_toArray, List.set_cons_zero, List.set_cons_succ, List.getElem_toArray, List.getElem_cons_zero, List.getElem_cons_succ])
            refine wpAnyH_take (i := 14) (v := ?_) rfl (by kernel_rfl) (by kernel_rfl) (by kernel_rfl) (fun _ _ _ h => h) (Or.inl ⟨by rfl, ?_⟩) (by assumption) ?_
            rotate_left
            · (intro wx hSw; have q1 := hSw.v.cell 0 rfl; have q2 := hSw.p.cell 19 H19.out; have q3 := hSw.f; have q9 := hn0; go_simp; (try with_reducible rfl); (try omega))
            (try simp only [Act.put, List.setIfInBounds_toArray, List.set_cons_zero, List.set_cons_succ, List.getElem_toArray, List.getElem_cons_zero, List.getElem_cons_succ])
            refine wpAnyH_done (by kernel_rfl) ?_ _
            have hv9 := hS.v
            have hb9 := hS.b
            clear hS hHeld hI
            go_wp2_with fail
            exact ⟨⟨i + 1, by omega, by go_num, hid0 (hnext.out (by rw [HFX.out]; simp)), hv9, hb9⟩, by simp [intOf]; omega⟩
          · have hne : ¬ (kp : Int) = (k0 : Int) := by omega
            have HK := hid0 hk
            clear hk
            go_wp2_with (first | ((with_reducible refine wp_getB hR Tryz.underlying50 ?_ ?_ ?_ ?_); (rfl); (rw [hcl]; exact sizePx); (rfl); (try simp only [Act.put])) | ((with_reducible refine wp_putB V0 h1' ?_ ?_ ?_ ?_ ?_); (exact hcl); (exact sizePx); (rfl); (rfl); intro w5 hV5 hw5; (have hS := (SRight.of hI hB hV5 hw5.out q00).below (Below.drew (Below.refl _ _))); clear hw5; simp only [Act.put]) | fail)
            refine wp_region_held_drew (S := SRight w wr.heap.size b0 o0 n c us (.slice fa k0 fc)) (by kernel_rfl) hS (fun hHeld => ?_)
            refine wpAnyH_take (i := 0) (v := .agg us.toArray) rfl (by kernel_rfl) (by kernel_rfl) (by kernel_rfl) (fun _ _ _ h => h) (yieldsIf_load_mid rfl 50 _ rfl wr.heap.size (0) rfl us _ (fun w h => h.p.at_) Tryz.underlying50 rfl (by rw [hcl]; exact sizePx)) (by assumption) ?_
            (try simp only [Act.put, List.setIfInBounds_toArray, List.set_cons_zero, List.set_cons_succ, List.getElem_toArray, List.getElem_cons_zero])
            refine wpAnyH_ready (rs := [1]) (by kernel_rfl) (by simp) ?_
            refine AllReadyH.cons rfl (fun K hK => ?_) AllReadyH.nil
            go_simp
            refine (CR.out _ hS.b).mono ?_
            rintro e W3 ⟨rfl, hb⟩
            have hS := hS.below hb
            clear hb
            refine hK.out _ _ hS (fun hHeld => ?_)
            clear hK K
            (try simp only [Act.put, List.setIfInBounds_toArray, List.set_cons_zero, List.set_cons_succ, List.getElem_toArray, List.getElem_cons_zero, List.getElem_cons_succ])
            refine wpAnyH_take (i := 2) (v := ?_) rfl (by kernel_rfl) (by kernel_rfl) (by kernel_rfl) (fun _ _ _ h => h) (Or.inl ⟨by rfl, ?_⟩) (by assumption) ?_
            rotate_left
            · (intro wx hSw; have q1 := hSw.v.cell 0 rfl; have q2 := hSw.p.cell 19 H19.out; have q3 := hSw.f; have q9 := hn0; go_simp; (try with_reducible rfl); (try omega))
            (try simp only [Act.put, List.setIfInBounds_toArray, List.set_cons_zero, List.set_cons_succ, List.getElem_toArray, List.getElem_cons_zero, List.getElem_cons_succ])
            refine wpAnyH_take (i := 3) (v := ?_) rfl (by kernel_rfl) (by kernel_rfl) (by kernel_rfl) (fun _ _ _ h => h) (Or.inl ⟨by rfl, ?_⟩) (by assumption) ?_
            rotate_left
            · (intro wx hSw; have q1 := hSw.v.cell 0 rfl; have q2 := hSw.p.cell 19 H19.out; have q3 := hSw.f; have q9 := hn0; go_simp; (try with_reducible rfl); (try omega))
            (try simp only [Act.put, List.setIfInBounds_toArray, List.set_cons_zero, List.set_cons_succ, List.getElem_toArray, List.getElem_cons_zero, List.getElem_cons_succ])
            refine wpAnyH_take (i := 4) (v := ?_) rfl (by kernel_rfl) (by kernel_rfl) (by kernel_rfl) (fun _ _ _ h => h) (Or.inl ⟨by rfl, ?_⟩) (by assumption) ?_
            rotate_left
            · (intro wx hSw; have q1 := hSw.v.cell 0 rfl; have q2 := hSw.p.cell 19 H19.out; have q3 := hSw.f; have q9 := hn0; go_simp; (try with_reducible rfl); (try omega))
            (try simp only [Act.put, List.setIfInBounds_toArray, List.set_cons_zero, List.set_cons_succ, List.getElem_toArray, List.getElem_cons_zero, List.getElem_cons_succ])
            refine wpAnyH_take (i := 5) (v := ?_) rfl (by kernel_rfl) (by kernel_rfl) (by kernel_rfl) (fun _ _ _ h => h) (Or.inl ⟨by rfl, ?_⟩) (by assumption) ?_
            rotate_left
            · (intro wx hSw; have q1 := hSw.v.cell 0 rfl; have q2 := hSw.p.cell 19 H19.out; have q3 := hSw.f; have q9 := hn0; go_simp; (try with_reducible rfl); (try omega))
            (try simp only [Act.put, List.setIfInBounds_toArray, List.set_cons_zero, List.set_cons_succ, List.getElem_toArray, List.getElem_cons_zero, List.getElem_cons_succ])
            refine wpAnyH_take (i := 6) (v := ?_) rfl (by kernel_rfl) (by kernel_rfl) (by kernel_rfl) (fun _ _ _ h => h) (Or.inl ⟨by rfl, ?_⟩) (by assumption) ?_
            rotate_left
            · (intro wx hSw; have q1 := hSw.v.cell 0 rfl; have q2 := hSw.p.cell 19 H19.out; have q3 := hSw.f; have q9 := hn0; go_simp; (try with_reducible rfl); (try omega))
            (try simp only [Act.put, List.setIfInBounds_toArray, List.set_cons_zero, List.set_cons_succ, List.getElem_toArray, List.getElem_cons_zero, List.getElem_cons_succ])
            refine wpAnyH_take (i := 7) (v := ?_) rfl (by kernel_rfl) (by kernel_rfl) (by kernel_rfl) (fun _ _ _ h => h) (Or.inl ⟨by rfl, ?_⟩) (by assumption) ?_
            rotate_left
            · (intro wx hSw; have q1 := hSw.v.cell 0 rfl; have q2 := hSw.p.cell 19 H19.out; have q3 := hSw.f; have q9 := hn0; go_simp; (try with_reducible rfl); (try omega))
            (try simp only [Act.put, List.setIfInBounds_toArray, List.set_cons_zero, List.set_cons_succ, List.getElem_toArray, List.getElem_cons_zero, List.getElem_cons_succ])
            refine wpAnyH_take (i := 8) (v := ?_) rfl (by kernel_rfl) (by kernel_rfl) (by kernel_rfl) (fun _ _ _ h => h) (Or.inl ⟨by rfl, ?_⟩) (by assumption) ?_
            rotate_left
            · (intro wx hSw; have q1 := hSw.v.cell 0 rfl; have q2 := hSw.p.cell 19 H19.out; have q3 := hSw.f; have q9 := hn0; go_simp; (try with_reducible rfl); (try omega))
            (try simp only [Act.put, List.setIfInBounds_toArray, List.set_cons_zero, List.set_cons_succ, List.getElem_toArray, List.getElem_cons_zero, List.getElem_cons_succ])
            refine wpAnyH_take (i := 9) (v := ?_) rfl (by kernel_rfl) (by kernel_rfl) (by kernel_rfl) (fun _ _ _ h => h) (Or.inl ⟨by rfl, ?_⟩) (by assumption) ?_
            rotate_left
            · (intro wx hSw; have q1 := hSw.v.cell 0 rfl; have q2 := hSw.p.cell 19 H19.out; have q3 := hSw.f; have q9 := hn0; go_simp; (try with_reducible rfl); (try omega))
            (try simp only [Act.put, List.setIfInBounds_toArray, List.set_cons_zero, List.set_cons_succ, List.getElem_toArray, List.getElem_cons_zero, List.getElem_cons_succ])
            refine wpAnyH_take (i := 10) (v := ?_) rfl (by kernel_rfl) (by kernel_rfl) (by kernel_rfl) (fun _ _ _ h => h) (Or.inl ⟨by rfl, ?_⟩) (by assumption) ?_
            rotate_left
            · (intro wx hSw; have q1 := hSw.v.cell 0 rfl; have q2 := hSw.p.cell 19 H19.out; have q3 := hSw.f; have q9 := hn0; go_simp; (try with_reducible rfl); (try omega))
            (try simp only [Act.put, List.setIfInBounds_toArray, List.set_cons_zero, List.set_cons_succ, List.getElem_toArray, List.getElem_cons_zero, List.getElem_cons_succ])
            refine wpAnyH_take (i := 11) (v := ?_) rfl (by kernel_rfl) (by kernel_rfl) (by kernel_rfl) (fun _ _ _ h => h) (Or.inl ⟨by rfl, ?_⟩) (by assumption) ?_
            rotate_left
            · (intro wx hSw; have q1 := hSw.v.cell 0 rfl; have q2 := hSw.p.cell 19 H19.out; have q3 := hSw.f; have q9 := hn0; go_simp; (try with_reducible rfl); (try omega))
            (try simp only [Act.put, List.setIfInBounds_toArray, List.set_cons_zero, List.set_cons_succ, List.getElem_toArray, List.getElem_cons_zero, List.getElem_cons_succ])
            refine wpAnyH_take (i := 12) (v := ?_) rfl (by kernel_rfl) (by kernel_rfl) (by kernel_rfl) (fun _ _ _ h => h) (Or.inl ⟨by rfl, ?_⟩) (by assumption) ?_
            rotate_left
            · (intro wx hSw; have q1 := hSw.v.cell 0 rfl; have q2 := hSw.p.cell 19 H19.out; have q3 := hSw.f; have q9 := hn0; go_simp; (try with_reducible rfl); (try omega))
            (try simp only [Act.put, List.setIfInBounds_toArray, List.set_cons_zero, List.set_cons_succ, List.getElem_toArray, List.getElem_cons_zero, List.getElem_cons_succ])
            refine wpAnyH_take (i := 13) (v := ?_) rfl (by kernel_rfl) (by kernel_rfl) (by kernel_rfl) (fun _ _ _ h => h) (Or.inl ⟨by rfl, ?_⟩) (by assumption) ?_
            rotate_left
            · (intro wx hSw; have q1 := hSw.v.cell 0 rfl; have q2 := hSw.p.cell 19 H19.out; have q3 := hSw.f; have q9 := hn0; go_simp; (try with_reducible rfl); (try omega))
            (try simp only [Act.put, List.setIfInBounds_toArray, List.set_cons_zero, List.set_cons_succ, List.getElem_toArray, List.getElem_cons_zero, List.getElem_cons_succ])
            refine wpAnyH_take (i := 14) (v := ?_) rfl (by kernel_rfl) (by kernel_rfl) (by kernel_rfl) (fun _ _ _ h => h) (Or.inl ⟨by rfl, ?_⟩) (by assumption) ?_
            rotate_left
            · (intro wx hSw; have q1 := hSw.v.cell 0 rfl; have q2 := hSw.p.cell 19 H19.out; have q3 := hSw.f; have q9 := hn0; go_simp; (try with_reducible rfl); (try omega))
            (try simp only [Act.put, List.setIfInBounds_toArray, List.set_cons_zero, List.set_cons_succ, List.getElem_toArray, List.getElem_cons_zero, List.getElem_cons_succ])
            refine wpAnyH_done (by kernel_rfl) ?_ _
            have hv9 := hS.v
            have hb9 := hS.b
            clear hS hHeld hI
            go_wp2_with fail
            go_ret
            exact ⟨ret_bool (by rw [← hat.out, hbad.out (by rw [HFX.out]; simp [HK.out])]), hb9⟩
      · have hie : ¬ (i : Int) < n := by omega
        rw [List.take_of_length_le (by rw [HN.out]; omega)] at hO
        go_wp2
        go_ret
        exact ⟨ret_bool (by rw [← hat.out, hO.out]), hB⟩
end Go.Proofs.YtfdkajefcplfjaaGreat
