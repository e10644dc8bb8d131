/- Several of my texts laid together, each as it was: Xv. Conditions: each names its own. -/
import Derived.Test.YtfdkajefcplfjaaF1
import Derived.Test.YtfdkajefcplfjaaB9
import Derived.Test.YtfdkajefcplfjaaF5
/- The reference: whether a part may be. Conditions: the part's lists are known. -/
namespace Go.Proofs.Ytfdkajefcplfjaa
open Go.RowKit

theorem SPlan.below' {w0 : World} {vb : Nat} {us : List Value} {w w' : World} (h : SPlan w0 vb us w) (hb : Below w.heap.size w w') : SPlan w0 vb us w' := ⟨h.v.below hb, below_through hb h.b.size h.b⟩
def oneO (p : Px) (W : Int) (o : Ox) : Bool := outB W o && (!groupedB p || setO p o)
theorem all_and2 {α : Type} (f g : α → Bool) : ∀ l : List α, l.all (fun o => f o && g o) = (l.all f && l.all g)
  | [] => rfl
  | x :: l => by
    rw [List.all_cons, List.all_cons, List.all_cons, all_and2 f g l]
    cases f x <;> cases g x <;> cases l.all f <;> cases l.all g <;> rfl
theorem one_part (p : Px) : (acrossB p && (inN p.os.length 1 8 && decide (p.gs.length ≤ 4) && insideB p.gs (sumW p.ws) && insideB (rise (asT p.wh)) (sumW p.ws)) && p.os.all (oneO p (sumW p.ws))) = partB p := by
  have h1 : p.os.all (oneO p (sumW p.ws)) = (p.os.all (outB (sumW p.ws)) && (!groupedB p || settledB p)) := by
    unfold oneO
    rw [all_and2, settled_all]
    cases groupedB p with
    | false => simp
    | true => simp
  unfold partB
  rw [h1, lists_all]
  cases acrossB p <;> cases p.os.all (outB (sumW p.ws)) <;> simp
set_option maxRecDepth 100000 in
set_option maxHeartbeats 4000000 in
theorem refOne_any {n : Nat} (p : Px) (w : World) (h : PxOk w n p) :
    Calls Try.prog 26 #[p.val] w fun e w' => e = .returned (.bool (partB p)) ∧ Below w.heap.size w w' := by
  obtain ⟨V, hB⟩ := part_box p w
  have CS := hid0 (fun W (hW : Below w.heap.size w W) => refSources_any p W (h.later hW))
  have CWd := hid0 (fun (ha : acrossB p = true) W (hW : Below w.heap.size w W) => refWidth_any p W (h.later hW) ha)
  have CG := hid0 (fun W (hW : Below w.heap.size w W) => refWithin_any p.gp p.gc p.gs (sumW p.ws) W (h.gs.at_.later hW) h.gs.few)
  have CA := hid0 (fun W (hW : Below w.heap.size w W) => refAsks_any (h.wh.later hW) h.sizeT)
  have hlA : (rise (asT p.wh)).length ≤ 17592186044416 := by have := rise_len (asT p.wh); have := asT_len p.wh; have := h.sizeT; omega
  have CI := hid0 (fun a c W' hL => refWithin_any a c (rise (asT p.wh)) (sumW p.ws) W' hL hlA)
  have CGr := hid0 (fun W (hW : Below w.heap.size w W) => refGrouped_any p W (h.later hW))
  have CIn0 := hid0 (fun x W (hW : Below w.heap.size w W) => refIn_any p.gp p.gc p.gs x W (h.gs.at_.later hW) h.gs.few)
  have HO := hid0 h.outs
  have HE := hid0 h.es
  have HSC := hid0 h.sizeC
  have hfew := h.fewO
  have hfewG := h.gs.few
  have H18 := hid0 p.c18
  have H19 := hid0 p.c19
  have HTC := hid0 (fun (W : World) (b : Nat) (hR : W.rangeAt b 0 p.cells) => p.where_at hR)
  have hcl := p.cells_len
  have hct : p.wh.cells.length = 15 := Tx.cells_len _
  have hset : ∀ o : Ox, oneO p (sumW p.ws) o = (inN o.g 0 6 && insideB (rise (rdC o.e)) (sumW p.ws) && (!groupedB p || (o.g != 0 || (decide (o.e.kind = 1) && p.gs.contains o.e.at)))) := fun _ => rfl
  obtain ⟨R, hr⟩ : ∃ R, partB p = R := ⟨_, rfl⟩
  rw [hr]
  have HR := hid0 ((one_part p).trans hr)
  clear h hr hlA
  unfold Px.val at *
  unfold Tx.val at CA
  generalize oneO p (sumW p.ws) = f at *
  generalize sumW p.ws = W at *
  have HSET := hid0 hset
  clear hset
  generalize p.cells = us at *
  generalize p.wh.cells = tc at *
  generalize insideB p.gs W = ig at *
  generalize insideB (rise (asT p.wh)) W = ia at *
  generalize rise (asT p.wh) = la at *
  generalize groupedB p = gg at *
  generalize p.gs = gs at *
  generalize p.gp = gp at *
  generalize p.gc = gc at *
  generalize p.os = os at *
  generalize p.op = op at *
  generalize p.oc = oc at *
  generalize acrossB p = ra at *
  obtain ⟨m, hm⟩ : ∃ m, os.length = m := ⟨_, rfl⟩
  have HM := hid0 hm
  rw [hm] at H19 hfew
  clear hm
  obtain ⟨mg, hmg⟩ : ∃ mg, gs.length = mg := ⟨_, rfl⟩
  have HMG := hid0 hmg
  rw [hmg] at H18 hfewG CG CIn0
  clear hmg
  have HR := hid0 (show (ra && (inN m 1 8 && decide (mg ≤ 4) && ig && ia) && os.all f) = R by rw [← HM.out, ← HMG.out]; exact HR.out)
  have q18 := V.cell 18 H18.out
  have q19 := V.cell 19 H19.out
  cases ra with
  | false =>
    go_enter Try.func26, Try.ntmps26
    go_wp2_with (first | ((with_reducible refine wp_getB V.at_ Try.underlying40 ?_ ?_ ?_ ?_); (rfl); (rw [hcl]; exact sizePx); (rfl); (try simp only [Act.put])) | (go_at_call 38; ((with_reducible refine (CS.out _ hB).mono ?_); rintro e w1 ⟨rfl, hb⟩; (have V := V.below hb); (have hB := below_through hb hB.size hB); (have q18 := V.cell 18 H18.out); (have q19 := V.cell 19 H19.out); clear hb)) | fail)
    go_ret
    exact ⟨ret_bool (by rw [← HR.out]; rfl), hB⟩
  | true =>
  have CW2 := hid0 (CWd.out rfl)
  clear CWd
  by_cases h1 : m < 1
  · have h1' : (m : Int) < 1 := by omega
    have HF := hid0 (show inN m 1 8 = false by unfold inN; simp; omega)
    clear h1
    go_enter Try.func26, Try.ntmps26
    go_wp2_with (first | ((with_reducible refine wp_getB V.at_ Try.underlying40 ?_ ?_ ?_ ?_); (rfl); (rw [hcl]; exact sizePx); (rfl); (try simp only [Act.put])) | (go_at_call 38; ((with_reducible refine (CS.out _ hB).mono ?_); rintro e w1 ⟨rfl, hb⟩; (have V := V.below hb); (have hB := below_through hb hB.size hB); (have q18 := V.cell 18 H18.out); (have q19 := V.cell 19 H19.out); clear hb)) | fail)
    go_ret
    exact ⟨ret_bool (by rw [← HR.out, HF.out]; rfl), hB⟩
  have h1' : decide ((m : Int) < 1) = false := by simp; omega
  by_cases h2 : 8 < m
  · have h2' : (8 : Int) < m := by omega
    have HF := hid0 (show inN m 1 8 = false by unfold inN; simp; omega)
    clear h1 h2
    go_enter Try.func26, Try.ntmps26
    go_wp2_with (first | ((with_reducible refine wp_getB V.at_ Try.underlying40 ?_ ?_ ?_ ?_); (rfl); (rw [hcl]; exact sizePx); (rfl); (try simp only [Act.put])) | (go_at_call 38; ((with_reducible refine (CS.out _ hB).mono ?_); rintro e w1 ⟨rfl, hb⟩; (have V := V.below hb); (have hB := below_through hb hB.size hB); (have q18 := V.cell 18 H18.out); (have q19 := V.cell 19 H19.out); clear hb)) | fail)
    go_ret
    exact ⟨ret_bool (by rw [← HR.out, HF.out]; rfl), hB⟩
  have h2' : decide ((8 : Int) < m) = false := by simp; omega
  have HI := hid0 (show inN m 1 8 = true by unfold inN; simp; omega)
  clear h1 h2
  by_cases h3 : 4 < mg
  · have h3' : (4 : Int) < mg := by omega
    have HF := hid0 (show decide (mg ≤ 4) = false by simp; omega)
    clear h3
    go_enter Try.func26, Try.ntmps26
    go_wp2_with (first | ((with_reducible refine wp_getB V.at_ Try.underlying40 ?_ ?_ ?_ ?_); (rfl); (rw [hcl]; exact sizePx); (rfl); (try simp only [Act.put])) | (go_at_call 38; ((with_reducible refine (CS.out _ hB).mono ?_); rintro e w1 ⟨rfl, hb⟩; (have V := V.below hb); (have hB := below_through hb hB.size hB); (have q18 := V.cell 18 H18.out); (have q19 := V.cell 19 H19.out); clear hb)) | fail)
    go_ret
    exact ⟨ret_bool (by rw [← HR.out, HI.out, HF.out]; rfl), hB⟩
  have h3' : decide ((4 : Int) < mg) = false := by simp; omega
  have HF := hid0 (show decide (mg ≤ 4) = true by simp; omega)
  clear h3
  cases ig with
  | false =>
    go_enter Try.func26, Try.ntmps26
    go_wp2_with (first | ((with_reducible refine wp_getB V.at_ Try.underlying40 ?_ ?_ ?_ ?_); (rfl); (rw [hcl]; exact sizePx); (rfl); (try simp only [Act.put])) | (go_at_call 38; ((with_reducible refine (CS.out _ hB).mono ?_); rintro e w1 ⟨rfl, hb⟩; (have V := V.below hb); (have hB := below_through hb hB.size hB); (have q18 := V.cell 18 H18.out); (have q19 := V.cell 19 H19.out); clear hb)) | (go_at_call 39; ((with_reducible refine (CW2.out _ hB).mono ?_); rintro e w1 ⟨rfl, hb⟩; (have V := V.below hb); (have hB := below_through hb hB.size hB); (have q18 := V.cell 18 H18.out); (have q19 := V.cell 19 H19.out); clear hb)) | (go_at_call 40; ((with_reducible refine (CG.out _ hB).mono ?_); rintro e w2 ⟨rfl, hw2⟩; rw [hw2])) | fail)
    go_ret
    exact ⟨ret_bool (by rw [← HR.out, HI.out, HF.out]; rfl), hB⟩
  | true =>
  cases ia with
  | false =>
    go_enter Try.func26, Try.ntmps26
    go_wp2_with (first | ((with_reducible refine wp_getB V.at_ Try.underlying40 ?_ ?_ ?_ ?_); (rfl); (rw [hcl]; exact sizePx); (rfl); (try simp only [Act.put])) | (go_at_call 38; ((with_reducible refine (CS.out _ hB).mono ?_); rintro e w1 ⟨rfl, hb⟩; (have V := V.below hb); (have hB := below_through hb hB.size hB); (have q18 := V.cell 18 H18.out); (have q19 := V.cell 19 H19.out); clear hb)) | (go_at_call 39; ((with_reducible refine (CW2.out _ hB).mono ?_); rintro e w1 ⟨rfl, hb⟩; (have V := V.below hb); (have hB := below_through hb hB.size hB); (have q18 := V.cell 18 H18.out); (have q19 := V.cell 19 H19.out); clear hb)) | (go_at_call 40; ((with_reducible refine (CG.out _ hB).mono ?_); rintro e w2 ⟨rfl, hw2⟩; rw [hw2])) | ((with_reducible refine wp_getG ?_ (HTC.out _ _ V.at_) Try.underlying37 ?_ ?_ ?_ ?_); (rfl); (rfl); (rw [hct]; exact sizeTT); (rfl); (try simp only [Act.put])) | (go_at_call 41; ((with_reducible refine (CA.out _ hB).mono ?_); rintro e w3 ⟨⟨aa, ac, rfl, hL3⟩, hb⟩; (have V := V.below hb); (have hB := below_through hb hB.size hB); (have q18 := V.cell 18 H18.out); (have q19 := V.cell 19 H19.out); clear hb)) | (go_at_call 40; ((with_reducible refine (CI.out _ _ _ hL3).mono ?_); rintro e w4 ⟨rfl, hw4⟩; rw [hw4])) | fail)
    go_ret
    exact ⟨ret_bool (by rw [← HR.out, HI.out, HF.out]; rfl), hB⟩
  | true =>
  have hbase := hid0 (show os.all f = R by rw [← HR.out, HI.out, HF.out]; rfl)
  go_enter Try.func26, Try.ntmps26
  go_wp2_with (first | ((with_reducible refine wp_getB V.at_ Try.underlying40 ?_ ?_ ?_ ?_); (rfl); (rw [hcl]; exact sizePx); (rfl); (try simp only [Act.put])) | (go_at_call 38; ((with_reducible refine (CS.out _ hB).mono ?_); rintro e w1 ⟨rfl, hb⟩; (have V := V.below hb); (have hB := below_through hb hB.size hB); (have q18 := V.cell 18 H18.out); (have q19 := V.cell 19 H19.out); clear hb)) | (go_at_call 39; ((with_reducible refine (CW2.out _ hB).mono ?_); rintro e w1 ⟨rfl, hb⟩; (have V := V.below hb); (have hB := below_through hb hB.size hB); (have q18 := V.cell 18 H18.out); (have q19 := V.cell 19 H19.out); clear hb)) | (go_at_call 40; ((with_reducible refine (CG.out _ hB).mono ?_); rintro e w2 ⟨rfl, hw2⟩; rw [hw2])) | ((with_reducible refine wp_getG ?_ (HTC.out _ _ V.at_) Try.underlying37 ?_ ?_ ?_ ?_); (rfl); (rfl); (rw [hct]; exact sizeTT); (rfl); (try simp only [Act.put])) | (go_at_call 41; ((with_reducible refine (CA.out _ hB).mono ?_); rintro e w3 ⟨⟨aa, ac, rfl, hL3⟩, hb⟩; (have V := V.below hb); (have hB := below_through hb hB.size hB); (have q18 := V.cell 18 H18.out); (have q19 := V.cell 19 H19.out); clear hb)) | (go_at_call 40; ((with_reducible refine (CI.out _ _ _ hL3).mono ?_); rintro e w4 ⟨rfl, hw4⟩; rw [hw4])) | fail)
  have hS0 : SPlan w w.heap.size us _ := ⟨V, hB⟩
  clear q18 q19 CG CA CI CS CW2 hL3 V hB
  go_loopw [4] (fun iv wr => ∃ i : Nat, i ≤ m ∧ iv = .int .i64 i ∧ Hid ((os.take i).all f = true) ∧ SPlan w w.heap.size us wr) (fun iv _ => m - (intOf iv).toNat)
  case atStart => exact ⟨0, Nat.zero_le _, rfl, hid0 rfl, hS0⟩
  case round =>
    obtain ⟨i, hi, rfl, hO, hS⟩ := hrel
    clear hS0
    have q19 := hS.v.cell 19 H19.out
    by_cases hlt : i < m
    · have hlt1 : i < os.length := by rw [HM.out]; exact hlt
      obtain ⟨b, o, rfl, hb, hR⟩ := (HO.out.later hS.b).at_ i hlt1
      have hbad := hid0 (fun hf => all_bad (f := f) hlt1 hf)
      have hnext := hid0 (fun hf => all_take hlt1 hO.out hf)
      have hEx := HE.out _ (List.getElem_mem hlt1)
      have hSx := HSC.out _ (List.getElem_mem hlt1)
      have hfx := HSET.out os[i]
      generalize os[i] = x at hR hbad hnext hEx hSx hfx
      have CR : Hid (∀ W, Below w.heap.size w W → Calls Try.prog 42 #[.agg x.e.cells.toArray] W (ListAns W (rise (rdC x.e)))) := hid0 (fun W hW => refReads_any (hEx.1.later hW) hSx)
      have hlR : (rise (rdC x.e)).length ≤ 17592186044416 := by have := rise_len (rdC x.e); have := rdC_len x.e; omega
      have CL := hid0 (fun a c W' hL => refWithin_any a c (rise (rdC x.e)) W W' hL hlR)
      have CIn := hid0 (fun W hW => CIn0.out x.e.at W hW)
      have hcl2 := x.cells_len
      have hce : x.e.cells.length = 6 := Cx.cells_len _
      have h1' := x.one
      have H0 := hid0 (show x.cells[0]? = some (.int .i64 x.g) from rfl)
      have H1 := hid0 x.c1
      have H2 := hid0 x.c2
      have HRC := hid0 (fun W b h => x.calc_at W b h)
      have V0 : VarB (wr.alloc (Obj.cells #[.int .i64 0, .int .i64 0, .int .i64 0, .int .i64 0, .int .i64 0, .string ⟨#[]⟩, .slice none 0 0, .string ⟨#[]⟩, .int .i64 0] 44)) wr.heap.size zOx := VarB.new wr zOx 44
      clear hlR hEx hSx
      generalize x.cells = xs at hR hcl2 h1' H0 H1 H2 HRC
      generalize x.e.cells = ce at hce HRC CR
      generalize insideB (rise (rdC x.e)) W = rd at CL hfx
      generalize rise (rdC x.e) = lr at CL CR
      generalize gs.contains x.e.at = rn at CIn hfx
      generalize x.e.at = at_ at CIn H2
      generalize x.e.kind = kd at H1 hfx
      generalize x.g = g at H0 hfx
      generalize f x = fx at hfx hbad hnext
      have HFX := hid0 hfx
      clear hfx
      by_cases g1 : g < 0
      · have HG := hid0 (show inN g 0 6 = false by unfold inN; simp; omega)
        go_wp2_with (first | ((with_reducible refine wp_getB hR Try.underlying44 ?_ ?_ ?_ ?_); (rfl); (rw [hcl2]; exact sizeOut); (rfl); (try simp only [Act.put])) | ((with_reducible refine wp_putB V0 h1' ?_ ?_ ?_ ?_ ?_); (exact hcl2); (exact sizeOut); (rfl); (rfl); intro w5 hV5 hw5; (have hS5 := hS.var (.cells #[.int .i64 0, .int .i64 0, .int .i64 0, .int .i64 0, .int .i64 0, .string ⟨#[]⟩, .slice none 0 0, .string ⟨#[]⟩, .int .i64 0] 44) xs); (rw [← hw5.out] at hS5); clear hw5; (have r0 := hV5.cell 0 H0.out); (have RC := HRC.out w5 _ hV5.at_); simp only [Act.put]) | fail)
        go_ret
        exact ⟨ret_bool (by rw [← hbase.out, hbad.out (by rw [HFX.out, HG.out]; rfl)]), hS5.b⟩
      have g1' : decide (g < 0) = false := by simp; omega
      by_cases g2 : 6 < g
      · have HG := hid0 (show inN g 0 6 = false by unfold inN; simp; omega)
        go_wp2_with (first | ((with_reducible refine wp_getB hR Try.underlying44 ?_ ?_ ?_ ?_); (rfl); (rw [hcl2]; exact sizeOut); (rfl); (try simp only [Act.put])) | ((with_reducible refine wp_putB V0 h1' ?_ ?_ ?_ ?_ ?_); (exact hcl2); (exact sizeOut); (rfl); (rfl); intro w5 hV5 hw5; (have hS5 := hS.var (.cells #[.int .i64 0, .int .i64 0, .int .i64 0, .int .i64 0, .int .i64 0, .string ⟨#[]⟩, .slice none 0 0, .string ⟨#[]⟩, .int .i64 0] 44) xs); (rw [← hw5.out] at hS5); clear hw5; (have r0 := hV5.cell 0 H0.out); (have RC := HRC.out w5 _ hV5.at_); simp only [Act.put]) | fail)
        go_ret
        exact ⟨ret_bool (by rw [← hbase.out, hbad.out (by rw [HFX.out, HG.out]; rfl)]), hS5.b⟩
      have g2' : decide (6 < g) = false := by simp; omega
      have HG := hid0 (show inN g 0 6 = true by unfold inN; simp; omega)
      clear g1 g2
      cases rd with
      | false =>
        go_wp2_with (first | ((with_reducible refine wp_getB hR Try.underlying44 ?_ ?_ ?_ ?_); (rfl); (rw [hcl2]; exact sizeOut); (rfl); (try simp only [Act.put])) | ((with_reducible refine wp_putB V0 h1' ?_ ?_ ?_ ?_ ?_); (exact hcl2); (exact sizeOut); (rfl); (rfl); intro w5 hV5 hw5; (have hS5 := hS.var (.cells #[.int .i64 0, .int .i64 0, .int .i64 0, .int .i64 0, .int .i64 0, .string ⟨#[]⟩, .slice none 0 0, .string ⟨#[]⟩, .int .i64 0] 44) xs); (rw [← hw5.out] at hS5); clear hw5; (have r0 := hV5.cell 0 H0.out); (have RC := HRC.out w5 _ hV5.at_); simp only [Act.put]) | ((with_reducible refine wp_getG ?_ RC Try.underlying34 ?_ ?_ ?_ ?_); (rfl); (rfl); (rw [hce]; exact sizeX); (rfl); (try simp only [Act.put])) | (go_at_call 42; ((with_reducible refine (CR.out _ hS5.b).mono ?_); rintro e w6 ⟨⟨ra, rc, rfl, hL6⟩, hb⟩; (have hV5 := hV5.below hb); (have hS5 := hS5.below' hb); clear hb)) | (go_at_call 40; ((with_reducible refine (CL.out _ _ _ hL6).mono ?_); rintro e w8 ⟨rfl, hw8⟩; rw [hw8])) | fail)
        go_ret
        exact ⟨ret_bool (by rw [← hbase.out, hbad.out (by rw [HFX.out, HG.out]; rfl)]), hS5.b⟩
      | true =>
      cases gg with
      | false =>
        go_wp2_with (first | ((with_reducible refine wp_getB hR Try.underlying44 ?_ ?_ ?_ ?_); (rfl); (rw [hcl2]; exact sizeOut); (rfl); (try simp only [Act.put])) | ((with_reducible refine wp_putB V0 h1' ?_ ?_ ?_ ?_ ?_); (exact hcl2); (exact sizeOut); (rfl); (rfl); intro w5 hV5 hw5; (have hS5 := hS.var (.cells #[.int .i64 0, .int .i64 0, .int .i64 0, .int .i64 0, .int .i64 0, .string ⟨#[]⟩, .slice none 0 0, .string ⟨#[]⟩, .int .i64 0] 44) xs); (rw [← hw5.out] at hS5); clear hw5; (have r0 := hV5.cell 0 H0.out); (have RC := HRC.out w5 _ hV5.at_); simp only [Act.put]) | ((with_reducible refine wp_getG ?_ RC Try.underlying34 ?_ ?_ ?_ ?_); (rfl); (rfl); (rw [hce]; exact sizeX); (rfl); (try simp only [Act.put])) | (go_at_call 42; ((with_reducible refine (CR.out _ hS5.b).mono ?_); rintro e w6 ⟨⟨ra, rc, rfl, hL6⟩, hb⟩; (have hV5 := hV5.below hb); (have hS5 := hS5.below' hb); clear hb)) | (go_at_call 40; ((with_reducible refine (CL.out _ _ _ hL6).mono ?_); rintro e w8 ⟨rfl, hw8⟩; rw [hw8])) | ((with_reducible refine wp_getB hS5.v.at_ Try.underlying40 ?_ ?_ ?_ ?_); (rfl); (rw [hcl]; exact sizePx); (rfl); (try simp only [Act.put])) | (go_at_call 11; ((with_reducible refine (CGr.out _ hS5.b).mono ?_); rintro e w9 ⟨rfl, hb⟩; (have hV5 := hV5.below hb); (have hS5 := hS5.below' hb); clear hb; (have r0 := hV5.cell 0 H0.out); (have r1 := hV5.cell 1 H1.out); (have r2 := hV5.cell 2 H2.out); (have r18 := hS5.v.cell 18 H18.out))) | fail)
        exact ⟨⟨i + 1, by omega, by go_num, hid0 (hnext.out (by rw [HFX.out, HG.out]; rfl)), hS5⟩, by simp [intOf]; omega⟩
      | true =>
      by_cases hg0 : g = 0
      · subst hg0
        by_cases hk : kd = 1
        · subst hk
          cases rn with
          | false =>
            go_wp2_with (first | ((with_reducible refine wp_getB hR Try.underlying44 ?_ ?_ ?_ ?_); (rfl); (rw [hcl2]; exact sizeOut); (rfl); (try simp only [Act.put])) | ((with_reducible refine wp_putB V0 h1' ?_ ?_ ?_ ?_ ?_); (exact hcl2); (exact sizeOut); (rfl); (rfl); intro w5 hV5 hw5; (have hS5 := hS.var (.cells #[.int .i64 0, .int .i64 0, .int .i64 0, .int .i64 0, .int .i64 0, .string ⟨#[]⟩, .slice none 0 0, .string ⟨#[]⟩, .int .i64 0] 44) xs); (rw [← hw5.out] at hS5); clear hw5; (have r0 := hV5.cell 0 H0.out); (have RC := HRC.out w5 _ hV5.at_); simp only [Act.put]) | ((with_reducible refine wp_getG ?_ RC Try.underlying34 ?_ ?_ ?_ ?_); (rfl); (rfl); (rw [hce]; exact sizeX); (rfl); (try simp only [Act.put])) | (go_at_call 42; ((with_reducible refine (CR.out _ hS5.b).mono ?_); rintro e w6 ⟨⟨ra, rc, rfl, hL6⟩, hb⟩; (have hV5 := hV5.below hb); (have hS5 := hS5.below' hb); clear hb)) | (go_at_call 40; ((with_reducible refine (CL.out _ _ _ hL6).mono ?_); rintro e w8 ⟨rfl, hw8⟩; rw [hw8])) | ((with_reducible refine wp_getB hS5.v.at_ Try.underlying40 ?_ ?_ ?_ ?_); (rfl); (rw [hcl]; exact sizePx); (rfl); (try simp only [Act.put])) | (go_at_call 11; ((with_reducible refine (CGr.out _ hS5.b).mono ?_); rintro e w9 ⟨rfl, hb⟩; (have hV5 := hV5.below hb); (have hS5 := hS5.below' hb); clear hb; (have r0 := hV5.cell 0 H0.out); (have r1 := hV5.cell 1 H1.out); (have r2 := hV5.cell 2 H2.out); (have r18 := hS5.v.cell 18 H18.out))) | (go_at_call 43; ((with_reducible refine (CIn.out _ hS5.b).mono ?_); rintro e wa ⟨rfl, hwa⟩; rw [hwa])) | fail)
            go_ret
            exact ⟨ret_bool (by rw [← hbase.out, hbad.out (by rw [HFX.out, HG.out]; rfl)]), hS5.b⟩
          | true =>
            go_wp2_with (first | ((with_reducible refine wp_getB hR Try.underlying44 ?_ ?_ ?_ ?_); (rfl); (rw [hcl2]; exact sizeOut); (rfl); (try simp only [Act.put])) | ((with_reducible refine wp_putB V0 h1' ?_ ?_ ?_ ?_ ?_); (exact hcl2); (exact sizeOut); (rfl); (rfl); intro w5 hV5 hw5; (have hS5 := hS.var (.cells #[.int .i64 0, .int .i64 0, .int .i64 0, .int .i64 0, .int .i64 0, .string ⟨#[]⟩, .slice none 0 0, .string ⟨#[]⟩, .int .i64 0] 44) xs); (rw [← hw5.out] at hS5); clear hw5; (have r0 := hV5.cell 0 H0.out); (have RC := HRC.out w5 _ hV5.at_); simp only [Act.put]) | ((with_reducible refine wp_getG ?_ RC Try.underlying34 ?_ ?_ ?_ ?_); (rfl); (rfl); (rw [hce]; exact sizeX); (rfl); (try simp only [Act.put])) | (go_at_call 42; ((with_reducible refine (CR.out _ hS5.b).mono ?_); rintro e w6 ⟨⟨ra, rc, rfl, hL6⟩, hb⟩; (have hV5 := hV5.below hb); (have hS5 := hS5.below' hb); clear hb)) | (go_at_call 40; ((with_reducible refine (CL.out _ _ _ hL6).mono ?_); rintro e w8 ⟨rfl, hw8⟩; rw [hw8])) | ((with_reducible refine wp_getB hS5.v.at_ Try.underlying40 ?_ ?_ ?_ ?_); (rfl); (rw [hcl]; exact sizePx); (rfl); (try simp only [Act.put])) | (go_at_call 11; ((with_reducible refine (CGr.out _ hS5.b).mono ?_); rintro e w9 ⟨rfl, hb⟩; (have hV5 := hV5.below hb); (have hS5 := hS5.below' hb); clear hb; (have r0 := hV5.cell 0 H0.out); (have r1 := hV5.cell 1 H1.out); (have r2 := hV5.cell 2 H2.out); (have r18 := hS5.v.cell 18 H18.out))) | (go_at_call 43; ((with_reducible refine (CIn.out _ hS5.b).mono ?_); rintro e wa ⟨rfl, hwa⟩; rw [hwa])) | fail)
            exact ⟨⟨i + 1, by omega, by go_num, hid0 (hnext.out (by rw [HFX.out, HG.out]; rfl)), hS5⟩, by simp [intOf]; omega⟩
        · have hne : ¬ kd = 1 := hk
          have HK := hid0 hk
          clear hk
          go_wp2_with (first | ((with_reducible refine wp_getB hR Try.underlying44 ?_ ?_ ?_ ?_); (rfl); (rw [hcl2]; exact sizeOut); (rfl); (try simp only [Act.put])) | ((with_reducible refine wp_putB V0 h1' ?_ ?_ ?_ ?_ ?_); (exact hcl2); (exact sizeOut); (rfl); (rfl); intro w5 hV5 hw5; (have hS5 := hS.var (.cells #[.int .i64 0, .int .i64 0, .int .i64 0, .int .i64 0, .int .i64 0, .string ⟨#[]⟩, .slice none 0 0, .string ⟨#[]⟩, .int .i64 0] 44) xs); (rw [← hw5.out] at hS5); clear hw5; (have r0 := hV5.cell 0 H0.out); (have RC := HRC.out w5 _ hV5.at_); simp only [Act.put]) | ((with_reducible refine wp_getG ?_ RC Try.underlying34 ?_ ?_ ?_ ?_); (rfl); (rfl); (rw [hce]; exact sizeX); (rfl); (try simp only [Act.put])) | (go_at_call 42; ((with_reducible refine (CR.out _ hS5.b).mono ?_); rintro e w6 ⟨⟨ra, rc, rfl, hL6⟩, hb⟩; (have hV5 := hV5.below hb); (have hS5 := hS5.below' hb); clear hb)) | (go_at_call 40; ((with_reducible refine (CL.out _ _ _ hL6).mono ?_); rintro e w8 ⟨rfl, hw8⟩; rw [hw8])) | ((with_reducible refine wp_getB hS5.v.at_ Try.underlying40 ?_ ?_ ?_ ?_); (rfl); (rw [hcl]; exact sizePx); (rfl); (try simp only [Act.put])) | (go_at_call 11; ((with_reducible refine (CGr.out _ hS5.b).mono ?_); rintro e w9 ⟨rfl, hb⟩; (have hV5 := hV5.below hb); (have hS5 := hS5.below' hb); clear hb; (have r0 := hV5.cell 0 H0.out); (have r1 := hV5.cell 1 H1.out); (have r2 := hV5.cell 2 H2.out); (have r18 := hS5.v.cell 18 H18.out))) | fail)
          go_ret
          exact ⟨ret_bool (by rw [← hbase.out, hbad.out (by rw [HFX.out, HG.out]; simp [HK.out])]), hS5.b⟩
      · have hne : decide (g = 0) = false := by simpa using hg0
        have HK := hid0 hg0
        clear hg0
        go_wp2_with (first | ((with_reducible refine wp_getB hR Try.underlying44 ?_ ?_ ?_ ?_); (rfl); (rw [hcl2]; exact sizeOut); (rfl); (try simp only [Act.put])) | ((with_reducible refine wp_putB V0 h1' ?_ ?_ ?_ ?_ ?_); (exact hcl2); (exact sizeOut); (rfl); (rfl); intro w5 hV5 hw5; (have hS5 := hS.var (.cells #[.int .i64 0, .int .i64 0, .int .i64 0, .int .i64 0, .int .i64 0, .string ⟨#[]⟩, .slice none 0 0, .string ⟨#[]⟩, .int .i64 0] 44) xs); (rw [← hw5.out] at hS5); clear hw5; (have r0 := hV5.cell 0 H0.out); (have RC := HRC.out w5 _ hV5.at_); simp only [Act.put]) | ((with_reducible refine wp_getG ?_ RC Try.underlying34 ?_ ?_ ?_ ?_); (rfl); (rfl); (rw [hce]; exact sizeX); (rfl); (try simp only [Act.put])) | (go_at_call 42; ((with_reducible refine (CR.out _ hS5.b).mono ?_); rintro e w6 ⟨⟨ra, rc, rfl, hL6⟩, hb⟩; (have hV5 := hV5.below hb); (have hS5 := hS5.below' hb); clear hb)) | (go_at_call 40; ((with_reducible refine (CL.out _ _ _ hL6).mono ?_); rintro e w8 ⟨rfl, hw8⟩; rw [hw8])) | ((with_reducible refine wp_getB hS5.v.at_ Try.underlying40 ?_ ?_ ?_ ?_); (rfl); (rw [hcl]; exact sizePx); (rfl); (try simp only [Act.put])) | (go_at_call 11; ((with_reducible refine (CGr.out _ hS5.b).mono ?_); rintro e w9 ⟨rfl, hb⟩; (have hV5 := hV5.below hb); (have hS5 := hS5.below' hb); clear hb; (have r0 := hV5.cell 0 H0.out); (have r1 := hV5.cell 1 H1.out); (have r2 := hV5.cell 2 H2.out); (have r18 := hS5.v.cell 18 H18.out))) | fail)
        exact ⟨⟨i + 1, by omega, by go_num, hid0 (hnext.out (by rw [HFX.out, HG.out]; simp [HK.out])), hS5⟩, by simp [intOf]; omega⟩
    · have hie : ¬ (i : Int) < m := by omega
      rw [List.take_of_length_le (by rw [HM.out]; omega)] at hO
      go_wp2
      go_ret
      exact ⟨ret_bool (by rw [← hbase.out, hO.out]), hS.b⟩
end Go.Proofs.Ytfdkajefcplfjaa
