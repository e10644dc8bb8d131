/- Several of my texts laid together, each as it was: Xf, Xi, Yj. Conditions: each names its own. -/
import Derived.Test.YtfdkajefcplfjaaB4
import Derived.Test.YtfdkajefcplfjaaB5
import Derived.Test.YtfdkajefcplfjaaB3
import Derived.Maps.AppendAt
/- Cost: the contract of the call, in whatever memory. Conditions: the plan's and the names' cells are known. -/
namespace Go.Proofs.Ytfdkajefcplfjaa
open Go.RowKit

structure SPlan (w0 : World) (vb : Nat) (us : List Value) (w : World) : Prop where
  v : VarB w vb us
  b : Below w0.heap.size w0 w
theorem SPlan.below {w0 : World} {vb : Nat} {us : List Value} {w w' : World} (h : SPlan w0 vb us w) (hb : Below w.heap.size w w') : SPlan w0 vb us w' := ⟨h.v.below hb, below_through hb h.b.size h.b⟩
theorem sizePlan : (Try.prog.info? 24).map (·.size) = some 1 := by kernel_rfl
end Go.Proofs.Ytfdkajefcplfjaa

/- Whether each out without an aggregate is the same in all of a group. Conditions: the part's lists are known. -/
namespace Go.Proofs.Ytfdkajefcplfjaa
open Go.RowKit

theorem SPlan.var {w0 : World} {vb : Nat} {us : List Value} {w : World} (h : SPlan w0 vb us w) (o : Obj) (vs : List Value) : SPlan w0 vb us ((w.alloc o).setCells w.heap.size 0 vs) :=
  ⟨(h.v.alloc o).other vs (by have := h.v.lt; omega), below_setCells vs 0 (h.b.alloc h.b.size o) h.b.size⟩
/-- What is told that was nothing yet. -/
def zOx : List Value := [.int .i64 0, .int .i64 0, .int .i64 0, .int .i64 0, .int .i64 0, .string ⟨#[]⟩, .slice none 0 0, .string ⟨#[]⟩, .int .i64 0]
theorem Ox.c1 (o : Ox) : o.cells[1]? = some (.int .i64 o.e.kind) := by
  obtain ⟨g, ⟨k, a, v, p, c, ys⟩, nm, ty⟩ := o
  rfl
theorem Ox.c2 (o : Ox) : o.cells[2]? = some (.int .i64 o.e.at) := by
  obtain ⟨g, ⟨k, a, v, p, c, ys⟩, nm, ty⟩ := o
  rfl
def setO (p : Px) (o : Ox) : Bool := o.g != 0 || (decide (o.e.kind = 1) && p.gs.contains o.e.at)
theorem settled_all (p : Px) : settledB p = p.os.all (setO p) := rfl
set_option maxRecDepth 100000 in
set_option maxHeartbeats 4000000 in
theorem settled_any {n : Nat} (p : Px) (w : World) (h : PxOk w n p) :
    Calls Try.prog 57 #[p.val] w fun e w' => e = .returned (.bool (settledB p)) ∧ Below w.heap.size w w' := by
  obtain ⟨V, hB0⟩ := part_box p w
  have q19 := V.cell 19 p.c19
  have hS0 : SPlan w w.heap.size p.cells _ := ⟨V, hB0⟩
  have HO := hid0 h.outs
  have HG := hid0 h.gs
  have hfew := h.fewO
  have H18 := hid0 p.c18
  rw [settled_all]
  have hcon : ∀ o : Ox, setO p o = (o.g != 0 || (decide (o.e.kind = 1) && p.gs.contains o.e.at)) := fun _ => rfl
  generalize setO p = f at hcon ⊢
  have HC := hid0 hcon
  clear h V hcon
  unfold Px.val
  generalize p.cells = us at *
  generalize p.gs = gs at *
  generalize p.gp = gp at *
  generalize p.gc = gc at *
  generalize p.os = os at *
  generalize p.op = op at *
  generalize p.oc = oc at *
  obtain ⟨m, hm⟩ : ∃ m, os.length = m := ⟨_, rfl⟩
  obtain ⟨R, hr⟩ : ∃ R, os.all f = R := ⟨_, rfl⟩
  have HM := hid0 hm
  have HR := hid0 hr
  rw [hm] at q19 hfew
  rw [hr]
  clear hm hr
  obtain ⟨mg, hmg⟩ : ∃ mg, gs.length = mg := ⟨_, rfl⟩
  have HMG := hid0 hmg
  rw [hmg] at H18
  clear hmg
  go_enter Try.func57, Try.ntmps57
  go_wp2
  clear q19
  go_loopw [8] (fun iv wr => ∃ i : Nat, i ≤ m ∧ iv = .int .i64 i ∧ Hid ((os.take i).all f = true) ∧ SPlan w w.heap.size us wr) (fun iv _ => m - (intOf iv).toNat)
  case atStart => exact ⟨0, Nat.zero_le _, rfl, hid0 rfl, hS0⟩
  case round =>
    obtain ⟨i, hi, rfl, hO, hS⟩ := hrel
    clear hS0 hB0
    have hsz := hS.b.size
    have hvl := hS.v.lt
    by_cases hlt : i < m
    · have hlt1 : i < os.length := by rw [HM.out]; exact hlt
      obtain ⟨b, o, rfl, hb, hR⟩ := (HO.out.later hS.b).at_ i hlt1
      have hbad := hid0 (fun hf => all_bad (f := f) hlt1 hf)
      have hnext := hid0 (fun hf => all_take hlt1 hO.out hf)
      have hfx := HC.out os[i]
      generalize os[i] = x at hR hbad hnext hfx
      have CA := hid0 (fun W => aggregates_any x W)
      have CC : Hid (∀ W, Below w.heap.size w W → Calls Try.prog 68 #[.slice gp mg gc, .int .i64 x.e.at] W fun e w' => e = .returned (.bool (gs.contains x.e.at)) ∧ w' = W) :=
        hid0 (fun W hW => by have := contains_int gp gc gs x.e.at W (HG.out.at_.later hW) HG.out.few; rw [HMG.out] at this; exact this)
      have hcl := x.cells_len
      have h1' := x.one
      have H1 := hid0 x.c1
      have H2 := hid0 x.c2
      have V0 : VarB (wr.alloc (Obj.cells #[.int .i64 0, .int .i64 0, .int .i64 0, .int .i64 0, .int .i64 0, .string ⟨#[]⟩, .slice none 0 0, .string ⟨#[]⟩, .int .i64 0] 44)) wr.heap.size zOx := VarB.new wr zOx 44
      generalize x.cells = xs at hR hcl h1' H1 H2 CA
      generalize gs.contains x.e.at = rc at CC hfx
      generalize x.e.at = at_ at CC H2
      generalize x.e.kind = kd at H1 hfx
      generalize (x.g != 0) = ga at CA hfx
      generalize f x = fx at hfx hbad hnext
      have HFX := hid0 hfx
      clear hfx
      cases ga with
      | true =>
        go_wp2_with (first | ((with_reducible refine wp_getB hR Try.underlying44 ?_ ?_ ?_ ?_); (rfl); (rw [hcl]; exact sizeOut); (rfl); simp only [Act.put]) | ((with_reducible refine wp_putB V0 h1' ?_ ?_ ?_ ?_ ?_); (exact hcl); (exact sizeOut); (rfl); (rfl); intro w5 hV5 hw5; (have hS5 := hS.var (.cells #[.int .i64 0, .int .i64 0, .int .i64 0, .int .i64 0, .int .i64 0, .string ⟨#[]⟩, .slice none 0 0, .string ⟨#[]⟩, .int .i64 0] 44) xs); (rw [← hw5.out] at hS5); clear hw5; simp only [Act.put]) | ((with_reducible refine wp_getB hV5.at_ Try.underlying44 ?_ ?_ ?_ ?_); (rfl); (rw [hcl]; exact sizeOut); (rfl); simp only [Act.put]) | (go_at_call 33; refine (CA.out _).mono ?_; rintro e w6 ⟨rfl, hb6⟩; (have hV6 := hV5.below hb6); (have hS6 := hS5.below hb6); clear hV5 hS5 hb6; (have r1 := hV6.cell 1 H1.out); (have r2 := hV6.cell 2 H2.out); (have r18 := hS6.v.cell 18 H18.out); (have hS6b := hS6.b)) | fail)
        exact ⟨⟨i + 1, by omega, by go_num, hid0 (hnext.out (by rw [HFX.out]; rfl)), hS6⟩, by simp [intOf]; omega⟩
      | false =>
        by_cases hkd : kd = 1
        · subst hkd
          cases rc with
          | true =>
            go_wp2_with (first | ((with_reducible refine wp_getB hR Try.underlying44 ?_ ?_ ?_ ?_); (rfl); (rw [hcl]; exact sizeOut); (rfl); simp only [Act.put]) | ((with_reducible refine wp_putB V0 h1' ?_ ?_ ?_ ?_ ?_); (exact hcl); (exact sizeOut); (rfl); (rfl); intro w5 hV5 hw5; (have hS5 := hS.var (.cells #[.int .i64 0, .int .i64 0, .int .i64 0, .int .i64 0, .int .i64 0, .string ⟨#[]⟩, .slice none 0 0, .string ⟨#[]⟩, .int .i64 0] 44) xs); (rw [← hw5.out] at hS5); clear hw5; simp only [Act.put]) | ((with_reducible refine wp_getB hV5.at_ Try.underlying44 ?_ ?_ ?_ ?_); (rfl); (rw [hcl]; exact sizeOut); (rfl); simp only [Act.put]) | (go_at_call 33; refine (CA.out _).mono ?_; rintro e w6 ⟨rfl, hb6⟩; (have hV6 := hV5.below hb6); (have hS6 := hS5.below hb6); clear hV5 hS5 hb6; (have r1 := hV6.cell 1 H1.out); (have r2 := hV6.cell 2 H2.out); (have r18 := hS6.v.cell 18 H18.out); (have hS6b := hS6.b)) | (go_at_call 68; go_must (refine (CC.out _ hS6.b).mono ?_; rintro e w7 ⟨rfl, hw⟩; rw [hw])) | fail)
            exact ⟨⟨i + 1, by omega, by go_num, hid0 (hnext.out (by rw [HFX.out]; rfl)), hS6⟩, by simp [intOf]; omega⟩
          | false =>
            go_wp2_with (first | ((with_reducible refine wp_getB hR Try.underlying44 ?_ ?_ ?_ ?_); (rfl); (rw [hcl]; exact sizeOut); (rfl); simp only [Act.put]) | ((with_reducible refine wp_putB V0 h1' ?_ ?_ ?_ ?_ ?_); (exact hcl); (exact sizeOut); (rfl); (rfl); intro w5 hV5 hw5; (have hS5 := hS.var (.cells #[.int .i64 0, .int .i64 0, .int .i64 0, .int .i64 0, .int .i64 0, .string ⟨#[]⟩, .slice none 0 0, .string ⟨#[]⟩, .int .i64 0] 44) xs); (rw [← hw5.out] at hS5); clear hw5; simp only [Act.put]) | ((with_reducible refine wp_getB hV5.at_ Try.underlying44 ?_ ?_ ?_ ?_); (rfl); (rw [hcl]; exact sizeOut); (rfl); simp only [Act.put]) | (go_at_call 33; refine (CA.out _).mono ?_; rintro e w6 ⟨rfl, hb6⟩; (have hV6 := hV5.below hb6); (have hS6 := hS5.below hb6); clear hV5 hS5 hb6; (have r1 := hV6.cell 1 H1.out); (have r2 := hV6.cell 2 H2.out); (have r18 := hS6.v.cell 18 H18.out); (have hS6b := hS6.b)) | (go_at_call 68; go_must (refine (CC.out _ hS6.b).mono ?_; rintro e w7 ⟨rfl, hw⟩; rw [hw])) | fail)
            go_ret
            exact ⟨ret_bool (by rw [← HR.out, hbad.out (by rw [HFX.out]; rfl)]), hS6.b⟩
        · have hne : ¬ kd = 1 := hkd
          have HN := hid0 hkd
          go_wp2_with (first | ((with_reducible refine wp_getB hR Try.underlying44 ?_ ?_ ?_ ?_); (rfl); (rw [hcl]; exact sizeOut); (rfl); simp only [Act.put]) | ((with_reducible refine wp_putB V0 h1' ?_ ?_ ?_ ?_ ?_); (exact hcl); (exact sizeOut); (rfl); (rfl); intro w5 hV5 hw5; (have hS5 := hS.var (.cells #[.int .i64 0, .int .i64 0, .int .i64 0, .int .i64 0, .int .i64 0, .string ⟨#[]⟩, .slice none 0 0, .string ⟨#[]⟩, .int .i64 0] 44) xs); (rw [← hw5.out] at hS5); clear hw5; simp only [Act.put]) | ((with_reducible refine wp_getB hV5.at_ Try.underlying44 ?_ ?_ ?_ ?_); (rfl); (rw [hcl]; exact sizeOut); (rfl); simp only [Act.put]) | (go_at_call 33; refine (CA.out _).mono ?_; rintro e w6 ⟨rfl, hb6⟩; (have hV6 := hV5.below hb6); (have hS6 := hS5.below hb6); clear hV5 hS5 hb6; (have r1 := hV6.cell 1 H1.out); (have r2 := hV6.cell 2 H2.out); (have r18 := hS6.v.cell 18 H18.out); (have hS6b := hS6.b)) | fail)
          go_ret
          exact ⟨ret_bool (by rw [← HR.out, hbad.out (by rw [HFX.out]; simp [HN.out])]), hS6.b⟩
    · have hie : ¬ (i : Int) < m := by omega
      rw [List.take_of_length_le (by rw [HM.out]; omega)] at hO
      go_wp2
      go_ret
      exact ⟨ret_bool (by rw [← HR.out, hO.out]), hS.b⟩
end Go.Proofs.Ytfdkajefcplfjaa

/- The project's read: the places of an expression's columns, put behind those that are found: a contract of the call, in whatever memory. Conditions: the expression's cells are known, what is found lies in a row of its own, and is not too long. -/
namespace Go.Proofs.Ytfdkajefcplfjaa
open Go.RowKit

/-- A row of its own has grown: what else was there is as it was. -/
structure Grw (w : World) (v : Value) (w' : World) (v' : Value) : Prop where
  g : w.grownBy w' v.ownBlock
  o : v'.ownBlock = v.ownBlock ∨ ∀ k, v'.ownBlock = some k → w.heap.size ≤ k
theorem Grw.refl (w : World) (v : Value) : Grw w v w v := ⟨⟨rfl, rfl, rfl, Nat.le_refl _, fun _ _ _ => rfl⟩, .inl rfl⟩
theorem Grw.trans {w w1 w2 : World} {v v1 v2 : Value} (h : Grw w v w1 v1) (k : Grw w1 v1 w2 v2) : Grw w v w2 v2 := by
  refine ⟨⟨k.g.os.trans h.g.os, k.g.tape.trans h.g.tape, k.g.output.trans h.g.output, Nat.le_trans h.g.size k.g.size, fun i hi hn => ?_⟩, ?_⟩
  · have h1 := h.g.block i hi hn
    refine (k.g.block i (Nat.lt_of_lt_of_le hi h.g.size) ?_).trans h1
    rcases h.o with e | e
    · rw [e]; exact hn
    · intro e2; have := e i e2.symm; omega
  · rcases k.o with e | e
    · rw [e]; exact h.o
    · exact .inr fun i hi => Nat.le_trans h.g.size (e i hi)
theorem Grw.alloc {w w1 : World} {v v1 : Value} (h : Grw w v w1 v1) (o : Obj) : Grw w v (w1.alloc o) v1 :=
  h.trans ⟨World.grownBy_alloc w1 o _, .inl rfl⟩
theorem Grw.drew {w w1 : World} {v v1 : Value} (h : Grw w v w1 v1) : Grw w v w1.drew v1 := ⟨⟨h.g.os, h.g.tape, h.g.output, h.g.size, h.g.block⟩, h.o⟩
theorem Grw.app {w w1 w2 : World} {v v1 v2 : Value} (h : Grw w v w1 v1) (g : w1.grownBy w2 v1.ownBlock) (o : v2.ownBlock = v1.ownBlock ∨ v2.ownBlock = some w1.heap.size) : Grw w v w2 v2 :=
  h.trans ⟨g, o.imp_right fun e k hk => by rw [e] at hk; cases hk; exact Nat.le_refl _⟩
theorem Grw.below {n : Nat} {x w w' : World} {v v' : Value} (h : Grw w v w' v') (hb : Below n x w) (hn : n ≤ w.heap.size) (hv : ∀ k, v.ownBlock = some k → n ≤ k) : Below n x w' := hb.grown h.g hn hv
theorem Grw.var {w w' : World} {v v' : Value} {b : Nat} {us : List Value} (h : Grw w v w' v') (hV : VarB w b us) (hb : v.ownBlock ≠ some b) : VarB w' b us := hV.keep (h.g.block b hV.lt (fun e => hb e.symm)) h.g.size
/-- A row of numbers of its own. -/
structure IRow (w0 w : World) (v : Value) (F : List Int) : Prop where
  own : w.ownsRow w0.heap.size 3 1 v F.length (ints F)
  b : Below w0.heap.size w0 w
theorem IRow.lo {w0 w : World} {v : Value} {F : List Int} (h : IRow w0 w v F) : ∀ k, v.ownBlock = some k → w0.heap.size ≤ k := fun k hk => (h.own.lt k hk).1
theorem IRow.hi {w0 w : World} {v : Value} {F : List Int} (h : IRow w0 w v F) : ∀ k, v.ownBlock = some k → k < w.heap.size := fun k hk => (h.own.lt k hk).2
theorem IRow.nil (w : World) : IRow w w (.slice none 0 0) [] := ⟨World.ownsRow_nil _ _ _ _, Below.refl _ _⟩
theorem IRow.alloc {w0 w : World} {v : Value} {F : List Int} (h : IRow w0 w v F) (o : Obj) : IRow w0 (w.alloc o) v F := ⟨h.own.alloc o, h.b.alloc h.b.size o⟩
theorem IRow.drew {w0 w : World} {v : Value} {F : List Int} (h : IRow w0 w v F) : IRow w0 w.drew v F := ⟨h.own, Below.drew h.b⟩
theorem IRow.below {w0 w w' : World} {v : Value} {F : List Int} (h : IRow w0 w v F) (hb : Below w.heap.size w w') : IRow w0 w' v F := ⟨own_belowY h.own hb, below_through hb h.b.size h.b⟩
theorem IRow.box {w0 w : World} {v : Value} {F : List Int} (h : IRow w0 w v F) : v.ownBlock ≠ some w.heap.size := fun e => by have := h.hi _ e; omega
/-- What a call answers that puts numbers behind those that are there. -/
def RdAns (w0 w : World) (v : Value) (L : List Int) (e : Ending) (w' : World) : Prop := ∃ v', e = .returned v' ∧ IRow w0 w' v' L ∧ Grw w v w' v'
structure RdOk (n : Nat) : Prop where
  out : ∀ (x : Cx) (w0 w : World) (v : Value) (F : List Int), CxAt w0 n x → IRow w0 w v F → F.length + sizeC x ≤ 8000000 → Calls Try.prog 72 #[v, x.val] w (RdAns w0 w v (F ++ rdC x))
structure RdHalf (w0 : World) (x : Cx) (s : Nat) : Prop where
  out : ∀ (w : World) (v : Value) (F : List Int), IRow w0 w v F → F.length + s ≤ 8000000 → Calls Try.prog 72 #[v, x.val] w (RdAns w0 w v (F ++ rdC x))
theorem RdOk.half {n : Nat} (H : RdOk n) {w0 : World} {x : Cx} (hx : CxAt w0 n x) : RdHalf w0 x (sizeC x) := ⟨fun w v F h1 h2 => H.out x w0 w v F hx h1 h2⟩
set_option maxHeartbeats 8000000 in
set_option maxRecDepth 1000000 in
theorem read_one {n : Nat} (IH : RdOk n) (q : Int) (vv : Val) (p : Option Addr) (c : Nat) (ys : List Cx) (w0 w : World) (v : Value) (F : List Int) (hx : CxAt w0 (n + 1) (.mk 1 q vv p c ys)) (hF : IRow w0 w v F) (hs : F.length + sizeC (.mk 1 q vv p c ys) ≤ 8000000) :
    Calls Try.prog 72 #[v, .agg #[.int .i64 1, .int .i64 q, .int .i64 vv.k, .int .i64 vv.n, .string vv.s, .slice p ys.length c]] w (RdAns w0 w v (F ++ rdC (.mk 1 q vv p c ys))) := by
  obtain ⟨i0, hi, hz0, hz1, hz2⟩ := info_parts infoI
  obtain ⟨hk, hA⟩ := hx
  have H : ∀ j (hj : j < ys.length), RdHalf w0 ys[j] (sizeC ys[j]) := fun j hj => IH.half (hA _ (List.getElem_mem hj))
  have HH := hid0 H
  have HK := hid0 hk
  have hroom := hk.room
  rw [sizeC] at hs
  have hF0 := hF.b.size
  clear IH hA H hk
  have HR := hid0 (show F ++ rdC (.mk 1 q vv p c ys) = (F ++ [q]) ++ rdL ys by rw [rdC, if_pos rfl, List.append_assoc])
  have V := VarB.new w [.int .i64 1, .int .i64 q, .int .i64 vv.k, .int .i64 vv.n, .string vv.s, .slice p ys.length c] 34
  have a0 := V.cell 0 rfl
  have a1 := V.cell 1 rfl
  have a2 := V.cell 2 rfl
  have a3 := V.cell 3 rfl
  have a4 := V.cell 4 rfl
  have a5 := V.cell 5 rfl
  have HV := hid0 V
  have HF := hid0 hF
  have hbx := hF.box
  clear V hF
  go_enter Try.func72, Try.ntmps72
  go_wp2_with (at_builtin; refine wpList_append_own_at _ rfl _ _ 29 rfl w0.heap.size 3 i0 (.int .i64 0) 1 8 Try.underlying29 hi hz0 hz1 hz2 rfl (by decide) _ _ _ rfl ((HF.out.own.alloc _).alloc _) ⟨w.heap.size + 1, 0, none⟩ 1 1 [.int .i64 q] rfl rfl ?c1 ?c2 ?c3 ?c4 ?c5 ?_)
  case c1 =>
    intro j u hj
    match j, hj with
    | 0, hj => simp at hj; subst hj; simp [Addr.add]
  case c2 => intro u hu; simp at hu; subst hu; rfl
  case c3 => unfold maxLen; omega
  case c4 => omega
  case c5 => simp; omega
  intro v1 w1 hown' hgrow _ hat
  have hG1 : Grw w v w1 v1 := (((Grw.refl w v).alloc _).alloc _).app hgrow (by simpa using hat)
  have V1 : VarB w1 w.heap.size _ := Grw.var ⟨hgrow, .inl rfl⟩ (HV.out.alloc _) hbx
  have a5 := V1.cell 5 rfl
  rw [← ints_snoc] at hown'
  have hI1 : IRow w0 w1 v1 (F ++ [q]) := ⟨by simpa using hown', hG1.below HF.out.b HF.out.b.size HF.out.lo⟩
  have HI1 := hid0 hI1
  have HG1 := hid0 hG1
  clear hown' hgrow hat hI1 hG1 V1 a0 a1 a2 a3 a4 HV HF
  go_wp2_with fail
  clear a5
  go_loopw [0, 18] (fun u i wr => ∃ k : Nat, k ≤ ys.length ∧ i = .int .i64 k ∧ IRow w0 wr u ((F ++ [q]) ++ rdL (ys.take k)) ∧ Grw w v wr u) (fun _ i _ => ys.length - (intOf i).toNat)
  case atStart => exact ⟨0, Nat.zero_le _, rfl, by simpa [rdL] using HI1.out, HG1.out⟩
  case round =>
    obtain ⟨k, hk, rfl, hI, hG⟩ := hrel
    have hsz := hI.b.size
    by_cases hlt : k < ys.length
    · have H := HH.out k hlt
      have HT := hid0 (rdL_take ys k hlt)
      have hs1 := sizeCL_take ys k hlt
      have hs2 := rdL_len (ys.take k)
      obtain ⟨b, o, rfl, hb, hX⟩ := HK.out.arg k hlt
      generalize hy : ys[k] = t at H hX HT hs1
      clear hy
      obtain ⟨kx, ax, vx, px, cx, yx⟩ := t
      have hb' : b < wr.heap.size := by omega
      have q0 := cell_later hI.b (rng hX 0 rfl)
      have q1 := cell_later hI.b (rng hX 1 rfl)
      have q2 := cell_later hI.b (rng hX 2 rfl)
      have q3 := cell_later hI.b (rng hX 3 rfl)
      have q4 := cell_later hI.b (rng hX 4 rfl)
      have q5 := cell_later hI.b (rng hX 5 rfl)
      simp only [Nat.add_zero] at q0
      have HI := hid0 hI
      have HG := hid0 hG
      clear hX hI hG
      go_wp2_with fail
      go_at_call 72
      refine (H.out _ _ _ (HI.out.alloc _) (by simp only [List.length_append, List.length_cons, List.length_nil]; omega)).mono ?_
      rintro e w3 ⟨v3, rfl, hI3, hG3⟩
      rw [List.append_assoc, ← HT.out] at hI3
      have hG4 := (HG.out.alloc _).trans hG3
      have HI3 := hid0 hI3
      have HG4 := hid0 hG4
      clear hI3 hG3 hG4 HI HG q0 q1 q2 q3 q4 q5
      go_wp2_with fail
      exact ⟨⟨k + 1, by omega, by go_num, HI3.out, HG4.out⟩, by simp [intOf]; omega⟩
    · obtain rfl : k = ys.length := by omega
      rw [List.take_length] at hI
      have HI := hid0 hI
      have HG := hid0 hG
      clear hI hG
      go_wp2_with fail
      go_ret
      exact ⟨_, rfl, by rw [HR.out]; exact HI.out, HG.out⟩
set_option maxHeartbeats 8000000 in
set_option maxRecDepth 1000000 in
theorem read_other {n : Nat} (IH : RdOk n) (k : Int) (q : Int) (vv : Val) (p : Option Addr) (c : Nat) (ys : List Cx) (w0 w : World) (v : Value) (F : List Int) (hx : CxAt w0 (n + 1) (.mk k q vv p c ys)) (hF : IRow w0 w v F) (hs : F.length + sizeC (.mk k q vv p c ys) ≤ 8000000) (hk1 : k ≠ 1) :
    Calls Try.prog 72 #[v, .agg #[.int .i64 k, .int .i64 q, .int .i64 vv.k, .int .i64 vv.n, .string vv.s, .slice p ys.length c]] w (RdAns w0 w v (F ++ rdC (.mk k q vv p c ys))) := by
  obtain ⟨i0, hi, hz0, hz1, hz2⟩ := info_parts infoI
  obtain ⟨hk, hA⟩ := hx
  have H : ∀ j (hj : j < ys.length), RdHalf w0 ys[j] (sizeC ys[j]) := fun j hj => IH.half (hA _ (List.getElem_mem hj))
  have HH := hid0 H
  have HK := hid0 hk
  have hroom := hk.room
  rw [sizeC] at hs
  have hF0 := hF.b.size
  clear IH hA H hk
  have HR := hid0 (show F ++ rdC (.mk k q vv p c ys) = F ++ rdL ys by rw [rdC, if_neg hk1]; rfl)
  have ht : (k == 1) = false := by simpa using hk1
  clear hk1
  have V := VarB.new w [.int .i64 k, .int .i64 q, .int .i64 vv.k, .int .i64 vv.n, .string vv.s, .slice p ys.length c] 34
  have a0 := V.cell 0 rfl
  have a1 := V.cell 1 rfl
  have a2 := V.cell 2 rfl
  have a3 := V.cell 3 rfl
  have a4 := V.cell 4 rfl
  have a5 := V.cell 5 rfl
  have HI1 := hid0 (hF.alloc (.cells #[.int .i64 k, .int .i64 q, .int .i64 vv.k, .int .i64 vv.n, .string vv.s, .slice p ys.length c] 34))
  have HG1 := hid0 ((Grw.refl w v).alloc (.cells #[.int .i64 k, .int .i64 q, .int .i64 vv.k, .int .i64 vv.n, .string vv.s, .slice p ys.length c] 34))
  clear V hF
  go_enter Try.func72, Try.ntmps72
  go_wp2_with fail
  clear a0 a1 a2 a3 a4 a5
  go_loopw [0, 18] (fun u i wr => ∃ k : Nat, k ≤ ys.length ∧ i = .int .i64 k ∧ IRow w0 wr u (F ++ rdL (ys.take k)) ∧ Grw w v wr u) (fun _ i _ => ys.length - (intOf i).toNat)
  case atStart => exact ⟨0, Nat.zero_le _, rfl, by simpa [rdL] using HI1.out, HG1.out⟩
  case round =>
    obtain ⟨k, hk, rfl, hI, hG⟩ := hrel
    have hsz := hI.b.size
    by_cases hlt : k < ys.length
    · have H := HH.out k hlt
      have HT := hid0 (rdL_take ys k hlt)
      have hs1 := sizeCL_take ys k hlt
      have hs2 := rdL_len (ys.take k)
      obtain ⟨b, o, rfl, hb, hX⟩ := HK.out.arg k hlt
      generalize hy : ys[k] = t at H hX HT hs1
      clear hy
      obtain ⟨kx, ax, vx, px, cx, yx⟩ := t
      have hb' : b < wr.heap.size := by omega
      have q0 := cell_later hI.b (rng hX 0 rfl)
      have q1 := cell_later hI.b (rng hX 1 rfl)
      have q2 := cell_later hI.b (rng hX 2 rfl)
      have q3 := cell_later hI.b (rng hX 3 rfl)
      have q4 := cell_later hI.b (rng hX 4 rfl)
      have q5 := cell_later hI.b (rng hX 5 rfl)
      simp only [Nat.add_zero] at q0
      have HI := hid0 hI
      have HG := hid0 hG
      clear hX hI hG
      go_wp2_with fail
      go_at_call 72
      refine (H.out _ _ _ (HI.out.alloc _) (by simp only [List.length_append]; omega)).mono ?_
      rintro e w3 ⟨v3, rfl, hI3, hG3⟩
      rw [List.append_assoc, ← HT.out] at hI3
      have hG4 := (HG.out.alloc _).trans hG3
      have HI3 := hid0 hI3
      have HG4 := hid0 hG4
      clear hI3 hG3 hG4 HI HG q0 q1 q2 q3 q4 q5
      go_wp2_with fail
      exact ⟨⟨k + 1, by omega, by go_num, HI3.out, HG4.out⟩, by simp [intOf]; omega⟩
    · obtain rfl : k = ys.length := by omega
      rw [List.take_length] at hI
      have HI := hid0 hI
      have HG := hid0 hG
      clear hI hG
      go_wp2_with fail
      go_ret
      exact ⟨_, rfl, by rw [HR.out]; exact HI.out, HG.out⟩
theorem read_allY : ∀ n, RdOk n
  | 0 => ⟨fun _ _ _ _ _ h _ _ => h.elim⟩
  | n + 1 => ⟨fun x w0 w v F hx hF hs => by
    obtain ⟨k, q, vv, p, c, ys⟩ := x
    by_cases hk : k = 1
    · subst hk; exact read_one (read_allY n) q vv p c ys w0 w v F hx hF hs
    · exact read_other (read_allY n) k q vv p c ys w0 w v F hx hF hs hk⟩
theorem read_any {n : Nat} {x : Cx} {w0 w : World} {v : Value} {F : List Int} (hx : CxAt w0 n x) (hF : IRow w0 w v F) (hs : F.length + sizeC x ≤ 8000000) : Calls Try.prog 72 #[v, x.val] w (RdAns w0 w v (F ++ rdC x)) := (read_allY n).out x w0 w v F hx hF hs
end Go.Proofs.Ytfdkajefcplfjaa
