/- Both: the project answers copies of the conditions that must all stand, the reference those themselves: contracts of the calls. Conditions: the condition's cells are known, it is not too great. -/
import Derived.Test.YtolcebbpbihnoaaAc
namespace Go.Proofs.Ytolcebbpbihnoaa
open Go.RowKit

theorem flat_len {α : Type} {m : Nat} : ∀ {us : List (List α)}, (∀ u ∈ us, u.length = m) → us.flatten.length = us.length * m
  | [], _ => by simp
  | u :: us, hl => by
    rw [List.flatten_cons, List.length_append, hl u (by simp), flat_len (fun u hu => hl u (by simp [hu])), List.length_cons, Nat.add_mul]; omega
theorem app_rows {w : World} {ops : Array Oper} {rest : List Oper} {o : Oper} {a : Act} {Q : Exit → Act → World → Prop} (hgd : o.guard = none) (s x : Operand) (t e : TypeId)
    (ho : o.op = .call { callee := .builtin .append, args := #[s, x], argTypes := #[t, t] }) (i : TypeInfo) (z : Value) (size bytes : Nat) (ht : Try.prog.underlying t = some (.slice e)) (hi : Try.prog.info? e = some i) (hz : i.zero = some z) (hsize : i.size = size) (hby : i.bytes = bytes) (hzs : z.cells.size = size) (hsz : 0 < size)
    {v : Value} (hs : a.eval s = v) (base n : Nat) (xs : List Value) (hown : w.ownsRow base e size v n xs)
    (ad : Option Addr) (m c : Nat) (us : List (List Value)) (hx : a.eval x = .slice ad m c) (hl : us.length = m) (hus : ∀ u ∈ us, u.length = size) (hR : RowC w size ad us) (h1 : ∀ u ∈ us, ∀ v ∈ u, v.oneCell' = true)
    (h63 : n + m ≤ maxLen) (hbytes : (n + m) * bytes ≤ 140737488355328) (hbase : base ≤ w.heap.size)
    (h : ∀ v' w', w'.ownsRow base e size v' (n + m) (xs ++ us.flatten) → w.grownBy w' v.ownBlock → wpList Try.prog ops Q rest (a.put o.dst v') w') : wpList Try.prog ops Q (o :: rest) a w := by
  have hfl : us.flatten.length = m * size := by
    rw [flat_len hus, hl]
  cases ad with
  | some ad =>
    refine app_at hgd s x t e ho i z size bytes ht hi hz hsize hby hzs hsz hs base n xs hown ad m c us.flatten hx hfl (fun j u hj => ?_) (fun u hu => ?_) h63 hbytes hbase (fun v' w' h2 h3 _ => h v' w' h2 h3)
    · have hjl : j < m * size := by rw [← hfl]; exact (List.getElem?_eq_some_iff.1 hj).1
      have hlt : j / size < us.length := by rw [hl]; exact Nat.div_lt_of_lt_mul (by rwa [Nat.mul_comm] at hjl)
      have hmod : j % size < size := Nat.mod_lt _ hsz
      have hdm : j / size * size + j % size = j := Nat.div_add_mod' j size
      obtain ⟨b, off, eb, _, hr⟩ := hR.out (j / size) hlt
      cases eb
      have hg := flat_get hus (j / size) hlt (j % size) hmod
      rw [hdm, hj] at hg
      have := hr (j % size) u hg.symm
      rw [WideShapes.add_plain]
      rwa [Nat.add_assoc, hdm] at this
    · obtain ⟨l, hl1, hl2⟩ := List.mem_flatten.1 hu
      exact h1 l hl1 u hl2
  | none =>
    have hnil : us = [] := by
      cases us with
      | nil => rfl
      | cons u us => obtain ⟨_, _, e, _⟩ := hR.out 0 (by simp); cases e
    subst hnil
    obtain rfl : m = 0 := by simpa using hl.symm
    refine wpList_plain hgd fun K hK => ?_
    obtain ⟨b, c', hv, hc'⟩ := own_shape11 hown
    have hr := run_append_nil11 (P := Try.prog) w t o.type e i ht hi b n c' c hc'
    rw [← hv] at hr
    unfold Oper.wp execOp
    simp only [ho, resolve, invoke, builtin, Sem.run_bind, Sem.run_pure, Result.andThen_ok, List.map_toArray, List.map_cons, List.map_nil, hs, hx, hr]
    exact hK _ _ (h v w (by simpa using hown) ⟨rfl, rfl, rfl, Nat.le_refl _, fun _ _ _ => rfl⟩)
/-- A row of conditions is answered. -/
def BoAns (w : World) (N : Nat) (L : List Nt) (e : Ending) (w' : World) : Prop := (∃ (a : Option Addr) (c : Nat) (zs : List Tx), e = .returned (.slice a zs.length c) ∧ RowC w' 15 a (zs.map Tx.cells) ∧ (∀ z ∈ zs, TxAt w' N z) ∧ datTL zs = L) ∧ Below w.heap.size w w'
set_option maxHeartbeats 16000000 in
set_option maxRecDepth 1000000 in
theorem both_any {n : Nat} {t : Tx} {w : World} (h : TxAt w n t) (hs : sizeT t ≤ 2000000) : Calls Try.prog 18 #[t.val] w (BoAns w n ((boT t).map datT)) := by
  have HB : ∀ W, Below w.heap.size w W → Calls Try.prog 43 #[.slice none 0 0, t.val] W (ApAns W n W (.slice none 0 0) ([] ++ (boT t).map datT)) := fun W hb => (apart_all (N := n) n (Nat.le_refl n)).out t W W _ [] (h.later hb) (TRow.nil W n) (by simpa using hs)
  generalize (boT t).map datT = L at HB
  have HB := hid0 HB
  clear h hs
  obtain ⟨k, op, ⟨kl, al, vl, pl, cl, yl⟩, ⟨kr, ar, vr, pr, cr, yr⟩, p, c, ys⟩ := t
  have V := VarB.new w [.int .i64 k, .int .i64 op, .int .i64 kl, .int .i64 al, .int .i64 vl.k, .int .i64 vl.n, .string vl.s, .slice pl yl.length cl, .int .i64 kr, .int .i64 ar, .int .i64 vr.k, .int .i64 vr.n, .string vr.s, .slice pr yr.length cr, .slice p ys.length c] 38
  have a0 := V.cell 0 rfl
  have a1 := V.cell 1 rfl
  have a2 := V.cell 2 rfl
  have a3 := V.cell 3 rfl
  have a4 := V.cell 4 rfl
  have a5 := V.cell 5 rfl
  have a6 := V.cell 6 rfl
  have a7 := V.cell 7 rfl
  have a8 := V.cell 8 rfl
  have a9 := V.cell 9 rfl
  have a10 := V.cell 10 rfl
  have a11 := V.cell 11 rfl
  have a12 := V.cell 12 rfl
  have a13 := V.cell 13 rfl
  have a14 := V.cell 14 rfl
  clear V
  show Calls Try.prog 18 #[.agg #[.int .i64 k, .int .i64 op, .int .i64 kl, .int .i64 al, .int .i64 vl.k, .int .i64 vl.n, .string vl.s, .slice pl yl.length cl, .int .i64 kr, .int .i64 ar, .int .i64 vr.k, .int .i64 vr.n, .string vr.s, .slice pr yr.length cr, .slice p ys.length c]] w _
  go_enter Try.func18, Try.ntmps18
  go_wp2_with fail
  go_at_call 43
  refine (HB.out _ ((Below.refl _ _).alloc (Nat.le_refl _) _)).mono ?_
  rintro e w2 ⟨v, rfl, ⟨zs, I⟩, _⟩
  have hb := I.b
  have hB : Below w.heap.size w w2 := below_through hb (by simp) ((Below.refl _ _).alloc (Nat.le_refl _) _)
  obtain ⟨a, c', rfl, hc, hR, hA⟩ := I.done
  have HF := hid0 (And.intro (hR.sub (Sub.shown _ _)) (And.intro (fun z hz => (hA z hz).sub (Sub.shown _ _)) (And.intro I.dat hB)))
  clear hb hB hR hA I hc a0 a1 a2 a3 a4 a5 a6 a7 a8 a9 a10 a11 a12 a13 a14
  go_wp2_with fail
  go_ret
  exact ⟨⟨a, c', zs, rfl, HF.out.1, HF.out.2.1, HF.out.2.2.1⟩, HF.out.2.2.2⟩
theorem boT_at {w : World} : ∀ {n : Nat} {t : Tx}, TxAt w n t → ∀ z ∈ boT t, TxAt w n z
  | n + 1, .mk k op l r p c ys, h => fun z hz => by
    have hL : ∀ (l : List Tx), (∀ x ∈ l, TxAt w n x) → ∀ z ∈ boL l, TxAt w n z := fun l => by
      induction l with
      | nil => intro _ z hz; rw [boL] at hz; cases hz
      | cons x l ih =>
        intro hl z hz
        rw [boL] at hz
        rcases List.mem_append.1 hz with hz | hz
        · exact boT_at (hl x (by simp)) z hz
        · exact ih (fun y hy => hl y (by simp [hy])) z hz
    rw [boT] at hz
    split at hz
    · cases hz
    split at hz
    · exact (hL ys h.2.2 z hz).mono (Nat.le_succ n)
    · obtain rfl : z = _ := by simpa using hz
      exact h
/-- The reference's: the same conditions, not copied. -/
def BoAnsR (w : World) (t : Tx) (e : Ending) (w' : World) : Prop := (∃ (a : Option Addr) (c : Nat), e = .returned (.slice a (boT t).length c) ∧ RowC w' 15 a ((boT t).map Tx.cells)) ∧ Below w.heap.size w w'
structure BoOk (n : Nat) : Prop where
  out : ∀ (t : Tx) (w : World), TxAt w n t → sizeT t ≤ 2000000 → Calls Try.prog 19 #[t.val] w (BoAnsR w t)
structure BoHalf (w : World) (t : Tx) : Prop where
  out : ∀ W, Below w.heap.size w W → Calls Try.prog 19 #[t.val] W (BoAnsR W t)
set_option maxHeartbeats 16000000 in
set_option maxRecDepth 1000000 in
theorem refBoth_step {n : Nat} (IH : BoOk n) (k op : Int) (kl al : Int) (vl : Val) (pl : Option Addr) (cl : Nat) (yl : List Cx) (kr ar : Int) (vr : Val) (pr : Option Addr) (cr : Nat) (yr : List Cx) (p : Option Addr) (c : Nat) (ys : List Tx) (w : World) (hx : TxAt w (n + 1) (.mk k op (.mk kl al vl pl cl yl) (.mk kr ar vr pr cr yr) p c ys)) (hs : sizeT (.mk k op (.mk kl al vl pl cl yl) (.mk kr ar vr pr cr yr) p c ys) ≤ 2000000) :
    Calls Try.prog 19 #[.agg #[.int .i64 k, .int .i64 op, .int .i64 kl, .int .i64 al, .int .i64 vl.k, .int .i64 vl.n, .string vl.s, .slice pl yl.length cl, .int .i64 kr, .int .i64 ar, .int .i64 vr.k, .int .i64 vr.n, .string vr.s, .slice pr yr.length cr, .slice p ys.length c]] w (BoAnsR w (.mk k op (.mk kl al vl pl cl yl) (.mk kr ar vr pr cr yr) p c ys)) := by
  obtain ⟨i0, hi, hz0, hz1, hz2⟩ := info_parts infoT
  have V := VarB.new w [.int .i64 k, .int .i64 op, .int .i64 kl, .int .i64 al, .int .i64 vl.k, .int .i64 vl.n, .string vl.s, .slice pl yl.length cl, .int .i64 kr, .int .i64 ar, .int .i64 vr.k, .int .i64 vr.n, .string vr.s, .slice pr yr.length cr, .slice p ys.length c] 38
  have HV := hid0 V
  have a0 := V.cell 0 rfl
  clear V
  by_cases h0 : k = 0
  · subst h0
    have HR := hid0 (show boT (.mk 0 op (.mk kl al vl pl cl yl) (.mk kr ar vr pr cr yr) p c ys) = [] by rw [boT, if_pos rfl])
    clear IH hx hs
    go_enter Try.func19, Try.ntmps19
    go_wp2_with fail
    go_ret
    exact ⟨⟨none, 0, by rw [HR.out]; rfl, by rw [HR.out]; exact ⟨fun i hi => by simp at hi⟩⟩, (Below.refl _ _).alloc (Nat.le_refl _) _⟩
  by_cases h4 : k = 4
  · subst h4
    obtain ⟨_, hk, hA⟩ := hx
    have hsz0 : sizeTL ys ≤ 2000000 := by rw [sizeT] at hs; omega
    have H : ∀ j (hj : j < ys.length), BoHalf w ys[j] := fun j hj => ⟨fun W hb => IH.out _ W ((hA _ (List.getElem_mem hj)).later hb) (by have := sizeTL_mem (List.getElem_mem hj); omega)⟩
    have HH := hid0 H
    have HK := hid0 hk
    have HR := hid0 (show boT (.mk 4 op (.mk kl al vl pl cl yl) (.mk kr ar vr pr cr yr) p c ys) = boL ys by rw [boT, if_neg (by decide), if_pos rfl])
    have hroom := hk.room
    clear IH hA H hk hs h0
    go_enter Try.func19, Try.ntmps19
    go_wp2_with fail
    go_loopw [3, 4] (fun u i wr => ∃ k : Nat, k ≤ ys.length ∧ i = .int .i64 k ∧ wr.ownsRow (w.heap.size + 1) 38 15 u (boL (ys.take k)).length ((boL (ys.take k)).map Tx.cells).flatten ∧ VarB wr w.heap.size [.int .i64 4, .int .i64 op, .int .i64 kl, .int .i64 al, .int .i64 vl.k, .int .i64 vl.n, .string vl.s, .slice pl yl.length cl, .int .i64 kr, .int .i64 ar, .int .i64 vr.k, .int .i64 vr.n, .string vr.s, .slice pr yr.length cr, .slice p ys.length c] ∧ Below w.heap.size w wr) (fun _ i _ => ys.length - (intOf i).toNat)
    case atStart => exact ⟨0, Nat.zero_le _, rfl, by simpa [boL] using World.ownsRow_nil _ _ _ _, HV.out, (Below.refl _ _).alloc (Nat.le_refl _) _⟩
    case round =>
      obtain ⟨j, hj, rfl, hown, hV, hB⟩ := hrel
      have hsz := hB.size
      have hVl := hV.lt
      have a14 := hV.cell 14 rfl
      by_cases hlt : j < ys.length
      · have H := HH.out j hlt
        have HT := hid0 (show ((boL (ys.take j)).map Tx.cells).flatten ++ ((boT ys[j]).map Tx.cells).flatten = ((boL (ys.take (j + 1))).map Tx.cells).flatten by rw [boL_take ys j hlt, List.map_append, List.flatten_append])
        have HL := hid0 (show (boL (ys.take (j + 1))).length = (boL (ys.take j)).length + (boT ys[j]).length by rw [boL_take ys j hlt, List.length_append])
        have hs1 := sizeTL_take ys j hlt
        have hs2 := boL_len (ys.take j)
        have hs3 := boT_len ys[j]
        obtain ⟨b, o, rfl, hb, hX⟩ := HK.out.arg j hlt
        have hone := hid0 (fun (u : List Value) (hu : u ∈ (boT ys[j]).map Tx.cells) => show ∀ v ∈ u, v.oneCell' = true from fun v hv => by obtain ⟨z, _, rfl⟩ := List.mem_map.1 hu; exact z.one v hv)
        have hlen := hid0 (fun (u : List Value) (hu : u ∈ (boT ys[j]).map Tx.cells) => show u.length = 15 from by obtain ⟨z, _, rfl⟩ := List.mem_map.1 hu; exact z.cells_len)
        have hln := hid0 (show ((boT ys[j]).map Tx.cells).length = (boT ys[j]).length from List.length_map _)
        generalize hy : ys[j] = t at H hX HT HL hs1 hs3 hone hlen hln
        clear hy
        have H : ∀ W, Below w.heap.size w W → Calls Try.prog 19 #[t.val] W fun e w' => (∃ (a : Option Addr) (c : Nat), e = .returned (.slice a (boT t).length c) ∧ RowC w' 15 a ((boT t).map Tx.cells)) ∧ Below W.heap.size W w' := H.out
        generalize boT t = Q at H HT HL hs3 hone hlen hln
        generalize sizeT t = St at hs1 hs3
        have hs4 : (boL (ys.take j)).length + Q.length ≤ 2000000 := by omega
        have H := hid0 H
        obtain ⟨kt, ot, ⟨kf, af, vf, pf, cf, yf⟩, ⟨kg, ag, vg, pg, cg, yg⟩, pt, ct, yt⟩ := t
        have hb' : b < wr.heap.size := by omega
        have q0 := cell_later hB (rng hX 0 rfl)
        have q1 := cell_later hB (rng hX 1 rfl)
        have q2 := cell_later hB (rng hX 2 rfl)
        have q3 := cell_later hB (rng hX 3 rfl)
        have q4 := cell_later hB (rng hX 4 rfl)
        have q5 := cell_later hB (rng hX 5 rfl)
        have q6 := cell_later hB (rng hX 6 rfl)
        have q7 := cell_later hB (rng hX 7 rfl)
        have q8 := cell_later hB (rng hX 8 rfl)
        have q9 := cell_later hB (rng hX 9 rfl)
        have q10 := cell_later hB (rng hX 10 rfl)
        have q11 := cell_later hB (rng hX 11 rfl)
        have q12 := cell_later hB (rng hX 12 rfl)
        have q13 := cell_later hB (rng hX 13 rfl)
        have q14 := cell_later hB (rng hX 14 rfl)
        simp only [Nat.add_zero] at q0
        have hOw := hid0 hown
        have hVV := hid0 hV
        have hBB := hid0 hB
        clear hX hown hV hB
        go_wp2_with fail
        go_at_call 19
        refine (H.out _ hBB.out).mono ?_
        rintro e w3 ⟨⟨a3, c3, rfl, hR3⟩, hb3⟩
        have hz3 := hb3.size
        have hown := own_below hOw.out hb3
        have hV3 := hVV.out.below hb3
        have hB3 := below_through hb3 hsz hBB.out
        have hF := hid0 (And.intro hR3 (And.intro hV3 hB3))
        have hm1 : (boL (ys.take j)).length + Q.length ≤ maxLen := by unfold maxLen; omega
        have hm2 : ((boL (ys.take j)).length + Q.length) * 184 ≤ 140737488355328 := by omega
        have hm3 : w.heap.size + 1 ≤ w3.heap.size := by omega
        clear hb3 hR3 hV3 hB3 a14 q0 q1 q2 q3 q4 q5 q6 q7 q8 q9 q10 q11 q12 q13 q14 hOw hVV hBB
        go_wp2_with (at_builtin; refine app_rows rfl _ _ 36 38 rfl i0 _ 15 184 Try.underlying36 hi hz0 hz1 hz2 rfl (by decide) rfl (w.heap.size + 1) (boL (ys.take j)).length ((boL (ys.take j)).map Tx.cells).flatten hown a3 Q.length c3 (Q.map Tx.cells) rfl hln.out hlen.out hF.out.1 hone.out hm1 hm2 hm3 ?_)
        intro v' w4 hown' hgrow
        rw [HT.out, ← HL.out] at hown'
        have hlo := hown.lt
        have hV4 := hF.out.2.1.keep (hgrow.block _ hF.out.2.1.lt (fun e => by have := (hlo _ e.symm).1; omega)) hgrow.size
        have hB4 := hF.out.2.2.grown hgrow (by omega) (fun k hk => by have := (hlo k hk).1; omega)
        have hG := hid0 (And.intro hown' (And.intro hV4 hB4))
        clear hown' hgrow hown hF hlo hV4 hB4
        go_wp2_with fail
        exact ⟨⟨j + 1, by omega, by go_num, hG.out.1, hG.out.2.1, hG.out.2.2⟩, by simp [intOf]; omega⟩
      · obtain rfl : j = ys.length := by omega
        rw [List.take_length] at hown
        obtain ⟨a3, c3, rfl, _, hR3⟩ := rows_owned (fun u hu => by obtain ⟨z, _, rfl⟩ := List.mem_map.1 hu; exact z.cells_len) hown (List.length_map _)
        have hF := hid0 (And.intro (hR3.sub (Sub.shown _ _)) hB)
        clear hown hR3 hB hV
        go_wp2_with fail
        go_ret
        exact ⟨⟨a3, c3, by rw [HR.out]; rfl, by rw [HR.out]; exact hF.out.1⟩, hF.out.2⟩
  · have HR := hid0 (show boT (.mk k op (.mk kl al vl pl cl yl) (.mk kr ar vr pr cr yr) p c ys) = [(.mk k op (.mk kl al vl pl cl yl) (.mk kr ar vr pr cr yr) p c ys)] by rw [boT, if_neg h0, if_neg h4])
    have g0 : (k == 0) = false := by simpa using h0
    have g4 : (k == 4) = false := by simpa using h4
    have g5 : (k != 4) = true := by simpa using h4
    have HX := HV.out
    have a1 := HX.cell 1 rfl
    have a2 := HX.cell 2 rfl
    have a3 := HX.cell 3 rfl
    have a4 := HX.cell 4 rfl
    have a5 := HX.cell 5 rfl
    have a6 := HX.cell 6 rfl
    have a7 := HX.cell 7 rfl
    have a8 := HX.cell 8 rfl
    have a9 := HX.cell 9 rfl
    have a10 := HX.cell 10 rfl
    have a11 := HX.cell 11 rfl
    have a12 := HX.cell 12 rfl
    have a13 := HX.cell 13 rfl
    have a14 := HX.cell 14 rfl
    have V2 := hid0 (VarB.new (w.alloc (.cells #[.int .i64 k, .int .i64 op, .int .i64 kl, .int .i64 al, .int .i64 vl.k, .int .i64 vl.n, .string vl.s, .slice pl yl.length cl, .int .i64 kr, .int .i64 ar, .int .i64 vr.k, .int .i64 vr.n, .string vr.s, .slice pr yr.length cr, .slice p ys.length c] 38)) [.int .i64 k, .int .i64 op, .int .i64 kl, .int .i64 al, .int .i64 vl.k, .int .i64 vl.n, .string vl.s, .slice pl yl.length cl, .int .i64 kr, .int .i64 ar, .int .i64 vr.k, .int .i64 vr.n, .string vr.s, .slice pr yr.length cr, .slice p ys.length c] 38)
    clear IH hx hs h0 h4 HX
    go_enter Try.func19, Try.ntmps19
    go_wp2_with fail
    go_ret
    refine ⟨⟨some ⟨w.heap.size + 1, 0, none⟩, 1, by rw [HR.out]; rfl, ?_⟩, ((Below.refl _ _).alloc (Nat.le_refl _) _).alloc (by simp) _⟩
    rw [HR.out]
    refine ⟨fun i hi => ?_⟩
    obtain rfl : i = 0 := by simp at hi; omega
    have h2 := V2.out.at_
    rw [World.size_alloc] at h2
    exact ⟨_, 0, rfl, by simp, h2⟩
theorem refBoth_all : ∀ n, BoOk n
  | 0 => ⟨fun _ _ h _ => h.elim⟩
  | n + 1 => ⟨fun t w hx hs => by
    obtain ⟨k, op, ⟨kl, al, vl, pl, cl, yl⟩, ⟨kr, ar, vr, pr, cr, yr⟩, p, c, ys⟩ := t
    exact refBoth_step (refBoth_all n) k op kl al vl pl cl yl kr ar vr pr cr yr p c ys w hx hs⟩
end Go.Proofs.Ytolcebbpbihnoaa
