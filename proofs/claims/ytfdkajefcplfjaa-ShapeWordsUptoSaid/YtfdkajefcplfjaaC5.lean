/- Several of my texts laid together, each as it was: S9, S10. Conditions: each names its own. -/
import Derived.Test.YtfdkajefcplfjaaC4
import Derived.Test.YtfdkajefcplfjaaJ1
/- Which parts can be followed: whether one of the outs is barred, one of the parts is grouped or has Distinct. Conditions: the plan's cells are known. -/
namespace Go.Proofs.Ytfdkajefcplfjaa
open Go.RowKit

def barB (g : Int) : Bool := decide (g = 4) || decide (g = 5) || decide (g = 6)
theorem barred_any (o : Ox) (w : World) : Calls Try.prog 36 #[.agg o.cells.toArray] w fun e w' => e = .returned (.bool (barB o.g)) ∧ Below w.heap.size w w' := by
  have V := VarB.new w o.cells 44
  have q0 : _ = some (Value.int .i64 o.g) := V.cell 0 rfl
  have hB0 : Below w.heap.size w (w.alloc (.cells o.cells.toArray 44)) := (Below.refl _ _).alloc (Nat.le_refl _) _
  clear V
  obtain ⟨R, hR⟩ : ∃ R, barB o.g = R := ⟨_, rfl⟩
  rw [hR]
  unfold barB at hR
  generalize o.cells = us at *
  generalize o.g = g at *
  by_cases h4 : g = 4
  · have HR := hid0 (show true = R by rw [← hR, h4]; rfl)
    have g4 : (g == 4) = true := by simpa using h4
    clear hR h4
    go_enter Try.func36, Try.ntmps36
    go_wp2
    go_ret
    exact ⟨ret_bool HR.out, hB0⟩
  · have g4 : (g == 4) = false := by simpa using h4
    by_cases h5 : g = 5
    · have HR := hid0 (show true = R by rw [← hR, h5]; rfl)
      have g5 : (g == 5) = true := by simpa using h5
      clear hR h4 h5
      go_enter Try.func36, Try.ntmps36
      go_wp2
      go_ret
      exact ⟨ret_bool HR.out, hB0⟩
    · have g5 : (g == 5) = false := by simpa using h5
      obtain ⟨r6, h6⟩ : ∃ r, (g == 6) = r := ⟨_, rfl⟩
      have HR := hid0 (show r6 = R by rw [← hR, ← h6]; simp only [h4, h5, decide_false, Bool.false_or]; by_cases h : g = 6 <;> simp [h])
      clear hR h4 h5
      go_enter Try.func36, Try.ntmps36
      go_wp2
      go_ret
      exact ⟨ret_bool HR.out, hB0⟩
set_option maxRecDepth 100000 in
set_option maxHeartbeats 1000000 in
theorem indexFunc_bar (a : Option Addr) (c : Nat) (l : List Ox) (rb : Bool) (hrb : l.any (fun o => barB o.g) = rb) (w : World) (h : OutsAt w a l) (hl : l.length ≤ 1099511627776) :
    Calls Try.prog 17 #[.slice a l.length c, .func (.func 36) #[] #[]] w fun e w' => (∃ r : Int, e = .returned (.int .i64 r) ∧ IsAt r rb) ∧ Below w.heap.size w w' := by
  have A := hid0 h
  have HR := hid0 hrb
  clear h hrb
  go_enter Try.func17, Try.ntmps17
  go_wp2
  go_loopw [8] (fun iv wr => ∃ i : Nat, i ≤ l.length ∧ iv = .int .i64 i ∧ Hid ((l.take i).all (fun o => !(barB o.g)) = true) ∧ Below w.heap.size w wr) (fun iv _ => l.length - (intOf iv).toNat)
  case atStart => exact ⟨0, Nat.zero_le _, rfl, hid0 rfl, Below.refl _ _⟩
  case round =>
    obtain ⟨i, hi, rfl, hO, hB⟩ := hrel
    have hsz := hB.size
    by_cases hlt : i < l.length
    · obtain ⟨b, o, rfl, hb, hR⟩ := (A.out.later hB).at_ i hlt
      have hmem := List.getElem_mem hlt
      have hnext := hid0 (fun hf => all_take hlt hO.out hf)
      generalize l[i] = x at hR hmem hnext
      have CW := barred_any x wr
      have hcl := x.cells_len
      have HM := hid0 (fun hx : (barB x.g) = true => (List.any_eq_true.2 ⟨x, hmem, hx⟩ : l.any (fun o => barB o.g) = true))
      clear hmem
      generalize x.cells = us at hR CW hcl
      generalize (barB x.g) = ra at CW hnext HM
      cases ra with
      | true =>
        go_wp2_with (first | ((with_reducible refine wp_getB hR Try.underlying44 ?_ ?_ ?_ ?_); (rfl); (rw [hcl]; exact sizeOut); (rfl); simp only [Act.put]) | (go_at_call 36; go_must (refine CW.mono ?_; rintro e wn ⟨rfl, hbn⟩)) | fail)
        go_ret
        exact ⟨⟨i, rfl, by rw [← HR.out, HM.out (by trivial)]; unfold IsAt; simp⟩, below_through hbn hsz hB⟩
      | false =>
        go_wp2_with (first | ((with_reducible refine wp_getB hR Try.underlying44 ?_ ?_ ?_ ?_); (rfl); (rw [hcl]; exact sizeOut); (rfl); simp only [Act.put]) | (go_at_call 36; go_must (refine CW.mono ?_; rintro e wn ⟨rfl, hbn⟩)) | fail)
        exact ⟨⟨i + 1, by omega, by go_num, hid0 (hnext.out (by trivial)), below_through hbn hsz hB⟩, by simp [intOf]; omega⟩
    · have hie : ¬ (i : Int) < l.length := by omega
      rw [List.take_of_length_le (by omega)] at hO
      go_wp2
      go_ret
      exact ⟨⟨-1, rfl, by
        have := hO.out
        have h2 : l.any (fun o => barB o.g) = false := by
          rw [List.any_eq_false]
          intro x hx
          simpa using List.all_eq_true.1 this x hx
        rw [← HR.out, h2]; rfl⟩, hB⟩
theorem containsFunc_bar (a : Option Addr) (c : Nat) (l : List Ox) (w : World) (h : OutsAt w a l) (hl : l.length ≤ 1099511627776) :
    Calls Try.prog 32 #[.slice a l.length c, .func (.func 36) #[] #[]] w fun e w' => e = .returned (.bool (l.any (fun o => barB o.g))) ∧ Below w.heap.size w w' := by
  obtain ⟨rb, hrb⟩ : ∃ rb, l.any (fun o => barB o.g) = rb := ⟨_, rfl⟩
  have H := hid0 (indexFunc_bar a c l rb hrb w h hl)
  rw [hrb]
  clear h hrb
  go_enter Try.func32, Try.ntmps32
  go_wp2_with (go_at_call 17; refine H.out.mono ?_; rintro e w1 ⟨⟨r, rfl, HR⟩, hb⟩)
  go_ret
  exact ⟨ret_bool HR, hb⟩
theorem distinct_any (p : Px) (w : World) : Calls Try.prog 23 #[.agg p.cells.toArray] w fun e w' => e = .returned (.bool p.d) ∧ Below w.heap.size w w' := by
  obtain ⟨V, hB0⟩ := part_box p w
  have q0 := V.cell 0 p.c0
  clear V
  generalize p.cells = us at *
  generalize p.d = d at *
  go_enter Try.func23, Try.ntmps23
  go_wp2
  go_ret
  exact ⟨rfl, hB0⟩
set_option maxHeartbeats 1000000 in
theorem indexPx_dis {n : Nat} (a : Option Addr) (c : Nat) (E : List Px) (q : Px → Bool) (rb : Bool) (hrb : E.any q = rb) (w : World) (h : PsOk w n a c E)
    (CP : ∀ e ∈ E, ∀ W, Below w.heap.size w W → Calls Try.prog 23 #[.agg e.cells.toArray] W fun e' w' => e' = .returned (.bool (q e)) ∧ Below W.heap.size W w') :
    Calls Try.prog 31 #[.slice a E.length c, .func (.func 23) #[] #[]] w fun e w' => (∃ r : Int, e = .returned (.int .i64 r) ∧ IsAt r rb) ∧ Below w.heap.size w w' := by
  have A := hid0 h
  have hfew := h.few
  have HR := hid0 hrb
  have HC := hid0 CP
  clear h hrb CP
  go_enter Try.func31, Try.ntmps31
  go_wp2
  go_loopw [8] (fun iv wr => ∃ i : Nat, i ≤ E.length ∧ iv = .int .i64 i ∧ Hid ((E.take i).all (fun x => !q x) = true) ∧ Below w.heap.size w wr) (fun iv _ => E.length - (intOf iv).toNat)
  case atStart => exact ⟨0, Nat.zero_le _, rfl, hid0 rfl, Below.refl _ _⟩
  case round =>
    obtain ⟨i, hi, rfl, hO, hB⟩ := hrel
    have hsz := hB.size
    by_cases hlt : i < E.length
    · obtain ⟨b1, o1, rfl, hb1, hR⟩ := (A.out.later hB).part i hlt
      have hmem := List.getElem_mem hlt
      have hnext := hid0 (fun hf => all_take hlt hO.out hf)
      have CX := HC.out _ hmem
      generalize E[i] = x at hR hmem hnext CX
      have HM := hid0 (fun hx : q x = true => (List.any_eq_true.2 ⟨x, hmem, hx⟩ : E.any q = true))
      have hl := x.cells_len
      generalize x.cells = us at hR CX hl
      have CX := hid0 CX
      have hBZ := hB
      clear hmem
      generalize q x = ra at CX hnext HM
      cases ra with
      | true =>
        go_wp2_with (first | ((with_reducible refine wp_getB hR Try.underlying40 ?_ ?_ ?_ ?_); (rfl); (rw [hl]; exact sizePx); (rfl); simp only [Act.put]) | (go_at_call 23; go_must (refine (CX.out _ hBZ).mono ?_; rintro e wn ⟨rfl, hbn⟩)) | fail)
        go_ret
        exact ⟨⟨i, rfl, by rw [← HR.out, HM.out (by trivial)]; unfold IsAt; simp⟩, below_through hbn hsz hB⟩
      | false =>
        go_wp2_with (first | ((with_reducible refine wp_getB hR Try.underlying40 ?_ ?_ ?_ ?_); (rfl); (rw [hl]; exact sizePx); (rfl); simp only [Act.put]) | (go_at_call 23; go_must (refine (CX.out _ hBZ).mono ?_; rintro e wn ⟨rfl, hbn⟩)) | fail)
        exact ⟨⟨i + 1, by omega, by go_num, hid0 (hnext.out (by trivial)), below_through hbn hsz hB⟩, by simp [intOf]; omega⟩
    · have hie : ¬ (i : Int) < E.length := by omega
      rw [List.take_of_length_le (by omega)] at hO
      go_wp2
      go_ret
      exact ⟨⟨-1, rfl, by
        have := hO.out
        have h2 : E.any q = false := by
          rw [List.any_eq_false]
          intro x hx
          simpa using List.all_eq_true.1 this x hx
        rw [← HR.out, h2]; rfl⟩, hB⟩
theorem containsPx_dis {n : Nat} (a : Option Addr) (c : Nat) (E : List Px) (q : Px → Bool) (w : World) (h : PsOk w n a c E)
    (CP : ∀ e ∈ E, ∀ W, Below w.heap.size w W → Calls Try.prog 23 #[.agg e.cells.toArray] W fun e' w' => e' = .returned (.bool (q e)) ∧ Below W.heap.size W w') :
    Calls Try.prog 22 #[.slice a E.length c, .func (.func 23) #[] #[]] w fun e w' => e = .returned (.bool (E.any q)) ∧ Below w.heap.size w w' := by
  obtain ⟨rb, hrb⟩ : ∃ rb, E.any q = rb := ⟨_, rfl⟩
  have H := hid0 (indexPx_dis a c E q rb hrb w h CP)
  rw [hrb]
  clear h CP hrb
  go_enter Try.func22, Try.ntmps22
  go_wp2_with (go_at_call 31; refine H.out.mono ?_; rintro e w1 ⟨⟨r, rfl, HR⟩, hb⟩)
  go_ret
  exact ⟨ret_bool HR, hb⟩
set_option maxHeartbeats 1000000 in
theorem indexPx_grp {n : Nat} (a : Option Addr) (c : Nat) (E : List Px) (q : Px → Bool) (rb : Bool) (hrb : E.any q = rb) (w : World) (h : PsOk w n a c E)
    (CP : ∀ e ∈ E, ∀ W, Below w.heap.size w W → Calls Try.prog 24 #[.agg e.cells.toArray] W fun e' w' => e' = .returned (.bool (q e)) ∧ Below W.heap.size W w') :
    Calls Try.prog 31 #[.slice a E.length c, .func (.func 24) #[] #[]] w fun e w' => (∃ r : Int, e = .returned (.int .i64 r) ∧ IsAt r rb) ∧ Below w.heap.size w w' := by
  have A := hid0 h
  have hfew := h.few
  have HR := hid0 hrb
  have HC := hid0 CP
  clear h hrb CP
  go_enter Try.func31, Try.ntmps31
  go_wp2
  go_loopw [8] (fun iv wr => ∃ i : Nat, i ≤ E.length ∧ iv = .int .i64 i ∧ Hid ((E.take i).all (fun x => !q x) = true) ∧ Below w.heap.size w wr) (fun iv _ => E.length - (intOf iv).toNat)
  case atStart => exact ⟨0, Nat.zero_le _, rfl, hid0 rfl, Below.refl _ _⟩
  case round =>
    obtain ⟨i, hi, rfl, hO, hB⟩ := hrel
    have hsz := hB.size
    by_cases hlt : i < E.length
    · obtain ⟨b1, o1, rfl, hb1, hR⟩ := (A.out.later hB).part i hlt
      have hmem := List.getElem_mem hlt
      have hnext := hid0 (fun hf => all_take hlt hO.out hf)
      have CX := HC.out _ hmem
      generalize E[i] = x at hR hmem hnext CX
      have HM := hid0 (fun hx : q x = true => (List.any_eq_true.2 ⟨x, hmem, hx⟩ : E.any q = true))
      have hl := x.cells_len
      generalize x.cells = us at hR CX hl
      have CX := hid0 CX
      have hBZ := hB
      clear hmem
      generalize q x = ra at CX hnext HM
      cases ra with
      | true =>
        go_wp2_with (first | ((with_reducible refine wp_getB hR Try.underlying40 ?_ ?_ ?_ ?_); (rfl); (rw [hl]; exact sizePx); (rfl); simp only [Act.put]) | (go_at_call 24; go_must (refine (CX.out _ hBZ).mono ?_; rintro e wn ⟨rfl, hbn⟩)) | fail)
        go_ret
        exact ⟨⟨i, rfl, by rw [← HR.out, HM.out (by trivial)]; unfold IsAt; simp⟩, below_through hbn hsz hB⟩
      | false =>
        go_wp2_with (first | ((with_reducible refine wp_getB hR Try.underlying40 ?_ ?_ ?_ ?_); (rfl); (rw [hl]; exact sizePx); (rfl); simp only [Act.put]) | (go_at_call 24; go_must (refine (CX.out _ hBZ).mono ?_; rintro e wn ⟨rfl, hbn⟩)) | fail)
        exact ⟨⟨i + 1, by omega, by go_num, hid0 (hnext.out (by trivial)), below_through hbn hsz hB⟩, by simp [intOf]; omega⟩
    · have hie : ¬ (i : Int) < E.length := by omega
      rw [List.take_of_length_le (by omega)] at hO
      go_wp2
      go_ret
      exact ⟨⟨-1, rfl, by
        have := hO.out
        have h2 : E.any q = false := by
          rw [List.any_eq_false]
          intro x hx
          simpa using List.all_eq_true.1 this x hx
        rw [← HR.out, h2]; rfl⟩, hB⟩
theorem containsPx_grp {n : Nat} (a : Option Addr) (c : Nat) (E : List Px) (q : Px → Bool) (w : World) (h : PsOk w n a c E)
    (CP : ∀ e ∈ E, ∀ W, Below w.heap.size w W → Calls Try.prog 24 #[.agg e.cells.toArray] W fun e' w' => e' = .returned (.bool (q e)) ∧ Below W.heap.size W w') :
    Calls Try.prog 22 #[.slice a E.length c, .func (.func 24) #[] #[]] w fun e w' => e = .returned (.bool (E.any q)) ∧ Below w.heap.size w w' := by
  obtain ⟨rb, hrb⟩ : ∃ rb, E.any q = rb := ⟨_, rfl⟩
  have H := hid0 (indexPx_grp a c E q rb hrb w h CP)
  rw [hrb]
  clear h CP hrb
  go_enter Try.func22, Try.ntmps22
  go_wp2_with (go_at_call 31; refine H.out.mono ?_; rintro e w1 ⟨⟨r, rfl, HR⟩, hb⟩)
  go_ret
  exact ⟨ret_bool HR, hb⟩
theorem disAll_any {n : Nat} (a : Option Addr) (c : Nat) (ps : List Px) (w : World) (h : PsOk w n a c ps) :
    Calls Try.prog 22 #[.slice a ps.length c, .func (.func 23) #[] #[]] w fun e w' => e = .returned (.bool (ps.any Px.d)) ∧ Below w.heap.size w w' :=
  containsPx_dis a c ps Px.d w h (fun p _ W _ => distinct_any p W)
theorem grpAll_any {n : Nat} (a : Option Addr) (c : Nat) (ps : List Px) (w : World) (h : PsOk w n a c ps) :
    Calls Try.prog 22 #[.slice a ps.length c, .func (.func 24) #[] #[]] w fun e w' => e = .returned (.bool (ps.any groupedB)) ∧ Below w.heap.size w w' :=
  containsPx_grp a c ps groupedB w h (fun p hp W hW => grouped_any p W ((h.ok p hp).later hW))
def tellsB (os : List Ox) (g : Int) (e : Cx) : Bool := os.any (plB g e)
set_option maxRecDepth 100000 in
set_option maxHeartbeats 4000000 in
theorem tells_any {n m : Nat} (p : Px) (g : Int) (e : Cx) (w : World) (hp : PxOk w n p) (he : CxAt w m e) :
    Calls Try.prog 34 #[p.val, .int .i64 g, e.val] w fun e' w' => e' = .returned (.bool (tellsB p.os g e)) ∧ Below w.heap.size w w' := by
  obtain ⟨VA, VB⟩ := VarB.two (w := w) p.cells e.cells 40 34
  have hB0 : Below w.heap.size w ((w.alloc (.cells p.cells.toArray 40)).alloc (.cells e.cells.toArray 34)) := ((Below.refl _ _).alloc (Nat.le_refl _) _).alloc (by simp) _
  have CP := hid0 (shPlace_any p g e _ (hp.later hB0) (he.later hB0))
  have HR := hid0 (show decide (0 ≤ placeM g e p.os) = tellsB p.os g e from place_yes g e p.os)
  have hRA := VA.at_
  have hRB := VB.at_
  have hpl := p.cells_len
  have hvl := e.cells_len
  have hB0 := hid0 hB0
  clear hp he VA VB
  unfold Px.val Cx.val at CP ⊢
  generalize tellsB p.os g e = R at *
  generalize placeM g e p.os = r at *
  generalize p.cells = us at *
  generalize e.cells = vs at *
  go_enter Try.func34, Try.ntmps34
  go_wp2_with (first | ((with_reducible refine wp_getG ?_ hRA Try.underlying40 ?_ ?_ ?_ ?_); (rfl); (rfl); (rw [hpl]; exact sizePx); (rfl); (try simp only [Act.put])) | ((with_reducible refine wp_getG ?_ hRB Try.underlying34 ?_ ?_ ?_ ?_); (rfl); (rfl); (rw [hvl]; exact sizeX); (rfl); (try simp only [Act.put])) | (go_at_call 9; go_must (refine CP.out.mono ?_; rintro e' w1 ⟨rfl, hb1⟩)) | fail)
  go_ret
  exact ⟨ret_bool HR.out, below_through hb1 hB0.out.size hB0.out⟩
end Go.Proofs.Ytfdkajefcplfjaa

/- Whether a part tells its groups' columns and counts what it sums: contracts of the calls. Conditions: the part's cells are known. -/
namespace Go.Proofs.Ytfdkajefcplfjaa
open Go.RowKit

def colX (a : Int) : Cx := .mk 1 a zV none 0 []
theorem colX_at (w : World) {a : Int} (ha : in64 a) : CxAt w 1 (colX a) := ⟨⟨inI_zV, by omega, by omega, ha.1, ha.2, by simp, by simp, ⟨fun i hi => absurd hi (by simp)⟩⟩, fun x hx => absurd hx (by simp)⟩
/-- A part's box. -/
structure SFa (w : World) (us : List Value) (W : World) : Prop where
  v : VarB W w.heap.size us
  b : Below w.heap.size w W
theorem SFa.below {w : World} {us : List Value} {W W' : World} (h : SFa w us W) (hb : Below W.heap.size W W') : SFa w us W' := ⟨h.v.below hb, below_through hb h.b.size h.b⟩
def tellsGB (p : Px) : Bool := p.gs.all fun a => tellsB p.os 0 (colX a)
set_option maxRecDepth 100000 in
set_option maxHeartbeats 4000000 in
theorem tellsGroups_any {n : Nat} (p : Px) (w : World) (hp : PxOk w n p) :
    Calls Try.prog 35 #[p.val] w fun e w' => e = .returned (.bool (tellsGB p)) ∧ Below w.heap.size w w' := by
  obtain ⟨V, hB0⟩ := part_box p w
  have hS0 : SFa w p.cells _ := ⟨V, hB0⟩
  have CT := hid0 (fun (a : Int) (ha : in64 a) (W : World) (hW : Below w.heap.size w W) => tells_any p 0 (colX a) W (hp.later hW) (colX_at W ha))
  have HG := hid0 hp.gs
  have hfew := hp.gs.few
  have h18 := hid0 p.c18
  have hpl := p.cells_len
  obtain ⟨R, hR⟩ : ∃ R, tellsGB p = R := ⟨_, rfl⟩
  rw [hR]
  have HR := hid0 (show p.gs.all (fun a => tellsB p.os 0 (colX a)) = R from hR)
  have hS0 := hid0 hS0
  clear hR hp V hB0
  unfold Px.val at CT ⊢
  generalize p.cells = us at *
  generalize p.os = os at *
  generalize p.gs = gs at *
  generalize p.gp = gp at *
  generalize p.gc = gc at *
  obtain ⟨N, hN⟩ : ∃ N, gs.length = N := ⟨_, rfl⟩
  rw [hN] at h18 hfew
  have HN := hid0 hN
  clear hN
  have q18 := hS0.out.v.cell 18 h18.out
  go_enter Try.func35, Try.ntmps35
  go_wp2_with fail
  clear q18
  go_loopw [8] (fun iv wr => ∃ i : Nat, i ≤ N ∧ iv = .int .i64 i ∧ Hid ((gs.take i).all (fun a => tellsB os 0 (colX a)) = true) ∧ SFa w us wr) (fun iv _ => N - (intOf iv).toNat)
  case atStart => exact ⟨0, Nat.zero_le _, rfl, hid0 rfl, hS0.out⟩
  case round =>
    clear hS0
    obtain ⟨i, hi, rfl, hO, hS⟩ := hrel
    by_cases hlt : i < N
    · have hlt' : (i : Int) < (N : Int) := by omega
      have hi1 : i < gs.length := by rw [HN.out]; exact hlt
      obtain ⟨b, o, rfl, hc⟩ := (HG.out.later hS.b).at_ (by intro e; rw [e] at hi1; exact absurd hi1 (by simp))
      have q0 := hc i hi1
      have hbad := hid0 (fun hf => all_bad (f := fun a => tellsB os 0 (colX a)) hi1 hf)
      have hnext := hid0 (fun hf => all_take (f := fun a => tellsB os 0 (colX a)) hi1 hO.out hf)
      have CTx := CT.out gs[i] (HG.out.i _ (List.getElem_mem hi1)) wr hS.b
      generalize gs[i] = x at q0 hbad hnext CTx
      generalize tellsB os 0 (colX x) = rb at CTx hbad hnext
      have CTx : Hid (Calls Try.prog 34 #[.agg us.toArray, .int .i64 0, .agg #[.int .i64 1, .int .i64 x, .int .i64 0, .int .i64 0, .string ⟨#[]⟩, .slice none 0 0]] wr fun e' w' => e' = .returned (.bool rb) ∧ Below wr.heap.size wr w') := hid0 CTx
      clear hc hi1
      cases rb with
      | true =>
        go_wp2_with (first | ((with_reducible refine wp_getG ?_ (hS.v.at_) Try.underlying40 ?_ ?_ ?_ ?_); (rfl); (rfl); (rw [hpl]; exact sizePx); (rfl); (try simp only [Act.put])) | (go_at_call 34; go_must (refine CTx.out.mono ?_; rintro e' w1 ⟨rfl, hb1⟩)) | fail)
        exact ⟨⟨i + 1, by omega, by go_num, hid0 (hnext.out (by trivial)), hS.below hb1⟩, by simp [intOf]; omega⟩
      | false =>
        go_wp2_with (first | ((with_reducible refine wp_getG ?_ (hS.v.at_) Try.underlying40 ?_ ?_ ?_ ?_); (rfl); (rfl); (rw [hpl]; exact sizePx); (rfl); (try simp only [Act.put])) | (go_at_call 34; go_must (refine CTx.out.mono ?_; rintro e' w1 ⟨rfl, hb1⟩)) | fail)
        go_ret
        exact ⟨ret_bool (by rw [← HR.out, hbad.out (by trivial)]), (hS.below hb1).b⟩
    · have hie : ¬ (i : Int) < (N : Int) := by omega
      rw [List.take_of_length_le (by rw [HN.out]; omega)] at hO
      have hS := hid0 hS
      go_wp2_with fail
      go_ret
      exact ⟨ret_bool (by rw [← HR.out, hO.out]), hS.out.b⟩
def countB1 (os : List Ox) (o : Ox) : Bool := !decide (o.g = 3) || tellsB os 2 o.e
def countsSB (p : Px) : Bool := p.os.all (countB1 p.os)
set_option maxRecDepth 100000 in
set_option maxHeartbeats 4000000 in
theorem countsSums_any {n : Nat} (p : Px) (w : World) (hp : PxOk w n p) :
    Calls Try.prog 37 #[p.val] w fun e w' => e = .returned (.bool (countsSB p)) ∧ Below w.heap.size w w' := by
  obtain ⟨V, hB0⟩ := part_box p w
  have hS0 : SFa w p.cells _ := ⟨V, hB0⟩
  have CT := hid0 (fun (o : Ox) (ho : o ∈ p.os) (W : World) (hW : Below w.heap.size w W) => tells_any p 2 o.e W (hp.later hW) ((hp.es o ho).1.later hW))
  have HO := hid0 hp.outs
  have hfew := hp.fewO
  have h19 := hid0 p.c19
  have hpl := p.cells_len
  obtain ⟨R, hR⟩ : ∃ R, countsSB p = R := ⟨_, rfl⟩
  rw [hR]
  have HR := hid0 (show p.os.all (countB1 p.os) = R from hR)
  have hS0 := hid0 hS0
  clear hR hp V hB0
  unfold Px.val at CT ⊢
  generalize p.cells = us at *
  generalize p.os = os at *
  generalize p.op = op at *
  generalize p.oc = oc at *
  obtain ⟨N, hN⟩ : ∃ N, os.length = N := ⟨_, rfl⟩
  rw [hN] at h19 hfew
  have HN := hid0 hN
  clear hN
  have q19 := hS0.out.v.cell 19 h19.out
  go_enter Try.func37, Try.ntmps37
  go_wp2_with fail
  clear q19
  go_loopw [8] (fun iv wr => ∃ i : Nat, i ≤ N ∧ iv = .int .i64 i ∧ Hid ((os.take i).all (countB1 os) = true) ∧ SFa w us wr) (fun iv _ => N - (intOf iv).toNat)
  case atStart => exact ⟨0, Nat.zero_le _, rfl, hid0 rfl, hS0.out⟩
  case round =>
    clear hS0
    obtain ⟨i, hi, rfl, hO, hS⟩ := hrel
    by_cases hlt : i < N
    · have hlt' : (i : Int) < (N : Int) := by omega
      have hi1 : i < os.length := by rw [HN.out]; exact hlt
      obtain ⟨b, o, rfl, hb, hRx⟩ := (HO.out.later hS.b).at_ i hi1
      have hbad := hid0 (fun hf => all_bad (f := countB1 os) hi1 hf)
      have hnext := hid0 (fun hf => all_take (f := countB1 os) hi1 hO.out hf)
      have CTx := CT.out _ (List.getElem_mem hi1)
      generalize os[i] = x at hRx hbad hnext CTx
      have V0 : VarB (wr.alloc (Obj.cells #[.int .i64 0, .int .i64 0, .int .i64 0, .int .i64 0, .int .i64 0, .string ⟨#[]⟩, .slice none 0 0, .string ⟨#[]⟩, .int .i64 0] 44)) wr.heap.size [.int .i64 0, .int .i64 0, .int .i64 0, .int .i64 0, .int .i64 0, .string ⟨#[]⟩, .slice none 0 0, .string ⟨#[]⟩, .int .i64 0] := VarB.new wr [.int .i64 0, .int .i64 0, .int .i64 0, .int .i64 0, .int .i64 0, .string ⟨#[]⟩, .slice none 0 0, .string ⟨#[]⟩, .int .i64 0] 44
      have hcl := x.cells_len
      have hone := x.one
      have hc0 : x.cells[0]? = some (.int .i64 x.g) := rfl
      have hcin := fun (W : World) (h : W.rangeAt wr.heap.size 0 x.cells) => x.calc_in h
      have hxl := x.e.cells_len
      have hcb : countB1 os x = (!decide (x.g = 3) || tellsB os 2 x.e) := rfl
      unfold Cx.val at CTx
      obtain ⟨rb, hrb⟩ : ∃ rb, tellsB os 2 x.e = rb := ⟨_, rfl⟩
      rw [hrb] at CTx hcb
      obtain ⟨xs, hxs⟩ : ∃ xs, x.e.cells = xs := ⟨_, rfl⟩
      rw [hxs] at CTx hcin hxl
      generalize x.cells = ws at hRx hcl hone hc0 hcin
      generalize x.g = gx at hc0 hcb
      have CTx := hid0 CTx
      have HCIN := hid0 hcin
      have HS := hid0 hS
      clear hrb hxs hi1 hS hcin
      by_cases hg : gx = 3
      · have g3 : (gx == 3) = true := by simpa using hg
        cases rb with
        | true =>
          have HCB := hid0 (show countB1 os x = true by rw [hcb]; simp)
          clear hcb hg
          go_wp2_with (first | ((with_reducible refine wp_getB hRx Try.underlying44 ?_ ?_ ?_ ?_); (rfl); (rw [hcl]; exact sizeOut); (rfl); simp only [Act.put]) | ((with_reducible refine wp_putB V0 hone ?_ ?_ ?_ ?_ ?_); (exact hcl); (exact sizeOut); (rfl); (rfl); intro w5 hV5 hw5; (have hb5 : Below wr.heap.size wr w5 := by rw [hw5.out]; exact below_setCells _ 0 ((Below.refl _ _).alloc (Nat.le_refl _) _) (Nat.le_refl _)); (have c5 := hV5.cell 0 hc0); clear hw5 V0; simp only [Act.put]) | ((with_reducible refine wp_getG ?_ ((HS.out.below hb5).v.at_) Try.underlying40 ?_ ?_ ?_ ?_); (rfl); (rfl); (rw [hpl]; exact sizePx); (rfl); (try simp only [Act.put])) | ((with_reducible refine wp_getG ?_ (HCIN.out _ hV5.at_) Try.underlying34 ?_ ?_ ?_ ?_); (rfl); (rfl); (rw [hxl]; exact sizeX); (rfl); (try simp only [Act.put])) | (go_at_call 34; go_must (refine (CTx.out _ (below_through hb5 HS.out.b.size HS.out.b)).mono ?_; rintro e' w1 ⟨rfl, hb1⟩)) | fail)
          exact ⟨⟨i + 1, by omega, by go_num, hid0 (hnext.out HCB.out), (HS.out.below hb5).below hb1⟩, by simp [intOf]; omega⟩
        | false =>
          have HCB := hid0 (show countB1 os x = false by rw [hcb, hg]; rfl)
          clear hcb hg
          go_wp2_with (first | ((with_reducible refine wp_getB hRx Try.underlying44 ?_ ?_ ?_ ?_); (rfl); (rw [hcl]; exact sizeOut); (rfl); simp only [Act.put]) | ((with_reducible refine wp_putB V0 hone ?_ ?_ ?_ ?_ ?_); (exact hcl); (exact sizeOut); (rfl); (rfl); intro w5 hV5 hw5; (have hb5 : Below wr.heap.size wr w5 := by rw [hw5.out]; exact below_setCells _ 0 ((Below.refl _ _).alloc (Nat.le_refl _) _) (Nat.le_refl _)); (have c5 := hV5.cell 0 hc0); clear hw5 V0; simp only [Act.put]) | ((with_reducible refine wp_getG ?_ ((HS.out.below hb5).v.at_) Try.underlying40 ?_ ?_ ?_ ?_); (rfl); (rfl); (rw [hpl]; exact sizePx); (rfl); (try simp only [Act.put])) | ((with_reducible refine wp_getG ?_ (HCIN.out _ hV5.at_) Try.underlying34 ?_ ?_ ?_ ?_); (rfl); (rfl); (rw [hxl]; exact sizeX); (rfl); (try simp only [Act.put])) | (go_at_call 34; go_must (refine (CTx.out _ (below_through hb5 HS.out.b.size HS.out.b)).mono ?_; rintro e' w1 ⟨rfl, hb1⟩)) | fail)
          go_ret
          exact ⟨ret_bool (by rw [← HR.out, hbad.out HCB.out]), ((HS.out.below hb5).below hb1).b⟩
      · have g3 : (gx == 3) = false := by simpa using hg
        have HCB := hid0 (show countB1 os x = true by rw [hcb]; simp [hg])
        clear hcb hg
        go_wp2_with (first | ((with_reducible refine wp_getB hRx Try.underlying44 ?_ ?_ ?_ ?_); (rfl); (rw [hcl]; exact sizeOut); (rfl); simp only [Act.put]) | ((with_reducible refine wp_putB V0 hone ?_ ?_ ?_ ?_ ?_); (exact hcl); (exact sizeOut); (rfl); (rfl); intro w5 hV5 hw5; (have hb5 : Below wr.heap.size wr w5 := by rw [hw5.out]; exact below_setCells _ 0 ((Below.refl _ _).alloc (Nat.le_refl _) _) (Nat.le_refl _)); (have c5 := hV5.cell 0 hc0); clear hw5 V0; simp only [Act.put]) | fail)
        exact ⟨⟨i + 1, by omega, by go_num, hid0 (hnext.out HCB.out), HS.out.below hb5⟩, by simp [intOf]; omega⟩
    · have hie : ¬ (i : Int) < (N : Int) := by omega
      rw [List.take_of_length_le (by rw [HN.out]; omega)] at hO
      have hS := hid0 hS
      go_wp2_with fail
      go_ret
      exact ⟨ret_bool (by rw [← HR.out, hO.out]), hS.out.b⟩
end Go.Proofs.Ytfdkajefcplfjaa
