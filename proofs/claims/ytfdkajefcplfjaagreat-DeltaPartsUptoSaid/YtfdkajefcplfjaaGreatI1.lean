/- Several of my texts laid together, each as it was: Xo, Xp, Xq, Xr. Conditions: each names its own. -/
import Derived.Test.YtfdkajefcplfjaaGreatH9
import Derived.Test.YtfdkajefcplfjaaGreatH5
/- Whether a list of rows may be a bag. Conditions: the list's cells are known. -/
namespace Go.Proofs.YtfdkajefcplfjaaGreat
open Go.RowKit

/-- Whether the row at place i may stand there. -/
def okR (n : Int) : Bool := !(decide (n = 0) || decide (n < -1099511627776) || decide (1099511627776 < n))
def upAt (E : List Elem) : Nat → Elem → Bool
  | 0, _ => true
  | j + 1, e => match E[j]? with
    | some d => decide (rowsV d.r e.r < 0)
    | none => true
def rightAt (E : List Elem) (i : Nat) : Bool := match E[i]? with
  | some e => okR e.n && upAt E i e
  | none => true
def rightE (E : List Elem) : Bool := (List.range E.length).all (rightAt E)
theorem rightAt_get {E : List Elem} {i : Nat} (h : i < E.length) : rightAt E i = (okR E[i].n && upAt E i E[i]) := by
  unfold rightAt; rw [List.getElem?_eq_getElem h]
theorem upAt_get {E : List Elem} {j : Nat} (h : j < E.length) (e : Elem) : upAt E (j + 1) e = decide (rowsV E[j].r e.r < 0) := by
  show (match E[j]? with | some d => decide (rowsV d.r e.r < 0) | none => true) = _
  rw [List.getElem?_eq_getElem h]
set_option maxHeartbeats 4000000 in
theorem bagRight_all (a : Option Addr) (c : Nat) (E : List Elem) (w : World) (h : ElemsI w a c E) :
    Calls Tryz.prog 88 #[.slice a E.length c] w fun e w' => e = .returned (.bool (rightE E)) ∧ Below w.heap.size w w' := by
  have A := hid0 h.at_
  have HP := hid0 (fun e (he : e ∈ E) => (h.i e he).2.1)
  have hfew := h.few
  obtain ⟨R, hr⟩ : ∃ R, rightE E = R := ⟨_, rfl⟩
  rw [hr]
  have HR := hid0 (show (List.range E.length).all (rightAt E) = R from hr)
  clear h hr
  go_enter Tryz.func88, Tryz.ntmps88
  go_wp2
  go_loopw [7] (fun iv wr => ∃ i : Nat, i ≤ E.length ∧ iv = .int .i64 i ∧ Hid (((List.range E.length).take i).all (rightAt E) = true) ∧ Below w.heap.size w wr) (fun iv _ => E.length - (intOf iv).toNat)
  case atStart => exact ⟨0, Nat.zero_le _, rfl, hid0 rfl, Below.refl _ _⟩
  case round =>
    obtain ⟨i, hi, rfl, hO, hB⟩ := hrel
    have hsz := hB.size
    by_cases hlt : i < E.length
    · obtain ⟨b1, o1, rfl, hc1⟩ := (A.out.1.later hB) (by intro e; rw [e] at hlt; exact absurd hlt (by simp))
      have hcc := hc1
      obtain ⟨q0, q1⟩ := hc1 i hlt
      clear hc1
      have hrl : i < (List.range E.length).length := by simpa using hlt
      have hbad := hid0 (fun hf : rightAt E i = false => all_bad (f := rightAt E) hrl (by simpa using hf))
      have hnext := hid0 (fun hf : rightAt E i = true => all_take (f := rightAt E) hrl hO.out (by simpa using hf))
      have hra := rightAt_get hlt
      have hup : ∀ j, j + 1 = i → upAt E i E[i] = decide (rowsV (E[j]?.getD E[i]).r E[i].r < 0) := fun j hj => by
        subst hj
        rw [upAt_get (by omega), List.getElem?_eq_getElem (by omega)]; rfl
      have hup0 : i = 0 → upAt E i E[i] = true := fun h => by subst h; rfl
      obtain ⟨hn1, hn2⟩ := HP.out _ (List.getElem_mem hlt)
      have HCC := hid0 hcc
      have HRA := hid0 hra
      have HUP := hid0 hup
      have HUP0 := hid0 hup0
      clear hcc hra hup hup0
      by_cases hn0 : E[i].n = 0
      · rw [hn0] at q1
        have HX := hid0 hn0
        clear hn0
        go_wp2
        go_ret
        exact ⟨ret_bool (by rw [← HR.out, hbad.out (by rw [HRA.out, HX.out]; rfl)]), by go_grown⟩
      · by_cases hlo : E[i].n < -1099511627776
        · have HK := hid0 (show okR E[i].n = false by unfold okR; simp [hlo])
          go_wp2
          go_ret
          exact ⟨ret_bool (by rw [← HR.out, hbad.out (by rw [HRA.out, HK.out]; rfl)]), by go_grown⟩
        by_cases hhi : 1099511627776 < E[i].n
        · have HK := hid0 (show okR E[i].n = false by unfold okR; simp [hhi])
          go_wp2
          go_ret
          exact ⟨ret_bool (by rw [← HR.out, hbad.out (by rw [HRA.out, HK.out]; rfl)]), by go_grown⟩
        have HK := hid0 (show okR E[i].n = true by unfold okR; simp [hn0, hlo, hhi])
        have HX := hid0 (show rightAt E i = upAt E i E[i] by rw [HRA.out, HK.out]; rfl)
        go_wp2_with fail
        have hblk := BlkAt.new wr #[.slice E[i].a E[i].r.length E[i].c, .int .i64 E[i].n] 80
        have hBA := Below.alloc hB hsz (Obj.cells #[.slice E[i].a E[i].r.length E[i].c, .int .i64 E[i].n] 80)
        have hzA := hBA.size
        have HBA := hid0 hBA
        have hblt : b1 < wr.heap.size := World.block_lt_of_cell? _ _ q0
        have hlater : ∀ {p : Addr} {v : Value}, wr.cell? p = some v → (wr.alloc (Obj.cells #[.slice E[i].a E[i].r.length E[i].c, .int .i64 E[i].n] 80)).cell? p = some v := fun h => cell_later ((Below.refl _ _).alloc (Nat.le_refl _) _) h
        clear q0 q1 hB
        rcases Nat.eq_zero_or_pos i with h0 | hpos
        · have hg0 : ¬ (0 : Int) < (i : Int) := by omega
          have HT := hid0 (show rightAt E i = true by rw [HX.out]; exact HUP0.out h0)
          clear hlater
          generalize wr.alloc (Obj.cells #[.slice E[i].a E[i].r.length E[i].c, .int .i64 E[i].n] 80) = W at hblk hBA HBA hzA ⊢
          go_quiet (fail)
          go_wp2
          exact ⟨⟨i + 1, by omega, by go_num, hid0 (hnext.out HT.out), ⟨HBA.out.os, HBA.out.tape, HBA.out.output, HBA.out.size, HBA.out.block⟩⟩, by simp [intOf]; omega⟩
        · have HFX := hid0 (fun j (hj : j + 1 = i) (hjl : j < E.length) => (show rightAt E i = decide (rowsV E[j].r E[i].r < 0) by rw [HX.out, HUP.out j hj, List.getElem?_eq_getElem hjl]; rfl))
          obtain ⟨j, hj⟩ : ∃ j, j + 1 = i := ⟨i - 1, by omega⟩
          have hjl : j < E.length := by omega
          obtain ⟨s0, s1⟩ := HCC.out j hjl
          have s0' := hlater s0
          have hg0 : (0 : Int) < (i : Int) := by omega
          have hwj : IntKind.i64.wrap ((i : Int) - 1) = (j : Int) := by rw [IntWalk.i64_in _ (by omega)]; omega
          have hj2 : (j : Int) < (E.length : Int) := by omega
          have hjn : (0 : Int) ≤ (j : Int) := by omega
          have r1 := A.out.2 _ (List.getElem_mem hjl)
          have r2 := A.out.2 _ (List.getElem_mem hlt)
          obtain ⟨cv, hcv⟩ : ∃ cv, rowsV E[j].r E[i].r = cv := ⟨_, rfl⟩
          have CR : ∀ W, Below w.heap.size w W → Calls Tryz.prog 128 #[.slice E[j].a E[j].r.length E[j].c, .slice E[i].a E[i].r.length E[i].c] W fun e w' => e = .returned (.int .i64 cv) ∧ Below W.heap.size W w' := fun W hb => by
            have h := rows_any E[j].a E[i].a E[j].c E[i].c E[j].r E[i].r W (r1.1.later hb) (r2.1.later hb) (by have := r1.2; unfold rowOK at this; unfold maxLen; omega)
            rwa [hcv] at h
          have hfx := HFX.out j hj hjl
          clear HFX
          rw [hcv] at hfx
          obtain ⟨p0, p1⟩ := hblk.two
          have HFX := hid0 hfx
          clear r1 r2 hcv s0 s1 hlater HCC hj hfx
          generalize wr.alloc (Obj.cells #[.slice E[i].a E[i].r.length E[i].c, .int .i64 E[i].n] 80) = W at hblk hBA HBA hzA s0' p0 p1 ⊢
          generalize wr.heap.size = B at hblk hsz hblt p0 p1 ⊢
          go_region_held3 (fun w' => w'.cell? ⟨b1, o1 + j * 2, none⟩ = some (.slice E[j].a E[j].r.length E[j].c) ∧ w'.cell? ⟨B, 0, none⟩ = some (.slice E[i].a E[i].r.length E[i].c) ∧ Below w.heap.size w w')
            ((go_split_ands; (try dsimp only); (repeat' apply And.intro); all_goals (first
              | assumption
              | exact cell_later hbn ‹_›
              | exact below_through hbn (Below.size ‹Below w.heap.size w _›) ‹_›
              | exact Below.drew hBA
              | go_keep)))
            (first
              | (go_at_call 128; (try go_split_ands); refine (CR _ (by assumption)).mono ?_; rintro e wn ⟨rfl, hbn⟩))
          have HH := ‹wn.cell? ⟨b1, o1 + j * 2, none⟩ = some (.slice E[j].a E[j].r.length E[j].c) ∧ _›
          have hBn := HH.2.2
          clear CR s0' p0 p1 hblk
          by_cases hcn : (0 : Int) ≤ cv
          · have HN := hid0 hcn
            go_wp2
            go_ret
            exact ⟨ret_bool (by rw [← HR.out, hbad.out (by rw [HFX.out]; have := HN.out; simp; omega)]), hBn⟩
          · have HN := hid0 hcn
            go_wp2
            exact ⟨⟨i + 1, by omega, by go_num, hid0 (hnext.out (by rw [HFX.out]; have := HN.out; simp; omega)), hBn⟩, by simp [intOf]; omega⟩
    · have hie : ¬ (i : Int) < E.length := by omega
      rw [List.take_of_length_le (by simp; omega)] at hO
      go_wp2
      go_ret
      exact ⟨ret_bool (by rw [← HR.out, hO.out]), hB⟩
end Go.Proofs.YtfdkajefcplfjaaGreat

/- Whether a list of rows takes none away; whether one has another width. Conditions: the list's cells are known. -/
namespace Go.Proofs.YtfdkajefcplfjaaGreat
open Go.RowKit

theorem takesAway_all (a : Option Addr) (n c : Nat) (m : Int) (w : World) :
    Calls Tryz.prog 214 #[.agg #[.slice a n c, .int .i64 m]] w fun e w' => e = .returned (.bool (decide (m < 0))) ∧ Below w.heap.size w w' := by
  obtain ⟨r, hr⟩ : ∃ r, decide (m < 0) = r := ⟨_, rfl⟩
  have HR := hid0 hr
  rw [hr]
  by_cases h : m < 0
  · clear hr
    go_enter Tryz.func214, Tryz.ntmps214
    go_wp2
    go_ret
    exact ⟨ret_bool (by rw [← HR.out]; simpa using h), by go_grown⟩
  · clear hr
    go_enter Tryz.func214, Tryz.ntmps214
    go_wp2
    go_ret
    exact ⟨ret_bool (by rw [← HR.out]; simpa using h), by go_grown⟩
theorem fits1_any (a : Option Addr) (n c : Nat) (m wd : Int) (vb : Nat) (w : World) (hv : w.cell? ⟨vb, 0, none⟩ = some (.int .i64 wd)) :
    Calls Tryz.prog 149 #[.agg #[.slice a n c, .int .i64 m], .pointer (some ⟨vb, 0, none⟩)] w fun e w' => e = .returned (.bool (decide ((n : Int) ≠ wd))) ∧ Below w.heap.size w w' := by
  obtain ⟨r, hr⟩ : ∃ r, decide ((n : Int) ≠ wd) = r := ⟨_, rfl⟩
  have HR := hid0 hr
  rw [hr]
  have hlt : vb < w.heap.size := World.block_lt_of_cell? _ _ hv
  by_cases h : (n : Int) = wd
  · subst h
    clear hr
    go_enter Tryz.func149, Tryz.ntmps149
    go_wp2
    go_ret
    exact ⟨ret_bool (by rw [← HR.out]; simp), by go_grown⟩
  · clear hr
    go_enter Tryz.func149, Tryz.ntmps149
    go_wp2
    go_ret
    exact ⟨ret_bool (by rw [← HR.out]; simp [h]), by go_grown⟩
set_option maxHeartbeats 1000000 in
theorem indexMany_takes (a : Option Addr) (c : Nat) (E : List Elem) (q : Elem → Bool) (rb : Bool) (hrb : E.any q = rb) (w : World) (h : ElemsI w a c E)
    (CP : ∀ e ∈ E, ∀ W, Below w.heap.size w W → Calls Tryz.prog 214 #[.agg #[.slice e.a e.r.length e.c, .int .i64 e.n]] W fun e' w' => e' = .returned (.bool (q e)) ∧ Below W.heap.size W w') :
    Calls Tryz.prog 215 #[.slice a E.length c, .func (.func 214) #[] #[]] w fun e w' => (∃ r : Int, e = .returned (.int .i64 r) ∧ IsAt r rb) ∧ Below w.heap.size w w' := by
  have A := hid0 h.at_
  have hfew := h.few
  have HR := hid0 hrb
  have HC := hid0 CP
  clear h hrb CP
  go_enter Tryz.func215, Tryz.ntmps215
  go_wp2
  go_loopw [8] (fun iv wr => ∃ i : Nat, i ≤ E.length ∧ iv = .int .i64 i ∧ Hid ((E.take i).all (fun x => !q x) = true) ∧ Below w.heap.size w wr) (fun iv _ => E.length - (intOf iv).toNat)
  case atStart => exact ⟨0, Nat.zero_le _, rfl, hid0 rfl, Below.refl _ _⟩
  case round =>
    obtain ⟨i, hi, rfl, hO, hB⟩ := hrel
    have hsz := hB.size
    by_cases hlt : i < E.length
    · obtain ⟨b1, o1, rfl, hc1⟩ := (A.out.1.later hB) (by intro e; rw [e] at hlt; exact absurd hlt (by simp))
      obtain ⟨q0, q1⟩ := hc1 i hlt
      clear hc1
      have hmem := List.getElem_mem hlt
      have hnext := hid0 (fun hf => all_take hlt hO.out hf)
      have CX := HC.out _ hmem
      generalize E[i] = x at q0 q1 hmem hnext CX
      have HM := hid0 (fun hx : q x = true => (List.any_eq_true.2 ⟨x, hmem, hx⟩ : E.any q = true))
      have CX := hid0 CX
      have hBZ := hB
      clear hmem
      generalize q x = ra at CX hnext HM
      cases ra with
      | true =>
        go_wp2_with (go_at_call 214; go_must (refine (CX.out _ hBZ).mono ?_; rintro e wn ⟨rfl, hbn⟩))
        go_ret
        exact ⟨⟨i, rfl, by rw [← HR.out, HM.out (by trivial)]; unfold IsAt; simp⟩, below_through hbn hsz hB⟩
      | false =>
        go_wp2_with (go_at_call 214; go_must (refine (CX.out _ hBZ).mono ?_; rintro e wn ⟨rfl, hbn⟩))
        exact ⟨⟨i + 1, by omega, by go_num, hid0 (hnext.out (by trivial)), below_through hbn hsz hB⟩, by simp [intOf]; omega⟩
    · have hie : ¬ (i : Int) < E.length := by omega
      rw [List.take_of_length_le (by omega)] at hO
      go_wp2
      go_ret
      exact ⟨⟨-1, rfl, by
        have := hO.out
        have h2 : E.any q = false := by
          rw [List.any_eq_false]
          intro x hx
          simpa using List.all_eq_true.1 this x hx
        rw [← HR.out, h2]; rfl⟩, hB⟩
theorem containsMany_takes (a : Option Addr) (c : Nat) (E : List Elem) (q : Elem → Bool) (w : World) (h : ElemsI w a c E)
    (CP : ∀ e ∈ E, ∀ W, Below w.heap.size w W → Calls Tryz.prog 214 #[.agg #[.slice e.a e.r.length e.c, .int .i64 e.n]] W fun e' w' => e' = .returned (.bool (q e)) ∧ Below W.heap.size W w') :
    Calls Tryz.prog 151 #[.slice a E.length c, .func (.func 214) #[] #[]] w fun e w' => e = .returned (.bool (E.any q)) ∧ Below w.heap.size w w' := by
  obtain ⟨rb, hrb⟩ : ∃ rb, E.any q = rb := ⟨_, rfl⟩
  have H := hid0 (indexMany_takes a c E q rb hrb w h CP)
  rw [hrb]
  clear h CP hrb
  go_enter Tryz.func151, Tryz.ntmps151
  go_wp2_with (go_at_call 215; refine H.out.mono ?_; rintro e w1 ⟨⟨r, rfl, HR⟩, hb⟩)
  go_ret
  exact ⟨ret_bool HR, hb⟩
set_option maxHeartbeats 1000000 in
theorem indexMany_fits (vb : Nat) (a : Option Addr) (c : Nat) (E : List Elem) (q : Elem → Bool) (rb : Bool) (hrb : E.any q = rb) (w : World) (h : ElemsI w a c E)
    (CP : ∀ e ∈ E, ∀ W, Below w.heap.size w W → Calls Tryz.prog 149 #[.agg #[.slice e.a e.r.length e.c, .int .i64 e.n], .pointer (some ⟨vb, 0, none⟩)] W fun e' w' => e' = .returned (.bool (q e)) ∧ Below W.heap.size W w') :
    Calls Tryz.prog 215 #[.slice a E.length c, .func (.func 149) #[] #[.pointer (some ⟨vb, 0, none⟩)]] w fun e w' => (∃ r : Int, e = .returned (.int .i64 r) ∧ IsAt r rb) ∧ Below w.heap.size w w' := by
  have A := hid0 h.at_
  have hfew := h.few
  have HR := hid0 hrb
  have HC := hid0 CP
  clear h hrb CP
  go_enter Tryz.func215, Tryz.ntmps215
  go_wp2
  go_loopw [8] (fun iv wr => ∃ i : Nat, i ≤ E.length ∧ iv = .int .i64 i ∧ Hid ((E.take i).all (fun x => !q x) = true) ∧ Below w.heap.size w wr) (fun iv _ => E.length - (intOf iv).toNat)
  case atStart => exact ⟨0, Nat.zero_le _, rfl, hid0 rfl, Below.refl _ _⟩
  case round =>
    obtain ⟨i, hi, rfl, hO, hB⟩ := hrel
    have hsz := hB.size
    by_cases hlt : i < E.length
    · obtain ⟨b1, o1, rfl, hc1⟩ := (A.out.1.later hB) (by intro e; rw [e] at hlt; exact absurd hlt (by simp))
      obtain ⟨q0, q1⟩ := hc1 i hlt
      clear hc1
      have hmem := List.getElem_mem hlt
      have hnext := hid0 (fun hf => all_take hlt hO.out hf)
      have CX := HC.out _ hmem
      generalize E[i] = x at q0 q1 hmem hnext CX
      have HM := hid0 (fun hx : q x = true => (List.any_eq_true.2 ⟨x, hmem, hx⟩ : E.any q = true))
      have CX := hid0 CX
      have hBZ := hB
      clear hmem
      generalize q x = ra at CX hnext HM
      cases ra with
      | true =>
        go_wp2_with (go_at_call 149; go_must (refine (CX.out _ hBZ).mono ?_; rintro e wn ⟨rfl, hbn⟩))
        go_ret
        exact ⟨⟨i, rfl, by rw [← HR.out, HM.out (by trivial)]; unfold IsAt; simp⟩, below_through hbn hsz hB⟩
      | false =>
        go_wp2_with (go_at_call 149; go_must (refine (CX.out _ hBZ).mono ?_; rintro e wn ⟨rfl, hbn⟩))
        exact ⟨⟨i + 1, by omega, by go_num, hid0 (hnext.out (by trivial)), below_through hbn hsz hB⟩, by simp [intOf]; omega⟩
    · have hie : ¬ (i : Int) < E.length := by omega
      rw [List.take_of_length_le (by omega)] at hO
      go_wp2
      go_ret
      exact ⟨⟨-1, rfl, by
        have := hO.out
        have h2 : E.any q = false := by
          rw [List.any_eq_false]
          intro x hx
          simpa using List.all_eq_true.1 this x hx
        rw [← HR.out, h2]; rfl⟩, hB⟩
theorem containsMany_fits (vb : Nat) (a : Option Addr) (c : Nat) (E : List Elem) (q : Elem → Bool) (w : World) (h : ElemsI w a c E)
    (CP : ∀ e ∈ E, ∀ W, Below w.heap.size w W → Calls Tryz.prog 149 #[.agg #[.slice e.a e.r.length e.c, .int .i64 e.n], .pointer (some ⟨vb, 0, none⟩)] W fun e' w' => e' = .returned (.bool (q e)) ∧ Below W.heap.size W w') :
    Calls Tryz.prog 151 #[.slice a E.length c, .func (.func 149) #[] #[.pointer (some ⟨vb, 0, none⟩)]] w fun e w' => e = .returned (.bool (E.any q)) ∧ Below w.heap.size w w' := by
  obtain ⟨rb, hrb⟩ : ∃ rb, E.any q = rb := ⟨_, rfl⟩
  have H := hid0 (indexMany_fits vb a c E q rb hrb w h CP)
  rw [hrb]
  clear h CP hrb
  go_enter Tryz.func151, Tryz.ntmps151
  go_wp2_with (go_at_call 215; refine H.out.mono ?_; rintro e w1 ⟨⟨r, rfl, HR⟩, hb⟩)
  go_ret
  exact ⟨ret_bool HR, hb⟩

def plainE (E : List Elem) : Bool := rightE E && !E.any (fun e => decide (e.n < 0))
theorem bagPlain_all (a : Option Addr) (c : Nat) (E : List Elem) (w : World) (h : ElemsI w a c E) :
    Calls Tryz.prog 150 #[.slice a E.length c] w fun e w' => e = .returned (.bool (plainE E)) ∧ Below w.heap.size w w' := by
  have CR := hid0 (bagRight_all a c E w h)
  have CC := hid0 (fun W (hW : Below w.heap.size w W) => containsMany_takes a c E (fun e => decide (e.n < 0)) W (h.later hW) (fun e _ W' _ => takesAway_all e.a e.r.length e.c e.n W'))
  obtain ⟨R, hr⟩ : ∃ R, plainE E = R := ⟨_, rfl⟩
  rw [hr]
  have HR := hid0 (show (rightE E && !E.any (fun e => decide (e.n < 0))) = R from hr)
  clear h hr
  generalize rightE E = ra at *
  generalize E.any (fun e => decide (e.n < 0)) = rc at *
  cases ra with
  | false =>
    go_enter Tryz.func150, Tryz.ntmps150
    go_wp2_with (go_at_call 88; refine CR.out.mono ?_; rintro e w1 ⟨rfl, hb1⟩)
    go_ret
    exact ⟨ret_bool (by rw [← HR.out]; rfl), hb1⟩
  | true =>
    go_enter Tryz.func150, Tryz.ntmps150
    go_wp2_with (first
      | (go_at_call 88; refine CR.out.mono ?_; rintro e w1 ⟨rfl, hb1⟩)
      | (go_at_call 151; refine (CC.out _ hb1).mono ?_; rintro e w2 ⟨rfl, hb2⟩))
    go_ret
    exact ⟨ret_bool (by rw [← HR.out]; simp), below_through hb2 hb1.size hb1⟩
end Go.Proofs.YtfdkajefcplfjaaGreat

/- What is at a name fits a width, or not. Conditions: the names' cells are known. -/
namespace Go.Proofs.YtfdkajefcplfjaaGreat
open Go.RowKit

def fitsE (l : List Nx) (s : List UInt8) (wd : Int) : Int := match findN l s with
  | none => 5
  | some x => if plainE x.E = true ∧ x.E.any (fun e => decide ((e.r.length : Int) ≠ wd)) = false then 0 else 1
theorem findN_mem {l : List Nx} {s : List UInt8} {x : Nx} (h : findN l s = some x) : x ∈ l := List.mem_of_find?_eq_some h
theorem below_two (w : World) (o1 o2 : Obj) : Below w.heap.size w ((w.alloc o1).alloc o2) := ((Below.refl _ _).alloc (Nat.le_refl _) _).alloc (by simp) _
set_option maxRecDepth 100000 in
set_option maxHeartbeats 2000000 in
theorem fits_any (b : Nat) (l : List Nx) (s : ByteArray) (wd : Int) (w : World) (hT : ThereAt w b l) (hN : ∀ x ∈ l, ElemsI w x.a x.c x.E) (hs : s.size ≤ maxLen) :
    Calls Tryz.prog 109 #[.map (some b), .string s, .int .i64 wd] w fun e w' => e = .returned (.int .i64 (fitsE l s.data.toList wd)) ∧ Below w.heap.size w w' := by
  have hlk := (hT.later ((Below.refl _ _).alloc (Nat.le_refl _) (Obj.cells #[.int .i64 wd] 3))).look true hs
  unfold srcOf at hlk
  unfold fitsE
  have HN := hid0 hN
  clear hT hN
  have hBz := below_two w (Obj.cells #[.int .i64 wd] 3)
  cases hf : findN l s.data.toList with
  | none =>
    rw [hf] at hlk
    dsimp only at hlk
    unfold noSrc at hlk
    clear hf
    have hB := hid0 (hBz (Obj.cells #[.slice none 0 0, .int .i64 0] 140))
    clear hBz
    go_enter Tryz.func109, Tryz.ntmps109
    go_wp2
    go_ret
    exact ⟨rfl, hB.out⟩
  | some x =>
    rw [hf] at hlk
    dsimp only at hlk
    unfold Nx.val at hlk
    have hx := HN.out x (findN_mem hf)
    clear hf
    have hBc := hid0 (hBz (Obj.cells #[.slice x.a x.E.length x.c, .int .i64 (sizeB (x.E.map pr))] 140))
    have V2 := VarB.two (w := w) [.int .i64 wd] [.slice x.a x.E.length x.c, .int .i64 (sizeB (x.E.map pr))] 3 140
    have qb := hid0 (V2.1.cell 0 rfl)
    have qs := hid0 (V2.2.cell 0 rfl)
    have CP := hid0 (fun W (hW : Below w.heap.size w W) => bagPlain_all x.a x.c x.E W (hx.later hW))
    have CC := hid0 (fun W (hW : Below w.heap.size w W) (hv : W.cell? ⟨w.heap.size, 0, none⟩ = some (.int .i64 wd)) => containsMany_fits w.heap.size x.a x.c x.E (fun e => decide ((e.r.length : Int) ≠ wd)) W (hx.later hW) (fun e _ W' hW' => fits1_any e.a e.r.length e.c e.n wd w.heap.size W' (cell_later hW' hv)))
    obtain ⟨R, hr⟩ : ∃ R : Int, (if plainE x.E = true ∧ x.E.any (fun e => decide ((e.r.length : Int) ≠ wd)) = false then 0 else 1) = R := ⟨_, rfl⟩
    have HR := hid0 hr
    show Calls Tryz.prog 109 #[.map (some b), .string s, .int .i64 wd] w fun e w' => e = .returned (.int .i64 (if plainE x.E = true ∧ x.E.any (fun e => decide ((e.r.length : Int) ≠ wd)) = false then 0 else 1)) ∧ Below w.heap.size w w'
    rw [hr]
    clear hr
    clear hx V2 hBz
    generalize sizeB (x.E.map pr) = z at hlk hBc qs qb
    generalize x.E.any (fun e => decide ((e.r.length : Int) ≠ wd)) = rc at *
    generalize plainE x.E = ra at *
    cases ra with
    | false =>
      go_enter Tryz.func109, Tryz.ntmps109
      go_wp2_with (first | (go_at_call 150; go_must (refine (CP.out _ hBc.out).mono ?_; rintro e w1 ⟨rfl, hb1⟩; (have hB1 := below_through hb1 hBc.out.size hBc.out); (have q1 := cell_later hb1 qb.out); (have q2 := cell_later hb1 qs.out))) | fail)
      go_ret
      exact ⟨ret_i64 (by rw [← HR.out]; simp), hB1⟩
    | true =>
      cases rc with
      | false =>
        go_enter Tryz.func109, Tryz.ntmps109
        go_wp2_with (first | (go_at_call 150; go_must (refine (CP.out _ hBc.out).mono ?_; rintro e w1 ⟨rfl, hb1⟩; (have hB1 := below_through hb1 hBc.out.size hBc.out); (have q1 := cell_later hb1 qb.out); (have q2 := cell_later hb1 qs.out))) | (go_at_call 151; go_must (refine (CC.out _ hB1 q1).mono ?_; rintro e w2 ⟨rfl, hb2⟩; (have hB2 := below_through hb2 hB1.size hB1))) | fail)
        go_ret
        exact ⟨ret_i64 (by rw [← HR.out]; simp), hB2⟩
      | true =>
        go_enter Tryz.func109, Tryz.ntmps109
        go_wp2_with (first | (go_at_call 150; go_must (refine (CP.out _ hBc.out).mono ?_; rintro e w1 ⟨rfl, hb1⟩; (have hB1 := below_through hb1 hBc.out.size hBc.out); (have q1 := cell_later hb1 qb.out); (have q2 := cell_later hb1 qs.out))) | (go_at_call 151; go_must (refine (CC.out _ hB1 q1).mono ?_; rintro e w2 ⟨rfl, hb2⟩; (have hB2 := below_through hb2 hB1.size hB1))) | fail)
        go_ret
        exact ⟨ret_i64 (by rw [← HR.out]; simp), hB2⟩
end Go.Proofs.YtfdkajefcplfjaaGreat

/- Whether what a plan reads is there. Conditions: the plan's and the names' cells are known. -/
namespace Go.Proofs.YtfdkajefcplfjaaGreat
open Go.RowKit

def readyFE (l : List Nx) : List ByteArray → List Int → Int
  | s :: fs, w :: ws => if fitsE l s.data.toList w = 0 then readyFE l fs ws else fitsE l s.data.toList w
  | _, _ => 0
def readyLE (l : List Nx) : List Px → Int
  | [] => 0
  | p :: ps => if readyFE l p.fs p.ws = 0 then readyLE l ps else readyFE l p.fs p.ws
def readyE (l : List Nx) (ps : List Px) : Int := if planB ps = true then readyLE l ps else 1
theorem readyFE_at {l : List Nx} {fs : List ByteArray} {ws : List Int} {j : Nat} (h1 : j < fs.length) (h2 : j < ws.length) : readyFE l (fs.drop j) (ws.drop j) = if fitsE l fs[j].data.toList ws[j] = 0 then readyFE l (fs.drop (j + 1)) (ws.drop (j + 1)) else fitsE l fs[j].data.toList ws[j] := by
  rw [List.drop_eq_getElem_cons h1, List.drop_eq_getElem_cons h2, readyFE]
theorem readyLE_at {l : List Nx} {ps : List Px} {j : Nat} (h1 : j < ps.length) : readyLE l (ps.drop j) = if readyFE l ps[j].fs ps[j].ws = 0 then readyLE l (ps.drop (j + 1)) else readyFE l ps[j].fs ps[j].ws := by
  rw [List.drop_eq_getElem_cons h1, readyLE]
theorem readyFE_end {l : List Nx} {fs : List ByteArray} {ws : List Int} {j : Nat} (h : ¬ j < fs.length) : readyFE l (fs.drop j) (ws.drop j) = 0 := by
  rw [List.drop_of_length_le (by omega)]; rfl
theorem readyLE_end {l : List Nx} {ps : List Px} {j : Nat} (h : ¬ j < ps.length) : readyLE l (ps.drop j) = 0 := by
  rw [List.drop_of_length_le (by omega)]; rfl
theorem plan_widths {ps : List Px} (h : planB ps = true) : ∀ p ∈ ps, p.ws.length = p.fs.length := fun p hp => by
  unfold planB at h
  simp only [Bool.and_eq_true, List.all_eq_true] at h
  have h1 := (h.2 p hp).1
  unfold partB acrossB at h1
  simp only [Bool.and_eq_true, decide_eq_true_eq] at h1
  exact h1.1.1.1.2
set_option maxRecDepth 100000 in
set_option maxHeartbeats 2000000 in
theorem ready_any {k : Nat} (b : Nat) (l : List Nx) (a : Option Addr) (c : Nat) (ps : List Px) (w : World) (hT : ThereAt w b l) (hN : ∀ x ∈ l, ElemsI w x.a x.c x.E) (hp : PsOk w k a c ps) :
    Calls Tryz.prog 72 #[.map (some b), planV a ps.length c] w fun e w' => e = .returned (.int .i64 (readyE l ps)) ∧ Below w.heap.size w w' := by
  have hfew := hp.few
  have V0 := VarB.new w [.slice a ps.length c] 24
  have q0 := V0.cell 0 rfl
  have hB0 : Below w.heap.size w (w.alloc (.cells #[.slice a ps.length c] 24)) := (Below.refl _ _).alloc (Nat.le_refl _) _
  have CR := hid0 (planRight_any a c ps _ (hp.later hB0))
  have CX := hid0 (fun s wd (hs : s.size ≤ maxLen) W (hW : Below w.heap.size w W) => fits_any b l s wd W (hT.later hW) (fun x hx => (hN x hx).later hW) hs)
  have HP := hid0 hp
  have hwid := hid0 (plan_widths (ps := ps))
  obtain ⟨R, hr⟩ : ∃ R, readyE l ps = R := ⟨_, rfl⟩
  rw [hr]
  have HR := hid0 (show (if planB ps = true then readyLE l ps else 1) = R from hr)
  clear hr hp hT hN
  unfold planV at *
  obtain ⟨n, hn⟩ : ∃ n, ps.length = n := ⟨_, rfl⟩
  have HN := hid0 hn
  rw [hn] at V0 q0 hB0 CR hfew ⊢
  clear hn
  generalize planB ps = rp at *
  cases rp with
  | false =>
    go_enter Tryz.func72, Tryz.ntmps72
    go_wp2_with (first | ((with_reducible refine wp_getB V0.at_ Tryz.underlying24 ?_ ?_ ?_ ?_); (rfl); (exact sizePlan); (rfl); (try simp only [Act.put])) | (go_at_call 108; ((with_reducible refine CR.out.mono ?_); rintro e w1 ⟨rfl, hb1⟩; (have hB1 := below_through hb1 hB0.size hB0); (have q1 := cell_later hb1 q0); clear hb1)) | fail)
    go_ret
    exact ⟨ret_i64 (by rw [← HR.out]; rfl), hB1⟩
  | true =>
    have HRL := hid0 (show readyLE l ps = R by rw [← HR.out]; rfl)
    go_enter Tryz.func72, Tryz.ntmps72
    go_wp2_with (first | ((with_reducible refine wp_getB V0.at_ Tryz.underlying24 ?_ ?_ ?_ ?_); (rfl); (exact sizePlan); (rfl); (try simp only [Act.put])) | (go_at_call 108; ((with_reducible refine CR.out.mono ?_); rintro e w1 ⟨rfl, hb1⟩; (have hB1 := below_through hb1 hB0.size hB0); (have q1 := cell_later hb1 q0); clear hb1)) | fail)
    clear q0 q1 V0 CR hB0
    go_loopw [16] (fun iv wr => ∃ i : Nat, i ≤ n ∧ iv = .int .i64 i ∧ Hid (readyLE l (ps.drop i) = R) ∧ Below w.heap.size w wr) (fun iv _ => n - (intOf iv).toNat)
    case atStart => exact ⟨0, Nat.zero_le _, rfl, hid0 HRL.out, hB1⟩
    case round =>
      obtain ⟨i, hi, rfl, hO, hB⟩ := hrel
      clear hB1
      have hsz := hB.size
      by_cases hlt : i < n
      · have hlt1 : i < ps.length := by rw [HN.out]; exact hlt
        obtain ⟨bp, op, rfl, hbp, hR⟩ := (HP.out.later hB).part i hlt1
        have hok := HP.out.ok _ (List.getElem_mem hlt1)
        have hwd := hwid.out (by trivial) _ (List.getElem_mem hlt1)
        have hstep := hid0 ((readyLE_at (l := l) hlt1).symm.trans hO.out)
        generalize ps[i] = p at hR hok hwd hstep
        have HOK := hid0 hok
        have hcl := p.cells_len
        have h1' := p.one
        have H1 := hid0 p.c1
        have H2 := hid0 p.c2
        have hfF := hok.fewF
        have V0 : VarB (wr.alloc (Obj.cells #[.bool false, .slice none 0 0, .slice none 0 0, .int .i64 0, .int .i64 0, .int .i64 0, .int .i64 0, .int .i64 0, .int .i64 0, .string ⟨#[]⟩, .slice none 0 0, .int .i64 0, .int .i64 0, .int .i64 0, .int .i64 0, .string ⟨#[]⟩, .slice none 0 0, .slice none 0 0, .slice none 0 0, .slice none 0 0] 50)) wr.heap.size zPx := VarB.new wr zPx 50
        have HFS := hid0 hok.fs
        have HWS := hid0 hok.ws
        clear hok HOK
        generalize p.cells = us at *
        generalize p.fs = fs at *
        generalize p.ws = ws at *
        generalize p.fp = fp at *
        generalize p.fc = fc at *
        generalize p.wp = wp at *
        generalize p.wc = wc at *
        obtain ⟨m, hm⟩ : ∃ m, fs.length = m := ⟨_, rfl⟩
        have HM := hid0 hm
        rw [hm] at H1 hfF hwd
        have HW := hid0 hwd
        rw [hwd] at H2
        clear hm hwd
        go_wp2_with (first | ((with_reducible refine wp_getB hR Tryz.underlying50 ?_ ?_ ?_ ?_); (rfl); (rw [hcl]; exact sizePx); (rfl); (try simp only [Act.put])) | ((with_reducible refine wp_putB V0 h1' ?_ ?_ ?_ ?_ ?_); (exact hcl); (exact sizePx); (rfl); (rfl); intro w5 hV5 hw5; (have hb5 : Below w.heap.size w w5 := by rw [hw5.out]; exact below_setCells _ 0 (hB.alloc hsz _) hsz); clear hw5; (have r1 := hV5.cell 1 H1.out); simp only [Act.put]) | fail)
        clear r1
        go_loopw [23] (fun jv wi => ∃ j : Nat, j ≤ m ∧ jv = .int .i64 j ∧ Hid (readyFE l (fs.drop j) (ws.drop j) = readyFE l fs ws) ∧ VarB wi wr.heap.size us ∧ Below w.heap.size w wi) (fun jv _ => m - (intOf jv).toNat)
        case atStart => exact ⟨0, Nat.zero_le _, rfl, hid0 rfl, hV5, hb5⟩
        case round =>
          obtain ⟨j, hj, rfl, hO2, hVi, hBi⟩ := hrel
          clear hV5 hb5
          by_cases hjl : j < m
          · have hj1 : j < fs.length := by rw [HM.out]; exact hjl
            have hj2 : j < ws.length := by rw [HW.out]; exact hjl
            obtain ⟨b1, o1, rfl, hc1⟩ := (HFS.out.later hBi).out (by intro e; rw [e] at hj1; exact absurd hj1 (by simp))
            have s0 := hc1 j hj1
            have hss := HFS.out.small _ (List.getElem_mem hj1)
            obtain ⟨b2, o2, rfl, hc2⟩ := (HWS.out.later hBi).at_ (by intro e; rw [e] at hj2; exact absurd hj2 (by simp))
            have t0 := hc2 j hj2
            have hst2 := hid0 ((readyFE_at (l := l) hj1 hj2).symm.trans hO2.out)
            have CX := hid0 (fun W hW => CX.out fs[j] ws[j] hss W hW)
            have v2 := hVi.cell 2 H2.out
            generalize fs[j] = sj at *
            generalize ws[j] = wj at *
            generalize fitsE l sj.data.toList wj = F at *
            clear hc1 hc2
            by_cases hF : F = 0
            · subst hF
              have HS2 := hid0 (show readyFE l (fs.drop (j + 1)) (ws.drop (j + 1)) = readyFE l fs ws by rw [← hst2.out]; simp)
              clear hst2
              go_wp2_with (first | (go_at_call 109; go_must (refine (CX.out _ hBi).mono ?_; rintro e w6 ⟨rfl, hb6⟩; (have hV6 := hVi.below hb6); (have hB6 := below_through hb6 hBi.size hBi); clear hb6)) | fail)
              exact ⟨⟨j + 1, by omega, by go_num, HS2, hV6, hB6⟩, by simp [intOf]; omega⟩
            · have HF := hid0 hF
              have hne : ¬ F = 0 := hF
              clear hF
              go_wp2_with (first | (go_at_call 109; go_must (refine (CX.out _ hBi).mono ?_; rintro e w6 ⟨rfl, hb6⟩; (have hV6 := hVi.below hb6); (have hB6 := below_through hb6 hBi.size hBi); clear hb6)) | fail)
              go_ret
              exact ⟨ret_i64 (by rw [← hstep.out, ← hst2.out]; simp [HF.out]), hB6⟩
          · have hje : ¬ (j : Int) < m := by omega
            have h0 := hO2.out
            rw [readyFE_end (by rw [HM.out]; exact hjl)] at h0
            have H0 := hid0 h0
            clear h0
            go_wp2
            exact ⟨⟨i + 1, by omega, by go_num, hid0 (by rw [← hstep.out, ← H0.out]; simp), hBi⟩, by simp [intOf]; omega⟩
      · have hie : ¬ (i : Int) < n := by omega
        have h0 := hO.out
        rw [readyLE_end (by rw [HN.out]; exact hlt)] at h0
        have H0 := hid0 h0
        clear h0
        go_wp2
        go_ret
        exact ⟨ret_i64 (by rw [← H0.out]), hB⟩
end Go.Proofs.YtfdkajefcplfjaaGreat
