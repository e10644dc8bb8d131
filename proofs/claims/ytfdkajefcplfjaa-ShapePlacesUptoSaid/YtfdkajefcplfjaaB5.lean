/- Several of my texts laid together, each as it was: Xg, Xh, S2. Conditions: each names its own. -/
import Derived.Test.YtfdkajefcplfjaaB4
import Derived.Test.YtfdkajefcplfjaaB3
/- Whether a plan may be: the small questions: within, inside, aggregates, whether one of the outs is one, whether a list holds a number. Conditions: the lists' cells are known. -/
namespace Go.Proofs.Ytfdkajefcplfjaa
open Go.RowKit

theorem within_any (n a b : Int) (w : World) : Calls Try.prog 29 #[.int .i64 n, .int .i64 a, .int .i64 b] w fun e w' => e = .returned (.bool (inN n a b)) ∧ w' = w := by
  unfold inN
  by_cases h1 : a ≤ n
  · have hd : decide (a ≤ n) = true := by simpa using h1
    go_enter Try.func29, Try.ntmps29
    go_wp2
    go_ret
    exact ⟨ret_bool (by simp; exact fun _ => h1), rfl⟩
  · have hd : decide (a ≤ n) = false := by simpa using h1
    go_enter Try.func29, Try.ntmps29
    go_wp2
    go_ret
    exact ⟨ret_bool (by simp), rfl⟩
theorem all_take {α : Type} {l : List α} {f : α → Bool} {i : Nat} (hi : i < l.length) (h : (l.take i).all f = true) (hf : f l[i] = true) : (l.take (i + 1)).all f = true := by
  rw [List.take_succ_eq_append_getElem hi, List.all_append, h]; simp [hf]
theorem all_bad {α : Type} {l : List α} {f : α → Bool} {i : Nat} (hi : i < l.length) (hf : f l[i] = false) : l.all f = false := by
  rw [List.all_eq_false]; exact ⟨l[i], List.getElem_mem hi, by simp [hf]⟩
set_option maxHeartbeats 1000000 in
theorem inside_any (a : Option Addr) (c : Nat) (l : List Int) (W : Int) (w : World) (h : IntsAt w a l) (hl : l.length ≤ 17592186044416) (hW : 0 ≤ W ∧ W ≤ 1000) :
    Calls Try.prog 65 #[.slice a l.length c, .int .i64 W] w fun e w' => e = .returned (.bool (insideB l W)) ∧ w' = w := by
  have A := hid0 h
  have hw0 : IntKind.i64.wrap (W - 1) = W - 1 := IntWalk.i64_in _ (by omega)
  clear h
  go_enter Try.func65, Try.ntmps65
  go_wp2
  go_loopw [9] (fun iv wr => ∃ i : Nat, i ≤ l.length ∧ iv = .int .i64 i ∧ Hid ((l.take i).all (fun x => inN x 0 (W - 1)) = true) ∧ wr = w) (fun iv _ => l.length - (intOf iv).toNat)
  case atStart => exact ⟨0, Nat.zero_le _, rfl, hid0 rfl, rfl⟩
  case round =>
    obtain ⟨i, hi, rfl, hO, rfl⟩ := hrel
    by_cases hlt : i < l.length
    · obtain ⟨b, o, rfl, hc⟩ := A.out (by intro e; rw [e] at hlt; exact absurd hlt (by simp))
      have q0 := hc i hlt
      have CW := within_any l[i] 0 (W - 1) wr
      have hbad := hid0 (fun hf => all_bad (f := fun x => inN x 0 (W - 1)) hlt hf)
      have hnext := hid0 (fun hf => all_take hlt hO.out hf)
      generalize l[i] = x at q0 CW hbad hnext
      generalize inN x 0 (W - 1) = rb at CW hbad hnext
      clear hc
      cases rb with
      | true =>
        go_wp2_with (go_at_call 29; go_must (refine CW.mono ?_; rintro e wn ⟨rfl, hw⟩; rw [hw]))
        exact ⟨⟨i + 1, by omega, by go_num, hid0 (hnext.out (by trivial)), trivial⟩, by simp [intOf]; omega⟩
      | false =>
        go_wp2_with (go_at_call 29; go_must (refine CW.mono ?_; rintro e wn ⟨rfl, hw⟩; rw [hw]))
        go_ret
        exact ⟨ret_bool (hbad.out (by trivial)).symm, rfl⟩
    · have hie : ¬ (i : Int) < l.length := by omega
      rw [List.take_of_length_le (by omega)] at hO
      go_wp2
      go_ret
      exact ⟨ret_bool hO.out.symm, rfl⟩
/-- A place that is one exactly if b. -/
def IsAt (r : Int) (b : Bool) : Prop := decide (0 ≤ r) = b
set_option maxHeartbeats 1000000 in
theorem index_int (a : Option Addr) (c : Nat) (l : List Int) (x : Int) (rb : Bool) (hrb : l.contains x = rb) (w : World) (h : IntsAt w a l) (hl : l.length ≤ 17592186044416) :
    Calls Try.prog 73 #[.slice a l.length c, .int .i64 x] w fun e w' => (∃ r : Int, e = .returned (.int .i64 r) ∧ IsAt r rb) ∧ w' = w := by
  have A := hid0 h
  have HR := hid0 hrb
  clear h hrb
  go_enter Try.func73, Try.ntmps73
  go_wp2
  go_loopw [8] (fun iv wr => ∃ i : Nat, i ≤ l.length ∧ iv = .int .i64 i ∧ Hid ((l.take i).all (fun y => y != x) = true) ∧ wr = w) (fun iv _ => l.length - (intOf iv).toNat)
  case atStart => exact ⟨0, Nat.zero_le _, rfl, hid0 rfl, rfl⟩
  case round =>
    obtain ⟨i, hi, rfl, hO, rfl⟩ := hrel
    by_cases hlt : i < l.length
    · obtain ⟨b, o, rfl, hc⟩ := A.out (by intro e; rw [e] at hlt; exact absurd hlt (by simp))
      have q0 := hc i hlt
      have hmem := List.getElem_mem hlt
      have hnext := hid0 (fun hf => all_take hlt hO.out hf)
      generalize l[i] = y at q0 hmem hnext
      have HM := hid0 hmem
      clear hc hmem
      by_cases hy : x = y
      · have hd : decide (x = y) = true := by simpa using hy
        go_wp2
        go_ret
        exact ⟨⟨i, rfl, by rw [← HR.out, hy]; unfold IsAt; simpa using HM.out⟩, rfl⟩
      · have hd : decide (x = y) = false := by simpa using hy
        go_wp2
        exact ⟨⟨i + 1, by omega, by go_num, hid0 (hnext.out (by simpa using Ne.symm hy)), trivial⟩, by simp [intOf]; omega⟩
    · have hie : ¬ (i : Int) < l.length := by omega
      rw [List.take_of_length_le (by omega)] at hO
      go_wp2
      go_ret
      exact ⟨⟨-1, rfl, by
        have := hO.out
        simp only [List.all_eq_true] at this
        have h2 : l.contains x = false := by
          simp only [List.contains_eq_mem]
          simp only [decide_eq_false_iff_not]
          intro hx
          have := this x hx
          simp at this
        rw [← HR.out, h2]; rfl⟩, rfl⟩
theorem contains_int (a : Option Addr) (c : Nat) (l : List Int) (x : Int) (w : World) (h : IntsAt w a l) (hl : l.length ≤ 17592186044416) :
    Calls Try.prog 68 #[.slice a l.length c, .int .i64 x] w fun e w' => e = .returned (.bool (l.contains x)) ∧ w' = w := by
  obtain ⟨rb, hrb⟩ : ∃ rb, l.contains x = rb := ⟨_, rfl⟩
  have H := hid0 (index_int a c l x rb hrb w h hl)
  rw [hrb]
  clear h hrb
  go_enter Try.func68, Try.ntmps68
  go_wp2_with (go_at_call 73; refine H.out.mono ?_; rintro e w1 ⟨⟨r, rfl, HR⟩, hw⟩; rw [hw])
  go_ret
  exact ⟨ret_bool HR, rfl⟩

/-! ### Outs -/
theorem sizeOut : (Try.prog.info? 44).map (·.size) = some 9 := by kernel_rfl
theorem aggregates_any (o : Ox) (w : World) : Calls Try.prog 33 #[.agg o.cells.toArray] w fun e w' => e = .returned (.bool (o.g != 0)) ∧ Below w.heap.size w w' := by
  have V := VarB.new w o.cells 44
  have q0 : _ = some (Value.int .i64 o.g) := V.cell 0 rfl
  have hB0 : Below w.heap.size w (w.alloc (.cells o.cells.toArray 44)) := (Below.refl _ _).alloc (Nat.le_refl _) _
  clear V
  generalize o.cells = us at *
  generalize o.g = g at *
  by_cases hg : g = 0
  · have hd : decide (g = 0) = true := by simpa using hg
    go_enter Try.func33, Try.ntmps33
    go_wp2
    go_ret
    exact ⟨ret_bool (by simp [hg]), hB0⟩
  · have hd : decide (g = 0) = false := by simpa using hg
    go_enter Try.func33, Try.ntmps33
    go_wp2
    go_ret
    exact ⟨ret_bool (by simp), hB0⟩
/-- A list of outs, as it lies. -/
structure OutsAt (w : World) (a : Option Addr) (l : List Ox) : Prop where
  row : RowC w 9 a (l.map Ox.cells)
theorem OutsAt.later {w w' : World} {a : Option Addr} {l : List Ox} (h : OutsAt w a l) (hb : Below w.heap.size w w') : OutsAt w' a l := ⟨h.row.later hb⟩
theorem OutsAt.at_ {w : World} {a : Option Addr} {l : List Ox} (h : OutsAt w a l) (i : Nat) (hi : i < l.length) : ∃ b o, a = some ⟨b, o, none⟩ ∧ b < w.heap.size ∧ w.rangeAt b (o + i * 9) (l[i]).cells := by
  obtain ⟨b, o, e, hlt, hR⟩ := h.row.out i (by simpa using hi)
  exact ⟨b, o, e, hlt, by simpa using hR⟩
set_option maxRecDepth 100000 in
set_option maxHeartbeats 1000000 in
theorem indexFunc_out (a : Option Addr) (c : Nat) (l : List Ox) (rb : Bool) (hrb : l.any (fun o => o.g != 0) = rb) (w : World) (h : OutsAt w a l) (hl : l.length ≤ 1099511627776) :
    Calls Try.prog 17 #[.slice a l.length c, .func (.func 33) #[] #[]] w fun e w' => (∃ r : Int, e = .returned (.int .i64 r) ∧ IsAt r rb) ∧ Below w.heap.size w w' := by
  have A := hid0 h
  have HR := hid0 hrb
  clear h hrb
  go_enter Try.func17, Try.ntmps17
  go_wp2
  go_loopw [8] (fun iv wr => ∃ i : Nat, i ≤ l.length ∧ iv = .int .i64 i ∧ Hid ((l.take i).all (fun o => !(o.g != 0)) = true) ∧ Below w.heap.size w wr) (fun iv _ => l.length - (intOf iv).toNat)
  case atStart => exact ⟨0, Nat.zero_le _, rfl, hid0 rfl, Below.refl _ _⟩
  case round =>
    obtain ⟨i, hi, rfl, hO, hB⟩ := hrel
    have hsz := hB.size
    by_cases hlt : i < l.length
    · obtain ⟨b, o, rfl, hb, hR⟩ := (A.out.later hB).at_ i hlt
      have hmem := List.getElem_mem hlt
      have hnext := hid0 (fun hf => all_take hlt hO.out hf)
      generalize l[i] = x at hR hmem hnext
      have CW := aggregates_any x wr
      have hcl := x.cells_len
      have HM := hid0 (fun hx : (x.g != 0) = true => (List.any_eq_true.2 ⟨x, hmem, hx⟩ : l.any (fun o => o.g != 0) = true))
      clear hmem
      generalize x.cells = us at hR CW hcl
      generalize (x.g != 0) = ra at CW hnext HM
      cases ra with
      | true =>
        go_wp2_with (first | ((with_reducible refine wp_getB hR Try.underlying44 ?_ ?_ ?_ ?_); (rfl); (rw [hcl]; exact sizeOut); (rfl); simp only [Act.put]) | (go_at_call 33; go_must (refine CW.mono ?_; rintro e wn ⟨rfl, hbn⟩)) | fail)
        go_ret
        exact ⟨⟨i, rfl, by rw [← HR.out, HM.out (by trivial)]; unfold IsAt; simp⟩, below_through hbn hsz hB⟩
      | false =>
        go_wp2_with (first | ((with_reducible refine wp_getB hR Try.underlying44 ?_ ?_ ?_ ?_); (rfl); (rw [hcl]; exact sizeOut); (rfl); simp only [Act.put]) | (go_at_call 33; go_must (refine CW.mono ?_; rintro e wn ⟨rfl, hbn⟩)) | fail)
        exact ⟨⟨i + 1, by omega, by go_num, hid0 (hnext.out (by trivial)), below_through hbn hsz hB⟩, by simp [intOf]; omega⟩
    · have hie : ¬ (i : Int) < l.length := by omega
      rw [List.take_of_length_le (by omega)] at hO
      go_wp2
      go_ret
      exact ⟨⟨-1, rfl, by
        have := hO.out
        have h2 : l.any (fun o => o.g != 0) = false := by
          rw [List.any_eq_false]
          intro x hx
          simpa using List.all_eq_true.1 this x hx
        rw [← HR.out, h2]; rfl⟩, hB⟩
theorem containsFunc_out (a : Option Addr) (c : Nat) (l : List Ox) (w : World) (h : OutsAt w a l) (hl : l.length ≤ 1099511627776) :
    Calls Try.prog 32 #[.slice a l.length c, .func (.func 33) #[] #[]] w fun e w' => e = .returned (.bool (l.any (fun o => o.g != 0))) ∧ Below w.heap.size w w' := by
  obtain ⟨rb, hrb⟩ : ∃ rb, l.any (fun o => o.g != 0) = rb := ⟨_, rfl⟩
  have H := hid0 (indexFunc_out a c l rb hrb w h hl)
  rw [hrb]
  clear h hrb
  go_enter Try.func32, Try.ntmps32
  go_wp2_with (go_at_call 17; refine H.out.mono ?_; rintro e w1 ⟨⟨r, rfl, HR⟩, hb⟩)
  go_ret
  exact ⟨ret_bool HR, hb⟩
theorem PxOk.outs {w : World} {n : Nat} {p : Px} (h : PxOk w n p) : OutsAt w p.op p.os := ⟨h.os⟩
theorem Px.c0 (p : Px) : p.cells[0]? = some (.bool p.d) := rfl
theorem Px.c1 (p : Px) : p.cells[1]? = some (.slice p.fp p.fs.length p.fc) := rfl
theorem Px.c2 (p : Px) : p.cells[2]? = some (.slice p.wp p.ws.length p.wc) := rfl
theorem Px.c18 (p : Px) : p.cells[18]? = some (.slice p.gp p.gs.length p.gc) := by
  obtain ⟨d, fp, fc, fs, wp, wc, ws, ⟨k, op, ⟨kl, al, vl, pl, cl, yl⟩, ⟨kr, ar, vr, pr, cr, yr⟩, p, c, ys⟩, gp, gc, gs, op', oc, os⟩ := p
  rfl
theorem Px.c19 (p : Px) : p.cells[19]? = some (.slice p.op p.os.length p.oc) := by
  obtain ⟨d, fp, fc, fs, wp, wc, ws, ⟨k, op, ⟨kl, al, vl, pl, cl, yl⟩, ⟨kr, ar, vr, pr, cr, yr⟩, p, c, ys⟩, gp, gc, gs, op', oc, os⟩ := p
  rfl
end Go.Proofs.Ytfdkajefcplfjaa

/- Whether a part tells of groups; how many columns its rows have. Conditions: the part's lists are known. -/
namespace Go.Proofs.Ytfdkajefcplfjaa
open Go.RowKit

theorem part_box (p : Px) (w : World) : VarB (w.alloc (.cells p.cells.toArray 40)) w.heap.size p.cells ∧ Below w.heap.size w (w.alloc (.cells p.cells.toArray 40)) :=
  ⟨VarB.new w p.cells _, (Below.refl _ _).alloc (Nat.le_refl _) _⟩
theorem part_below (us : List Value) (w : World) : Below w.heap.size w (w.alloc (.cells us.toArray 40)) := (Below.refl _ _).alloc (Nat.le_refl _) _
set_option maxRecDepth 100000 in
set_option maxHeartbeats 2000000 in
theorem grouped_any {n : Nat} (p : Px) (w : World) (h : PxOk w n p) :
    Calls Try.prog 24 #[p.val] w fun e w' => e = .returned (.bool (groupedB p)) ∧ Below w.heap.size w w' := by
  obtain ⟨V, hB0⟩ := part_box p w
  have q18 := V.cell 18 p.c18
  have q19 := V.cell 19 p.c19
  have C := hid0 (containsFunc_out p.op p.oc p.os _ (h.outs.later hB0) h.fewO)
  clear h V
  unfold groupedB Px.val
  generalize p.cells = us at *
  generalize p.gs.length = k at *
  generalize p.gp = gp at *
  generalize p.gc = gc at *
  generalize p.op = op at *
  generalize p.oc = oc at *
  generalize p.os.any (fun o => o.g != 0) = rb at *
  generalize p.os.length = m at *
  by_cases hk : 0 < k
  · have hk' : (0 : Int) < k := by omega
    go_enter Try.func24, Try.ntmps24
    go_wp2
    go_ret
    exact ⟨ret_bool (by simp [hk]), hB0⟩
  · have hk' : ¬ (0 : Int) < k := by omega
    go_enter Try.func24, Try.ntmps24
    go_wp2_with (go_at_call 32; refine C.out.mono ?_; rintro e w1 ⟨rfl, hb⟩)
    go_ret
    exact ⟨ret_bool (by simp [hk]), below_through hb hB0.size hB0⟩

theorem sumW_snoc (l : List Int) (x : Int) : sumW (l ++ [x]) = sumW l + x := by unfold sumW; rw [List.foldl_append]; rfl
theorem sumW_in : ∀ (l : List Int) (m : Int), (∀ x ∈ l, 1 ≤ x ∧ x ≤ 8) → m ≤ l.foldl (· + ·) m ∧ l.foldl (· + ·) m ≤ m + 8 * (l.length : Int)
  | [], m, _ => by simp
  | x :: l, m, h => by
    have h1 := sumW_in l (m + x) (fun y hy => h y (List.mem_cons_of_mem _ hy))
    have h2 := h x List.mem_cons_self
    simp only [List.foldl_cons, List.length_cons]
    omega
theorem sumW_le {l : List Int} (h : (l.all fun x => inN x 1 8) = true) : 0 ≤ sumW l ∧ sumW l ≤ 8 * (l.length : Int) := by
  have := sumW_in l 0 (fun x hx => by have := List.all_eq_true.1 h x hx; unfold inN at this; simpa using this)
  unfold sumW; omega
def acrossV (p : Px) : Int := if acrossB p = true then sumW p.ws else 0
theorem across_no {p : Px} (h : acrossB p = false) : (Ending.returned (.tuple #[.int .i64 0, .bool false])) = Ending.returned (.tuple #[.int .i64 (acrossV p), .bool (acrossB p)]) := by
  unfold acrossV; rw [h]; rfl
theorem across_yes {p : Px} (h : acrossB p = true) {x : Int} (hx : x = sumW p.ws) : (Ending.returned (.tuple #[.int .i64 x, .bool true])) = Ending.returned (.tuple #[.int .i64 (acrossV p), .bool (acrossB p)]) := by
  unfold acrossV; rw [h, hx]; rfl
theorem inN_in {x a b : Int} (h : inN x a b = true) : a ≤ x ∧ x ≤ b := by unfold inN at h; simpa using h
set_option maxRecDepth 100000 in
set_option maxHeartbeats 2000000 in
theorem across_any {n : Nat} (p : Px) (w : World) (h : PxOk w n p) :
    Calls Try.prog 55 #[p.val] w fun e w' => e = .returned (.tuple #[.int .i64 (acrossV p), .bool (acrossB p)]) ∧ Below w.heap.size w w' := by
  obtain ⟨V, hB0⟩ := part_box p w
  have q1 := V.cell 1 p.c1
  have q2 := V.cell 2 p.c2
  have hA := hid0 (h.ws.later hB0)
  have hfew := h.ws.few
  have hfewF := h.fewF
  have CF := hid0 (fun W => within_any p.fs.length 1 3 W)
  have hno := hid0 (across_no (p := p))
  have hyes := hid0 (across_yes (p := p))
  have hAB := hid0 (show acrossB p = (inN p.fs.length 1 3 && decide (p.ws.length = p.fs.length) && p.ws.all (fun x => inN x 1 8)) from rfl)
  have hsum := fun h => sumW_le (l := p.ws) h
  clear h V
  unfold Px.val
  generalize Ending.returned (.tuple #[.int .i64 (acrossV p), .bool (acrossB p)]) = R at hno hyes ⊢
  generalize acrossB p = ab at hno hyes hAB
  generalize p.cells = us at *
  generalize p.fs.length = k at *
  generalize p.ws = ws at *
  generalize p.fp = fp at *
  generalize p.fc = fc at *
  generalize p.wp = wp at *
  generalize p.wc = wc at *
  have hin : inN k 1 3 = true → k ≤ 3 := fun h => by have := inN_in h; omega
  generalize inN k 1 3 = rf at *
  obtain ⟨m, hm⟩ : ∃ m, ws.length = m := ⟨_, rfl⟩
  have HM := hid0 hm
  rw [hm] at q2 hfew hsum
  clear hm
  have HS := hid0 hsum
  clear hsum
  cases rf with
  | false =>
    go_enter Try.func55, Try.ntmps55
    go_wp2_with (go_at_call 29; refine (CF.out _).mono ?_; rintro e w1 ⟨rfl, hw⟩; rw [hw])
    go_ret2
    exact ⟨hno.out (by rw [hAB.out]; simp), hB0⟩
  | true =>
    have hin := hin rfl
    by_cases hk : m = k
    · subst hk
      have hw8 : ∀ i : Nat, i ≤ m → (ws.take i).all (fun x => inN x 1 8) = true → 0 ≤ sumW (ws.take i) ∧ sumW (ws.take i) ≤ 24 := fun i hi h => by
        have := sumW_le h
        rw [List.length_take, HM.out] at this
        omega
      have HW := hid0 hw8
      clear hw8
      go_enter Try.func55, Try.ntmps55
      go_wp2_with (go_at_call 29; refine (CF.out _).mono ?_; rintro e w1 ⟨rfl, hw⟩; rw [hw])
      go_loopw [4, 24] (fun nv iv wr => ∃ i : Nat, i ≤ m ∧ iv = .int .i64 i ∧ nv = .int .i64 (sumW (ws.take i)) ∧ Hid ((ws.take i).all (fun x => inN x 1 8) = true) ∧ Hid (wr = w.alloc (.cells us.toArray 40))) (fun _ iv _ => m - (intOf iv).toNat)
      case atStart => exact ⟨0, Nat.zero_le _, rfl, rfl, hid0 rfl, hid0 rfl⟩
      case round =>
        obtain ⟨i, hi, rfl, rfl, hO, hwr⟩ := hrel
        by_cases hlt : i < m
        · have hlt1 : i < ws.length := by rw [HM.out]; exact hlt
          obtain ⟨b, o, rfl, hc⟩ := hA.out.at_ (by intro e; rw [e] at hlt1; exact absurd hlt1 (by simp))
          have q0 := hc i hlt1
          rw [← hwr.out] at q0
          obtain ⟨s1, s2⟩ := HW.out i hi hO.out
          have CW := within_any ws[i] 1 8 wr
          have hbad := hid0 (fun hf => all_bad (f := fun x => inN x 1 8) hlt1 hf)
          have hnext := hid0 (fun hf => all_take hlt1 hO.out hf)
          have hst := hid0 (show sumW (ws.take (i + 1)) = sumW (ws.take i) + ws[i] by rw [List.take_succ_eq_append_getElem hlt1, sumW_snoc])
          have hx8 : inN ws[i] 1 8 = true → 1 ≤ ws[i] ∧ ws[i] ≤ 8 := inN_in
          generalize ws[i] = x at q0 CW hbad hnext hst hx8
          generalize sumW (ws.take i) = S at s1 s2 hst ⊢
          generalize inN x 1 8 = rb at CW hbad hnext hx8
          clear hc q1 q2 hB0
          cases rb with
          | true =>
            obtain ⟨x1, x2⟩ := hx8 rfl
            go_wp2_with (go_at_call 29; go_must (refine CW.mono ?_; rintro e wn ⟨rfl, hw⟩; rw [hw]))
            exact ⟨⟨i + 1, by omega, by go_num, by rw [hst.out], hid0 (hnext.out (by trivial)), hwr⟩, by simp [intOf]; omega⟩
          | false =>
            clear hx8
            go_wp2_with (go_at_call 29; go_must (refine CW.mono ?_; rintro e wn ⟨rfl, hw⟩; rw [hw]))
            go_ret2
            exact ⟨hno.out (by rw [hAB.out, hbad.out (by trivial)]; simp), by rw [hwr.out]; exact part_below us w⟩
        · have hie : ¬ (i : Int) < m := by omega
          rw [List.take_of_length_le (by rw [HM.out]; omega)] at hO ⊢
          clear q1 q2 hB0
          go_wp2
          go_ret2
          exact ⟨hyes.out (by rw [hAB.out, hO.out, HM.out]; simp) rfl, by rw [hwr.out]; exact part_below us w⟩
    · have hne : ¬ (m : Int) = (k : Int) := by omega
      have HK := hid0 hk
      clear hin
      go_enter Try.func55, Try.ntmps55
      go_wp2_with (go_at_call 29; refine (CF.out _).mono ?_; rintro e w1 ⟨rfl, hw⟩; rw [hw])
      go_ret2
      exact ⟨hno.out (by rw [hAB.out, HM.out]; simp [HK.out]), hB0⟩
end Go.Proofs.Ytfdkajefcplfjaa

/- Expressions compared field by field, and where a part tells an aggregate, plainly. Nothing of any program here. Conditions: none. -/
namespace Go.Proofs.Ytfdkajefcplfjaa
open Go.RowKit

mutual
/-- Are two expressions alike, field by field? -/
def alC : Cx → Cx → Bool
  | .mk k a v _ _ ys, .mk k' a' v' _ _ ys' => decide (k = k') && decide (a = a') && sameV v.k v.n v.s v'.k v'.n v'.s && decide (ys.length = ys'.length) && alL ys ys'
def alL : List Cx → List Cx → Bool
  | [], _ => true
  | _ :: _, [] => true
  | x :: l, y :: l' => alC x y && alL l l'
end
def al2 (p : Cx × Cx) : Bool := alC p.1 p.2
theorem alL_zip : ∀ l l' : List Cx, alL l l' = (l.zip l').all al2
  | [], _ => by rw [alL]; rfl
  | _ :: _, [] => by rw [alL]; rfl
  | x :: l, y :: l' => by rw [alL, alL_zip l l']; rfl
theorem alC_k {k a : Int} {v : Val} {p : Option Addr} {c : Nat} {ys : List Cx} {k' a' : Int} {v' : Val} {p' : Option Addr} {c' : Nat} {ys' : List Cx} (h : k ≠ k') : alC (.mk k a v p c ys) (.mk k' a' v' p' c' ys') = false := by
  rw [alC]; simp [h]
theorem alC_a {k a : Int} {v : Val} {p : Option Addr} {c : Nat} {ys : List Cx} {k' a' : Int} {v' : Val} {p' : Option Addr} {c' : Nat} {ys' : List Cx} (h : a ≠ a') : alC (.mk k a v p c ys) (.mk k' a' v' p' c' ys') = false := by
  rw [alC]; simp [h]
theorem alC_v {k a : Int} {v : Val} {p : Option Addr} {c : Nat} {ys : List Cx} {k' a' : Int} {v' : Val} {p' : Option Addr} {c' : Nat} {ys' : List Cx} (h : sameV v.k v.n v.s v'.k v'.n v'.s = false) : alC (.mk k a v p c ys) (.mk k' a' v' p' c' ys') = false := by
  rw [alC]; simp [h]
theorem alC_n {k a : Int} {v : Val} {p : Option Addr} {c : Nat} {ys : List Cx} {k' a' : Int} {v' : Val} {p' : Option Addr} {c' : Nat} {ys' : List Cx} (h : ys.length ≠ ys'.length) : alC (.mk k a v p c ys) (.mk k' a' v' p' c' ys') = false := by
  rw [alC]; simp [h]
theorem alC_go {k a : Int} {v : Val} {p : Option Addr} {c : Nat} {ys : List Cx} {k' a' : Int} {v' : Val} {p' : Option Addr} {c' : Nat} {ys' : List Cx} (h1 : k = k') (h2 : a = a') (h3 : sameV v.k v.n v.s v'.k v'.n v'.s = true) (h4 : ys.length = ys'.length) : alC (.mk k a v p c ys) (.mk k' a' v' p' c' ys') = (ys.zip ys').all al2 := by
  rw [alC, alL_zip]; simp [h1, h2, h3, h4]
theorem zip_at {ys ys' : List Cx} {j : Nat} (h1 : j < ys.length) (h2 : j < ys'.length) : ∃ h : j < (ys.zip ys').length, (ys.zip ys')[j] = (ys[j], ys'[j]) := ⟨by rw [List.length_zip]; omega, by simp⟩
theorem zip_next {ys ys' : List Cx} {j : Nat} (h1 : j < ys.length) (h2 : j < ys'.length) (h : ((ys.zip ys').take j).all al2 = true) (hf : alC ys[j] ys'[j] = true) : ((ys.zip ys').take (j + 1)).all al2 = true := by
  obtain ⟨h3, h4⟩ := zip_at h1 h2
  exact all_take h3 h (by rw [h4]; exact hf)
theorem zip_bad {ys ys' : List Cx} {j : Nat} (h1 : j < ys.length) (h2 : j < ys'.length) (hf : alC ys[j] ys'[j] = false) : (ys.zip ys').all al2 = false := by
  obtain ⟨h3, h4⟩ := zip_at h1 h2
  exact all_bad h3 (by rw [h4]; exact hf)
/-- Does one of what is told tell that aggregate of e? Of a count whatever is counted. -/
def plB (g : Int) (e : Cx) (o : Ox) : Bool := decide (o.g = g) && (decide (g = 1) || alC o.e e)
def placeM (g : Int) (e : Cx) (os : List Ox) : Int := match os.findIdx? (plB g e) with
  | some i => i
  | none => -1
theorem place_hit {g : Int} {e : Cx} {os : List Ox} {i : Nat} (hi : i < os.length) (h : (os.take i).all (fun o => !plB g e o) = true) (hf : plB g e os[i] = true) : placeM g e os = i := by
  have : os.findIdx? (plB g e) = some i := by
    rw [List.findIdx?_eq_some_iff_getElem]
    refine ⟨hi, hf, fun j hj => ?_⟩
    have := List.all_eq_true.1 h os[j] (List.mem_take_iff_getElem.2 ⟨j, by omega, rfl⟩)
    simpa using this
  unfold placeM
  rw [this]
theorem place_none {g : Int} {e : Cx} {os : List Ox} (h : os.all (fun o => !plB g e o) = true) : placeM g e os = -1 := by
  have : os.findIdx? (plB g e) = none := by
    rw [List.findIdx?_eq_none_iff]
    intro x hx
    simpa using List.all_eq_true.1 h x hx
  unfold placeM
  rw [this]
theorem place_yes (g : Int) (e : Cx) (os : List Ox) : decide (0 ≤ placeM g e os) = os.any (plB g e) := by
  cases h : os.findIdx? (plB g e) with
  | some i =>
    have : placeM g e os = i := by unfold placeM; rw [h]
    rw [this]
    rw [List.findIdx?_eq_some_iff_getElem] at h
    obtain ⟨hi, hf, _⟩ := h
    have : os.any (plB g e) = true := List.any_eq_true.2 ⟨_, List.getElem_mem hi, hf⟩
    rw [this]; simp
  | none =>
    have : placeM g e os = -1 := by unfold placeM; rw [h]
    rw [this]
    rw [List.findIdx?_eq_none_iff] at h
    have : os.any (plB g e) = false := by
      rw [List.any_eq_false]
      intro x hx
      simpa using h x hx
    rw [this]; rfl
end Go.Proofs.Ytfdkajefcplfjaa
