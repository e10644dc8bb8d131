/- Several of my texts laid together, each as it was: Xt, Xu. Conditions: each names its own. -/
import Derived.Test.YtfdkajefcplfjaaB5
/- The reference's small questions. Conditions: the lists' cells are known. -/
namespace Go.Proofs.Ytfdkajefcplfjaa
open Go.RowKit

set_option maxHeartbeats 1000000 in
theorem refWithin_any (a : Option Addr) (c : Nat) (l : List Int) (W : Int) (w : World) (h : IntsAt w a l) (hl : l.length ≤ 17592186044416) :
    Calls Try.prog 40 #[.slice a l.length c, .int .i64 W] w fun e w' => e = .returned (.bool (insideB l W)) ∧ w' = w := by
  have A := hid0 h
  obtain ⟨R, hr⟩ : ∃ R, insideB l W = R := ⟨_, rfl⟩
  have HR := hid0 (show l.all (fun x => inN x 0 (W - 1)) = R from hr)
  rw [hr]
  clear h hr
  go_enter Try.func40, Try.ntmps40
  go_wp2
  go_loopw [5] (fun iv wr => ∃ i : Nat, i ≤ l.length ∧ iv = .int .i64 i ∧ Hid ((l.take i).all (fun x => inN x 0 (W - 1)) = true) ∧ wr = w) (fun iv _ => l.length - (intOf iv).toNat)
  case atStart => exact ⟨0, Nat.zero_le _, rfl, hid0 rfl, rfl⟩
  case round =>
    obtain ⟨i, hi, rfl, hO, rfl⟩ := hrel
    by_cases hlt : i < l.length
    · obtain ⟨b, o, rfl, hc⟩ := A.out (by intro e; rw [e] at hlt; exact absurd hlt (by simp))
      have q0 := hc i hlt
      have hbad := hid0 (fun hf => all_bad (f := fun x => inN x 0 (W - 1)) hlt hf)
      have hnext := hid0 (fun hf => all_take hlt hO.out hf)
      generalize l[i] = x at q0 hbad hnext
      clear hc
      by_cases h1 : x < 0
      · have HF := hid0 (show inN x 0 (W - 1) = false by unfold inN; simp; omega)
        go_wp2
        go_ret
        exact ⟨ret_bool (by rw [← HR.out, hbad.out HF.out]), rfl⟩
      · by_cases h2 : W ≤ x
        · have HF := hid0 (show inN x 0 (W - 1) = false by unfold inN; simp; omega)
          go_wp2
          go_ret
          exact ⟨ret_bool (by rw [← HR.out, hbad.out HF.out]), rfl⟩
        · have HF := hid0 (show inN x 0 (W - 1) = true by unfold inN; simp; omega)
          go_wp2
          exact ⟨⟨i + 1, by omega, by go_num, hid0 (hnext.out HF.out), trivial⟩, by simp [intOf]; omega⟩
    · have hie : ¬ (i : Int) < l.length := by omega
      rw [List.take_of_length_le (by omega)] at hO
      go_wp2
      go_ret
      exact ⟨ret_bool (by rw [← HR.out, hO.out]), rfl⟩
set_option maxHeartbeats 1000000 in
theorem refIn_any (a : Option Addr) (c : Nat) (l : List Int) (x : Int) (w : World) (h : IntsAt w a l) (hl : l.length ≤ 17592186044416) :
    Calls Try.prog 43 #[.slice a l.length c, .int .i64 x] w fun e w' => e = .returned (.bool (l.contains x)) ∧ w' = w := by
  have A := hid0 h
  obtain ⟨R, hr⟩ : ∃ R, l.contains x = R := ⟨_, rfl⟩
  have HR := hid0 hr
  rw [hr]
  clear h hr
  go_enter Try.func43, Try.ntmps43
  go_wp2
  go_loopw [5] (fun iv wr => ∃ i : Nat, i ≤ l.length ∧ iv = .int .i64 i ∧ Hid ((l.take i).all (fun y => y != x) = true) ∧ wr = w) (fun iv _ => l.length - (intOf iv).toNat)
  case atStart => exact ⟨0, Nat.zero_le _, rfl, hid0 rfl, rfl⟩
  case round =>
    obtain ⟨i, hi, rfl, hO, rfl⟩ := hrel
    by_cases hlt : i < l.length
    · obtain ⟨b, o, rfl, hc⟩ := A.out (by intro e; rw [e] at hlt; exact absurd hlt (by simp))
      have q0 := hc i hlt
      have hmem := List.getElem_mem hlt
      have hnext := hid0 (fun hf => all_take hlt hO.out hf)
      generalize l[i] = y at q0 hmem hnext
      have HM := hid0 hmem
      clear hc hmem
      by_cases hy : y = x
      · have hd : decide (y = x) = true := by simpa using hy
        go_wp2
        go_ret
        exact ⟨ret_bool (by rw [← HR.out, ← hy]; simpa using HM.out), rfl⟩
      · have hd : decide (y = x) = false := by simpa using hy
        go_wp2
        exact ⟨⟨i + 1, by omega, by go_num, hid0 (hnext.out (by simpa using hy)), trivial⟩, by simp [intOf]; omega⟩
    · have hie : ¬ (i : Int) < l.length := by omega
      rw [List.take_of_length_le (by omega)] at hO
      go_wp2
      go_ret
      exact ⟨ret_bool (by
        have := hO.out
        simp only [List.all_eq_true] at this
        have h2 : l.contains x = false := by
          simp only [List.contains_eq_mem]
          simp only [decide_eq_false_iff_not]
          intro hx
          have := this x hx
          simp at this
        rw [← HR.out, h2]), rfl⟩
set_option maxRecDepth 100000 in
set_option maxHeartbeats 1000000 in
theorem refGrouped_any {n : Nat} (p : Px) (w : World) (h : PxOk w n p) :
    Calls Try.prog 11 #[p.val] w fun e w' => e = .returned (.bool (groupedB p)) ∧ Below w.heap.size w w' := by
  obtain ⟨V, hB0⟩ := part_box p w
  have q18 := V.cell 18 p.c18
  have q19 := V.cell 19 p.c19
  have HO := hid0 (h.outs.later hB0)
  have hfew := h.fewO
  obtain ⟨R, hr⟩ : ∃ R, groupedB p = R := ⟨_, rfl⟩
  have HR := hid0 (show (decide (0 < p.gs.length) || p.os.any (fun o => o.g != 0)) = R from hr)
  rw [hr]
  clear hr h V
  unfold Px.val
  generalize p.cells = us at *
  generalize p.gs.length = k at *
  generalize p.gp = gp at *
  generalize p.gc = gc at *
  generalize p.op = op at *
  generalize p.oc = oc at *
  generalize p.os = os at *
  obtain ⟨m, hm⟩ : ∃ m, os.length = m := ⟨_, rfl⟩
  have HM := hid0 hm
  rw [hm] at q19 hfew
  clear hm
  generalize hW0 : w.alloc (Obj.cells us.toArray 40) = W0 at *
  have HW0 := hid0 hW0
  go_enter Try.func11, Try.ntmps11
  go_wp2
  clear hW0
  go_loopw [3] (fun iv wr => ∃ i : Nat, i ≤ m ∧ iv = .int .i64 i ∧ Hid ((os.take i).all (fun o => !(o.g != 0)) = true) ∧ wr = W0) (fun iv _ => m - (intOf iv).toNat)
  case atStart => exact ⟨0, Nat.zero_le _, rfl, hid0 rfl, rfl⟩
  case round =>
    obtain ⟨i, hi, rfl, hO, rfl⟩ := hrel
    by_cases hlt : i < m
    · have hlt1 : i < os.length := by rw [HM.out]; exact hlt
      obtain ⟨b, o, rfl, hb, hR⟩ := HO.out.at_ i hlt1
      have hmem := List.getElem_mem hlt1
      have hnext := hid0 (fun hf => all_take hlt1 hO.out hf)
      generalize os[i] = x at hR hmem hnext
      have q0 : wr.cell? ⟨b, o + i * 9, none⟩ = some (.int .i64 x.g) := by have := rng hR 0 (u := .int .i64 x.g) rfl; rwa [Nat.add_zero] at this
      have HX := hid0 (fun hx : (x.g != 0) = true => (List.any_eq_true.2 ⟨x, hmem, hx⟩ : os.any (fun o => o.g != 0) = true))
      clear hmem hR
      generalize x.g = g at q0 hnext HX
      by_cases hg : g = 0
      · subst hg
        go_wp2
        exact ⟨⟨i + 1, by omega, by go_num, hid0 (hnext.out (by rfl)), trivial⟩, by simp [intOf]; omega⟩
      · have hd : ¬ g = 0 := hg
        have HG := hid0 hg
        go_wp2
        go_ret
        exact ⟨ret_bool (by rw [← HR.out, HX.out (by simpa using HG.out)]; simp), hB0⟩
    · have hie : ¬ (i : Int) < m := by omega
      rw [List.take_of_length_le (by rw [HM.out]; omega)] at hO
      have HA := hid0 (show os.any (fun o => o.g != 0) = false by
        rw [List.any_eq_false]
        intro x hx
        simpa using List.all_eq_true.1 hO.out x hx)
      by_cases hk : 0 < k
      · have hk' : (0 : Int) < k := by omega
        have HK := hid0 hk
        clear hk
        go_wp2
        go_ret
        exact ⟨ret_bool (by rw [← HR.out]; simp [HK.out]), hB0⟩
      · have hk' : ¬ (0 : Int) < k := by omega
        have HK := hid0 hk
        clear hk
        go_wp2
        go_ret
        exact ⟨ret_bool (by rw [← HR.out, HA.out]; simp [HK.out]), hB0⟩
end Go.Proofs.Ytfdkajefcplfjaa

/- The reference's width and sources. Conditions: the lists' cells are known. -/
namespace Go.Proofs.Ytfdkajefcplfjaa
open Go.RowKit

theorem sumW_take {ws : List Int} (h : ws.all (fun x => inN x 1 8) = true) (hl : ws.length ≤ 3) (i : Nat) : 0 ≤ sumW (ws.take i) ∧ sumW (ws.take i) ≤ 24 := by
  have h1 := sumW_le (l := ws.take i) (List.all_eq_true.2 (fun x hx => List.all_eq_true.1 h x (List.mem_of_mem_take hx)))
  have h2 : (ws.take i).length ≤ 3 := by rw [List.length_take]; omega
  omega
set_option maxRecDepth 100000 in
set_option maxHeartbeats 1000000 in
theorem refWidth_any {n : Nat} (p : Px) (w : World) (h : PxOk w n p) (ha : acrossB p = true) :
    Calls Try.prog 39 #[p.val] w fun e w' => e = .returned (.int .i64 (sumW p.ws)) ∧ Below w.heap.size w w' := by
  obtain ⟨V, hB0⟩ := part_box p w
  have q2 := V.cell 2 p.c2
  have HO := hid0 (h.ws.later hB0)
  have hal : p.ws.all (fun x => inN x 1 8) = true ∧ p.ws.length ≤ 3 := by
    unfold acrossB at ha
    simp only [Bool.and_eq_true, decide_eq_true_eq] at ha
    have := inN_in ha.1.1
    exact ⟨ha.2, by omega⟩
  obtain ⟨hal, h3⟩ := hal
  have HS := hid0 (sumW_take hal h3)
  have H8 := hid0 (fun x (hx : x ∈ p.ws) => inN_in (List.all_eq_true.1 hal x hx))
  clear h V ha hal
  unfold Px.val
  generalize p.cells = us at *
  generalize p.ws = ws at *
  generalize p.wp = wp at *
  generalize p.wc = wc at *
  obtain ⟨m, hm⟩ : ∃ m, ws.length = m := ⟨_, rfl⟩
  have HM := hid0 hm
  rw [hm] at q2 h3
  clear hm
  generalize hW0 : w.alloc (Obj.cells us.toArray 40) = W0 at *
  have HW0 := hid0 hW0
  go_enter Try.func39, Try.ntmps39
  go_wp2
  clear hW0
  go_loopw [3, 4] (fun nv iv wr => ∃ i : Nat, i ≤ m ∧ iv = .int .i64 i ∧ nv = .int .i64 (sumW (ws.take i)) ∧ wr = W0) (fun _ iv _ => m - (intOf iv).toNat)
  case atStart => exact ⟨0, Nat.zero_le _, rfl, rfl, rfl⟩
  case round =>
    obtain ⟨i, hi, rfl, rfl, rfl⟩ := hrel
    by_cases hlt : i < m
    · have hlt1 : i < ws.length := by rw [HM.out]; exact hlt
      obtain ⟨b, o, rfl, hc⟩ := HO.out.at_ (by intro e; rw [e] at hlt1; exact absurd hlt1 (by simp))
      have q0 := hc i hlt1
      obtain ⟨s1, s2⟩ := HS.out i
      obtain ⟨x1, x2⟩ := H8.out _ (List.getElem_mem hlt1)
      have hst := hid0 (show sumW (ws.take (i + 1)) = sumW (ws.take i) + ws[i] by rw [List.take_succ_eq_append_getElem hlt1, sumW_snoc])
      generalize ws[i] = x at q0 x1 x2 hst
      generalize sumW (ws.take i) = S at s1 s2 hst ⊢
      clear hc
      go_wp2
      exact ⟨⟨i + 1, by omega, by go_num, by rw [hst.out], trivial⟩, by simp [intOf]; omega⟩
    · have hie : ¬ (i : Int) < m := by omega
      rw [List.take_of_length_le (by rw [HM.out]; omega)]
      go_wp2
      go_ret
      exact ⟨rfl, hB0⟩
set_option maxRecDepth 100000 in
set_option maxHeartbeats 1000000 in
theorem refSources_any {n : Nat} (p : Px) (w : World) (h : PxOk w n p) :
    Calls Try.prog 38 #[p.val] w fun e w' => e = .returned (.bool (acrossB p)) ∧ Below w.heap.size w w' := by
  obtain ⟨V, hB0⟩ := part_box p w
  have q1 := V.cell 1 p.c1
  have q2 := V.cell 2 p.c2
  have HO := hid0 (h.ws.later hB0)
  have hfF := h.fewF
  have hfW := h.ws.few
  obtain ⟨R, hr⟩ : ∃ R, acrossB p = R := ⟨_, rfl⟩
  have HR := hid0 (show (inN p.fs.length 1 3 && decide (p.ws.length = p.fs.length) && p.ws.all (fun x => inN x 1 8)) = R from hr)
  rw [hr]
  clear hr h V
  unfold Px.val
  generalize p.cells = us at *
  generalize p.fs.length = k at *
  generalize p.ws = ws at *
  generalize p.fp = fp at *
  generalize p.fc = fc at *
  generalize p.wp = wp at *
  generalize p.wc = wc at *
  obtain ⟨m, hm⟩ : ∃ m, ws.length = m := ⟨_, rfl⟩
  have HM := hid0 hm
  rw [hm] at q2 hfW
  clear hm
  generalize hW0 : w.alloc (Obj.cells us.toArray 40) = W0 at *
  have HW0 := hid0 hW0
  by_cases h1 : k < 1
  · have h1' : (k : Int) < 1 := by omega
    have HF := hid0 (show inN k 1 3 = false by unfold inN; simp; omega)
    clear h1
    go_enter Try.func38, Try.ntmps38
    go_wp2
    go_ret
    exact ⟨ret_bool (by rw [← HR.out, HF.out]; rfl), hB0⟩
  have h1' : ¬ (k : Int) < 1 := by omega
  by_cases h2 : 3 < k
  · have h2' : (3 : Int) < k := by omega
    have HF := hid0 (show inN k 1 3 = false by unfold inN; simp; omega)
    clear h1 h2
    go_enter Try.func38, Try.ntmps38
    go_wp2
    go_ret
    exact ⟨ret_bool (by rw [← HR.out, HF.out]; rfl), hB0⟩
  have h2' : ¬ (3 : Int) < k := by omega
  by_cases h3 : m = k
  · subst h3
    have HB := hid0 (show ws.all (fun x => inN x 1 8) = R by rw [← HR.out, HM.out]; unfold inN; simp; intro _; omega)
    clear h1 h2
    go_enter Try.func38, Try.ntmps38
    go_wp2
    clear hW0
    go_loopw [3] (fun iv wr => ∃ i : Nat, i ≤ m ∧ iv = .int .i64 i ∧ Hid ((ws.take i).all (fun x => inN x 1 8) = true) ∧ wr = W0) (fun iv _ => m - (intOf iv).toNat)
    case atStart => exact ⟨0, Nat.zero_le _, rfl, hid0 rfl, rfl⟩
    case round =>
      obtain ⟨i, hi, rfl, hO, rfl⟩ := hrel
      by_cases hlt : i < m
      · have hlt1 : i < ws.length := by rw [HM.out]; exact hlt
        obtain ⟨b, o, rfl, hc⟩ := HO.out.at_ (by intro e; rw [e] at hlt1; exact absurd hlt1 (by simp))
        have q0 := hc i hlt1
        have hbad := hid0 (fun hf => all_bad (f := fun x => inN x 1 8) hlt1 hf)
        have hnext := hid0 (fun hf => all_take hlt1 hO.out hf)
        generalize ws[i] = x at q0 hbad hnext
        clear hc
        by_cases g1 : x < 1
        · have HF := hid0 (show inN x 1 8 = false by unfold inN; simp; omega)
          go_wp2
          go_ret
          exact ⟨ret_bool (by rw [← HB.out, hbad.out HF.out]), hB0⟩
        · by_cases g2 : 8 < x
          · have HF := hid0 (show inN x 1 8 = false by unfold inN; simp; omega)
            go_wp2
            go_ret
            exact ⟨ret_bool (by rw [← HB.out, hbad.out HF.out]), hB0⟩
          · have HF := hid0 (show inN x 1 8 = true by unfold inN; simp; omega)
            go_wp2
            exact ⟨⟨i + 1, by omega, by go_num, hid0 (hnext.out HF.out), trivial⟩, by simp [intOf]; omega⟩
      · have hie : ¬ (i : Int) < m := by omega
        rw [List.take_of_length_le (by rw [HM.out]; omega)] at hO
        go_wp2
        go_ret
        exact ⟨ret_bool (by rw [← HB.out, hO.out]), hB0⟩
  · have hne : ¬ (m : Int) = (k : Int) := by omega
    have HK := hid0 h3
    clear h1 h2 h3
    go_enter Try.func38, Try.ntmps38
    go_wp2
    go_ret
    exact ⟨ret_bool (by rw [← HR.out, HM.out]; simp [HK.out]), hB0⟩
end Go.Proofs.Ytfdkajefcplfjaa
