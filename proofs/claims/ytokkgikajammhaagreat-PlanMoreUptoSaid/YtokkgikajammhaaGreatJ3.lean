/- Several of my texts laid together, each as it was: Xt, Xu, Xx, Xy, Xz. Conditions: each names its own. -/
import Derived.Test.YtokkgikajammhaaGreatH8
/- The reference's small questions. Conditions: the lists' cells are known. -/
namespace Go.Proofs.YtokkgikajammhaaGreat
open Go.RowKit

set_option maxHeartbeats 1000000 in
theorem refWithin_any (a : Option Addr) (c : Nat) (l : List Int) (W : Int) (w : World) (h : IntsAt w a l) (hl : l.length ≤ 17592186044416) :
    Calls Tryz.prog 71 #[.slice a l.length c, .int .i64 W] w fun e w' => e = .returned (.bool (insideB l W)) ∧ w' = w := by
  have A := hid0 h
  obtain ⟨R, hr⟩ : ∃ R, insideB l W = R := ⟨_, rfl⟩
  have HR := hid0 (show l.all (fun x => inN x 0 (W - 1)) = R from hr)
  rw [hr]
  clear h hr
  go_enter Tryz.func71, Tryz.ntmps71
  go_wp2
  go_loopw [5] (fun iv wr => ∃ i : Nat, i ≤ l.length ∧ iv = .int .i64 i ∧ Hid ((l.take i).all (fun x => inN x 0 (W - 1)) = true) ∧ wr = w) (fun iv _ => l.length - (intOf iv).toNat)
  case atStart => exact ⟨0, Nat.zero_le _, rfl, hid0 rfl, rfl⟩
  case round =>
    obtain ⟨i, hi, rfl, hO, rfl⟩ := hrel
    by_cases hlt : i < l.length
    · obtain ⟨b, o, rfl, hc⟩ := A.out (by intro e; rw [e] at hlt; exact absurd hlt (by simp))
      have q0 := hc i hlt
      have hbad := hid0 (fun hf => all_bad (f := fun x => inN x 0 (W - 1)) hlt hf)
      have hnext := hid0 (fun hf => all_take hlt hO.out hf)
      generalize l[i] = x at q0 hbad hnext
      clear hc
      by_cases h1 : x < 0
      · have HF := hid0 (show inN x 0 (W - 1) = false by unfold inN; simp; omega)
        go_wp2
        go_ret
        exact ⟨ret_bool (by rw [← HR.out, hbad.out HF.out]), rfl⟩
      · by_cases h2 : W ≤ x
        · have HF := hid0 (show inN x 0 (W - 1) = false by unfold inN; simp; omega)
          go_wp2
          go_ret
          exact ⟨ret_bool (by rw [← HR.out, hbad.out HF.out]), rfl⟩
        · have HF := hid0 (show inN x 0 (W - 1) = true by unfold inN; simp; omega)
          go_wp2
          exact ⟨⟨i + 1, by omega, by go_num, hid0 (hnext.out HF.out), trivial⟩, by simp [intOf]; omega⟩
    · have hie : ¬ (i : Int) < l.length := by omega
      rw [List.take_of_length_le (by omega)] at hO
      go_wp2
      go_ret
      exact ⟨ret_bool (by rw [← HR.out, hO.out]), rfl⟩
set_option maxHeartbeats 1000000 in
theorem refIn_any (a : Option Addr) (c : Nat) (l : List Int) (x : Int) (w : World) (h : IntsAt w a l) (hl : l.length ≤ 17592186044416) :
    Calls Tryz.prog 74 #[.slice a l.length c, .int .i64 x] w fun e w' => e = .returned (.bool (l.contains x)) ∧ w' = w := by
  have A := hid0 h
  obtain ⟨R, hr⟩ : ∃ R, l.contains x = R := ⟨_, rfl⟩
  have HR := hid0 hr
  rw [hr]
  clear h hr
  go_enter Tryz.func74, Tryz.ntmps74
  go_wp2
  go_loopw [5] (fun iv wr => ∃ i : Nat, i ≤ l.length ∧ iv = .int .i64 i ∧ Hid ((l.take i).all (fun y => y != x) = true) ∧ wr = w) (fun iv _ => l.length - (intOf iv).toNat)
  case atStart => exact ⟨0, Nat.zero_le _, rfl, hid0 rfl, rfl⟩
  case round =>
    obtain ⟨i, hi, rfl, hO, rfl⟩ := hrel
    by_cases hlt : i < l.length
    · obtain ⟨b, o, rfl, hc⟩ := A.out (by intro e; rw [e] at hlt; exact absurd hlt (by simp))
      have q0 := hc i hlt
      have hmem := List.getElem_mem hlt
      have hnext := hid0 (fun hf => all_take hlt hO.out hf)
      generalize l[i] = y at q0 hmem hnext
      have HM := hid0 hmem
      clear hc hmem
      by_cases hy : y = x
      · have hd : decide (y = x) = true := by simpa using hy
        go_wp2
        go_ret
        exact ⟨ret_bool (by rw [← HR.out, ← hy]; simpa using HM.out), rfl⟩
      · have hd : decide (y = x) = false := by simpa using hy
        go_wp2
        exact ⟨⟨i + 1, by omega, by go_num, hid0 (hnext.out (by simpa using hy)), trivial⟩, by simp [intOf]; omega⟩
    · have hie : ¬ (i : Int) < l.length := by omega
      rw [List.take_of_length_le (by omega)] at hO
      go_wp2
      go_ret
      exact ⟨ret_bool (by
        have := hO.out
        simp only [List.all_eq_true] at this
        have h2 : l.contains x = false := by
          simp only [List.contains_eq_mem]
          simp only [decide_eq_false_iff_not]
          intro hx
          have := this x hx
          simp at this
        rw [← HR.out, h2]), rfl⟩
set_option maxRecDepth 100000 in
set_option maxHeartbeats 1000000 in
theorem refGrouped_any {n : Nat} (p : Px) (w : World) (h : PxOk w n p) :
    Calls Tryz.prog 20 #[p.val] w fun e w' => e = .returned (.bool (groupedB p)) ∧ Below w.heap.size w w' := by
  obtain ⟨V, hB0⟩ := part_box p w
  have q18 := V.cell 18 p.c18
  have q19 := V.cell 19 p.c19
  have HO := hid0 (h.outs.later hB0)
  have hfew := h.fewO
  obtain ⟨R, hr⟩ : ∃ R, groupedB p = R := ⟨_, rfl⟩
  have HR := hid0 (show (decide (0 < p.gs.length) || p.os.any (fun o => o.g != 0)) = R from hr)
  rw [hr]
  clear hr h V
  unfold Px.val
  generalize p.cells = us at *
  generalize p.gs.length = k at *
  generalize p.gp = gp at *
  generalize p.gc = gc at *
  generalize p.op = op at *
  generalize p.oc = oc at *
  generalize p.os = os at *
  obtain ⟨m, hm⟩ : ∃ m, os.length = m := ⟨_, rfl⟩
  have HM := hid0 hm
  rw [hm] at q19 hfew
  clear hm
  generalize hW0 : w.alloc (Obj.cells us.toArray 44) = W0 at *
  have HW0 := hid0 hW0
  go_enter Tryz.func20, Tryz.ntmps20
  go_wp2
  clear hW0
  go_loopw [3] (fun iv wr => ∃ i : Nat, i ≤ m ∧ iv = .int .i64 i ∧ Hid ((os.take i).all (fun o => !(o.g != 0)) = true) ∧ wr = W0) (fun iv _ => m - (intOf iv).toNat)
  case atStart => exact ⟨0, Nat.zero_le _, rfl, hid0 rfl, rfl⟩
  case round =>
    obtain ⟨i, hi, rfl, hO, rfl⟩ := hrel
    by_cases hlt : i < m
    · have hlt1 : i < os.length := by rw [HM.out]; exact hlt
      obtain ⟨b, o, rfl, hb, hR⟩ := HO.out.at_ i hlt1
      have hmem := List.getElem_mem hlt1
      have hnext := hid0 (fun hf => all_take hlt1 hO.out hf)
      generalize os[i] = x at hR hmem hnext
      have q0 : wr.cell? ⟨b, o + i * 9, none⟩ = some (.int .i64 x.g) := by have := rng hR 0 (u := .int .i64 x.g) rfl; rwa [Nat.add_zero] at this
      have HX := hid0 (fun hx : (x.g != 0) = true => (List.any_eq_true.2 ⟨x, hmem, hx⟩ : os.any (fun o => o.g != 0) = true))
      clear hmem hR
      generalize x.g = g at q0 hnext HX
      by_cases hg : g = 0
      · subst hg
        go_wp2
        exact ⟨⟨i + 1, by omega, by go_num, hid0 (hnext.out (by rfl)), trivial⟩, by simp [intOf]; omega⟩
      · have hd : ¬ g = 0 := hg
        have HG := hid0 hg
        go_wp2
        go_ret
        exact ⟨ret_bool (by rw [← HR.out, HX.out (by simpa using HG.out)]; simp), hB0⟩
    · have hie : ¬ (i : Int) < m := by omega
      rw [List.take_of_length_le (by rw [HM.out]; omega)] at hO
      have HA := hid0 (show os.any (fun o => o.g != 0) = false by
        rw [List.any_eq_false]
        intro x hx
        simpa using List.all_eq_true.1 hO.out x hx)
      by_cases hk : 0 < k
      · have hk' : (0 : Int) < k := by omega
        have HK := hid0 hk
        clear hk
        go_wp2
        go_ret
        exact ⟨ret_bool (by rw [← HR.out]; simp [HK.out]), hB0⟩
      · have hk' : ¬ (0 : Int) < k := by omega
        have HK := hid0 hk
        clear hk
        go_wp2
        go_ret
        exact ⟨ret_bool (by rw [← HR.out, HA.out]; simp [HK.out]), hB0⟩
end Go.Proofs.YtokkgikajammhaaGreat

/- The reference's width and sources. Conditions: the lists' cells are known. -/
namespace Go.Proofs.YtokkgikajammhaaGreat
open Go.RowKit

theorem sumW_take {ws : List Int} (h : ws.all (fun x => inN x 1 8) = true) (hl : ws.length ≤ 3) (i : Nat) : 0 ≤ sumW (ws.take i) ∧ sumW (ws.take i) ≤ 24 := by
  have h1 := sumW_le (l := ws.take i) (List.all_eq_true.2 (fun x hx => List.all_eq_true.1 h x (List.mem_of_mem_take hx)))
  have h2 : (ws.take i).length ≤ 3 := by rw [List.length_take]; omega
  omega
set_option maxRecDepth 100000 in
set_option maxHeartbeats 1000000 in
theorem refWidth_any {n : Nat} (p : Px) (w : World) (h : PxOk w n p) (ha : acrossB p = true) :
    Calls Tryz.prog 70 #[p.val] w fun e w' => e = .returned (.int .i64 (sumW p.ws)) ∧ Below w.heap.size w w' := by
  obtain ⟨V, hB0⟩ := part_box p w
  have q2 := V.cell 2 p.c2
  have HO := hid0 (h.ws.later hB0)
  have hal : p.ws.all (fun x => inN x 1 8) = true ∧ p.ws.length ≤ 3 := by
    unfold acrossB at ha
    simp only [Bool.and_eq_true, decide_eq_true_eq] at ha
    have := inN_in ha.1.1
    exact ⟨ha.2, by omega⟩
  obtain ⟨hal, h3⟩ := hal
  have HS := hid0 (sumW_take hal h3)
  have H8 := hid0 (fun x (hx : x ∈ p.ws) => inN_in (List.all_eq_true.1 hal x hx))
  clear h V ha hal
  unfold Px.val
  generalize p.cells = us at *
  generalize p.ws = ws at *
  generalize p.wp = wp at *
  generalize p.wc = wc at *
  obtain ⟨m, hm⟩ : ∃ m, ws.length = m := ⟨_, rfl⟩
  have HM := hid0 hm
  rw [hm] at q2 h3
  clear hm
  generalize hW0 : w.alloc (Obj.cells us.toArray 44) = W0 at *
  have HW0 := hid0 hW0
  go_enter Tryz.func70, Tryz.ntmps70
  go_wp2
  clear hW0
  go_loopw [3, 4] (fun nv iv wr => ∃ i : Nat, i ≤ m ∧ iv = .int .i64 i ∧ nv = .int .i64 (sumW (ws.take i)) ∧ wr = W0) (fun _ iv _ => m - (intOf iv).toNat)
  case atStart => exact ⟨0, Nat.zero_le _, rfl, rfl, rfl⟩
  case round =>
    obtain ⟨i, hi, rfl, rfl, rfl⟩ := hrel
    by_cases hlt : i < m
    · have hlt1 : i < ws.length := by rw [HM.out]; exact hlt
      obtain ⟨b, o, rfl, hc⟩ := HO.out.at_ (by intro e; rw [e] at hlt1; exact absurd hlt1 (by simp))
      have q0 := hc i hlt1
      obtain ⟨s1, s2⟩ := HS.out i
      obtain ⟨x1, x2⟩ := H8.out _ (List.getElem_mem hlt1)
      have hst := hid0 (show sumW (ws.take (i + 1)) = sumW (ws.take i) + ws[i] by rw [List.take_succ_eq_append_getElem hlt1, sumW_snoc])
      generalize ws[i] = x at q0 x1 x2 hst
      generalize sumW (ws.take i) = S at s1 s2 hst ⊢
      clear hc
      go_wp2
      exact ⟨⟨i + 1, by omega, by go_num, by rw [hst.out], trivial⟩, by simp [intOf]; omega⟩
    · have hie : ¬ (i : Int) < m := by omega
      rw [List.take_of_length_le (by rw [HM.out]; omega)]
      go_wp2
      go_ret
      exact ⟨rfl, hB0⟩
set_option maxRecDepth 100000 in
set_option maxHeartbeats 1000000 in
theorem refSources_any {n : Nat} (p : Px) (w : World) (h : PxOk w n p) :
    Calls Tryz.prog 69 #[p.val] w fun e w' => e = .returned (.bool (acrossB p)) ∧ Below w.heap.size w w' := by
  obtain ⟨V, hB0⟩ := part_box p w
  have q1 := V.cell 1 p.c1
  have q2 := V.cell 2 p.c2
  have HO := hid0 (h.ws.later hB0)
  have hfF := h.fewF
  have hfW := h.ws.few
  obtain ⟨R, hr⟩ : ∃ R, acrossB p = R := ⟨_, rfl⟩
  have HR := hid0 (show (inN p.fs.length 1 3 && decide (p.ws.length = p.fs.length) && p.ws.all (fun x => inN x 1 8)) = R from hr)
  rw [hr]
  clear hr h V
  unfold Px.val
  generalize p.cells = us at *
  generalize p.fs.length = k at *
  generalize p.ws = ws at *
  generalize p.fp = fp at *
  generalize p.fc = fc at *
  generalize p.wp = wp at *
  generalize p.wc = wc at *
  obtain ⟨m, hm⟩ : ∃ m, ws.length = m := ⟨_, rfl⟩
  have HM := hid0 hm
  rw [hm] at q2 hfW
  clear hm
  generalize hW0 : w.alloc (Obj.cells us.toArray 44) = W0 at *
  have HW0 := hid0 hW0
  by_cases h1 : k < 1
  · have h1' : (k : Int) < 1 := by omega
    have HF := hid0 (show inN k 1 3 = false by unfold inN; simp; omega)
    clear h1
    go_enter Tryz.func69, Tryz.ntmps69
    go_wp2
    go_ret
    exact ⟨ret_bool (by rw [← HR.out, HF.out]; rfl), hB0⟩
  have h1' : ¬ (k : Int) < 1 := by omega
  by_cases h2 : 3 < k
  · have h2' : (3 : Int) < k := by omega
    have HF := hid0 (show inN k 1 3 = false by unfold inN; simp; omega)
    clear h1 h2
    go_enter Tryz.func69, Tryz.ntmps69
    go_wp2
    go_ret
    exact ⟨ret_bool (by rw [← HR.out, HF.out]; rfl), hB0⟩
  have h2' : ¬ (3 : Int) < k := by omega
  by_cases h3 : m = k
  · subst h3
    have HB := hid0 (show ws.all (fun x => inN x 1 8) = R by rw [← HR.out, HM.out]; unfold inN; simp; intro _; omega)
    clear h1 h2
    go_enter Tryz.func69, Tryz.ntmps69
    go_wp2
    clear hW0
    go_loopw [3] (fun iv wr => ∃ i : Nat, i ≤ m ∧ iv = .int .i64 i ∧ Hid ((ws.take i).all (fun x => inN x 1 8) = true) ∧ wr = W0) (fun iv _ => m - (intOf iv).toNat)
    case atStart => exact ⟨0, Nat.zero_le _, rfl, hid0 rfl, rfl⟩
    case round =>
      obtain ⟨i, hi, rfl, hO, rfl⟩ := hrel
      by_cases hlt : i < m
      · have hlt1 : i < ws.length := by rw [HM.out]; exact hlt
        obtain ⟨b, o, rfl, hc⟩ := HO.out.at_ (by intro e; rw [e] at hlt1; exact absurd hlt1 (by simp))
        have q0 := hc i hlt1
        have hbad := hid0 (fun hf => all_bad (f := fun x => inN x 1 8) hlt1 hf)
        have hnext := hid0 (fun hf => all_take hlt1 hO.out hf)
        generalize ws[i] = x at q0 hbad hnext
        clear hc
        by_cases g1 : x < 1
        · have HF := hid0 (show inN x 1 8 = false by unfold inN; simp; omega)
          go_wp2
          go_ret
          exact ⟨ret_bool (by rw [← HB.out, hbad.out HF.out]), hB0⟩
        · by_cases g2 : 8 < x
          · have HF := hid0 (show inN x 1 8 = false by unfold inN; simp; omega)
            go_wp2
            go_ret
            exact ⟨ret_bool (by rw [← HB.out, hbad.out HF.out]), hB0⟩
          · have HF := hid0 (show inN x 1 8 = true by unfold inN; simp; omega)
            go_wp2
            exact ⟨⟨i + 1, by omega, by go_num, hid0 (hnext.out HF.out), trivial⟩, by simp [intOf]; omega⟩
      · have hie : ¬ (i : Int) < m := by omega
        rw [List.take_of_length_le (by rw [HM.out]; omega)] at hO
        go_wp2
        go_ret
        exact ⟨ret_bool (by rw [← HB.out, hO.out]), hB0⟩
  · have hne : ¬ (m : Int) = (k : Int) := by omega
    have HK := hid0 h3
    clear h1 h2 h3
    go_enter Tryz.func69, Tryz.ntmps69
    go_wp2
    go_ret
    exact ⟨ret_bool (by rw [← HR.out, HM.out]; simp [HK.out]), hB0⟩
end Go.Proofs.YtokkgikajammhaaGreat

/- The reference: products to MaxMany, how many rows a list has, what a plan costs. Conditions: the lists' cells are known. -/
namespace Go.Proofs.YtokkgikajammhaaGreat
open Go.RowKit

def sizeFrom (n : Int) (L : List Pair) : Int := L.foldl (fun n x => addMany n (max x.2 0)) n
theorem sizeFrom_max : ∀ L : List Pair, sizeFrom maxMany L = maxMany
  | [] => rfl
  | x :: L => by
    show sizeFrom (addMany maxMany (max x.2 0)) L = maxMany
    rw [show addMany maxMany (max x.2 0) = maxMany by unfold addMany; omega]
    exact sizeFrom_max L
theorem sizeFrom_sat {L : List Pair} {n : Int} {x : Pair} (hn : 0 ≤ n ∧ n ≤ maxMany) (h : 1099511627776 - n < x.2) : sizeFrom n (x :: L) = 1099511627776 := by
  show sizeFrom (addMany n (max x.2 0)) L = maxMany
  rw [show addMany n (max x.2 0) = maxMany by unfold addMany maxMany at *; omega]
  exact sizeFrom_max L
theorem mul_big {a b : Int} (hb : 0 < b) (h : 1099511627776 / b < a) : 1099511627776 ≤ a * b := by
  have h1 : 1099511627776 < a * b := by
    have := (Int.ediv_lt_iff_lt_mul hb).1 h
    exact this
  omega
theorem mul_small {a b : Int} (hb : 0 < b) (h : ¬ 1099511627776 / b < a) : a * b ≤ 1099511627776 := (Int.le_ediv_iff_mul_le hb).1 (by omega)
set_option maxHeartbeats 1000000 in
theorem refTimes_any (a b : Int) (w : World) (ha : 0 ≤ a ∧ a ≤ maxMany) (hb : 0 ≤ b ∧ b ≤ maxMany) :
    Calls Tryz.prog 46 #[.int .i64 a, .int .i64 b] w fun e w' => e = .returned (.int .i64 (timesM a b)) ∧ w' = w := by
  obtain ⟨a1, a2⟩ := ha
  obtain ⟨b1, b2⟩ := hb
  unfold maxMany at a2 b2
  obtain ⟨R, hr⟩ : ∃ R, timesM a b = R := ⟨_, rfl⟩
  have HR := hid0 (show min (a * b) 1099511627776 = R from hr)
  rw [hr]
  clear hr
  have na : decide (a < 0) = false := by simp; omega
  have nb : decide (b < 0) = false := by simp; omega
  by_cases h1 : a = 0
  · subst h1
    go_enter Tryz.func46, Tryz.ntmps46
    go_wp2
    go_ret
    exact ⟨ret_i64 (by have := HR.out; omega), rfl⟩
  have h1' : (a == 0) = false := by simpa using h1
  by_cases h2 : b = 0
  · subst h2
    go_enter Tryz.func46, Tryz.ntmps46
    go_wp2
    go_ret
    exact ⟨ret_i64 (by have := HR.out; omega), rfl⟩
  have h2' : (b == 0) = false := by simpa using h2
  have hb0 : 0 < b := by omega
  by_cases h3 : 1099511627776 / b < a
  · have HM := hid0 (mul_big hb0 h3)
    go_enter Tryz.func46, Tryz.ntmps46
    go_wp2
    go_ret
    exact ⟨ret_i64 (by have := HM.out; have := HR.out; omega), rfl⟩
  · have HM := mul_small hb0 h3
    have HP := Int.mul_nonneg a1 b1
    go_enter Tryz.func46, Tryz.ntmps46
    go_wp2
    go_ret
    exact ⟨ret_i64 (by have := HR.out; omega), rfl⟩
set_option maxHeartbeats 1000000 in
theorem refCounts_any (a : Option Addr) (c : Nat) (E : List Elem) (w : World) (h : ElemsI w a c E) :
    Calls Tryz.prog 38 #[.slice a E.length c] w fun e w' => e = .returned (.int .i64 (sizeB (E.map pr))) ∧ w' = w := by
  have A := hid0 h
  have hfew := h.few
  obtain ⟨R, hr⟩ : ∃ R, sizeB (E.map pr) = R := ⟨_, rfl⟩
  have HR := hid0 (show sizeFrom (sizeB ((E.map pr).take 0)) ((E.map pr).drop 0) = R from hr)
  rw [hr]
  clear h hr
  go_enter Tryz.func38, Tryz.ntmps38
  go_wp2
  go_loopw [3, 4] (fun nv iv wr => ∃ i : Nat, i ≤ E.length ∧ iv = .int .i64 i ∧ nv = .int .i64 (sizeB ((E.map pr).take i)) ∧ Hid (sizeFrom (sizeB ((E.map pr).take i)) ((E.map pr).drop i) = R) ∧ wr = w) (fun _ iv _ => E.length - (intOf iv).toNat)
  case atStart => exact ⟨0, Nat.zero_le _, rfl, rfl, HR, rfl⟩
  case round =>
    obtain ⟨i, hi, rfl, rfl, hO, rfl⟩ := hrel
    by_cases hlt : i < E.length
    · obtain ⟨b1, o1, rfl, hc1⟩ := (A.out.at_.1) (by intro e; rw [e] at hlt; exact absurd hlt (by simp))
      obtain ⟨q0, q1⟩ := hc1 i hlt
      have hin := (A.out.i _ (List.getElem_mem hlt)).2.1
      have hst := size_step hlt
      have hb := size_in ((E.map pr).take i)
      have hdr : (E.map pr).drop i = pr E[i] :: (E.map pr).drop (i + 1) := by
        rw [List.drop_eq_getElem_cons (by simpa using hlt)]; simp
      have h0 := hO.out
      rw [hdr] at h0
      have hsat : 1099511627776 - sizeB ((E.map pr).take i) < E[i].n → 1099511627776 = R := fun hx => by
        have h1 := sizeFrom_sat (L := (E.map pr).drop (i + 1)) (n := sizeB ((E.map pr).take i)) (x := pr E[i]) hb hx
        rw [h0] at h1
        exact h1.symm
      have hnx : sizeFrom (sizeB ((E.map pr).take (i + 1))) ((E.map pr).drop (i + 1)) = R := by rw [hst]; exact h0
      have HNX := hid0 hnx
      clear hnx h0 hdr hO
      obtain ⟨nn, hnn⟩ : ∃ nn, sizeB ((E.map pr).take i) = nn := ⟨_, rfl⟩
      rw [hnn] at hst hb hsat ⊢
      have HSAT := hid0 hsat
      obtain ⟨h1, h2⟩ := hin
      obtain ⟨b0, b2⟩ := hb
      unfold maxMany at b2
      unfold addMany maxMany at hst
      have HST := hid0 hst
      have hw0 : IntKind.i64.wrap (1099511627776 - nn) = 1099511627776 - nn := IntWalk.i64_in _ (by omega)
      clear hc1 hst hnn hsat
      generalize E[i].n = x at *
      by_cases g1 : 1099511627776 - nn < x
      · have HG := hid0 (HSAT.out g1)
        go_wp2
        go_ret
        exact ⟨ret_i64 (by rw [← HG.out]), rfl⟩
      · by_cases g2 : 0 < x
        · have hw1 : IntKind.i64.wrap (nn + x) = nn + x := IntWalk.i64_in _ (by omega)
          have HE := hid0 (show sizeB ((E.map pr).take (i + 1)) = nn + x by rw [HST.out]; omega)
          go_wp2
          exact ⟨⟨i + 1, by omega, by go_num, by rw [HE.out], HNX, trivial⟩, by simp [intOf]; omega⟩
        · have HE := hid0 (show sizeB ((E.map pr).take (i + 1)) = nn by rw [HST.out]; omega)
          go_wp2
          exact ⟨⟨i + 1, by omega, by go_num, by rw [HE.out], HNX, trivial⟩, by simp [intOf]; omega⟩
    · have hie : ¬ (i : Int) < E.length := by omega
      have h0 := hO.out
      rw [List.drop_of_length_le (by simp; omega)] at h0
      have H0 := hid0 (show sizeB ((E.map pr).take i) = R from h0)
      clear h0
      go_wp2
      go_ret
      exact ⟨ret_i64 (by rw [H0.out]), rfl⟩
end Go.Proofs.YtokkgikajammhaaGreat

/- The reference: what is at a name. Conditions: the names' cells are known. -/
namespace Go.Proofs.YtokkgikajammhaaGreat
open Go.RowKit

def hasV (l : List Nx) (s : List UInt8) : Value := match findN l s with
  | none => .tuple #[.slice none 0 0, .bool false]
  | some x => .tuple #[.slice x.a x.E.length x.c, .bool true]
theorem hasV_cons (x : Nx) (l : List Nx) (s : List UInt8) : hasV (x :: l) s = if x.s.data.toList = s then .tuple #[.slice x.a x.E.length x.c, .bool true] else hasV l s := by
  unfold hasV findN
  by_cases h : x.s.data.toList = s
  · rw [if_pos h, List.find?_cons_of_pos (by simpa using h)]
  · rw [if_neg h, List.find?_cons_of_neg (by simpa using h)]
set_option maxRecDepth 100000 in
set_option maxHeartbeats 1000000 in
theorem refHas_any (a : Option Addr) (c : Nat) (l : List Nx) (s : ByteArray) (w : World) (h : NsOk w a l) :
    Calls Tryz.prog 44 #[.slice a l.length c, .string s] w fun e w' => e = .returned (hasV l s.data.toList) ∧ w' = w := by
  have A := hid0 h
  have hfew := h.few
  obtain ⟨R, hr⟩ : ∃ R, Ending.returned (hasV l s.data.toList) = R := ⟨_, rfl⟩
  have HR := hid0 (show Ending.returned (hasV (l.drop 0) s.data.toList) = R from hr)
  rw [hr]
  clear h hr
  obtain ⟨n, hn⟩ : ∃ n, l.length = n := ⟨_, rfl⟩
  have HN := hid0 hn
  rw [hn] at hfew ⊢
  clear hn
  go_enter Tryz.func44, Tryz.ntmps44
  go_wp2
  go_loopw [6] (fun iv wr => ∃ i : Nat, i ≤ n ∧ iv = .int .i64 i ∧ Hid (Ending.returned (hasV (l.drop i) s.data.toList) = R) ∧ wr = w) (fun iv _ => n - (intOf iv).toNat)
  case atStart => exact ⟨0, Nat.zero_le _, rfl, HR, rfl⟩
  case round =>
    obtain ⟨i, hi, rfl, hO, rfl⟩ := hrel
    by_cases hlt : i < n
    · have g1 : i < l.length := by rw [HN.out]; exact hlt
      obtain ⟨b1, o1, rfl, hb1, hR⟩ := A.out.name i g1
      have h0 := hO.out
      rw [List.drop_eq_getElem_cons g1, hasV_cons] at h0
      generalize l[i] = x at hR h0
      have q0 := rng hR 0 (u := .string x.s) rfl
      have q1 := rng hR 1 (u := .slice x.a x.E.length x.c) rfl
      rw [Nat.add_zero] at q0
      have H0 := hid0 h0
      clear hR h0 hO
      by_cases hs : x.s = s
      · have HS := hid0 hs
        rw [hs] at q0
        clear hs
        go_wp2
        go_ret2
        exact ⟨by rw [← H0.out, if_pos (by rw [HS.out])]; rfl, rfl⟩
      · have hne : ¬ x.s.data.toList = s.data.toList := fun e => hs (ByteArray.ext (Array.ext' e))
        have hne2 : ¬ x.s.toList = s.toList := fun e => hne (by rw [ByteArray.toList_eq, ByteArray.toList_eq] at e; exact e)
        have H1 := hid0 (show Ending.returned (hasV (l.drop (i + 1)) s.data.toList) = R by rw [← H0.out, if_neg hne])
        have hb : (x.s.toList == s.toList) = false := by simpa using hne2
        clear hne hne2 hs
        go_wp2
        exact ⟨⟨i + 1, by omega, by go_num, H1, trivial⟩, by simp [intOf]; omega⟩
    · have hie : ¬ (i : Int) < n := by omega
      have h0 := hO.out
      rw [List.drop_of_length_le (by rw [HN.out]; omega)] at h0
      have H0 := hid0 h0
      clear h0
      go_wp2
      go_ret2
      exact ⟨H0.out, rfl⟩
end Go.Proofs.YtokkgikajammhaaGreat

/- The reference: what a plan costs. Conditions: the plan's and the names' cells are known. -/
namespace Go.Proofs.YtokkgikajammhaaGreat
open Go.RowKit

theorem elems_nil (w : World) : ElemsI w none 0 [] := ⟨⟨fun h => absurd rfl h, fun e he => (by cases he)⟩, fun e he => (by cases he), by decide, by decide⟩
/-- What is at a name, and how many rows that is. -/
theorem has_counts (l : List Nx) (s : List UInt8) (w : World) (hN : ∀ x ∈ l, ElemsI w x.a x.c x.E) :
    ∃ ra rm rc ok, hasV l s = .tuple #[.slice ra rm rc, .bool ok] ∧ Calls Tryz.prog 38 #[.slice ra rm rc] w fun e w' => e = .returned (.int .i64 (sizeN l s)) ∧ w' = w := by
  unfold hasV sizeN
  cases h : findN l s with
  | none => exact ⟨none, 0, 0, false, rfl, refCounts_any none 0 [] w (elems_nil w)⟩
  | some x => exact ⟨x.a, x.E.length, x.c, true, rfl, refCounts_any x.a x.c x.E w (hN x (List.mem_of_find?_eq_some h))⟩
def costFrom (l : List Nx) (n : Int) (ps : List Px) : Int := ps.foldl (fun n p => addMany n (costF l p.fs)) n
theorem costFrom_max (l : List Nx) : ∀ ps : List Px, costFrom l maxMany ps = maxMany
  | [] => rfl
  | p :: ps => by
    show costFrom l (addMany maxMany (costF l p.fs)) ps = maxMany
    rw [show addMany maxMany (costF l p.fs) = maxMany by have := (costF_in l p.fs).1; unfold addMany; omega]
    exact costFrom_max l ps
set_option maxRecDepth 100000 in
set_option maxHeartbeats 2000000 in
theorem refCost_any {k : Nat} (a : Option Addr) (c : Nat) (ps : List Px) (a2 : Option Addr) (c2 : Nat) (l : List Nx) (w : World) (hP : PsOk w k a c ps) (hL : NsOk w a2 l) :
    Calls Tryz.prog 18 #[planV a ps.length c, .slice a2 l.length c2] w fun e w' => e = .returned (.int .i64 (costP l ps)) ∧ Below w.heap.size w w' := by
  have V := VarB.new w [.slice a ps.length c] 24
  have q0 := V.cell 0 rfl
  have hB0 : Below w.heap.size w (w.alloc (.cells #[.slice a ps.length c] 24)) := (Below.refl _ _).alloc (Nat.le_refl _) _
  have HP := hid0 (hP.later hB0)
  have HL := hid0 (hL.later hB0)
  have hfew := hP.few
  obtain ⟨R, hr⟩ : ∃ R, costP l ps = R := ⟨_, rfl⟩
  have HR := hid0 (show costFrom l (costP l (ps.take 0)) (ps.drop 0) = R from hr)
  rw [hr]
  clear hr hP hL V
  unfold planV
  obtain ⟨n, hn⟩ : ∃ n, ps.length = n := ⟨_, rfl⟩
  have HN := hid0 hn
  rw [hn] at q0 hB0 hfew HP HL ⊢
  clear hn
  generalize hW0 : w.alloc (Obj.cells #[.slice a n c] 24) = W0 at *
  have HW0 := hid0 hW0
  go_enter Tryz.func18, Tryz.ntmps18
  go_wp2
  clear hW0
  go_loopw [5, 6] (fun nv iv wr => ∃ i : Nat, i ≤ n ∧ iv = .int .i64 i ∧ nv = .int .i64 (costP l (ps.take i)) ∧ Hid (costFrom l (costP l (ps.take i)) (ps.drop i) = R) ∧ wr = W0) (fun _ iv _ => n - (intOf iv).toNat)
  case atStart => exact ⟨0, Nat.zero_le _, rfl, rfl, HR, rfl⟩
  case round =>
    obtain ⟨i, hi, rfl, rfl, hO, rfl⟩ := hrel
    by_cases hlt : i < n
    · have hlt1 : i < ps.length := by rw [HN.out]; exact hlt
      have hlti : (i : Int) < (n : Int) := by omega
      obtain ⟨b0, o0, rfl, hb0, hR⟩ := HP.out.part i hlt1
      have hok := HP.out.ok _ (List.getElem_mem hlt1)
      have hin := costP_in l (ps.take i)
      have hst := costP_take (l := l) hlt1
      have h0 := hO.out
      rw [List.drop_eq_getElem_cons hlt1] at h0
      generalize ps[i] = p at hR hok hst h0
      have r1 := rng hR 1 p.c1
      have hFS := hid0 hok.fs
      have hcF := costF_in l p.fs
      have h0' : costFrom l (addMany (costP l (ps.take i)) (costF l p.fs)) (ps.drop (i + 1)) = R := h0
      generalize costP l (ps.take i) = N at hin hst h0' ⊢
      obtain ⟨N1, N2⟩ := hin
      obtain ⟨K1, K2⟩ := hcF
      unfold maxMany at N2 K2
      have hsat : 1099511627776 - N < costF l p.fs → 1099511627776 = R := fun hx => by
        rw [show addMany N (costF l p.fs) = maxMany by unfold addMany maxMany; omega, costFrom_max] at h0'
        exact h0'
      have HSAT := hid0 hsat
      have HNX := hid0 (show costFrom l (costP l (ps.take (i + 1))) (ps.drop (i + 1)) = R by rw [hst]; exact h0')
      have HST := hid0 hst
      have hw0 : IntKind.i64.wrap (1099511627776 - N) = 1099511627776 - N := IntWalk.i64_in _ (by omega)
      have hfF := hok.fewF
      clear hR hok hst h0 h0' hsat hO
      generalize p.fs = fs at *
      generalize p.fp = fp at *
      generalize p.fc = fc at *
      obtain ⟨m, hm⟩ : ∃ m, fs.length = m := ⟨_, rfl⟩
      have HM := hid0 hm
      rw [hm] at r1 hfF
      clear hm
      go_wp2
      go_loopw [7, 8] (fun kv jv wi => ∃ j : Nat, j ≤ m ∧ jv = .int .i64 j ∧ kv = .int .i64 (costF l (fs.take j)) ∧ wi = wr) (fun _ jv _ => m - (intOf jv).toNat)
      case atStart => exact ⟨0, Nat.zero_le _, rfl, rfl, rfl⟩
      case round =>
        obtain ⟨j, hj, rfl, rfl, rfl⟩ := hrel
        by_cases hjl : j < m
        · have hj1 : j < fs.length := by rw [HM.out]; exact hjl
          have hjli : (j : Int) < (m : Int) := by omega
          obtain ⟨b1, o1, rfl, hc1⟩ := hFS.out.out (by intro e; rw [e] at hj1; exact absurd hj1 (by simp))
          have s0 := hc1 j hj1
          have hst2 := hid0 (show costF l (fs.take (j + 1)) = _ by rw [List.take_succ_eq_append_getElem hj1, costF_snoc])
          generalize fs[j] = s at s0 hst2
          obtain ⟨ra, rm, rc, ok, hhas, hcnt⟩ := has_counts l s.data.toList wr (fun x hx => (HL.out.ok x hx).1)
          have hh := refHas_any a2 c2 l s wr HL.out
          rw [hhas] at hh
          have CH := hid0 hh
          have CC := hid0 hcnt
          have CT := hid0 (refTimes_any (costF l (fs.take j)) (sizeN l s.data.toList) wr (costF_in _ _) (sizeN_in _ _))
          clear hh hcnt hhas hc1
          generalize sizeN l s.data.toList = z at CC CT hst2
          generalize costF l (fs.take j) = C at CT hst2 ⊢
          go_wp2_with (first | (go_at_call 44; go_must (refine CH.out.mono ?_; rintro e w1 ⟨rfl, hw1⟩; rw [hw1])) | (go_at_call 38; go_must (refine CC.out.mono ?_; rintro e w2 ⟨rfl, hw2⟩; rw [hw2])) | (go_at_call 46; go_must (refine CT.out.mono ?_; rintro e w3 ⟨rfl, hw3⟩; rw [hw3])) | fail)
          exact ⟨⟨j + 1, by omega, by go_num, by rw [hst2.out], trivial⟩, by simp [intOf]; omega⟩
        · have hje : ¬ (j : Int) < m := by omega
          rw [List.take_of_length_le (by rw [HM.out]; omega)]
          generalize costF l fs = K at *
          by_cases g1 : 1099511627776 - N < K
          · have HG := hid0 (HSAT.out g1)
            go_wp2
            go_ret
            exact ⟨ret_i64 HG.out, hB0⟩
          · have hw1 : IntKind.i64.wrap (N + K) = N + K := IntWalk.i64_in _ (by omega)
            have HE := hid0 (show costP l (ps.take (i + 1)) = N + K by rw [HST.out]; unfold addMany maxMany; omega)
            go_wp2
            exact ⟨⟨i + 1, by omega, by go_num, by rw [HE.out], HNX, trivial⟩, by simp [intOf]; omega⟩
    · have hie : ¬ (i : Int) < n := by omega
      have h0 := hO.out
      rw [List.drop_of_length_le (by rw [HN.out]; omega)] at h0
      have H0 := hid0 (show costP l (ps.take i) = R from h0)
      clear h0
      go_wp2
      go_ret
      exact ⟨ret_i64 H0.out, hB0⟩
end Go.Proofs.YtokkgikajammhaaGreat
