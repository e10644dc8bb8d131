/- The walk of the law LexParts: it returns true, and below the heap's end memory is as it was. Conditions: what strconv.ErrRange holds is an error. -/
import Derived.Test.YtfjhkchkiacfpaaDoorNn
namespace Go.Proofs.YtfjhkchkiacfpaaDoor
open Go.RowKit

/-- The same word, wherever it stands. -/
def Like (x y : Wd) : Prop := x.k = y.k ∧ x.s = y.s ∧ x.n = y.n
/-- The words of both, one list behind the other. -/
structure Par (ws ms al : List Wd) : Prop where
  len : al.length + 1 = ws.length + ms.length
  low : ∀ i (h : i < al.length) (h1 : i + 1 < ws.length), Like al[i] (ws[i]'(by omega))
  high : ∀ i (h : i < al.length) (_ : ¬ i + 1 < ws.length) (h2 : i + 1 - ws.length < ms.length), Like al[i] ms[i + 1 - ws.length]
theorem par_of {ws ms : List Wd} {d n1 n2 n3 : Nat} : Par (ws ++ [⟨5, [], 0, n1⟩]) (ms ++ [⟨5, [], 0, n2⟩]) (ws ++ ms.map (Wd.far d) ++ [⟨5, [], 0, n3⟩]) := by
  refine ⟨by simp; omega, fun i h h1 => ?_, fun i h h1 h2 => ?_⟩
  · simp at h1
    rw [List.getElem_append_left (by simp; omega), List.getElem_append_left h1, List.getElem_append_left h1]
    exact ⟨rfl, rfl, rfl⟩
  · simp at h1 h2 h
    have e : i + 1 - (ws ++ [(⟨5, [], 0, n1⟩ : Wd)]).length = i - ws.length := by simp
    rw [List.getElem_append]
    split
    · rename_i hlt
      simp at hlt
      rw [List.getElem_append_right h1]
      simp only [e, List.getElem_map]
      rw [List.getElem_append_left (by omega)]
      exact ⟨rfl, rfl, rfl⟩
    · rename_i hlt
      simp at hlt
      simp only [e]
      rw [List.getElem_append_right (by omega)]
      simp [Like]

theorem cell_two8 {w : World} {B o : Nat} {v : Value} (h : w.cell? ⟨B, o, none⟩ = some v) (p q : Obj) : ((w.alloc p).alloc q).cell? ⟨B, o, none⟩ = some v :=
  cell_later (((Below.refl _ _).alloc (Nat.le_refl _) p).alloc (by rw [World.size_alloc]; omega) q) h

set_option maxRecDepth 1000000 in
set_option maxHeartbeats 4000000 in
theorem parts_main (s t : List UInt8) (N1 N2 N3 : Nat) (ws ms al : List Wd) (w : World) (er : ErAt w) (HS : WordsOn s N1 0 ws) (HT : WordsOn t N2 0 ms) (HA : WordsOn (s ++ 32 :: t) N3 0 al)
    (h3 : s.length ≤ 900) (h4 : t.length ≤ 900) (h5 : ws.length ≤ 200) (h6 : ms.length ≤ 200) (hw : ws ≠ []) (hm : ms ≠ []) (HP : Par ws ms al) :
    Calls Tryd.prog 5 #[.string (txt s), .string (txt t)] w fun e w' => e = .returned (.bool true) ∧ Below w.heap.size w w' := by
  have hzs : (txt s).size = s.length := txt_size s
  have hzt : (txt t).size = t.length := txt_size t
  obtain ⟨P, hP⟩ : ∃ P, s ++ [32] = P := ⟨_, rfl⟩
  obtain ⟨Q, hQ⟩ : ∃ Q, s ++ 32 :: t = Q := ⟨_, rfl⟩
  have X1 : txt s ++ ⟨#[32]⟩ = txt P := by rw [← hP, ← txt_add]; rfl
  have X2 : txt P ++ txt t = txt Q := by rw [txt_add, ← hP, ← hQ]; simp
  have z1 : (txt P).size = s.length + 1 := by rw [txt_size, ← hP]; simp
  have z2 : (txt Q).size = s.length + 1 + t.length := by rw [txt_size, ← hQ]; simp; omega
  rw [hQ] at HA
  clear hP hQ
  have h3' : ¬ (900 : Int) < (s.length : Int) := by omega
  have h4' : ¬ (900 : Int) < (t.length : Int) := by omega
  have h5' : ¬ (200 : Int) < (ws.length : Int) := by omega
  have h6' : ¬ (200 : Int) < (ms.length : Int) := by omega
  have hwl : 0 < ws.length := List.length_pos_iff.2 hw
  have hml : 0 < ms.length := List.length_pos_iff.2 hm
  have hal := HP.len
  go_enter Tryd.func5, Tryd.ntmps5
  go_wp2_with fail
  go_at_call 13
  refine (HS.out _ er).mono ?_
  rintro e w1 ⟨v1, rfl, hO1, hb1⟩
  have er1 := er.later hb1
  obtain ⟨g1, c1, rfl, A1⟩ := hO1.wds hw
  go_wp2_with fail
  go_at_call 13
  refine (HT.out _ er1).mono ?_
  rintro e w2 ⟨v2, rfl, hO2, hb2⟩
  have er2 := er1.later hb2
  obtain ⟨g2, c2, rfl, A2⟩ := hO2.wds hm
  go_wp2_with fail
  go_at_call 13
  refine (HA.out _ er2).mono ?_
  rintro e w3 ⟨v3, rfl, hO3, hb3⟩
  have er3 := er2.later hb3
  obtain ⟨g3, c3, rfl, A3⟩ := hO3.wds (by intro e; rw [e] at hal; simp at hal; omega)
  have CA := awake8_any w3 er3
  have hl1 : ¬ (ws.length : Int) = 0 := by omega
  have hl2 : IntKind.i64.wrap ((ws.length : Int) - 1) = (ws.length : Int) - 1 := IntWalk.i64_in _ (by omega)
  have hl3 : (al.length : Int) = (ws.length : Int) - 1 + (ms.length : Int) := by omega
  have hl4 : IntKind.i64.wrap ((ws.length : Int) - 1 + (ms.length : Int)) = (al.length : Int) := by rw [IntWalk.i64_in _ (by omega)]; omega
  go_wp2_with (first
    | (go_at_call 8; refine CA.mono ?_; rintro e w4 ⟨rfl, hb4⟩)
    | fail)
  have B2 := below_through hb2 hb1.size hb1
  have B3 := below_through hb3 B2.size B2
  have B4 := below_through hb4 B3.size B3
  have L1 := hid0 (((A1.later hb2).later hb3).later hb4)
  have L2 := hid0 ((A2.later hb3).later hb4)
  have L3 := hid0 (A3.later hb4)
  have HPP := hid0 HP
  have HAL := hid0 hal
  have HL2 := hid0 hl2
  clear hl2 hl3 hl4 hal
  have hw4 : w.heap.size ≤ w4.heap.size := B4.size
  clear A1 A2 A3 hO1 hO2 hO3 HP HS HT HA CA X1 X2 z1 z2 er er1 er2 er3 hb1 hb2 hb3 hb4 B2 B3
  go_loopw [14] (fun iv wr => ∃ i : Nat, i ≤ al.length ∧ iv = .int .i64 i ∧ Below w4.heap.size w4 wr) (fun iv _ => al.length - (intOf iv).toNat)
  case atStart => exact ⟨0, Nat.zero_le _, rfl, Below.refl _ _⟩
  case round =>
    obtain ⟨i, hi, rfl, hB⟩ := hrel
    have hbs := hB.size
    by_cases hlt : i < al.length
    · have hii : (i : Int) < (al.length : Int) := by omega
      obtain ⟨x0, x1, x2, x3⟩ := (L3.out.later hB).cell4 i hlt
      have hib : (i : Int) ≤ 400 := by have := HAL.out; omega
      by_cases hlow : i + 1 < ws.length
      · have hw5 : (i : Int) < (ws.length : Int) - 1 := by omega
        have hw6 : (i : Int) < (ws.length : Int) := by omega
        obtain ⟨y0, y1, y2, y3⟩ := (L1.out.later hB).cell4 i (by omega)
        obtain ⟨e1, e2, e3⟩ := HPP.out.low i hlt hlow
        obtain ⟨⟨xk, xs, xn, xp⟩, hx⟩ : ∃ x, al[i] = x := ⟨_, rfl⟩
        obtain ⟨⟨yk, ys, yn, yp⟩, hy⟩ : ∃ y, ws[i]'(by omega) = y := ⟨_, rfl⟩
        rw [hx] at x0 x1 x2 x3 e1 e2 e3
        rw [hy] at y0 y1 y2 y3 e1 e2 e3
        dsimp only at x0 x1 x2 x3 y0 y1 y2 y3 e1 e2 e3
        subst e1 e2 e3
        clear hx hy
        have z0 := cell_two8 y0
        have z1 := cell_two8 y1
        have z2 := cell_two8 y2
        have z3 := cell_two8 y3
        clear y0 y1 y2 y3
        have hl2 := HL2.out
        go_wp2_with fail
        clear hl2
        exact ⟨⟨i + 1, by omega, by go_num, by go_grown⟩, by simp [intOf]; omega⟩
      · have hal := HAL.out
        have hw5 : ¬ (i : Int) < (ws.length : Int) - 1 := by omega
        have hj : i + 1 - ws.length < ms.length := by omega
        obtain ⟨j, hjj⟩ : ∃ j, i + 1 - ws.length = j := ⟨_, rfl⟩
        have hk1 : (i : Int) - ((ws.length : Int) - 1) = (j : Int) := by omega
        have hk2 : IntKind.i64.wrap ((i : Int) - ((ws.length : Int) - 1)) = (j : Int) := by rw [IntWalk.i64_in _ (by omega)]; exact hk1
        have hk3 : (j : Int) < (ms.length : Int) := by omega
        obtain ⟨e1, e2, e3⟩ := HPP.out.high i hlt hlow hj
        obtain ⟨y0, y1, y2, y3⟩ := (L2.out.later hB).cell4 (i + 1 - ws.length) hj
        obtain ⟨⟨xk, xs, xn, xp⟩, hx⟩ : ∃ x, al[i] = x := ⟨_, rfl⟩
        obtain ⟨⟨yk, ys, yn, yp⟩, hy⟩ : ∃ y, ms[i + 1 - ws.length]'hj = y := ⟨_, rfl⟩
        rw [hx] at x0 x1 x2 x3 e1 e2 e3
        rw [hy] at y0 y1 y2 y3 e1 e2 e3
        rw [hjj] at y0 y1 y2 y3
        dsimp only at x0 x1 x2 x3 y0 y1 y2 y3 e1 e2 e3
        subst e1 e2 e3
        clear hx hy hj hjj hk1 hal
        have z0 := cell_two8 y0
        have z1 := cell_two8 y1
        have z2 := cell_two8 y2
        have z3 := cell_two8 y3
        clear y0 y1 y2 y3
        have hl2 := HL2.out
        go_wp2_with fail
        clear hl2 hk2
        exact ⟨⟨i + 1, by omega, by go_num, by go_grown⟩, by simp [intOf]; omega⟩
    · have hii : ¬ (i : Int) < (al.length : Int) := by omega
      go_wp2_with fail
      go_ret
      exact ⟨rfl, below_through hB hw4 B4⟩

theorem lawLexParts (s t : List UInt8) (w : World) (hs : s.length ≤ maxLen) (ht : t.length ≤ maxLen) (er : ErAt w) :
    Calls Tryd.prog 5 #[.string (txt s), .string (txt t)] w fun e w' => e = .returned (.bool true) ∧ Below w.heap.size w w' := by
  obtain ⟨R1, hR1⟩ : ∃ R, lexR s = R := ⟨_, rfl⟩
  obtain ⟨R2, hR2⟩ : ∃ R, lexR t = R := ⟨_, rfl⟩
  have HS := wordsOn hs hR1
  have HT := wordsOn ht hR2
  by_cases h1 : outE R1 = 0
  · by_cases h2 : outE R2 = 0
    · rcases Nat.lt_or_ge 900 s.length with h3 | h3
      · exact parts_out2 s t _ _ _ _ _ _ w er HS HT h1 h2 h3
      · rcases Nat.lt_or_ge 900 t.length with h4 | h4
        · exact parts_out3 s t _ _ _ _ _ _ w er HS HT h1 h2 h3 h4
        · rcases Nat.lt_or_ge 200 (outW s.length R1).length with h5 | h5
          · exact parts_out4 s t _ _ _ _ _ _ w er HS HT h1 h2 h3 h4 h5
          · rcases Nat.lt_or_ge 200 (outW t.length R2).length with h6 | h6
            · exact parts_out5 s t _ _ _ _ _ _ w er HS HT h1 h2 h3 h4 h5 h6
            · cases R1 with
              | ok ws =>
                cases R2 with
                | ok ms =>
                  simp only [outW, List.length_append, List.length_cons, List.length_nil] at h5 h6
                  have hR := lexR_parts hR1 hR2 (by omega) (by omega)
                  have hla : (s ++ 32 :: t).length ≤ maxLen := by unfold maxLen; simp; omega
                  exact parts_main s t _ _ _ _ _ _ w er HS HT (wordsOn hla hR) h3 h4 (by simp [outW]; omega) (by simp [outW]; omega) (by simp [outW]) (by simp [outW]) par_of
                | syn _ => cases h2
                | long _ => cases h2
              | syn _ => cases h1
              | long _ => cases h1
    · exact parts_out1 s t _ _ _ _ _ _ w er HS HT h1 h2
  · exact parts_out0 s t _ _ _ _ _ _ w er HS HT h1
end Go.Proofs.YtfjhkchkiacfpaaDoor
