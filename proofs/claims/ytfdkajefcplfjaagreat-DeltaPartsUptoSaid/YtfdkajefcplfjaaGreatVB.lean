/- Several of my texts laid together, each as it was: D1, D2, D3, D4, D5, D6. Conditions: each names its own. -/
import Derived.Test.YtfdkajefcplfjaaGreatI2
import Derived.Test.YtfdkajefcplfjaaGreatH8
import Derived.Test.YtfdkajefcplfjaaGreatH3
import Derived.Test.YtfdkajefcplfjaaGreatVA
import Derived.Test.YtfdkajefcplfjaaGreatI1
import Derived.Test.YtfdkajefcplfjaaGreatH7
import Derived.Sort.OwnSorted
import Derived.Maps.AppendAt
import Derived.Test.YtfdkajefcplfjaaGreatShelf
/- The project's layer 14 (delta), its small parts: graver errors, sums and products that stop at MaxMany, totals in two words: contracts of the calls, in whatever memory. Conditions: numbers that a program can hold. -/
namespace Go.Proofs.YtfdkajefcplfjaaGreat
open Go.RowKit

theorem dGraver_any (a b : Int) (w : World) :
    Calls Tryz.prog 99 #[.int .i64 a, .int .i64 b] w fun e w' => e = .returned (.int .i64 (graverM a b)) ∧ w' = w := by
  obtain ⟨R, hR⟩ : ∃ R, graverM a b = R := ⟨_, rfl⟩
  have HR := hid0 hR
  rw [hR]
  clear hR
  by_cases h : a = 0
  · subst h
    go_enter Tryz.func99, Tryz.ntmps99
    go_wp2
    go_ret
    exact ⟨ret_i64 (by rw [← HR.out]; simp [graverM]), rfl⟩
  · have h1 : (a == 0) = false := by simpa using h
    by_cases h2 : b = 8
    · subst h2
      go_enter Tryz.func99, Tryz.ntmps99
      go_wp2
      go_ret
      exact ⟨ret_i64 (by rw [← HR.out]; simp [graverM]), rfl⟩
    · have h3 : (b == 8) = false := by simpa using h2
      go_enter Tryz.func99, Tryz.ntmps99
      go_wp2
      go_ret
      exact ⟨ret_i64 (by rw [← HR.out]; simp [graverM, h, h2]), rfl⟩
theorem dPlus_any (a b : Int) (w : World) (ha : 0 ≤ a ∧ a ≤ maxMany) (hb : 0 ≤ b ∧ b ≤ 9223372036854775807) :
    Calls Tryz.prog 95 #[.int .i64 a, .int .i64 b] w fun e w' => e = .returned (.int .i64 (addMany a b)) ∧ w' = w := by
  unfold maxMany at ha
  obtain ⟨R, hR⟩ : ∃ R, addMany a b = R := ⟨_, rfl⟩
  have HR := hid0 hR
  rw [hR]
  have hw0 : IntKind.i64.wrap (1099511627776 - a) = 1099511627776 - a := IntWalk.i64_in _ (by omega)
  have hw1 : IntKind.i64.wrap (a + min b (1099511627776 - a)) = R := by
    rw [IntWalk.i64_in _ (by omega), ← hR]; rfl
  clear hR
  go_enter Tryz.func95, Tryz.ntmps95
  go_wp2
  go_ret
  exact ⟨rfl, rfl⟩
theorem w64d {x y : Int} (e : x = y) (h1 : -9223372036854775808 ≤ x) (h2 : x ≤ 9223372036854775807) : IntKind.i64.wrap x = y ∧ wrap64 x = y := by
  subst e
  exact ⟨IntWalk.i64_in _ (by omega), by unfold wrap64; omega⟩
theorem dTimes_any (a b : Int) (w : World) (ha : 0 ≤ a ∧ a ≤ maxMany) (hb : 0 ≤ b ∧ b ≤ maxMany) :
    Calls Tryz.prog 136 #[.int .i64 a, .int .i64 b] w fun e w' => e = .returned (.int .i64 (timesM a b)) ∧ w' = w := by
  unfold maxMany at ha hb
  obtain ⟨R, hR⟩ : ∃ R, timesM a b = R := ⟨_, rfl⟩
  have HR := hid0 hR
  rw [hR]
  clear hR
  by_cases h0 : 0 < a
  · have hd0 : decide (0 < a) = true := by simpa using h0
    have hne : ¬ a = 0 := by omega
    have hq : (1099511627776 : Int).tdiv a = 1099511627776 / a := Int.tdiv_eq_ediv_of_nonneg (by omega)
    have hw2 : IntKind.i64.wrap (1099511627776 / a) = 1099511627776 / a := IntWalk.i64_in _ (by
      have h1 : 0 ≤ 1099511627776 / a := Int.ediv_nonneg (by omega) (by omega)
      have h2 : 1099511627776 / a ≤ 1099511627776 := Int.ediv_le_self _ (by omega)
      omega)
    by_cases hb1 : 1099511627776 / a < b
    · have hd1 : decide (1099511627776 / a < b) = true := by simpa using hb1
      have hr : timesM a b = 1099511627776 := by
        unfold timesM maxMany
        have h1 : 1099511627776 < b * a := (Int.ediv_lt_iff_lt_mul (by omega)).1 hb1
        rw [Int.mul_comm] at h1
        omega
      rw [hr] at HR
      generalize (1099511627776 : Int) / a = q at *
      go_enter Tryz.func136, Tryz.ntmps136
      go_wp2
      go_ret
      exact ⟨ret_i64 HR.out, rfl⟩
    · have hd1 : decide (1099511627776 / a < b) = false := by simpa using hb1
      have h1 : b * a ≤ 1099511627776 := (Int.le_ediv_iff_mul_le (by omega)).1 (by omega)
      have h2 : 0 ≤ b * a := Int.mul_nonneg (by omega) (by omega)
      rw [Int.mul_comm] at h1 h2
      have hr : timesM a b = a * b := by unfold timesM maxMany; omega
      rw [hr] at HR
      have hw1 := w64d HR.out (by omega) (by omega)
      have hw11 := hw1.1
      have hw12 := hw1.2
      clear hw1
      generalize (1099511627776 : Int) / a = q at *
      go_enter Tryz.func136, Tryz.ntmps136
      go_wp2
      go_ret
      exact ⟨rfl, rfl⟩
  · obtain rfl : a = 0 := by omega
    have hd0 : decide ((0 : Int) < 0) = false := by decide
    have hr : timesM 0 b = 0 := by unfold timesM maxMany; omega
    rw [hr] at HR
    have hw1 := (w64d (show (0 : Int) * b = 0 from Int.zero_mul b) (by omega) (by omega))
    have hw11 := hw1.1
    have hw12 := hw1.2
    go_enter Tryz.func136, Tryz.ntmps136
    go_wp2
    go_ret
    exact ⟨ret_i64 (by rw [← HR.out]), rfl⟩
theorem infoDTot : (Tryz.prog.info? 217).map (·.size) = some 2 := by kernel_rfl
set_option maxRecDepth 1000000 in
set_option maxHeartbeats 1000000 in
theorem dPlusT_any (S n : Int) (w : World) (hn : in64 n) :
    Calls Tryz.prog 193 #[.agg #[.int .u64 (wH S : Nat), .int .u64 (wL S : Nat)], .int .i64 n] w fun e w' => e = .returned (.agg #[.int .u64 (wH (S + n) : Nat), .int .u64 (wL (S + n) : Nat)]) ∧ Below w.heap.size w w' := by
  obtain ⟨hn1, hn2⟩ := hn
  have h1 := add_low S n
  obtain ⟨c2, h2⟩ : ∃ c : World → Int, ∀ w, (callFunc 242 #[.int .u64 (wH S : Nat), .int .u64 (wH n : Nat), .int .u64 (carry S n : Nat)]).run Tryz.prog w = .ok (.value (.tuple #[.int .u64 (wH (S + n) : Nat), .int .u64 (c w)])) w :=
    ⟨fun w => (add_high S n w).choose, fun w => (add_high S n w).choose_spec⟩
  have e1 := wL_widen n
  have e2 := wH_widen n hn1 hn2
  go_enter Tryz.func193, Tryz.ntmps193
  go_wp2
  exact end_blk (VarB.two (w := w) [.int .u64 (wH S : Nat), .int .u64 (wL S : Nat)] [.int .u64 (wH (S + n) : Nat), .int .u64 (wL (S + n) : Nat)] 217 217).2 rfl rfl _ Tryz.underlying217 rfl infoDTot rfl ⟨rfl, below_two _ _ _⟩
/-- A sum as a number from 0 to MaxMany. -/
def clampM (x : Int) : Int := min (max x 0) maxMany
set_option maxHeartbeats 1000000 in
theorem dNarrow_any (S : Int) (w : World) (hS : -85070591730234615865843651857942052864 ≤ S ∧ S ≤ 85070591730234615865843651857942052864) :
    Calls Tryz.prog 194 #[.agg #[.int .u64 (wH S : Nat), .int .u64 (wL S : Nat)]] w fun e w' => e = .returned (.int .i64 (clampM S)) ∧ Below w.heap.size w w' := by
  obtain ⟨R, hR⟩ : ∃ R, clampM S = R := ⟨_, rfl⟩
  rw [hR]
  have HR := hid0 hR
  have h1 : S < 0 → ((wH S : Nat) : Int) / 9223372036854775808 = 1 := fun h => by unfold wH; omega
  have h2 : 0 ≤ S → ((wH S : Nat) : Int) / 9223372036854775808 = 0 := fun h => by unfold wH; omega
  have h3 : 0 ≤ S → S ≤ 1099511627776 → wH S = 0 ∧ ((wL S : Nat) : Int) = S := fun h h' => by unfold wH wL; omega
  have h4 : 1099511627776 < S → wH S = 0 → 1099511627776 < ((wL S : Nat) : Int) := fun h h' => by unfold wH at h'; unfold wL; omega
  unfold clampM maxMany at hR
  generalize wH S = H at *
  generalize wL S = L at *
  rcases Int.lt_or_le S 0 with hs | hs
  · have a1 := h1 hs
    have a2 : (((H : Int) / 9223372036854775808) == 1) = true := by rw [a1]; rfl
    have hR0 := hid0 (show R = 0 by omega)
    clear h1 h2 h3 h4 hs hR
    go_enter Tryz.func194, Tryz.ntmps194
    go_wp2
    go_ret
    exact ⟨ret_i64 hR0.out.symm, (Below.refl _ _).alloc (Nat.le_refl _) _⟩
  · have a1 := h2 hs
    rcases Int.lt_or_le 1099511627776 S with hm | hm
    · have a4 := h4 hm
      have hR0 := hid0 (show R = 1099511627776 by omega)
      clear h1 h2 h3 h4 hs hR hm
      by_cases hH : H = 0
      · have a5 := a4 hH
        subst hH
        have hd : decide ((1099511627776 : Int) < (L : Int)) = true := by simpa using a5
        clear a4
        go_enter Tryz.func194, Tryz.ntmps194
        go_wp2
        go_ret
        exact ⟨ret_i64 hR0.out.symm, (Below.refl _ _).alloc (Nat.le_refl _) _⟩
      · have hd : decide ((0 : Int) < (H : Int)) = true := by simp; omega
        have hd2 : decide (0 < H) = true := by simp; omega
        clear a4
        go_enter Tryz.func194, Tryz.ntmps194
        go_wp2
        go_ret
        exact ⟨ret_i64 hR0.out.symm, (Below.refl _ _).alloc (Nat.le_refl _) _⟩
    · obtain ⟨rfl, a5⟩ := h3 hs hm
      have hR0 := hid0 (show R = S by omega)
      have hd : decide ((1099511627776 : Int) < S) = false := by simp; omega
      have hwk := w64d (show S = S from rfl) (by omega) (by omega)
      have hw1 := hwk.1
      have hw2 := hwk.2
      rw [← a5] at hd hw1 hw2 hR0
      clear h1 h2 h3 h4 hs hR hm hwk a5
      go_enter Tryz.func194, Tryz.ntmps194
      go_wp2
      go_ret
      exact ⟨ret_i64 hR0.out.symm, (Below.refl _ _).alloc (Nat.le_refl _) _⟩
end Go.Proofs.YtfdkajefcplfjaaGreat

/- The project's layer 14 (delta): how many rows a list has, the order of rows, what may not be: contracts of the calls, in whatever memory. Conditions: the lists' cells are known. -/
namespace Go.Proofs.YtfdkajefcplfjaaGreat
open Go.RowKit

/-- A number's size, MaxMany at most. -/
def cabs (x : Int) : Int := max x (-(max x (-maxMany)))
def sizeA (L : List Pair) : Int := L.foldl (fun n x => addMany n (cabs x.2)) 0
theorem cabs_in (x : Int) : 0 ≤ cabs x := by unfold cabs maxMany; omega
theorem sizeA_in' : ∀ (L : List Pair) (n : Int), 0 ≤ n ∧ n ≤ maxMany → 0 ≤ L.foldl (fun n x => addMany n (cabs x.2)) n ∧ L.foldl (fun n x => addMany n (cabs x.2)) n ≤ maxMany
  | [], _, h => h
  | _ :: L, _, h => sizeA_in' L _ (addMany_in h (cabs_in _))
theorem sizeA_in (L : List Pair) : 0 ≤ sizeA L ∧ sizeA L ≤ maxMany := sizeA_in' L 0 (by unfold maxMany; omega)
theorem sizeA_step {E : List Elem} {i : Nat} (h : i < E.length) : sizeA ((E.map pr).take (i + 1)) = addMany (sizeA ((E.map pr).take i)) (cabs E[i].n) := by
  rw [List.take_succ_eq_append_getElem (by simpa using h)]
  unfold sizeA
  rw [List.foldl_append]
  simp [pr]
set_option maxHeartbeats 1000000 in
theorem dCount_any (a : Option Addr) (c : Nat) (E : List Elem) (w : World) (h : ElemsI w a c E) :
    Calls Tryz.prog 134 #[.slice a E.length c] w fun e w' => e = .returned (.int .i64 (sizeB (E.map pr))) ∧ Below w.heap.size w w' := by
  have A := hid0 h
  have hfew := h.few
  clear h
  go_enter Tryz.func134, Tryz.ntmps134
  go_wp2
  go_loopw [3, 8] (fun nv iv wr => ∃ i : Nat, i ≤ E.length ∧ iv = .int .i64 i ∧ nv = .int .i64 (sizeB ((E.map pr).take i)) ∧ Below w.heap.size w wr) (fun _ iv _ => E.length - (intOf iv).toNat)
  case atStart => exact ⟨0, Nat.zero_le _, rfl, rfl, Below.refl _ _⟩
  case round =>
    obtain ⟨i, hi, rfl, rfl, hB⟩ := hrel
    have hsz := hB.size
    by_cases hlt : i < E.length
    · obtain ⟨b1, o1, rfl, hc1⟩ := ((A.out.later hB).at_.1) (by intro e; rw [e] at hlt; exact absurd hlt (by simp))
      obtain ⟨q0, q1⟩ := hc1 i hlt
      have hin := (A.out.i _ (List.getElem_mem hlt)).2.1
      have hst := size_step hlt
      have hb := size_in ((E.map pr).take i)
      obtain ⟨h1, h2⟩ := hin
      generalize sizeB ((E.map pr).take i) = nn at *
      have hBA := Below.alloc hB hsz (Obj.cells #[.slice E[i].a E[i].r.length E[i].c, .int .i64 E[i].n] 80)
      generalize E[i] = ee at *
      have CP := hid0 (dPlus_any nn (max ee.n 0) (wr.alloc (Obj.cells #[.slice ee.a ee.r.length ee.c, .int .i64 ee.n] 80)) hb (by omega))
      have HST := hid0 hst
      have HB := hid0 hBA
      clear hc1 hst hBA hb
      go_wp2_with (first | (go_at_call 95; go_must (refine CP.out.mono ?_; rintro e w9 ⟨rfl, rfl⟩)) | fail)
      exact ⟨⟨i + 1, by omega, by go_num, by rw [HST.out], HB.out⟩, by simp [intOf]; omega⟩
    · have hie : ¬ (i : Int) < E.length := by omega
      go_wp2
      go_ret
      exact ⟨ret_i64 (by rw [List.take_of_length_le (by simp; omega)]), hB⟩
set_option maxHeartbeats 1000000 in
theorem dCountAll_any (a : Option Addr) (c : Nat) (E : List Elem) (w : World) (h : ElemsI w a c E) :
    Calls Tryz.prog 133 #[.slice a E.length c] w fun e w' => e = .returned (.int .i64 (sizeA (E.map pr))) ∧ Below w.heap.size w w' := by
  have A := hid0 h
  have hfew := h.few
  clear h
  go_enter Tryz.func133, Tryz.ntmps133
  go_wp2
  go_loopw [3, 8] (fun nv iv wr => ∃ i : Nat, i ≤ E.length ∧ iv = .int .i64 i ∧ nv = .int .i64 (sizeA ((E.map pr).take i)) ∧ Below w.heap.size w wr) (fun _ iv _ => E.length - (intOf iv).toNat)
  case atStart => exact ⟨0, Nat.zero_le _, rfl, rfl, Below.refl _ _⟩
  case round =>
    obtain ⟨i, hi, rfl, rfl, hB⟩ := hrel
    have hsz := hB.size
    by_cases hlt : i < E.length
    · obtain ⟨b1, o1, rfl, hc1⟩ := ((A.out.later hB).at_.1) (by intro e; rw [e] at hlt; exact absurd hlt (by simp))
      obtain ⟨q0, q1⟩ := hc1 i hlt
      have hin := (A.out.i _ (List.getElem_mem hlt)).2.1
      have hst := sizeA_step hlt
      have hb := sizeA_in ((E.map pr).take i)
      obtain ⟨h1, h2⟩ := hin
      generalize sizeA ((E.map pr).take i) = nn at *
      have hBA := Below.alloc hB hsz (Obj.cells #[.slice E[i].a E[i].r.length E[i].c, .int .i64 E[i].n] 80)
      generalize E[i] = ee at *
      have hcb : 0 ≤ cabs ee.n ∧ cabs ee.n ≤ 9223372036854775807 := by unfold cabs maxMany; omega
      have CP := dPlus_any nn (cabs ee.n) (wr.alloc (Obj.cells #[.slice ee.a ee.r.length ee.c, .int .i64 ee.n] 80)) hb hcb
      have hng := w64d (show -(max ee.n (-1099511627776)) = -(max ee.n (-1099511627776)) from rfl) (by omega) (by omega)
      have hng1 := hng.1
      have hng2 := hng.2
      have hcd : cabs ee.n = max ee.n (-(max ee.n (-1099511627776))) := rfl
      rw [hcd] at CP hst
      have CP := hid0 CP
      clear hcb hng hcd
      have HST := hid0 hst
      have HB := hid0 hBA
      clear hc1 hst hBA hb
      go_wp2_with (first | (go_at_call 95; go_must (refine CP.out.mono ?_; rintro e w9 ⟨rfl, rfl⟩)) | fail)
      exact ⟨⟨i + 1, by omega, by go_num, by rw [HST.out], HB.out⟩, by simp [intOf]; omega⟩
    · have hie : ¬ (i : Int) < E.length := by omega
      go_wp2
      go_ret
      exact ⟨ret_i64 (by rw [List.take_of_length_le (by simp; omega)]), hB⟩
theorem dByRow_any (e1 e2 : Elem) (w : World) (h1 : RowAt w e1.a e1.r) (h2 : RowAt w e2.a e2.r) (m1 : e1.r.length ≤ maxLen) :
    Calls Tryz.prog 192 #[.agg #[.slice e1.a e1.r.length e1.c, .int .i64 e1.n], .agg #[.slice e2.a e2.r.length e2.c, .int .i64 e2.n]] w fun e w' => e = .returned (.int .i64 (rowsV e1.r e2.r)) ∧ Below w.heap.size w w' := by
  have hb := below_two w (Obj.cells #[.slice e1.a e1.r.length e1.c, .int .i64 e1.n] 80) (Obj.cells #[.slice e2.a e2.r.length e2.c, .int .i64 e2.n] 80)
  have CR := hid0 (rows_any e1.a e2.a e1.c e2.c e1.r e2.r _ (h1.later hb) (h2.later hb) m1)
  have HB := hid0 hb
  clear h1 h2 hb
  go_enter Tryz.func192, Tryz.ntmps192
  go_wp2_with (first | (go_at_call 128; go_must (refine CR.out.mono ?_; rintro e w9 ⟨rfl, hb9⟩)) | fail)
  go_ret
  exact ⟨rfl, below_through hb9 HB.out.size HB.out⟩
theorem dEmpty_any (a : Option Addr) (n c : Nat) (w : World) :
    Calls Tryz.prog 197 #[.slice a n c] w fun e w' => e = .returned (.bool ((n : Int) == 0)) ∧ w' = w := by
  go_enter Tryz.func197, Tryz.ntmps197
  go_wp2
  go_ret
  exact ⟨rfl, rfl⟩
theorem dWrong_any (x : Nx) (w : World) (h : ElemsI w x.a x.c x.E) :
    Calls Tryz.prog 51 #[.agg #[.string x.s, .slice x.a x.E.length x.c]] w fun e w' => e = .returned (.bool (!rightE x.E)) ∧ Below w.heap.size w w' := by
  have hb : Below w.heap.size w (w.alloc (Obj.cells #[.string x.s, .slice x.a x.E.length x.c] 65)) := (Below.refl _ _).alloc (Nat.le_refl _) _
  have CR := hid0 (bagRight_all x.a x.c x.E _ (h.later hb))
  have HB := hid0 hb
  clear h hb
  generalize rightE x.E = R at *
  go_enter Tryz.func51, Tryz.ntmps51
  go_wp2_with (first | (go_at_call 88; go_must (refine CR.out.mono ?_; rintro e w9 ⟨rfl, hb9⟩)) | fail)
  go_ret
  exact ⟨rfl, below_through hb9 HB.out.size HB.out⟩
/-- Rows of a part that can't be told one by one. -/
def sumyB (p : Px) : Bool := p.d || groupedB p
set_option maxRecDepth 1000000 in
theorem dSummary_any {n : Nat} (p : Px) (w : World) (h : PxOk w n p) :
    Calls Tryz.prog 56 #[p.val] w fun e w' => e = .returned (.bool (sumyB p)) ∧ Below w.heap.size w w' := by
  obtain ⟨V, hB0⟩ := part_box p w
  have hl := p.cells_len
  have CG := hid0 (fun (W : World) (hW : Below w.heap.size w W) => grouped_any p W (h.later hW))
  have hu0 : p.cells[0]? = some (.bool p.d) := rfl
  have HD := hid0 (show sumyB p = (p.d || groupedB p) from rfl)
  generalize sumyB p = R at *
  unfold Px.val at CG ⊢
  generalize groupedB p = g at *
  generalize p.d = d at *
  have HB := hid0 hB0
  clear h hB0
  obtain ⟨us, hus⟩ : ∃ us, p.cells = us := ⟨_, rfl⟩
  rw [hus] at V hl CG hu0 HB ⊢
  have a0 := V.cell 0 hu0
  clear hus
  cases d with
  | true =>
    go_enter Tryz.func56, Tryz.ntmps56
    go_wp2
    go_ret
    exact ⟨ret_bool (by rw [HD.out]; rfl), HB.out⟩
  | false =>
    go_enter Tryz.func56, Tryz.ntmps56
    go_wp2_with (first | ((with_reducible refine wp_getG ?_ V.at_ Tryz.underlying50 ?_ ?_ ?_ ?_); (rfl); (rfl); (rw [hl]; exact sizePx); (rfl); (try simp only [Act.put])) | (go_at_call 93; go_must (refine (CG.out _ HB.out).mono ?_; rintro e w9 ⟨rfl, hb9⟩)) | fail)
    go_ret
    exact ⟨ret_bool (by rw [HD.out]; rfl), below_through hb9 HB.out.size HB.out⟩
end Go.Proofs.YtfdkajefcplfjaaGreat

/- The project's layer 14 (delta): what is there, by names, in a map: a contract of the call, in whatever memory. Conditions: the names' cells are known. -/
namespace Go.Proofs.YtfdkajefcplfjaaGreat
open Go.RowKit

def Nx.slc (x : Nx) : Value := .slice x.a x.E.length x.c
theorem zeroSlc (w : World) : (zeroValue 57).run Tryz.prog w = .ok (.slice none 0 0) w := by kernel_rfl
/-- The rows of each name, in a map. -/
structure SrcD (w : World) (b : Nat) (l : List Nx) : Prop where
  out : ∃ n, MapS Tryz.prog 9 w b n (fun s => (findN l s).map Nx.slc) ∧ n ≤ l.length
theorem SrcD.later {w w' : World} {b : Nat} {l : List Nx} (h : SrcD w b l) (hb : Below w.heap.size w w') : SrcD w' b l := by
  obtain ⟨n, h1, h2⟩ := h.out
  exact ⟨n, h1.later hb, h2⟩
theorem SrcD.lt {w : World} {b : Nat} {l : List Nx} (h : SrcD w b l) : b < w.heap.size := by
  obtain ⟨n, h1, h2⟩ := h.out
  exact h1.lt
def slcOf (l : List Nx) (s : List UInt8) : Value := match findN l s with
  | some x => x.slc
  | none => .slice none 0 0
theorem SrcD.look {w : World} {b : Nat} {l : List Nx} (c : Bool) (h : SrcD w b l) {s : ByteArray} (hs : s.size ≤ maxLen) :
    (Instr.lookup 94 (.map (some b)) (.string s) c).run Tryz.prog w = .ok (if c then .tuple #[slcOf l s.data.toList, .bool (findN l s.data.toList).isSome] else slcOf l s.data.toList) w := by
  obtain ⟨n, h1, h2⟩ := h.out
  have H := h1.look (t := 94) (e := 57) c Tryz.underlying9 Tryz.underlying94 (zeroSlc w) hs
  rw [H]
  unfold slcOf
  cases findN l s.data.toList <;> rfl
theorem find_newD {l : List Nx} {x : Nx} (h : findN l x.s.data.toList = none) : (fun s => (findN (l ++ [x]) s).map Nx.slc) = fun s => if s = x.s.data.toList then some x.slc else (findN l s).map Nx.slc := by
  funext s
  rw [findN_snoc]
  by_cases e : s = x.s.data.toList
  · subst e; rw [h]; simp
  · rw [if_neg e]
    cases hs : findN l s with
    | some z => rfl
    | none => simp [Ne.symm e]
theorem find_metD {l : List Nx} {x y : Nx} (h : findN l x.s.data.toList = some y) : (fun s => (findN (l ++ [x]) s).map Nx.slc) = fun s => (findN l s).map Nx.slc := by
  funext s
  rw [findN_snoc]
  cases hs : findN l s with
  | some z => rfl
  | none =>
    have : x.s.data.toList ≠ s := fun e => by rw [e, hs] at h; cases h
    simp [this]
theorem SrcD.met {w : World} {b : Nat} {l : List Nx} {x y : Nx} (h : SrcD w b l) (hf : findN l x.s.data.toList = some y) : SrcD w b (l ++ [x]) := by
  obtain ⟨n, h1, h2⟩ := h.out
  exact ⟨n, by rw [find_metD hf]; exact h1, by simp; omega⟩
theorem SrcD.put {w : World} {b : Nat} {l : List Nx} {x : Nx} (h : SrcD w b l) (hl : l.length < maxLen) (hs : x.s.size ≤ maxLen) (hf : findN l x.s.data.toList = none) :
    ∃ w', (Instr.mapUpdate 94 (.map (some b)) (.string x.s) x.slc).run Tryz.prog w = .ok () w' ∧ SrcD w' b (l ++ [x]) ∧ w.grownBy w' (some b) := by
  obtain ⟨n, h1, h2⟩ := h.out
  obtain ⟨w', hrun, h3, hg⟩ := h1.put (t := 94) (e := 57) Tryz.underlying9 Tryz.underlying94 (by omega) hs x.slc
  exact ⟨w', hrun, ⟨n + 1, by rw [find_newD hf]; exact h3, by simp; omega⟩, hg⟩
set_option maxRecDepth 100000 in
set_option maxHeartbeats 4000000 in
theorem dThere_any (a : Option Addr) (c : Nat) (l : List Nx) (w : World) (h : NsOk w a l) :
    Calls Tryz.prog 52 #[.slice a l.length c] w fun e w' => (∃ b, e = .returned (.map (some b)) ∧ SrcD w' b l) ∧ Below w.heap.size w w' := by
  have A := hid0 h
  have hfew := h.few
  have hT0 : SrcD (w.alloc (.map #[] 0)) w.heap.size [] := ⟨0, MapS.made _ _ w, Nat.le_refl _⟩
  have hB0 : Below w.heap.size w (w.alloc (.map #[] 0)) := (Below.refl _ _).alloc (Nat.le_refl _) _
  clear h
  obtain ⟨N, hN⟩ : ∃ N, l.length = N := ⟨_, rfl⟩
  rw [hN] at hfew ⊢
  have HN := hid0 hN
  clear hN
  have hmm := run_makeMapI Tryz.underlying94 .i64
  go_enter Tryz.func52, Tryz.ntmps52
  go_wp2
  go_loopw [13] (fun iv wr => ∃ i : Nat, i ≤ N ∧ iv = .int .i64 i ∧ SrcD wr w.heap.size (l.take i) ∧ Below w.heap.size w wr) (fun iv _ => N - (intOf iv).toNat)
  case atStart => exact ⟨0, Nat.zero_le _, rfl, hT0, hB0⟩
  case round =>
    obtain ⟨i, hi, rfl, hT, hB⟩ := hrel
    clear hT0 hB0
    have hsz := hB.size
    have hml := hT.lt
    by_cases hlt : i < N
    · have g1 : i < l.length := by rw [HN.out]; exact hlt
      obtain ⟨b1, o1, rfl, hb1, hR⟩ := (A.out.later hB).name i g1
      have hss := (A.out.ok _ (List.getElem_mem g1)).2
      have htk : l.take (i + 1) = l.take i ++ [l[i]] := List.take_succ_eq_append_getElem g1
      obtain ⟨x, hx⟩ : ∃ x, l[i] = x := ⟨_, rfl⟩
      rw [hx] at hR hss htk
      have q0 := rng hR 0 rfl
      have q1 := rng hR 1 rfl
      rw [Nat.add_zero] at q0
      have hba := (Below.refl wr.heap.size wr).alloc (Nat.le_refl _) (Obj.cells #[.string x.s, .slice x.a x.E.length x.c] 65)
      have hTA := hT.later hba
      have hlk := hTA.look true hss
      have HTK := hid0 htk
      have hBA := Below.alloc hB hsz (Obj.cells #[.string x.s, .slice x.a x.E.length x.c] 65)
      have hlt' : (i : Int) < (N : Int) := by omega
      unfold slcOf at hlk
      cases hf : findN (l.take i) x.s.data.toList with
      | some y =>
        rw [hf] at hlk
        unfold Nx.slc at hlk
        have HTN := hid0 (hTA.met hf)
        have HB := hid0 hBA
        clear hR htk hx hT hB hBA hf hTA hba
        go_wp2
        exact ⟨⟨i + 1, by omega, by go_num, by rw [HTK.out]; exact HTN.out, HB.out⟩, by simp [intOf]; omega⟩
      | none =>
        rw [hf] at hlk
        obtain ⟨w5, hput, hT5, hg5⟩ := hTA.put (by rw [List.length_take]; unfold maxLen; omega) hss hf
        unfold Nx.slc at hput
        have HT5 := hid0 hT5
        have HB := hid0 (hBA.grown hg5 hBA.size (fun k hk => by cases hk; exact Nat.le_refl _))
        clear hR htk hx hT hB hBA hf hTA hba hT5 hg5
        go_wp2
        exact ⟨⟨i + 1, by omega, by go_num, by rw [HTK.out]; exact HT5.out, HB.out⟩, by simp [intOf]; omega⟩
    · have hie : ¬ (i : Int) < (N : Int) := by omega
      have HT := hid0 (show SrcD wr w.heap.size l by have := hT; rwa [List.take_of_length_le (by rw [HN.out]; omega)] at this)
      clear hT
      go_wp2
      go_ret
      exact ⟨⟨_, rfl, HT.out⟩, hB⟩
end Go.Proofs.YtfdkajefcplfjaaGreat

/- The project's layer 14 (delta): the names that a plan reads, each once: plainly, and lists of texts of one's own. Conditions: each lemma names its own. -/
namespace Go.Proofs.YtfdkajefcplfjaaGreat
open Go.RowKit

/-- A text's bytes, and back. -/
def bl (s : ByteArray) : List UInt8 := s.data.toList
def bs (l : List UInt8) : ByteArray := ⟨l.toArray⟩
theorem bs_bl (s : ByteArray) : bs (bl s) = s := rfl
theorem bl_bs (l : List UInt8) : bl (bs l) = l := rfl
def strs (F : List ByteArray) : List Value := F.map Value.string
theorem strs_len (F : List ByteArray) : (strs F).length = F.length := by simp [strs]
theorem strs_app (F G : List ByteArray) : strs (F ++ G) = strs F ++ strs G := by simp [strs]
theorem strs_enc (F : List ByteArray) : strs F = (F.map bl).map Go.Proofs.encStr := by
  unfold strs
  rw [List.map_map]
  rfl
theorem enc_strs (l : List (List UInt8)) : l.map Go.Proofs.encStr = strs (l.map bs) := by
  unfold strs
  rw [List.map_map]
  rfl
/-- Texts rising, each once. -/
def riseB (F : List ByteArray) : List ByteArray := (Lib.compact ((F.map bl).mergeSort fun x y => decide (x ≤ y))).map bs
theorem compactB_len (zs : List (List UInt8)) : (Lib.compact zs).length ≤ zs.length := by
  unfold Lib.compact Lib.compactUpTo
  rw [List.length_map]
  exact Nat.le_trans (List.length_filter_le _ _) (by simp)
theorem compactB_at (zs : List (List UInt8)) (x : List UInt8) : x ∈ Lib.compact zs ↔ ∃ i, ∃ h : i < zs.length, zs[i] = x ∧ (i = 0 ∨ ∃ h' : i - 1 < zs.length, zs[i - 1] ≠ zs[i]) := by
  unfold Lib.compact Lib.compactUpTo
  simp only [List.mem_map, List.mem_filter, List.mem_range]
  constructor
  · rintro ⟨i, ⟨hi, hk⟩, rfl⟩
    refine ⟨i, hi, by simp [hi], ?_⟩
    rcases Nat.eq_zero_or_pos i with h0 | h0
    · exact .inl h0
    · refine .inr ⟨by omega, fun e => ?_⟩
      simp [Lib.keeps, show i ≠ 0 by omega, hi, show i - 1 < zs.length by omega] at hk
      exact hk e.symm
  · rintro ⟨i, hi, rfl, hk⟩
    refine ⟨i, ⟨hi, ?_⟩, by simp [hi]⟩
    rcases Nat.eq_zero_or_pos i with h0 | h0
    · simp [Lib.keeps, h0]
    · rcases hk with h | ⟨h1, h2⟩
      · omega
      · simp [Lib.keeps, show i ≠ 0 by omega, hi, show i - 1 < zs.length by omega]
        exact fun e => h2 e.symm
theorem mem_compactB (zs : List (List UInt8)) (x : List UInt8) : x ∈ Lib.compact zs ↔ x ∈ zs := by
  rw [compactB_at]
  constructor
  · rintro ⟨i, hi, rfl, _⟩; exact List.getElem_mem hi
  · intro hx
    obtain ⟨i, hi, rfl⟩ := List.mem_iff_getElem.1 hx
    clear hx
    induction i with
    | zero => exact ⟨0, hi, rfl, .inl rfl⟩
    | succ i ih =>
      by_cases h : zs[i] = zs[i + 1]
      · rw [← h]; exact ih (by omega)
      · exact ⟨i + 1, hi, rfl, .inr ⟨by omega, h⟩⟩
theorem mem_riseB (F : List ByteArray) (x : ByteArray) : x ∈ riseB F ↔ x ∈ F := by
  unfold riseB
  rw [List.mem_map]
  constructor
  · rintro ⟨y, hy, rfl⟩
    rw [mem_compactB, List.mem_mergeSort, List.mem_map] at hy
    obtain ⟨z, hz, rfl⟩ := hy
    exact hz
  · intro hx
    exact ⟨bl x, by rw [mem_compactB, List.mem_mergeSort, List.mem_map]; exact ⟨x, hx, rfl⟩, rfl⟩
theorem riseB_len (F : List ByteArray) : (riseB F).length ≤ F.length := by
  have := compactB_len ((F.map bl).mergeSort fun x y => decide (x ≤ y))
  rw [List.length_mergeSort, List.length_map] at this
  unfold riseB
  rw [List.length_map]
  exact this
/-- A list of texts of one's own. -/
structure SRow (w0 w : World) (v : Value) (F : List ByteArray) : Prop where
  own : w.ownsRow w0.heap.size 9 1 v F.length (strs F)
  b : Below w0.heap.size w0 w
theorem SRow.lo {w0 w : World} {v : Value} {F : List ByteArray} (h : SRow w0 w v F) : ∀ k, v.ownBlock = some k → w0.heap.size ≤ k := fun k hk => (h.own.lt k hk).1
theorem SRow.nil {w0 w : World} (h : Below w0.heap.size w0 w) : SRow w0 w (.slice none 0 0) [] := ⟨World.ownsRow_nil _ _ _ _, h⟩
theorem SRow.alloc {w0 w : World} {v : Value} {F : List ByteArray} (h : SRow w0 w v F) (o : Obj) : SRow w0 (w.alloc o) v F := ⟨h.own.alloc o, h.b.alloc h.b.size o⟩
theorem SRow.below {w0 w w' : World} {v : Value} {F : List ByteArray} (h : SRow w0 w v F) (hb : Below w.heap.size w w') : SRow w0 w' v F := ⟨own_belowY h.own hb, below_through hb h.b.size h.b⟩
theorem strs_owned {B n : Nat} {ty : TypeId} {w : World} {v : Value} {F : List ByteArray} (h : w.ownsRow B ty 1 v n (strs F)) (hn : F.length = n) (hs : ∀ s ∈ F, s.size ≤ maxLen) : ∃ a c, v = .slice a n c ∧ n ≤ c ∧ StrsA w a F := by
  rcases h.2 with ⟨rfl, e⟩ | ⟨g, cap, cur, rfl, _, _, h1, _⟩
  · subst e
    obtain rfl : F = [] := List.length_eq_zero_iff.1 hn
    exact ⟨none, 0, rfl, Nat.le_refl _, ⟨fun h => absurd rfl h, hs⟩⟩
  · refine ⟨some ⟨g, 0, none⟩, cap, rfl, h1, ⟨fun _ => ⟨g, 0, rfl, fun i hi => ?_⟩, hs⟩⟩
    have := h.cellAt i (by omega)
    rw [Nat.zero_add, this]
    simp [strs, hi]
theorem infoStrD : (Tryz.prog.info? 9).map (fun i => (i.zero, i.size, i.bytes)) = some (some (.string ⟨#[]⟩), 1, 16) := by kernel_rfl
theorem append_nilD {P : Program} (w : World) (t ty e : TypeId) (i : TypeInfo) (ht : P.underlying t = some (.slice e)) (hi : P.info? e = some i) (b : Option Addr) (n c c' : Nat) (hn : n ≤ c) :
    (Builtin.append_ #[t, t] ty #[.slice b n c, .slice none 0 c']).run P w = .ok (.slice b n c) w := by
  cases b <;> simp [Builtin.append_, run_underlying ht, sizeOf, typeInfo, hi, Builtin.lenOf, Builtin.firstCells, storeCells, hn]
theorem own_shapeD {w : World} {base n k : Nat} {e : TypeId} {v : Value} {xs : List Value} (h : w.ownsRow base e k v n xs) : ∃ a c, v = .slice a n c ∧ n ≤ c := by
  rcases h.2 with ⟨rfl, rfl⟩ | ⟨g, cap, cur, rfl, _, _, h1, _⟩
  · exact ⟨_, _, rfl, Nat.le_refl _⟩
  · exact ⟨_, _, rfl, h1⟩
/-- An append of texts to a list of one's own. -/
theorem app_strD {w : World} {o : Oper} {a : Act} {K : Act → World → Prop} {Q : Exit → Act → World → Prop} (s x : Operand)
    (ho : o.op = .call { callee := .builtin .append, args := #[s, x], argTypes := #[38, 38] })
    {v : Value} (hs : a.eval s = v) {w0 : World} {F : List ByteArray} (hown : SRow w0 w v F)
    (ad : Option Addr) (m c : Nat) (hx : a.eval x = .slice ad m c) (L : List ByteArray) (hm : L.length = m) (hnews : StrsA w ad L)
    (hlen : F.length + m ≤ 8000000)
    (h : ∀ v' w', SRow w0 w' v' (F ++ L) → K (a.put o.dst v') w') : Oper.wp Tryz.prog o a w K Q := by
  obtain ⟨i0, hi, hz0, hz1, hz2⟩ := info_parts infoStrD
  have h1 : ∀ u ∈ strs L, u.oneCell' = true := fun u hu => by
    obtain ⟨y, _, rfl⟩ := List.mem_map.1 hu; rfl
  have hlo : ∀ k, v.ownBlock = some k → w0.heap.size ≤ k := hown.lo
  have hnil : ad = none → L = [] := fun e => by
    by_cases hL : L = []
    · exact hL
    · obtain ⟨b, off, e2, _⟩ := hnews.out hL
      rw [e] at e2; cases e2
  cases ad with
  | some ad =>
    obtain ⟨v', w', hr, h2, h3, h4, h5⟩ := run_append_own_at (P := Tryz.prog) w w0.heap.size 38 o.type 9 i0 (.string ⟨#[]⟩) 1 16 Tryz.underlying38 hi hz0 hz1 hz2 rfl (by decide) v F.length (strs F) hown.own ad m c (strs L) (by rw [strs_len]; omega)
      (fun j u hj => by
        have hL : L ≠ [] := fun e => by rw [e] at hj; simp [strs] at hj
        obtain ⟨b, off, e, hc⟩ := hnews.out hL
        cases e
        rw [WideShapes.add_plain]
        have hj' : j < L.length := by rw [← strs_len]; exact (List.getElem?_eq_some_iff.1 hj).1
        rw [hc j hj']
        simp [strs, hj'] at hj ⊢
        exact hj) h1 (by unfold maxLen; omega) (by omega) hown.b.size
    unfold Oper.wp execOp
    simp only [ho, resolve, invoke, builtin, Sem.run_bind, Sem.run_pure, Result.andThen_ok, List.map_toArray, List.map_cons, List.map_nil, hs, hx, hr]
    exact h v' w' ⟨by rw [List.length_append, hm, strs_app]; exact h2, hown.b.grown h3 hown.b.size hlo⟩
  | none =>
    have hN := hnil rfl
    subst hN
    obtain rfl : m = 0 := by simpa using hm.symm
    obtain ⟨b, c', hv, hc'⟩ := own_shapeD hown.own
    have hr := append_nilD (P := Tryz.prog) w 38 o.type 9 i0 Tryz.underlying38 hi b F.length c' c hc'
    rw [← hv] at hr
    unfold Oper.wp execOp
    simp only [ho, resolve, invoke, builtin, Sem.run_bind, Sem.run_pure, Result.andThen_ok, List.map_toArray, List.map_cons, List.map_nil, hs, hx, hr]
    exact h v w (by simpa using hown)
end Go.Proofs.YtfdkajefcplfjaaGreat

/- The project's layer 14 (delta): the names that a plan reads, each once: the contract of the call, in whatever memory. Conditions: the plan's cells are known, it reads not too many names. -/
namespace Go.Proofs.YtfdkajefcplfjaaGreat
open Go.RowKit

open Go.Sort
def sortB (F : List ByteArray) : List ByteArray := ((F.map bl).mergeSort fun x y => decide (x ≤ y)).map bs
theorem sortB_len (F : List ByteArray) : (sortB F).length = F.length := by simp [sortB]
theorem sortB_bl (F : List ByteArray) : (sortB F).map bl = (F.map bl).mergeSort fun x y => decide (x ≤ y) := by
  unfold sortB
  rw [List.map_map]
  exact List.map_id _
theorem mem_sortB {F : List ByteArray} {s : ByteArray} (h : s ∈ sortB F) : s ∈ F := by
  unfold sortB at h
  rw [List.mem_map] at h
  obtain ⟨y, hy, rfl⟩ := h
  rw [List.mem_mergeSort, List.mem_map] at hy
  obtain ⟨z, hz, rfl⟩ := hy
  exact hz
theorem sortB_any {w0 w : World} {v : Value} {F : List ByteArray} (hF : SRow w0 w v F) (hs : F.length ≤ 8000000) :
    Calls Tryz.prog 90 #[v] w fun e w' => e = .returned (.tuple #[]) ∧ SRow w0 w' v (sortB F) := by
  rcases hF.own.2 with ⟨rfl, hn⟩ | ⟨g, cap, cur, rfl, hg, hh, hnc, hcm, hsz, htake⟩
  · obtain rfl : F = [] := List.length_eq_zero_iff.1 hn
    refine (Tryz.slices_Sort_string_none none 0 w).mono ?_
    rintro e w1 ⟨rfl, rfl⟩
    exact ⟨rfl, by simpa [sortB] using hF⟩
  · have hgs := (hF.own.lt g rfl).2
    have htk : cur.toList.take (F.map bl).length = (F.map bl).map encStr := by rw [List.length_map, ← strs_enc]; simpa using htake
    have hH := holds_of_block hh htk
    have C1 := Tryz.slices_Sort_string g 0 cap (F.map bl) w hH hgs (by rw [List.length_map]; omega)
    rw [List.length_map] at C1
    refine C1.mono ?_
    rintro e w' ⟨rfl, n, os, rfl⟩
    refine ⟨rfl, ?_, hF.b.grown (grownBy_sorted _) hF.b.size (fun k hk => by cases hk; exact hg)⟩
    have := ownsRow_sorted (n := n) (os := os) (ts := (F.map bl).mergeSort fun x y => decide (x ≤ y)) (ss := F.map bl) (by simp) hg hh (by rw [List.length_map]; exact hnc) hcm (by simpa using hsz)
    rw [List.length_map, enc_strs] at this
    rw [sortB_len]
    exact this
theorem compactB_any {w0 w : World} {v : Value} {F : List ByteArray} (hF : SRow w0 w v F) (hs : F.length ≤ 8000000) (hz : ∀ s ∈ F, s.size ≤ maxLen) :
    Calls Tryz.prog 91 #[v] w fun e w' => (∃ a c, e = .returned (.slice a (Lib.compact (F.map bl)).length c) ∧ StrsA w' a ((Lib.compact (F.map bl)).map bs)) ∧ Below w0.heap.size w0 w' := by
  have hzm : ∀ s ∈ (Lib.compact (F.map bl)).map bs, s.size ≤ maxLen := fun s h => by
    obtain ⟨y, hy, rfl⟩ := List.mem_map.1 h
    rw [mem_compactB] at hy
    obtain ⟨z, hz', rfl⟩ := List.mem_map.1 hy
    exact hz _ hz'
  rcases hF.own.2 with ⟨rfl, hn⟩ | ⟨g, cap, cur, rfl, hg, hh, hnc, hcm, hsz, htake⟩
  · obtain rfl : F = [] := List.length_eq_zero_iff.1 hn
    refine (Tryz.slices_Compact_string_empty none 0 w).mono ?_
    rintro e w1 ⟨rfl, rfl⟩
    exact ⟨⟨none, 0, rfl, ⟨fun h => absurd rfl h, hzm⟩⟩, hF.b⟩
  · have htk : cur.toList.take (F.map bl).length = (F.map bl).map encStr := by rw [List.length_map, ← strs_enc]; simpa using htake
    have hH := holds_of_block hh htk
    have hlz : (F.map bl).length = F.length := List.length_map ..
    generalize F.map bl = zs at hH hlz hzm ⊢
    have hcl := compactB_len zs
    have C2 := Tryz.slices_Compact_string g 0 cap zs w hH (by omega) (by omega)
    rw [hlz] at C2
    refine C2.mono ?_
    rintro e w' ⟨rfl, q, hw⟩
    have hgrow0 : ∀ W : World, grow W #[] = W := fun W => by simp [grow]
    have hw' : w' = grow (putRow encStr (Sort.ahead w q) g 0 (Lib.compact zs ++ List.replicate (zs.length - (Lib.compact zs).length) []).toArray) #[] := by rw [hgrow0, hlz]; exact hw
    clear hw
    have hl2 : (Lib.compact zs ++ List.replicate (zs.length - (Lib.compact zs).length) []).length = zs.length := by simp; omega
    have O2 := ownsRow_sorted (n := q) (os := #[]) hl2 hg hh (by omega) hcm (by simpa using hsz)
    rw [← hw', enc_strs, List.map_append] at O2
    obtain ⟨a, c, ev, _, hS⟩ := strs_owned O2 (by rw [← List.map_append, List.length_map, hl2]) (fun s h => by
      rcases List.mem_append.1 h with h | h
      · exact hzm s h
      · obtain ⟨y, hy, rfl⟩ := List.mem_map.1 h
        rw [List.eq_of_mem_replicate hy]
        exact Nat.zero_le _)
    obtain rfl : a = some ⟨g, 0, none⟩ := (Value.slice.inj ev).1.symm
    refine ⟨⟨some ⟨g, 0, none⟩, cap, rfl, ⟨fun hne => ?_, hzm⟩⟩, ?_⟩
    · obtain ⟨b, o, e, hc⟩ := hS.out (fun e => hne (List.append_eq_nil_iff.1 e).1)
      refine ⟨b, o, e, fun i hi => ?_⟩
      rw [hc i (by rw [List.length_append]; omega), List.getElem_append_left hi]
    · rw [hw']
      exact hF.b.grown (grownBy_sorted _) hF.b.size (fun k hk => by cases hk; exact hg)
end Go.Proofs.YtfdkajefcplfjaaGreat

/- The project's layer 14 (delta): names: the walk. Conditions: see D5. -/
namespace Go.Proofs.YtfdkajefcplfjaaGreat
open Go.RowKit

theorem app_strL {w : World} {ops : Array Oper} {rest : List Oper} {o : Oper} {a : Act} {Q : Exit → Act → World → Prop} (hgd : o.guard = none) (s x : Operand)
    (ho : o.op = .call { callee := .builtin .append, args := #[s, x], argTypes := #[38, 38] })
    {v : Value} (hs : a.eval s = v) {w0 : World} {F : List ByteArray} (hown : SRow w0 w v F)
    (ad : Option Addr) (m c : Nat) (hx : a.eval x = .slice ad m c) (L : List ByteArray) (hm : L.length = m) (hnews : StrsA w ad L)
    (hlen : F.length + m ≤ 8000000)
    (h : ∀ v' w', SRow w0 w' v' (F ++ L) → wpList Tryz.prog ops Q rest (a.put o.dst v') w') : wpList Tryz.prog ops Q (o :: rest) a w :=
  wpList_plain hgd fun _ hK => app_strD s x ho hs hown ad m c hx L hm hnews hlen fun v' w' h1 => hK _ _ (h v' w' h1)
def namesF (ps : List Px) : List ByteArray := ps.flatMap Px.fs
theorem namesF_take {ps : List Px} {i : Nat} (h : i < ps.length) : namesF (ps.take (i + 1)) = namesF (ps.take i) ++ ps[i].fs := by
  unfold namesF
  rw [List.take_succ_eq_append_getElem h, List.flatMap_append]
  simp
theorem namesF_le {ps : List Px} {i : Nat} : (namesF (ps.take i)).length ≤ (namesF ps).length := by
  unfold namesF
  conv => rhs; rw [← List.take_append_drop i ps, List.flatMap_append, List.length_append]
  omega
theorem namesF_small {w : World} {n : Nat} {a : Option Addr} {c : Nat} {ps : List Px} (h : PsOk w n a c ps) : ∀ s ∈ namesF ps, s.size ≤ maxLen := fun s hs => by
  obtain ⟨p, hp, hs⟩ := List.mem_flatMap.1 hs
  exact (h.ok p hp).fs.small s hs
set_option maxRecDepth 100000 in
set_option maxHeartbeats 4000000 in
theorem dNames_any {n : Nat} (a : Option Addr) (c : Nat) (ps : List Px) (w : World) (hp : PsOk w n a c ps) (hN : (namesF ps).length ≤ 4000000) :
    Calls Tryz.prog 54 #[planV a ps.length c] w fun e w' => (∃ a c, e = .returned (.slice a (riseB (namesF ps)).length c) ∧ StrsA w' a (riseB (namesF ps))) ∧ Below w.heap.size w w' := by
  have hfew := hp.few
  have HP := hid0 hp
  have hsm := hid0 (namesF_small hp)
  have hS0 : SRow w (w.alloc (.cells #[.slice a ps.length c] 24)) (.slice none 0 0) [] := SRow.nil ((Below.refl _ _).alloc (Nat.le_refl _) _)
  have hnx : riseB (namesF ps) = (Lib.compact ((sortB (namesF ps)).map bl)).map bs := by rw [sortB_bl]; rfl
  have hnx := hid0 hnx
  clear hp
  unfold planV
  go_enter Tryz.func54, Tryz.ntmps54
  go_wp2
  go_loopw [3, 9] (fun lv iv wr => ∃ i : Nat, i ≤ ps.length ∧ iv = .int .i64 i ∧ SRow w wr lv (namesF (ps.take i))) (fun _ iv _ => ps.length - (intOf iv).toNat)
  case atStart => exact ⟨0, Nat.zero_le _, rfl, hS0⟩
  case round =>
    obtain ⟨i, hi, rfl, hS⟩ := hrel
    clear hS0
    have hB := hS.b
    have hsz := hB.size
    by_cases hlt : i < ps.length
    · obtain ⟨b1, o1, rfl, hb1, hR⟩ := (HP.out.later hB).part i hlt
      have hok := HP.out.ok _ (List.getElem_mem hlt)
      have hst := namesF_take hlt
      have hle := namesF_le (ps := ps) (i := i + 1)
      have hfs : ∀ W, Below w.heap.size w W → StrsA W ps[i].fp ps[i].fs := fun W hW => hok.fs.later hW
      generalize ps[i] = p at hR hfs hst
      generalize namesF (ps.take i) = F at hst hS ⊢
      have hlen : F.length + p.fs.length ≤ 4000000 := by rw [hst, List.length_append] at hle; omega
      have HST := hid0 hst
      have V0 : VarB (wr.alloc (Obj.cells #[.bool false, .slice none 0 0, .slice none 0 0, .int .i64 0, .int .i64 0, .int .i64 0, .int .i64 0, .int .i64 0, .int .i64 0, .string ⟨#[]⟩, .slice none 0 0, .int .i64 0, .int .i64 0, .int .i64 0, .int .i64 0, .string ⟨#[]⟩, .slice none 0 0, .slice none 0 0, .slice none 0 0, .slice none 0 0] 50)) wr.heap.size zPx := VarB.new wr zPx 50
      have hl := p.cells_len
      have h1' := p.one
      have hf1 : p.cells[1]? = some (.slice p.fp p.fs.length p.fc) := rfl
      have hSA := hS.alloc (Obj.cells #[.bool false, .slice none 0 0, .slice none 0 0, .int .i64 0, .int .i64 0, .int .i64 0, .int .i64 0, .int .i64 0, .int .i64 0, .string ⟨#[]⟩, .slice none 0 0, .int .i64 0, .int .i64 0, .int .i64 0, .int .i64 0, .string ⟨#[]⟩, .slice none 0 0, .slice none 0 0, .slice none 0 0, .slice none 0 0] 50)
      have hSm : ∀ W, Below wr.heap.size wr W → Below w.heap.size w W := fun W hW => below_through hW hsz hB
      have HSm := hid0 hSm
      have HS := hid0 hS
      have HF := hid0 hfs
      clear hst hB hok hS hle hSA hSm hfs
      generalize p.cells = us at hR hl h1' hf1
      go_wp2_with (first | ((with_reducible refine wp_getB hR Tryz.underlying50 ?_ ?_ ?_ ?_); (rfl); (rw [hl]; exact sizePx); (rfl); simp only [Act.put]) | ((with_reducible refine wp_putB V0 h1' ?_ ?_ ?_ ?_ ?_); (exact hl); (exact sizePx); (rfl); (rfl); intro w5 hV5 hw5; (have hb5 : Below wr.heap.size wr w5 := by rw [hw5.out]; exact below_setCells _ 0 ((Below.refl _ _).alloc (Nat.le_refl _) _) (Nat.le_refl _)); (have c5 := hV5.cell 1 hf1); clear hw5 V0; simp only [Act.put]) | (at_builtin; refine app_strL rfl _ _ rfl rfl (HS.out.below hb5) p.fp p.fs.length p.fc rfl p.fs rfl (HF.out _ (HSm.out _ hb5)) (by omega) ?_; intro v6 w6 hS6; (have HS6 := hid0 hS6); clear hS6) | fail)
      exact ⟨⟨i + 1, by omega, by go_num, by rw [HST.out]; exact HS6.out⟩, by simp [intOf]; omega⟩
    · have hie : ¬ (i : Int) < ps.length := by omega
      rw [List.take_of_length_le (by omega)] at hS
      go_wp2_with fail
      go_at_call 90
      refine (sortB_any hS (by omega)).mono ?_
      rintro e w2 ⟨rfl, hS2⟩
      go_wp2_with fail
      go_at_call 91
      refine (compactB_any hS2 (by rw [sortB_len]; omega) (fun s hs => hsm.out s (mem_sortB hs))).mono ?_
      rintro e w3 ⟨⟨a2, c2, rfl, hA⟩, hB3⟩
      have HA := hid0 hA
      clear hA
      go_wp2_with fail
      go_ret
      refine ⟨⟨a2, c2, ?_, ?_⟩, hB3⟩
      · rw [hnx.out, List.length_map]
        rfl
      · rw [hnx.out]; exact HA.out
end Go.Proofs.YtfdkajefcplfjaaGreat
