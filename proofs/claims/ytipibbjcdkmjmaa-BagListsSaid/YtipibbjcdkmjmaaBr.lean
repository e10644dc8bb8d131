/- The project's bag.Count, Right and Plain: contracts of the calls, in whatever memory. Conditions: the bag's cells are known; its numbers are so small that no sum passes the ends. -/
import Derived.Test.YtipibbjcdkmjmaaBq
import Derived.BigQuiet
namespace Go.Proofs.Ytipibbjcdkmjmaa
open Go.RowKit

theorem countB_append : ∀ A B : List Pair, countB (A ++ B) = countB A + countB B
  | [], B => by simp [countB]
  | x :: A, B => by rw [List.cons_append, countB, countB_append A B, countB]; omega
theorem countB_pos : ∀ A : List Pair, 0 ≤ countB A
  | [] => Int.le_refl _
  | x :: A => by have := countB_pos A; rw [countB]; split <;> omega
theorem countB_abs : ∀ A : List Pair, countB A ≤ absS A
  | [] => Int.le_refl _
  | x :: A => by have := countB_abs A; rw [countB, absS]; split <;> split <;> omega
theorem countB_step {E : List Elem} {i : Nat} (h : i < E.length) : countB ((E.map pr).take (i + 1)) = countB ((E.map pr).take i) + (if 0 < E[i].n then E[i].n else 0) := by
  rw [List.take_succ_eq_append_getElem (by simpa using h), countB_append]
  simp [countB, pr]
theorem countB_few {E : List Elem} (i : Nat) : countB ((E.map pr).take i) ≤ absS (E.map pr) := by
  have h1 := countB_abs ((E.map pr).take i)
  have h2 := absS_take (E.map pr) i
  have h3 := absS_nonneg ((E.map pr).drop i)
  omega
theorem countB_all {E : List Elem} {i : Nat} (h : ¬ i < E.length) : countB ((E.map pr).take i) = countB (E.map pr) := by rw [List.take_of_length_le (by simp; omega)]

set_option maxHeartbeats 2000000 in
theorem bagCount_any (a : Option Addr) (c : Nat) (E : List Elem) (w : World) (h : ElemsAt w a E) (hle : E.length ≤ 1000000) (hb : absS (E.map pr) ≤ 1000000) :
    Calls Try.prog 11 #[.slice a E.length c] w fun e w' => e = .returned (.int .i64 (countB (E.map pr))) ∧ Below w.heap.size w w' := by
  have A := hid0 h
  have HB := hid0 hb
  clear h hb
  go_enter Try.func11, Try.ntmps11
  go_wp2
  go_loopw [3, 8] (fun nv iv wr => ∃ (i : Nat) (n : Int), i ≤ E.length ∧ iv = .int .i64 i ∧ nv = .int .i64 n ∧ Hid (n = countB ((E.map pr).take i)) ∧ Below w.heap.size w wr) (fun _ iv _ => E.length - (intOf iv).toNat)
  case atStart => exact ⟨0, 0, Nat.zero_le _, rfl, rfl, hid0 (by simp [countB]), Below.refl _ _⟩
  case round =>
    obtain ⟨i, n, hi, rfl, rfl, hn, hB⟩ := hrel
    have hsz := hB.size
    by_cases hlt : i < E.length
    · obtain ⟨b1, o1, rfl, hc1⟩ := (A.out.1.later hB) (by intro e; rw [e] at hlt; exact absurd hlt (by simp))
      obtain ⟨q0, q1⟩ := hc1 i hlt
      clear hc1
      have hst := countB_step hlt
      have hfw := countB_few (E := E) (i + 1)
      have hp0 := countB_pos ((E.map pr).take i)
      rw [← hn.out] at hst hp0
      have hbb := HB.out
      rw [show (if 0 < E[i].n then E[i].n else 0) = max E[i].n 0 by omega] at hst
      have HST := hid0 hst
      rw [hst] at hfw
      clear hst
      have hw0 : IntKind.i64.wrap (n + max E[i].n 0) = n + max E[i].n 0 := IntWalk.i64_in _ (by omega)
      have hBA := Below.alloc hB hsz (Obj.cells #[.slice E[i].a E[i].r.length E[i].c, .int .i64 E[i].n] 36)
      clear hfw hbb
      go_wp2
      exact ⟨⟨i + 1, n + max E[i].n 0, by omega, by go_num, rfl, hid0 HST.out.symm, hBA⟩, by simp [intOf]; omega⟩
    · have hie : ¬ (i : Int) < E.length := by omega
      go_wp2
      go_ret
      exact ⟨ret_i64 (by rw [hn.out, countB_all hlt]), hB⟩

theorem rises_at : ∀ {B : List Pair}, Rises B → ∀ i (h : i + 1 < B.length), rowsV (B[i]).1 (B[i + 1]).1 < 0
  | x :: B, hB, 0, h => hB.2.1 _ (List.getElem_mem _)
  | x :: B, hB, i + 1, h => by
    have := rises_at hB.2.2 i (by simpa using h)
    simpa using this
theorem rises_not0 : ∀ {B : List Pair}, Rises B → ∀ x ∈ B, x.2 ≠ 0
  | y :: B, hB, x, h => by
    rcases List.mem_cons.1 h with rfl | h
    · exact hB.1
    · exact rises_not0 hB.2.2 x h
theorem rises_elems {E : List Elem} (h : Rises (E.map pr)) (i : Nat) (h1 : i + 1 < E.length) : rowsV (E[i]).r (E[i + 1]).r < 0 := by
  have := rises_at h i (by simpa using h1)
  simpa [pr] using this

set_option maxHeartbeats 4000000 in
theorem bagRight_any (a : Option Addr) (c : Nat) (E : List Elem) (w : World) (h : ElemsAt w a E) (hle : E.length ≤ 1000000) (hr : Rises (E.map pr)) (hp : ∀ e ∈ E, -1000000 ≤ e.n ∧ e.n ≤ 1000000) :
    Calls Try.prog 15 #[.slice a E.length c] w fun e w' => e = .returned (.bool true) ∧ Below w.heap.size w w' := by
  have A := hid0 h
  have HP := hid0 hp
  have HR := hid0 hr
  clear h hr hp
  go_enter Try.func15, Try.ntmps15
  go_wp2
  go_loopw [7] (fun iv wr => ∃ i : Nat, i ≤ E.length ∧ iv = .int .i64 i ∧ Below w.heap.size w wr) (fun iv _ => E.length - (intOf iv).toNat)
  case atStart => exact ⟨0, Nat.zero_le _, rfl, Below.refl _ _⟩
  case round =>
    obtain ⟨i, hi, rfl, hB⟩ := hrel
    have hsz := hB.size
    by_cases hlt : i < E.length
    · obtain ⟨b1, o1, rfl, hc1⟩ := (A.out.1.later hB) (by intro e; rw [e] at hlt; exact absurd hlt (by simp))
      have hcc := hc1
      obtain ⟨q0, q1⟩ := hc1 i hlt
      clear hc1
      have hn0 : E[i].n ≠ 0 := rises_not0 HR.out (pr E[i]) (List.mem_map_of_mem (List.getElem_mem hlt))
      obtain ⟨hn1, hn2⟩ := HP.out _ (List.getElem_mem hlt)
      have n1 : ¬ E[i].n < -1099511627776 := by omega
      have n2 : ¬ 1099511627776 < E[i].n := by omega
      have HCC := hid0 hcc
      clear hcc
      go_wp2_with fail
      have hblk := BlkAt.new wr #[.slice E[i].a E[i].r.length E[i].c, .int .i64 E[i].n] 36
      have hBA := Below.alloc hB hsz (Obj.cells #[.slice E[i].a E[i].r.length E[i].c, .int .i64 E[i].n] 36)
      have hzA := hBA.size
      have HBA := hid0 hBA
      have hblt : b1 < wr.heap.size := World.block_lt_of_cell? _ _ q0
      have hlater : ∀ {p : Addr} {v : Value}, wr.cell? p = some v → (wr.alloc (Obj.cells #[.slice E[i].a E[i].r.length E[i].c, .int .i64 E[i].n] 36)).cell? p = some v := fun h => cell_later ((Below.refl _ _).alloc (Nat.le_refl _) _) h
      clear q0 q1 hB
      rcases Nat.eq_zero_or_pos i with h0 | hpos
      · have hg0 : ¬ (0 : Int) < (i : Int) := by omega
        clear hlater
        generalize wr.alloc (Obj.cells #[.slice E[i].a E[i].r.length E[i].c, .int .i64 E[i].n] 36) = W at hblk hBA HBA hzA ⊢
        go_quiet (fail)
        go_wp2
        exact ⟨⟨i + 1, by omega, by go_num, ⟨HBA.out.os, HBA.out.tape, HBA.out.output, HBA.out.size, HBA.out.block⟩⟩, by simp [intOf]; omega⟩
      · obtain ⟨j, hj⟩ : ∃ j, j + 1 = i := ⟨i - 1, by omega⟩
        have hjl : j < E.length := by omega
        obtain ⟨s0, s1⟩ := HCC.out j hjl
        have s0' := hlater s0
        have hg0 : (0 : Int) < (i : Int) := by omega
        have hwj : IntKind.i64.wrap ((i : Int) - 1) = (j : Int) := by rw [IntWalk.i64_in _ (by omega)]; omega
        have hj2 : (j : Int) < (E.length : Int) := by omega
        have hjn : (0 : Int) ≤ (j : Int) := by omega
        have r1 := A.out.2 _ (List.getElem_mem hjl)
        have r2 := A.out.2 _ (List.getElem_mem hlt)
        have hrise : rowsV E[j].r E[i].r < 0 := by
          have := rises_elems HR.out j (by omega)
          simpa only [hj] using this
        obtain ⟨cv, hcv⟩ : ∃ cv, rowsV E[j].r E[i].r = cv := ⟨_, rfl⟩
        have CR : ∀ W, Below w.heap.size w W → Calls Try.prog 24 #[.slice E[j].a E[j].r.length E[j].c, .slice E[i].a E[i].r.length E[i].c] W fun e w' => e = .returned (.int .i64 cv) ∧ Below W.heap.size W w' := fun W hb => by
          have h := rows_any E[j].a E[i].a E[j].c E[i].c E[j].r E[i].r W (r1.1.later hb) (r2.1.later hb) (by have := r1.2; unfold rowOK at this; unfold maxLen; omega)
          rwa [hcv] at h
        rw [hcv] at hrise
        have hcn : ¬ (0 : Int) ≤ cv := by omega
        obtain ⟨p0, p1⟩ := hblk.two
        clear r1 r2 hcv s0 s1 hlater HCC hj
        generalize wr.alloc (Obj.cells #[.slice E[i].a E[i].r.length E[i].c, .int .i64 E[i].n] 36) = W at hblk hBA HBA hzA s0' p0 p1 ⊢
        generalize wr.heap.size = B at hblk hsz hblt p0 p1 ⊢
        go_region_held3 (fun w' => w'.cell? ⟨b1, o1 + j * 2, none⟩ = some (.slice E[j].a E[j].r.length E[j].c) ∧ w'.cell? ⟨B, 0, none⟩ = some (.slice E[i].a E[i].r.length E[i].c) ∧ Below w.heap.size w w')
          ((go_split_ands; (try dsimp only); (repeat' apply And.intro); all_goals (first
            | assumption
            | exact cell_later hbn ‹_›
            | exact below_through hbn (Below.size ‹Below w.heap.size w _›) ‹_›
            | exact Below.drew hBA
            | go_keep)))
          (first
            | (go_at_call 24; (try go_split_ands); refine (CR _ (by assumption)).mono ?_; rintro e wn ⟨rfl, hbn⟩))
        have HH := ‹wn.cell? ⟨b1, o1 + j * 2, none⟩ = some (.slice E[j].a E[j].r.length E[j].c) ∧ _›
        have hBn := HH.2.2
        clear CR s0' p0 p1 hblk
        go_wp2
        exact ⟨⟨i + 1, by omega, by go_num, hBn⟩, by simp [intOf]; omega⟩
    · have hie : ¬ (i : Int) < E.length := by omega
      go_wp2
      go_ret
      exact ⟨rfl, hB⟩

/-! ### Plain: none is taken away -/
set_option maxHeartbeats 400000 in
theorem takesAway_any (a : Option Addr) (n c : Nat) (m : Int) (hm : 0 < m) (w : World) :
    Calls Try.prog 21 #[.agg #[.slice a n c, .int .i64 m]] w fun e w' => e = .returned (.bool false) ∧ Below w.heap.size w w' := by
  have h : ¬ m < 0 := by omega
  go_enter Try.func21, Try.ntmps21
  go_wp2
  go_ret
  exact ⟨rfl, by go_grown⟩
set_option maxHeartbeats 2000000 in
theorem indexFunc_none (a : Option Addr) (c : Nat) (E : List Elem) (w : World) (h : ElemsAt w a E) (hle : E.length ≤ 1000000) (hp : ∀ e ∈ E, 0 < e.n) :
    Calls Try.prog 27 #[.slice a E.length c, .func (.func 21) #[] #[]] w fun e w' => e = .returned (.int .i64 (-1)) ∧ Below w.heap.size w w' := by
  have A := hid0 h
  have HP := hid0 hp
  clear h hp
  go_enter Try.func27, Try.ntmps27
  go_wp2
  go_loopw [8] (fun iv wr => ∃ i : Nat, i ≤ E.length ∧ iv = .int .i64 i ∧ Below w.heap.size w wr) (fun iv _ => E.length - (intOf iv).toNat)
  case atStart => exact ⟨0, Nat.zero_le _, rfl, Below.refl _ _⟩
  case round =>
    obtain ⟨i, hi, rfl, hB⟩ := hrel
    have hsz := hB.size
    by_cases hlt : i < E.length
    · obtain ⟨b1, o1, rfl, hc1⟩ := (A.out.1.later hB) (by intro e; rw [e] at hlt; exact absurd hlt (by simp))
      obtain ⟨q0, q1⟩ := hc1 i hlt
      clear hc1
      have hpos := HP.out _ (List.getElem_mem hlt)
      go_wp2_with (go_at_call 21; refine (takesAway_any _ _ _ _ hpos _).mono ?_; rintro e wn ⟨rfl, hbn⟩)
      exact ⟨⟨i + 1, by omega, by go_num, below_through hbn hsz hB⟩, by simp [intOf]; omega⟩
    · have hie : ¬ (i : Int) < E.length := by omega
      go_wp2
      go_ret
      exact ⟨rfl, hB⟩
set_option maxHeartbeats 400000 in
theorem containsFunc_none (a : Option Addr) (c : Nat) (E : List Elem) (w : World) (h : ElemsAt w a E) (hle : E.length ≤ 1000000) (hp : ∀ e ∈ E, 0 < e.n) :
    Calls Try.prog 20 #[.slice a E.length c, .func (.func 21) #[] #[]] w fun e w' => e = .returned (.bool false) ∧ Below w.heap.size w w' := by
  have H := hid0 (indexFunc_none a c E w h hle hp)
  clear h hp
  go_enter Try.func20, Try.ntmps20
  go_wp2_with (go_at_call 27; refine H.out.mono ?_; rintro e w1 ⟨rfl, hb⟩)
  go_ret
  exact ⟨rfl, hb⟩
set_option maxHeartbeats 1000000 in
theorem bagPlain_any (a : Option Addr) (c : Nat) (E : List Elem) (w : World) (h : ElemsAt w a E) (hle : E.length ≤ 1000000) (hr : Rises (E.map pr)) (hp : ∀ e ∈ E, 0 < e.n ∧ e.n ≤ 1000000) :
    Calls Try.prog 12 #[.slice a E.length c] w fun e w' => e = .returned (.bool true) ∧ Below w.heap.size w w' := by
  have A := hid0 h
  have H := hid0 (bagRight_any a c E w h hle hr (fun e he => ⟨by have := hp e he; omega, (hp e he).2⟩))
  have HP := hid0 (fun e (he : e ∈ E) => (hp e he).1)
  clear h hr hp
  go_enter Try.func12, Try.ntmps12
  go_wp2_with (first
    | (go_at_call 15; refine H.out.mono ?_; rintro e w1 ⟨rfl, hb1⟩)
    | (go_at_call 20; refine (containsFunc_none a c E _ (A.out.later hb1) hle HP.out).mono ?_; rintro e w2 ⟨rfl, hb2⟩))
  go_ret
  exact ⟨rfl, hb1.trans (hb2.mono hb1.size)⟩
end Go.Proofs.Ytipibbjcdkmjmaa
