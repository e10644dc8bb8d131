/- The walk of the law HeapRoom: it returns true, and below the heap's end memory is as it was. Conditions: the pages' cells are known (what came in reads so). -/
import Derived.Test.YtnneeojgakjalaaHp
namespace Go.Proofs.Ytnneeojgakjalaa
open Go.RowKit

set_option maxHeartbeats 8000000 in
set_option maxRecDepth 1000000 in
theorem lawHeapRoom (a : Option Addr) (c : Nat) (E : List PgE) (d : List UInt8) (w : World) (h : HpAt w a c E) (hd : d.length ≤ 140737488351232) :
    Calls Try.prog 6 #[.agg #[.slice a E.length c], .string (txt d)] w fun e w' => e = .returned (.bool true) ∧ Below w.heap.size w w' := by
  have A := hid0 h
  have HD := hid0 hd
  have hlb : E.length ≤ 5864062014805 := by have := h.len; omega
  have hz : (txt d).size = d.length := txt_size d
  have v0 := VarAt.new w (.slice a E.length c) 24
  have hB0 : Below w.heap.size w (w.alloc (Obj.cells #[.slice a E.length c] 24)) := (Below.refl _ _).alloc (Nat.le_refl _) _
  have C1 := hpRight_any a c E _ (h.alloc (Obj.cells #[.slice a E.length c] 24))
  clear h hd
  obtain ⟨q0, f0⟩ := v0
  cases hr : rightH (hp E) with
  | false =>
    rw [hr] at C1
    clear hr
    go_enter Try.func6, Try.ntmps6
    go_wp2_with fail
    refine C1.mono ?_
    rintro e w1 ⟨rfl, hb⟩
    have hB1 := below_through hb hB0.size hB0
    go_wp2_with fail
    refine (awakeH_any _).mono ?_
    rintro e w2 ⟨rfl, hb2⟩
    go_wp2
    go_ret
    exact ⟨rfl, below_through hb2 hB1.size hB1⟩
  | true =>
    rw [hr] at C1
    have HR := hid0 hr
    clear hr
    by_cases hfull : 4096 ≤ E.length
    · have hfi : (4096 : Int) ≤ (E.length : Int) := by omega
      go_enter Try.func6, Try.ntmps6
      go_wp2_with fail
      refine C1.mono ?_
      rintro e w1 ⟨rfl, hb⟩
      have hB1 := below_through hb hB0.size hB0
      have q1 := cell_later hb q0
      go_wp2_with fail
      refine (awakeH_any _).mono ?_
      rintro e w2 ⟨rfl, hb2⟩
      go_wp2
      go_ret
      exact ⟨rfl, below_through hb2 hB1.size hB1⟩
    · have hfi : ¬ (4096 : Int) ≤ (E.length : Int) := by omega
      go_enter Try.func6, Try.ntmps6
      go_wp2_with fail
      refine C1.mono ?_
      rintro e w1 ⟨rfl, hb⟩
      have hB1 := below_through hb hB0.size hB0
      have V1 := (VarAt.mk q0 f0).later hb
      clear q0 f0 hb hB0 C1
      have C2 := hpPut_any a c E d 4096 w1 (A.out.later hB1) HD.out (by omega) (by omega)
      unfold HIdAns at C2
      obtain ⟨q1, f1⟩ := V1
      by_cases hl : d.length ≤ 1016
      · have hli : ¬ (1016 : Int) < (d.length : Int) := by omega
        have hcan : canH (hp E) d 4096 = true := by
          unfold canH
          rw [hp_len]
          simp only [Bool.or_eq_true, Bool.and_eq_true, decide_eq_true_eq]
          right; omega
        obtain ⟨e1, e2, e3, e4⟩ := putHE_done HR.out hl hcan
        rw [e1, e2, e3, e4] at C2
        obtain ⟨X, hX⟩ : ∃ X, fitH (d.length : Int) (hp E) = X := ⟨_, rfl⟩
        obtain ⟨Y, hY⟩ : ∃ Y, slotH (hp E) d = Y := ⟨_, rfl⟩
        rw [hX, hY] at C2
        have HX := hid0 hX
        have hXl : X ≤ E.length := by have := fitH_le (d.length : Int) (hp E); rw [hp_len] at this; omega
        clear e1 e2 e3 e4 hcan hX hY hl
        go_wp2_with fail
        refine C2.mono ?_
        rintro e w2 ⟨⟨a2, c2, E2, rfl, hA2, hh2, _⟩, hb2⟩
        have hE2 : E.length ≤ E2.length := by
          have h1 : (hp E2).length = (putHR (hp E) d).length := by rw [hh2]
          rw [hp_len] at h1
          have h2 : (hp E).length ≤ (putHR (hp E) d).length := by
            unfold putHR
            split
            · rw [List.length_set]; exact Nat.le_refl _
            · rw [List.length_append]; omega
          rw [hp_len] at h2
          omega
        have V2 := (VarAt.mk q1 f1).later hb2
        have hB2 := below_through hb2 hB1.size hB1
        clear q1 f1 hB1 hb2 C2 hh2 hA2
        obtain ⟨q2, f2⟩ := V2
        have hlt := World.block_lt_of_cell? _ _ q2
        have V3 := ((VarAt.mk q2 f2).alloc (Obj.cells #[.slice a2 E2.length c2] 24)).alloc (Obj.cells #[.int .i64 (X : Int), .int .i64 (Y : Int)] 26)
        have hB3 := (hB2.alloc hB2.size (Obj.cells #[.slice a2 E2.length c2] 24)).alloc (by have := hB2.size; simp; omega) (Obj.cells #[.int .i64 (X : Int), .int .i64 (Y : Int)] 26)
        have X3 := IdAt.new (w2.alloc (Obj.cells #[.slice a2 E2.length c2] 24)) (X : Int) (Y : Int) 26
        rw [World.size_alloc] at X3
        have t1 : decide ((X : Int) < 0) = false := by simp
        have t2 : decide (E.length < X) = false := by simp; omega
        have t3 : decide (E2.length < E.length) = false := by simp; omega
        have HZ := hid0 hB2.size
        go_wp2_with fail
        clear t1 t3 q2 f2 hE2 hB2
        generalize (w2.alloc (Obj.cells #[.slice a2 E2.length c2] 24)).alloc (Obj.cells #[.int .i64 (X : Int), .int .i64 (Y : Int)] 26) = W3 at V3 hB3 X3 ⊢
        obtain ⟨i0, i1, _⟩ := X3
        obtain ⟨q3, _⟩ := V3
        obtain ⟨N, hN⟩ : ∃ N, w2.heap.size + 1 = N := ⟨_, rfl⟩
        rw [hN] at i0 i1 ⊢
        clear hN
        go_loopw [8] (fun iv wr => ∃ i : Nat, i ≤ X ∧ iv = .int .i64 i ∧ wr.cell? ⟨w.heap.size, 0, none⟩ = some (.slice a E.length c) ∧ wr.cell? ⟨N, 0, none⟩ = some (.int .i64 (X : Int)) ∧ Below w.heap.size w wr) (fun iv _ => X - (intOf iv).toNat)
        case atStart => exact ⟨0, Nat.zero_le _, rfl, q3, i0, hB3⟩
        case round =>
          clear q3 i0 i1 hB3
          obtain ⟨i, hi, rfl, q3, i0, hB3⟩ := hrel
          have hsz := hB3.size
          by_cases hlt : i < X
          · have hiE : i < E.length := by omega
            have hP := (A.out.later hB3).pages _ (List.getElem_mem hiE)
            have C4 := refFits_any E[i].a E[i].c E[i].p (d.length : Int) wr hP.out (by have := hP.len; unfold maxLen; omega) hP.small
            have hno : fitsB E[i].p (d.length : Int) = false := by
              have h1 := fitH_not (d.length : Int) (hp E) i (by rw [hp_len]; exact hiE) (by have := HX.out; omega)
              rwa [hp_at hiE] at h1
            rw [hno] at C4
            obtain ⟨b, o, rfl, hcs⟩ := (A.out.later hB3).cells (by intro e; rw [e] at hiE; exact absurd hiE (by simp))
            have p3 := hcs i hiE
            have hii : (i : Int) < (E.length : Int) := by omega
            clear hcs hno hP
            go_wp2_with fail
            refine C4.mono ?_
            rintro e w5 ⟨rfl, hb5⟩
            have q5 := cell_later hb5 q3
            have i5 := cell_later hb5 i0
            have hB5 := below_through hb5 hsz hB3
            clear q3 i0 hB3 hb5 C4 p3
            go_wp2
            exact ⟨⟨i + 1, by omega, by go_num, q5, i5, hB5⟩, by simp [intOf]; omega⟩
          · obtain rfl : i = X := by omega
            have hie : ¬ (i : Int) < (i : Int) := by omega
            clear hlt
            go_wp2_with fail
            refine (awakeH_any _).mono ?_
            rintro e w4 ⟨rfl, hb4⟩
            have q4 := cell_later hb4 q3
            have i4 := cell_later hb4 i0
            have hB4 := below_through hb4 hsz hB3
            clear q3 i0 hB3 hb4 hsz
            by_cases he : i = E.length
            · obtain rfl : i = E.length := he
              go_wp2
              go_ret
              exact ⟨rfl, hB4⟩
            · have hiE : i < E.length := by omega
              have hP := (A.out.later hB4).pages _ (List.getElem_mem hiE)
              have C4 := refFits_any E[i].a E[i].c E[i].p (d.length : Int) w4 hP.out (by have := hP.len; unfold maxLen; omega) hP.small
              have hyes : fitsB E[i].p (d.length : Int) = true := by
                have hx := HX.out
                have h1 := fitH_fits (d.length : Int) (hp E) (by rw [hp_len, hx]; exact hiE)
                have h2 : (hp E)[fitH (d.length : Int) (hp E)]'(by rw [hp_len, hx]; exact hiE) = E[i].p := by
                  simp only [hx]; exact hp_at hiE
                rwa [h2] at h1
              rw [hyes] at C4
              obtain ⟨b, o, rfl, hcs⟩ := (A.out.later hB4).cells (by intro e; rw [e] at hiE; exact absurd hiE (by simp))
              have p4 := hcs i hiE
              have hii : (i : Int) < (E.length : Int) := by omega
              have hne : ((i : Int) == (E.length : Int)) = false := by simp; omega
              clear hcs hyes hP he
              go_wp2_with fail
              refine C4.mono ?_
              rintro e w5 ⟨rfl, hb5⟩
              have hB5 := below_through hb5 hB4.size hB4
              clear q4 i4 hB4 hb5 p4
              go_wp2
              go_ret
              exact ⟨rfl, hB5⟩
      · have hli : (1016 : Int) < (d.length : Int) := by omega
        obtain ⟨e1, e2, e3, e4⟩ := putHE_long (4096 : Int) HR.out hl
        rw [e1, e2, e3, e4] at C2
        clear e1 e2 e3 e4 hl
        go_wp2_with fail
        refine C2.mono ?_
        rintro e w2 ⟨⟨a2, c2, E2, rfl, _, _, _⟩, hb2⟩
        have hB2 := below_through hb2 hB1.size hB1
        clear hB1 hb2 C2
        have hB3 := (hB2.alloc hB2.size (Obj.cells #[.slice a2 E2.length c2] 24)).alloc (by have := hB2.size; simp; omega) (Obj.cells #[.int .i64 0, .int .i64 0] 26)
        go_wp2_with fail
        refine (awakeH_any _).mono ?_
        rintro e w4 ⟨rfl, hb4⟩
        have hB4 := below_through hb4 hB3.size hB3
        clear hB3 hb4 hB2
        go_wp2
        go_ret
        exact ⟨rfl, hB4⟩
end Go.Proofs.Ytnneeojgakjalaa
