/- The reference of layer 6: the list of all rows: a contract of the call, in whatever memory. Conditions: the pages' cells are known. -/
import Derived.Test.YtnneeojgakjalaaHph
namespace Go.Proofs.Ytnneeojgakjalaa
open Go.RowKit

theorem append_beside {W w1 : World} {n1 : Nat} {e e' : TypeId} {size size' : Nat} {v u : Value} {k k' : Nat} {xs zs : List Value} {tmp : Obj}
    (hrow : W.ownsRow n1 e size v k xs) (hrow' : W.ownsRow n1 e' size' u k' zs) (hee : e' ≠ e) (hn : n1 ≤ W.heap.size) (hgrow : (W.alloc tmp).grownBy w1 v.ownBlock) : w1.ownsRow n1 e' size' u k' zs ∧ Below n1 W w1 := by
  refine ⟨(hrow'.alloc tmp).kept hgrow (row_apart (hrow'.alloc tmp) (hrow.alloc tmp) hee), ((Below.refl n1 W).alloc hn tmp).grown hgrow (by simp; omega) fun j ej => ?_⟩
  rcases hrow.2 with ⟨rfl, _⟩ | ⟨g, cap, cur, rfl, hb, _, _⟩
  · simp [Value.ownBlock] at ej
  · obtain rfl : g = j := by simpa [Value.ownBlock] using ej
    exact hb

theorem row_later {w w' : World} {n : Nat} {e : TypeId} {s k : Nat} {v : Value} {xs : List Value} (h : w.ownsRow n e s v k xs) (hb : Below w.heap.size w w') : w'.ownsRow n e s v k xs :=
  World.ownsRow.kept (row := none) h ⟨hb.os, hb.tape, hb.output, hb.size, fun j hj _ => hb.block j hj⟩ (by cases v.ownBlock <;> simp)

set_option maxHeartbeats 8000000 in
set_option maxRecDepth 1000000 in
theorem refHList_any (a : Option Addr) (c : Nat) (E : List PgE) (w : World) (h : HpAt w a c E) :
    Calls Try.prog 23 #[.agg #[.slice a E.length c]] w fun e w' => ∃ v1 v2, e = .returned (.tuple #[v1, v2]) ∧ w'.ownsRow w.heap.size 26 2 v1 (listH (hp E)).length (idCells (listH (hp E))) ∧ w'.ownsRow w.heap.size 9 1 v2 (listH (hp E)).length (strCells (listH (hp E))) ∧ Below w.heap.size w w' := by
  have A := hid0 h
  have hlb : E.length ≤ 5864062014805 := by have := h.len; omega
  have v0 := VarAt.new w (.slice a E.length c) 24
  have hB0 : Below w.heap.size w (w.alloc (Obj.cells #[.slice a E.length c] 24)) := (Below.refl _ _).alloc (Nat.le_refl _) _
  have hll := hid0 (listH_len (hp E))
  obtain ⟨i0, hi, hz0, hz1, hz2⟩ := info_parts infoId
  obtain ⟨j0, hj, hy0, hy1, hy2⟩ := info_parts infoStr
  cases hr : rightH (hp E) with
  | false =>
    have hne : E ≠ [] := by rintro rfl; cases hr
    have h0 : 0 < E.length := by
      rcases Nat.eq_zero_or_pos E.length with h | h
      · exact absurd (List.length_eq_zero_iff.1 h) hne
      · exact h
    have h0i : (0 : Int) < (E.length : Int) := by omega
    have C := refHRight_any a c E _ (h.alloc (Obj.cells #[.slice a E.length c] 24))
    rw [hr] at C
    have hl : listH (hp E) = [] := by unfold listH; rw [hr]; rfl
    rw [hl]
    obtain ⟨q0, f0⟩ := v0
    clear hr hl h
    go_enter Try.func23, Try.ntmps23
    go_wp2_with fail
    go_loopw [4, 5, 6] (fun v1 v2 iv wr => v1 = .slice none 0 0 ∧ v2 = .slice none 0 0 ∧ iv = .int .i64 0 ∧ wr = w.alloc (Obj.cells #[.slice a E.length c] 24)) (fun _ _ _ _ => 0)
    case atStart => exact ⟨rfl, rfl, rfl, rfl⟩
    case round =>
      obtain ⟨rfl, rfl, rfl, rfl⟩ := hrel
      go_wp2_with (go_at_call 19; go_must (refine C.mono ?_; rintro e w1 ⟨rfl, hb⟩))
      go_returns
      exact ⟨_, _, rfl, World.ownsRow_nil _ _ _ _, World.ownsRow_nil _ _ _ _, below_through hb hB0.size hB0⟩
  | true =>
    have hl : listH (hp E) = heapL 0 (hp E) := by unfold listH; rw [hr]; rfl
    rw [hl] at hll ⊢
    have HR := hid0 hr
    obtain ⟨q0, f0⟩ := v0
    clear hr hl h
    have C := fun W (hb : Below w.heap.size w W) => refHRight_any a c E W (A.out.later hb)
    rw [HR.out] at C
    go_enter Try.func23, Try.ntmps23
    go_wp2_with fail
    have hs0 : w.heap.size + 1 ≤ (w.alloc (Obj.cells #[.slice a E.length c] 24)).heap.size := by simp
    generalize w.alloc (Obj.cells #[.slice a E.length c] 24) = W0 at q0 f0 hB0 hs0 ⊢
    go_loopw [4, 5, 6] (fun v1 v2 iv wr => ∃ i : Nat, i ≤ E.length ∧ iv = .int .i64 i ∧ wr.ownsRow (w.heap.size + 1) 26 2 v1 (heapL 0 ((hp E).take i)).length (idCells (heapL 0 ((hp E).take i))) ∧ wr.ownsRow (w.heap.size + 1) 9 1 v2 (heapL 0 ((hp E).take i)).length (strCells (heapL 0 ((hp E).take i))) ∧ wr.cell? ⟨w.heap.size, 0, none⟩ = some (.slice a E.length c) ∧ w.heap.size + 1 ≤ wr.heap.size ∧ Below w.heap.size w wr) (fun _ _ iv _ => E.length - (intOf iv).toNat)
    case atStart => exact ⟨0, Nat.zero_le _, rfl, World.ownsRow_nil _ _ _ _, World.ownsRow_nil _ _ _ _, q0, hs0, hB0⟩
    case round =>
      clear q0 f0 hB0 hs0
      obtain ⟨i, hil, rfl, r1, r2, q, hsz, hB⟩ := hrel
      by_cases hlt : i < E.length
      · have hne : E ≠ [] := by intro e; rw [e] at hlt; exact absurd hlt (by simp)
        have hii : (i : Int) < (E.length : Int) := by omega
        have hpl : i < (hp E).length := by rw [hp_len]; exact hlt
        have hpre := heap_pre hpl
        have hnext := heapL_take hpl
        rw [hp_at hlt] at hpre hnext
        have HPR := hid0 hpre
        have HNX := hid0 hnext
        have CR := C wr hB
        obtain ⟨b, o, rfl, hcs⟩ := A.out.cells hne
        have hc0 := hcs i hlt
        have hP := A.out.pages _ (List.getElem_mem hlt)
        obtain ⟨pe, hpe⟩ : ∃ pe, E[i] = pe := ⟨_, rfl⟩
        rw [hpe] at hc0 hP HPR HNX
        obtain ⟨pa, pc, pp⟩ := pe
        dsimp only at hc0 hP HPR HNX
        have hplen := hP.len
        clear hpre hnext C hcs hpe
        go_wp2_with (go_at_call 19; go_must (refine CR.mono ?_; rintro e w1 ⟨rfl, hb⟩))
        have s1 := row_later r1 hb
        have s2 := row_later r2 hb
        have hsz1 : w.heap.size + 1 ≤ w1.heap.size := Nat.le_trans hsz hb.size
        have q1 := (hb.cell (p := ⟨w.heap.size, 0, none⟩) (by show w.heap.size < _; omega)).trans q
        have hB1 := below_through hb hB.size hB
        clear r1 r2 q hsz hB hb CR
        go_loopw [4, 5, 7] (fun v1 v2 kv wr => ∃ k : Nat, k ≤ pp.length ∧ kv = .int .i64 k ∧ wr.ownsRow (w.heap.size + 1) 26 2 v1 (heapL 0 ((hp E).take i) ++ pageL i 0 (pp.take k)).length (idCells (heapL 0 ((hp E).take i) ++ pageL i 0 (pp.take k))) ∧ wr.ownsRow (w.heap.size + 1) 9 1 v2 (heapL 0 ((hp E).take i) ++ pageL i 0 (pp.take k)).length (strCells (heapL 0 ((hp E).take i) ++ pageL i 0 (pp.take k))) ∧ wr.cell? ⟨w.heap.size, 0, none⟩ = some (.slice (some ⟨b, o, none⟩) E.length c) ∧ w.heap.size + 1 ≤ wr.heap.size ∧ Below w.heap.size w wr) (fun _ _ kv _ => pp.length - (intOf kv).toNat)
        case atStart => exact ⟨0, Nat.zero_le _, rfl, by simpa [pageL] using s1, by simpa [pageL] using s2, q1, hsz1, hB1⟩
        case round =>
          clear s1 s2 q1 hsz1 hB1
          obtain ⟨k, hk, rfl, r1, r2, q, hsz, hB⟩ := hrel
          have p0 := cell_later hB hc0
          by_cases hkl : k < pp.length
          · have hpn : pp ≠ [] := by intro e; rw [e] at hkl; exact absurd hkl (by simp)
            obtain ⟨b2, o2, rfl, hc2⟩ := hP.out hpn
            obtain ⟨t0, t1⟩ := hc2 k hkl
            have s0 := cell_later hB t0
            have s1 := cell_later hB t1
            have hstep := pageL_take i hkl
            have hfull := HPR.out (k + 1)
            have hkI : (k : Int) < (pp.length : Int) := by omega
            clear hc2 t0
            obtain ⟨⟨u, d⟩, hsi⟩ : ∃ s, pp[k] = s := ⟨_, rfl⟩
            rw [hsi] at s0 s1 t1 hstep
            dsimp only at s0 s1 t1 hstep
            have HT1 := hid0 t1
            clear t1
            cases u with
            | false =>
              rw [if_neg (by simp), List.append_nil] at hstep
              rw [← hstep] at r1 r2
              clear hstep hsi hfull
              go_wp2
              exact ⟨⟨k + 1, by omega, by go_num, r1, r2, q, hsz, hB⟩, by simp [intOf]; omega⟩
            | true =>
              rw [if_pos rfl] at hstep
              rw [hstep, ← List.append_assoc] at hfull
              obtain ⟨L, hL⟩ : ∃ L, heapL 0 ((hp E).take i) ++ pageL i 0 (pp.take k) = L := ⟨_, rfl⟩
              rw [hL] at r1 r2 hfull
              have hLn : heapL 0 ((hp E).take i) ++ pageL i 0 (pp.take (k + 1)) = L ++ [(i, k, d)] := by rw [hstep, ← List.append_assoc, hL]
              have HLN := hid0 hLn
              have hlen : L.length < 1048576 := by
                have h1 := hfull.length_le
                have h2 := hll.out
                rw [List.length_append] at h1
                simp only [List.length_singleton] at h1
                omega
              clear hstep hsi hfull hL hLn
              go_wp2_with (first
                | (at_builtin; refine wpList_append_own _ rfl _ _ 50 rfl (w.heap.size + 1) 26 i0 (.agg #[.int .i64 0, .int .i64 0]) 2 16 Try.underlying50 hi hz0 hz1 hz2 rfl (by decide) _ _ _ rfl (r1.alloc _) ⟨wr.heap.size, 0, none⟩ 1 1 [.int .i64 (i : Int), .int .i64 (k : Int)] rfl rfl (cell_two_new _ _ _ _) (by simp [Value.oneCell']) (by unfold maxLen; omega) (by omega) (by rw [World.size_alloc]; omega) ?_; intro v1' w2 hown1 hgrow1 _; obtain ⟨A1, A2⟩ := append_beside r1 r2 (by decide) hsz hgrow1; have q2 := (A2.cell (p := ⟨w.heap.size, 0, none⟩) (by show w.heap.size < _; omega)).trans q; have hB2 := hB.trans (A2.mono (by omega)); have hsz2 : w.heap.size + 1 ≤ w2.heap.size := Nat.le_trans hsz A2.size; have p2 := cell_later hB2 hc0; have s2 := cell_later hB2 HT1.out)
                | (at_builtin; refine wpList_append_own _ rfl _ _ 51 rfl (w.heap.size + 1) 9 j0 (.string ⟨#[]⟩) 1 16 Try.underlying51 hj hy0 hy1 hy2 rfl (by decide) _ _ _ rfl (A1.alloc _) ⟨w2.heap.size, 0, none⟩ 1 1 [.string (txt d)] rfl rfl (cell_one_new _ _ _) (by simp [Value.oneCell']) (by unfold maxLen; omega) (by omega) (by rw [World.size_alloc]; omega) ?_; intro v2' w3 hown2 hgrow2 _; obtain ⟨D1, D2⟩ := append_beside A1 hown1 (by decide) hsz2 hgrow2; have q3 := (D2.cell (p := ⟨w.heap.size, 0, none⟩) (by show w.heap.size < _; omega)).trans q2; have hB3 := hB2.trans (D2.mono (by omega)); have hsz3 : w.heap.size + 1 ≤ w3.heap.size := Nat.le_trans hsz2 D2.size))
              exact ⟨⟨k + 1, by omega, by go_num, by rw [HLN.out, List.length_append, idCells_snoc]; exact D1, by rw [HLN.out, List.length_append, strCells_snoc]; exact hown2, q3, hsz3, hB3⟩, by simp [intOf]; omega⟩
          · obtain rfl : k = pp.length := by omega
            rw [List.take_of_length_le (Nat.le_refl _), ← HNX.out] at r1 r2
            have hkI : ¬ (pp.length : Int) < (pp.length : Int) := by omega
            go_wp2
            exact ⟨⟨i + 1, by omega, by go_num, r1, r2, q, hsz, hB⟩, by simp [intOf]; omega⟩
      · obtain rfl : i = E.length := by omega
        rw [List.take_of_length_le (by rw [hp_len]; exact Nat.le_refl _)] at r1 r2
        have hie : ¬ (E.length : Int) < (E.length : Int) := by omega
        go_wp2
        go_returns
        exact ⟨_, _, rfl, row_base r1 (by omega), row_base r2 (by omega), hB⟩
end Go.Proofs.Ytnneeojgakjalaa
