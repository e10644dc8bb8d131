/- The reference of layer 3: the row that bytes are: a contract of the call, in whatever memory. Conditions: the bytes are a string's. -/
import Derived.Test.YtblleknmofbhiaaRh
import Derived.Test.YtblleknmofbhiaaLb
namespace Go.Proofs.Ytblleknmofbhiaa
open Go.RowKit

def strOf : Value → Nat | .string b => b.size | _ => 0

set_option maxHeartbeats 4000000 in
theorem refRead_any (l : List UInt8) (w : World) (hl : l.length ≤ maxLen) :
    Calls Try.prog 15 #[.string (txt l)] w fun e w' => (∃ a c, e = .returned (.tuple #[.slice a (readL rowD l).length c, .int .i64 (readE rowD l)]) ∧ (readL rowD l).length ≤ c ∧ RowAt w' a (readL rowD l)) ∧ Below w.heap.size w w' := by
  obtain ⟨i0, hi, hz0, hz1, hz2⟩ := info_parts info23
  have HL := hid0 hl
  clear hl
  go_enter Try.func15, Try.ntmps15
  go_wp2
  go_loopw [0, 4] (fun sv ov wr => ∃ (vs : List Val) (s : List UInt8), sv = .string (txt s) ∧ wr.ownsRow w.heap.size 38 3 ov vs.length (rowCells vs) ∧ Below w.heap.size w wr ∧ Hid (ReadTo rowD l vs s)) (fun sv _ _ => strOf sv)
  case atStart => exact ⟨[], l, rfl, World.ownsRow_nil _ _ _ _, Below.refl _ _, hid0 (read_start rowD l)⟩
  case round =>
    obtain ⟨vs, s, rfl, hown, hB, hR⟩ := hrel
    have hsz := hB.size
    obtain ⟨a, c, rfl, hcap, hmx, hrow⟩ := row_owned hown
    have HR := hid0 hrow
    have hsl : s.length ≤ maxLen := Nat.le_trans hR.out.2.1 HL.out
    have h8' := hR.out.1
    clear hrow
    cases s with
    | nil =>
      have hz : (txt []).size = 0 := rfl
      go_wp2
      go_returns
      obtain ⟨e1, e2⟩ := read_all hR.out
      exact ⟨⟨a, c, by rw [e1, e2]; rfl, by rw [e1]; exact hcap, by rw [e1]; exact HR.out⟩, hB⟩
    | cons b r =>
      have hz : (txt (b :: r)).size = r.length + 1 := by rw [txt_size]; rfl
      cases hd : rowD (b :: r) with
      | none =>
        have H1 : ∀ W, Calls Try.prog 28 #[.string (txt (b :: r))] W fun e w' => e = .returned (.tuple #[.agg #[.int .i64 0, .int .i64 0, .string ⟨#[]⟩], .int .i64 0]) ∧ Below W.heap.size W w' := fun W => by
          have h := refOne_any (b :: r) W hsl
          rw [hd] at h
          exact h
        have hN := hid0 (read_none hR.out (by simp) (.inl hd))
        go_wp2_with (go_at_call 28; refine (H1 _).mono ?_; rintro e w' ⟨rfl, hbn⟩)
        go_returns
        refine ⟨⟨none, 0, by rw [hN.out.1, hN.out.2]; rfl, by rw [hN.out.1]; exact Nat.le_refl _, by rw [hN.out.1]; exact fun h => absurd rfl h⟩, ?_⟩
        exact Below.alloc (below_through hbn hsz hB) (by have := hbn.size; omega) _
      | some x =>
        obtain ⟨v, m⟩ := x
        obtain ⟨_, hsm, hme⟩ := rowCoded.back _ _ _ hd
        have hm0 : 0 < m := by rw [hme]; exact rowCoded.pos v
        have hm1 : m ≤ r.length + 1 := by
          have := congrArg List.length hsm
          rw [List.length_append, List.length_drop, ← hme, List.length_cons] at this
          omega
        have hm2 : (0 : Int) < (m : Int) := by omega
        have hm3 : (m : Int) ≤ (r.length : Int) + 1 := by omega
        have H1 : ∀ W, Calls Try.prog 28 #[.string (txt (b :: r))] W fun e w' => e = .returned (.tuple #[.agg #[.int .i64 v.k, .int .i64 v.n, .string v.s], .int .i64 (m : Int)]) ∧ Below W.heap.size W w' := fun W => by
          have h := refOne_any (b :: r) W hsl
          rw [hd] at h
          exact h
        have hcut : ∀ W : World, (Instr.slice 9 (.string (txt (b :: r))) (some (.int .i64 (m : Int))) none none).run Try.prog W = .ok (.string (txt ((b :: r).drop m))) W := fun W => by
          rw [cut_from _ _ W (by omega) (by rw [List.length_cons]; omega), Int.toNat_natCast]
        clear hsm hme
        by_cases h8 : vs.length = 8
        · have hN := hid0 (read_none hR.out (by simp) (.inr h8))
          go_wp2_with (go_at_call 28; refine (H1 _).mono ?_; rintro e w' ⟨rfl, hbn⟩)
          go_returns
          refine ⟨⟨none, 0, by rw [hN.out.1, hN.out.2]; rfl, by rw [hN.out.1]; exact Nat.le_refl _, by rw [hN.out.1]; exact fun h => absurd rfl h⟩, ?_⟩
          exact Below.alloc (below_through hbn hsz hB) (by have := hbn.size; omega) _
        · have hM := hid0 (read_more hR.out (by simp) hd h8)
          have h8'' : (vs.length : Int) < 8 := by omega
          go_wp2_with (first
            | (go_at_call 28; refine (H1 _).mono ?_; rintro e w' ⟨rfl, hbn⟩; have hown2 := own_below hown hbn)
            | (at_builtin; refine wpList_append_own _ rfl _ _ 22 rfl w.heap.size 38 i0 (.agg #[.int .i64 0, .int .i64 0, .string ⟨#[]⟩]) 3 32 Try.underlying22 hi hz0 hz1 hz2 rfl (by decide) _ _ _ rfl ((hown2.alloc _).alloc _) ⟨w'.heap.size + 1, 0, none⟩ 1 1 [.int .i64 v.k, .int .i64 v.n, .string v.s] rfl rfl ?c1 ?c2 ?c3 ?c4 ?c5 ?_))
          case c1 =>
            intro j u hj
            match j, hj with
            | 0, hj => simp at hj; subst hj; simp [WideShapes.add_plain]
            | 1, hj => simp at hj; subst hj; simp [WideShapes.add_plain]
            | 2, hj => simp at hj; subst hj; simp [WideShapes.add_plain]
            | j + 3, hj => simp at hj
          case c2 => intro u hu; simp at hu; rcases hu with rfl | rfl | rfl <;> rfl
          case c3 => unfold maxLen; omega
          case c4 => omega
          case c5 => have := hbn.size; simp; omega
          · exfalso
            have h : ((m : Int) == 0) = true ∨ ((vs.length : Int) == 8) = true := by assumption
            simp only [beq_iff_eq] at h
            omega
          · intro v' w1 hown' hgrow _
            have hBa : Below w.heap.size w ((w'.alloc (Obj.cells #[.int .i64 v.k, .int .i64 v.n, .string v.s] 38)).alloc (Obj.cells #[.int .i64 v.k, .int .i64 v.n, .string v.s] 38)) :=
              Below.alloc (Below.alloc (below_through hbn hsz hB) (by have := hbn.size; omega) _) (by have := hbn.size; simp; omega) _
            have R := row_next hown hBa hown' hgrow
            clear hown' hgrow hown hown2 hBa hcap
            have hlt : ((b :: r).drop m).length < (b :: r).length := by rw [List.length_drop, List.length_cons]; omega
            go_wp2
            exact ⟨⟨vs ++ [v], (b :: r).drop m, rfl, R.1, R.2, hM⟩, by
              show (txt ((b :: r).drop m)).size < (txt (b :: r)).size
              rw [txt_size, txt_size]; exact hlt⟩
end Go.Proofs.Ytblleknmofbhiaa
