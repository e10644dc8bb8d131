/- The reference of layer 3: the row that a key's bytes are: a contract of the call, in whatever memory. Conditions: the bytes are a string's, at most 2^47 - 4096 of them. -/
import Derived.Test.YtblleknmofbhiaaRi
import Derived.Test.YtblleknmofbhiaaRl
namespace Go.Proofs.Ytblleknmofbhiaa
open Go.RowKit

set_option maxHeartbeats 8000000 in
set_option maxRecDepth 1000000 in
theorem refBack_any (l : List UInt8) (w : World) (hl : l.length ≤ 140737488351232) :
    Calls Try.prog 19 #[.string (txt l)] w fun e w' => (∃ a c, e = .returned (.tuple #[.slice a (readL keyD l).length c, .int .i64 (readE keyD l)]) ∧ (readL keyD l).length ≤ c ∧ RowAt w' a (readL keyD l)) ∧ Below w.heap.size w w' := by
  obtain ⟨i0, hi, hz0, hz1, hz2⟩ := info_parts info23
  have HL := hid0 hl
  clear hl
  go_enter Try.func19, Try.ntmps19
  go_wp2
  go_loopw [0, 4] (fun sv ov wr => ∃ (vs : List Val) (s : List UInt8), sv = .string (txt s) ∧ wr.ownsRow w.heap.size 38 3 ov vs.length (rowCells vs) ∧ Below w.heap.size w wr ∧ Hid (ReadTo keyD l vs s)) (fun sv _ _ => strOf sv)
  case atStart => exact ⟨[], l, rfl, World.ownsRow_nil _ _ _ _, Below.refl _ _, hid0 (read_start keyD l)⟩
  case round =>
    obtain ⟨vs, s, rfl, hown, hB, hR⟩ := hrel
    have hsz := hB.size
    obtain ⟨a, c, rfl, hcap, hmx, hrow⟩ := row_owned hown
    have HR := hid0 hrow
    have hsl : s.length ≤ 140737488351232 := Nat.le_trans hR.out.2.1 HL.out
    have h8' := hR.out.1
    clear hrow
    cases s with
    | nil =>
      have hz : (txt []).size = 0 := rfl
      go_wp2
      go_returns
      obtain ⟨e1, e2⟩ := read_all hR.out
      exact ⟨⟨a, c, by rw [e1, e2]; rfl, by rw [e1]; exact hcap, by rw [e1]; exact HR.out⟩, hB⟩
    | cons b r =>
      have hz : (txt (b :: r)).size = r.length + 1 := by rw [txt_size]; rfl
      have hg : ∀ h, (txt (b :: r))[0]'h = b := fun h => rfl
      have hrl : r.length + 1 ≤ 140737488351232 := hsl
      by_cases b1 : b = 1
      · subst b1
        have hd : keyD (1 :: r) = some (noV, 1) := keyD_none r
        have hcut : ∀ W : World, (Instr.slice 9 (.string (txt (1 :: r))) (some (.int .i64 1)) none none).run Try.prog W = .ok (.string (txt ((1 :: r).drop (1)))) W := fun W => by
          rw [cut_from _ _ W (by omega) (by rw [List.length_cons]; omega)]; rfl
        by_cases h8 : vs.length = 8
        · have hN := hid0 (read_none hR.out (by simp) (.inr h8))
          go_wp2
          go_returns
          refine ⟨⟨none, 0, by rw [hN.out.1, hN.out.2]; rfl, by rw [hN.out.1]; exact Nat.le_refl _, by rw [hN.out.1]; exact fun h => absurd rfl h⟩, ?_⟩
          exact below_through (Below.alloc (Below.refl _ _) (Nat.le_refl _) _) hsz hB
        · have hM := hid0 (read_more hR.out (by simp) hd h8)
          have h8'' : (vs.length : Int) < 8 := by omega
          go_wp2_with (first
            | (at_builtin; refine wpList_append_own _ rfl _ _ 22 rfl w.heap.size 38 i0 (.agg #[.int .i64 0, .int .i64 0, .string ⟨#[]⟩]) 3 32 Try.underlying22 hi hz0 hz1 hz2 rfl (by decide) _ _ _ rfl (World.ownsRow.alloc (own_below hown (Below.alloc (Below.refl _ _) (Nat.le_refl _) _)) _) _ 1 1 [.int .i64 0, .int .i64 0, .string ⟨#[]⟩] rfl rfl ?c1b ?c2b ?c3b ?c4b ?c5b ?_))
          case c1b =>
            intro j u hj
            match j, hj with
            | 0, hj => simp at hj; subst hj; first | (simp [WideShapes.add_plain]; done) | (rw [WideShapes.add_plain, World.cell?_alloc_at _ _ _ _ (by simp)]; rfl)
            | 1, hj => simp at hj; subst hj; first | (simp [WideShapes.add_plain]; done) | (rw [WideShapes.add_plain, World.cell?_alloc_at _ _ _ _ (by simp)]; rfl)
            | 2, hj => simp at hj; subst hj; first | (simp [WideShapes.add_plain]; done) | (rw [WideShapes.add_plain, World.cell?_alloc_at _ _ _ _ (by simp)]; rfl)
            | j + 3, hj => simp at hj
          case c2b => intro u hu; simp at hu; rcases hu with rfl | rfl | rfl <;> rfl
          case c3b => unfold maxLen; omega
          case c4b => omega
          case c5b => first | (simp; omega) | (have := hbn.size; simp at this; simp; omega)
          try any_goals (exfalso; have h : (((m : Int) + 1) == 0) = true ∨ ((vs.length : Int) == 8) = true := (by assumption); simp only [beq_iff_eq] at h; omega)
          intro v' w1 hown' hgrow _
          have R := row_next (x := noV) hown (by exact Below.alloc (below_through (Below.alloc (Below.refl _ _) (Nat.le_refl _) _) hsz hB) (Below.size (below_through (Below.alloc (Below.refl _ _) (Nat.le_refl _) _) hsz hB)) _) hown' hgrow
          clear hown' hgrow hown hcap
          have hlt : ((1 :: r).drop (1)).length < (1 :: r).length := by rw [List.length_drop, List.length_cons]; omega
          go_wp2
          exact ⟨⟨vs ++ [noV], (1 :: r).drop (1), rfl, R.1, R.2, hM⟩, by
            show (txt ((1 :: r).drop (1))).size < (txt (1 :: r)).size
            rw [txt_size, txt_size]; exact hlt⟩
      by_cases b2 : b = 2
      · subst b2
        skip
        by_cases h8r : 8 ≤ r.length
        · have hd : keyD (2 :: r) = some (⟨1, low (decBE (r.take 8)), txt []⟩, 9) := by rw [keyD_int, if_pos h8r]
          have h8i : (9 : Int) ≤ (r.length : Int) + 1 := by omega
          have hx : (txt (2 :: r)).extract 1 9 = txt (r.take 8) := txt_cut _ _ _
          have hl8 : (r.take 8).length = 8 := by rw [List.length_take]; omega
          have hw : wrap64 (bits BinOp.xor IntKind.u64 (decBE (r.take 8) : Int) 9223372036854775808) = low (decBE (r.take 8)) := bits_low _ (by have h := decBE_lt (r.take 8); rw [hl8, pow8] at h; exact h)
          have hcut : ∀ W : World, (Instr.slice 9 (.string (txt (2 :: r))) (some (.int .i64 9)) none none).run Try.prog W = .ok (.string (txt ((2 :: r).drop (9)))) W := fun W => by
            rw [cut_from _ _ W (by omega) (by rw [List.length_cons]; omega)]; rfl
          by_cases h8 : vs.length = 8
          · have hN := hid0 (read_none hR.out (by simp) (.inr h8))
            go_wp2_with (first
              | (go_at_call 32; refine (refFixed_any _ _ (by assumption)).mono ?_; rintro e w' ⟨rfl, rfl⟩)
              | (go_at_call 31; refine (refInt_any _ _).mono ?_; rintro e w' ⟨rfl, hbn⟩; obtain ⟨hc, hf⟩ := below_cells hbn; have hzz : wr.heap.size < w'.heap.size := (by have := hbn.size; (try simp at this); omega); have c0 : w'.cell? ⟨wr.heap.size, 0, none⟩ = some (.int .i64 0) := (by go_cell); have c1 : w'.cell? ⟨wr.heap.size, 1, none⟩ = some (.int .i64 0) := (by go_cell); have c2 : w'.cell? ⟨wr.heap.size, 2, none⟩ = some (.string ⟨#[]⟩) := (by go_cell); clear hc))
            go_returns
            refine ⟨⟨none, 0, by rw [hN.out.1, hN.out.2]; rfl, by rw [hN.out.1]; exact Nat.le_refl _, by rw [hN.out.1]; exact fun h => absurd rfl h⟩, ?_⟩
            exact below_through (Below.setCell (Below.setCell (Below.setCell (below_through hbn (by simp) (Below.alloc (Below.refl _ _) (Nat.le_refl _) _)) (Nat.le_refl _) _) (Nat.le_refl _) _) (Nat.le_refl _) _) hsz hB
          · have hM := hid0 (read_more hR.out (by simp) hd h8)
            have h8'' : (vs.length : Int) < 8 := by omega
            go_wp2_with (first
              | (go_at_call 32; refine (refFixed_any _ _ (by assumption)).mono ?_; rintro e w' ⟨rfl, rfl⟩)
              | (go_at_call 31; refine (refInt_any _ _).mono ?_; rintro e w' ⟨rfl, hbn⟩; obtain ⟨hc, hf⟩ := below_cells hbn; have hzz : wr.heap.size < w'.heap.size := (by have := hbn.size; (try simp at this); omega); have c0 : w'.cell? ⟨wr.heap.size, 0, none⟩ = some (.int .i64 0) := (by go_cell); have c1 : w'.cell? ⟨wr.heap.size, 1, none⟩ = some (.int .i64 0) := (by go_cell); have c2 : w'.cell? ⟨wr.heap.size, 2, none⟩ = some (.string ⟨#[]⟩) := (by go_cell); clear hc)
              | (at_builtin; refine wpList_append_own _ rfl _ _ 22 rfl w.heap.size 38 i0 (.agg #[.int .i64 0, .int .i64 0, .string ⟨#[]⟩]) 3 32 Try.underlying22 hi hz0 hz1 hz2 rfl (by decide) _ _ _ rfl (World.ownsRow.alloc (own_below hown (Below.setCell (Below.setCell (Below.setCell (below_through hbn (by simp) (Below.alloc (Below.refl _ _) (Nat.le_refl _) _)) (Nat.le_refl _) _) (Nat.le_refl _) _) (Nat.le_refl _) _)) _) _ 1 1 [.int .i64 1, .int .i64 (low (decBE (r.take 8))), .string (txt [])] rfl rfl ?c1c ?c2c ?c3c ?c4c ?c5c ?_))
            case c1c =>
              intro j u hj
              match j, hj with
              | 0, hj => simp at hj; subst hj; first | (simp [WideShapes.add_plain]; done) | (rw [WideShapes.add_plain, World.cell?_alloc_at _ _ _ _ (by simp)]; rfl)
              | 1, hj => simp at hj; subst hj; first | (simp [WideShapes.add_plain]; done) | (rw [WideShapes.add_plain, World.cell?_alloc_at _ _ _ _ (by simp)]; rfl)
              | 2, hj => simp at hj; subst hj; first | (simp [WideShapes.add_plain]; done) | (rw [WideShapes.add_plain, World.cell?_alloc_at _ _ _ _ (by simp)]; rfl)
              | j + 3, hj => simp at hj
            case c2c => intro u hu; simp at hu; rcases hu with rfl | rfl | rfl <;> rfl
            case c3c => unfold maxLen; omega
            case c4c => omega
            case c5c => first | (simp; omega) | (have := hbn.size; simp at this; simp; omega)
            try any_goals (exfalso; have h : (((m : Int) + 1) == 0) = true ∨ ((vs.length : Int) == 8) = true := (by assumption); simp only [beq_iff_eq] at h; omega)
            intro v' w1 hown' hgrow _
            have R := row_next (x := ⟨1, low (decBE (r.take 8)), txt []⟩) hown (by exact Below.alloc (below_through (Below.setCell (Below.setCell (Below.setCell (below_through hbn (by simp) (Below.alloc (Below.refl _ _) (Nat.le_refl _) _)) (Nat.le_refl _) _) (Nat.le_refl _) _) (Nat.le_refl _) _) hsz hB) (Below.size (below_through (Below.setCell (Below.setCell (Below.setCell (below_through hbn (by simp) (Below.alloc (Below.refl _ _) (Nat.le_refl _) _)) (Nat.le_refl _) _) (Nat.le_refl _) _) (Nat.le_refl _) _) hsz hB)) _) hown' hgrow
            clear hown' hgrow hown hcap
            have hlt : ((2 :: r).drop (9)).length < (2 :: r).length := by rw [List.length_drop, List.length_cons]; omega
            go_wp2
            exact ⟨⟨vs ++ [⟨1, low (decBE (r.take 8)), txt []⟩], (2 :: r).drop (9), rfl, R.1, R.2, hM⟩, by
              show (txt ((2 :: r).drop (9))).size < (txt (2 :: r)).size
              rw [txt_size, txt_size]; exact hlt⟩
        · have hd : keyD (2 :: r) = none := by rw [keyD_int, if_neg h8r]
          have h8i : (r.length : Int) + 1 < 9 := by omega
          have hN := hid0 (read_none hR.out (by simp) (.inl hd))
          go_wp2
          go_returns
          refine ⟨⟨none, 0, by rw [hN.out.1, hN.out.2]; rfl, by rw [hN.out.1]; exact Nat.le_refl _, by rw [hN.out.1]; exact fun h => absurd rfl h⟩, ?_⟩
          exact below_through (Below.alloc (Below.refl _ _) (Nat.le_refl _) _) hsz hB
      by_cases b3 : b = 3
      · subst b3
        cases r with
        | nil =>
          have hd : keyD [3] = none := rfl
          have hN := hid0 (read_none hR.out (by simp) (.inl hd))
          go_wp2
          go_returns
          refine ⟨⟨none, 0, by rw [hN.out.1, hN.out.2]; rfl, by rw [hN.out.1]; exact Nat.le_refl _, by rw [hN.out.1]; exact fun h => absurd rfl h⟩, ?_⟩
          exact below_through (Below.alloc (Below.refl _ _) (Nat.le_refl _) _) hsz hB
        | cons x r =>
          have hg1 : ∀ h, (txt (3 :: x :: r))[1]'h = x := fun h => rfl
          have hrr : (x :: r).length = r.length + 1 := rfl
          have hri : (2 : Int) ≤ (r.length : Int) + 1 + 1 := by omega
          by_cases hx1 : x.toNat ≤ 1
          · rcases (show x.toNat = 0 ∨ x.toNat = 1 by omega) with hxx | hxx
            · have hv : (⟨2, (x.toNat : Int), txt []⟩ : Val) = ⟨2, 0, txt []⟩ := by rw [hxx]; rfl
              have hd : keyD (3 :: x :: r) = some (⟨2, (x.toNat : Int), txt []⟩, 2) := by rw [keyD_bool, if_pos hx1]
              rw [hv] at hd
              have hcut : ∀ W : World, (Instr.slice 9 (.string (txt (3 :: x :: r))) (some (.int .i64 2)) none none).run Try.prog W = .ok (.string (txt ((3 :: x :: r).drop (2)))) W := fun W => by
                rw [cut_from _ _ W (by omega) (by rw [List.length_cons]; omega)]; rfl
              by_cases h8 : vs.length = 8
              · have hN := hid0 (read_none hR.out (by simp) (.inr h8))
                go_wp2_with (first
                  | (go_at_call 33; refine (refBool_any _ _).mono ?_; rintro e w' ⟨rfl, hbn⟩; obtain ⟨hc, hf⟩ := below_cells hbn; have hzz : wr.heap.size < w'.heap.size := (by have := hbn.size; (try simp at this); omega); have c0 : w'.cell? ⟨wr.heap.size, 0, none⟩ = some (.int .i64 0) := (by go_cell); have c1 : w'.cell? ⟨wr.heap.size, 1, none⟩ = some (.int .i64 0) := (by go_cell); have c2 : w'.cell? ⟨wr.heap.size, 2, none⟩ = some (.string ⟨#[]⟩) := (by go_cell); clear hc))
                go_returns
                refine ⟨⟨none, 0, by rw [hN.out.1, hN.out.2]; rfl, by rw [hN.out.1]; exact Nat.le_refl _, by rw [hN.out.1]; exact fun h => absurd rfl h⟩, ?_⟩
                exact below_through (Below.setCell (Below.setCell (Below.setCell (below_through hbn (by simp) (Below.alloc (Below.refl _ _) (Nat.le_refl _) _)) (Nat.le_refl _) _) (Nat.le_refl _) _) (Nat.le_refl _) _) hsz hB
              · have hM := hid0 (read_more hR.out (by simp) hd h8)
                have h8'' : (vs.length : Int) < 8 := by omega
                go_wp2_with (first
                  | (go_at_call 33; refine (refBool_any _ _).mono ?_; rintro e w' ⟨rfl, hbn⟩; obtain ⟨hc, hf⟩ := below_cells hbn; have hzz : wr.heap.size < w'.heap.size := (by have := hbn.size; (try simp at this); omega); have c0 : w'.cell? ⟨wr.heap.size, 0, none⟩ = some (.int .i64 0) := (by go_cell); have c1 : w'.cell? ⟨wr.heap.size, 1, none⟩ = some (.int .i64 0) := (by go_cell); have c2 : w'.cell? ⟨wr.heap.size, 2, none⟩ = some (.string ⟨#[]⟩) := (by go_cell); clear hc)
                  | (at_builtin; refine wpList_append_own _ rfl _ _ 22 rfl w.heap.size 38 i0 (.agg #[.int .i64 0, .int .i64 0, .string ⟨#[]⟩]) 3 32 Try.underlying22 hi hz0 hz1 hz2 rfl (by decide) _ _ _ rfl (World.ownsRow.alloc (own_below hown (Below.setCell (Below.setCell (Below.setCell (below_through hbn (by simp) (Below.alloc (Below.refl _ _) (Nat.le_refl _) _)) (Nat.le_refl _) _) (Nat.le_refl _) _) (Nat.le_refl _) _)) _) _ 1 1 [.int .i64 2, .int .i64 0, .string (txt [])] rfl rfl ?c1d ?c2d ?c3d ?c4d ?c5d ?_))
                case c1d =>
                  intro j u hj
                  match j, hj with
                  | 0, hj => simp at hj; subst hj; first | (simp [WideShapes.add_plain]; done) | (rw [WideShapes.add_plain, World.cell?_alloc_at _ _ _ _ (by simp)]; rfl)
                  | 1, hj => simp at hj; subst hj; first | (simp [WideShapes.add_plain]; done) | (rw [WideShapes.add_plain, World.cell?_alloc_at _ _ _ _ (by simp)]; rfl)
                  | 2, hj => simp at hj; subst hj; first | (simp [WideShapes.add_plain]; done) | (rw [WideShapes.add_plain, World.cell?_alloc_at _ _ _ _ (by simp)]; rfl)
                  | j + 3, hj => simp at hj
                case c2d => intro u hu; simp at hu; rcases hu with rfl | rfl | rfl <;> rfl
                case c3d => unfold maxLen; omega
                case c4d => omega
                case c5d => first | (simp; omega) | (have := hbn.size; simp at this; simp; omega)
                try any_goals (exfalso; have h : (((m : Int) + 1) == 0) = true ∨ ((vs.length : Int) == 8) = true := (by assumption); simp only [beq_iff_eq] at h; omega)
                intro v' w1 hown' hgrow _
                have R := row_next (x := ⟨2, 0, txt []⟩) hown (by exact Below.alloc (below_through (Below.setCell (Below.setCell (Below.setCell (below_through hbn (by simp) (Below.alloc (Below.refl _ _) (Nat.le_refl _) _)) (Nat.le_refl _) _) (Nat.le_refl _) _) (Nat.le_refl _) _) hsz hB) (Below.size (below_through (Below.setCell (Below.setCell (Below.setCell (below_through hbn (by simp) (Below.alloc (Below.refl _ _) (Nat.le_refl _) _)) (Nat.le_refl _) _) (Nat.le_refl _) _) (Nat.le_refl _) _) hsz hB)) _) hown' hgrow
                clear hown' hgrow hown hcap
                have hlt : ((3 :: x :: r).drop (2)).length < (3 :: x :: r).length := by rw [List.length_drop, List.length_cons]; omega
                go_wp2
                exact ⟨⟨vs ++ [⟨2, 0, txt []⟩], (3 :: x :: r).drop (2), rfl, R.1, R.2, hM⟩, by
                  show (txt ((3 :: x :: r).drop (2))).size < (txt (3 :: x :: r)).size
                  rw [txt_size, txt_size]; exact hlt⟩
            · have hv : (⟨2, (x.toNat : Int), txt []⟩ : Val) = ⟨2, 1, txt []⟩ := by rw [hxx]; rfl
              have hd : keyD (3 :: x :: r) = some (⟨2, (x.toNat : Int), txt []⟩, 2) := by rw [keyD_bool, if_pos hx1]
              rw [hv] at hd
              have hcut : ∀ W : World, (Instr.slice 9 (.string (txt (3 :: x :: r))) (some (.int .i64 2)) none none).run Try.prog W = .ok (.string (txt ((3 :: x :: r).drop (2)))) W := fun W => by
                rw [cut_from _ _ W (by omega) (by rw [List.length_cons]; omega)]; rfl
              by_cases h8 : vs.length = 8
              · have hN := hid0 (read_none hR.out (by simp) (.inr h8))
                go_wp2_with (first
                  | (go_at_call 33; refine (refBool_any _ _).mono ?_; rintro e w' ⟨rfl, hbn⟩; obtain ⟨hc, hf⟩ := below_cells hbn; have hzz : wr.heap.size < w'.heap.size := (by have := hbn.size; (try simp at this); omega); have c0 : w'.cell? ⟨wr.heap.size, 0, none⟩ = some (.int .i64 0) := (by go_cell); have c1 : w'.cell? ⟨wr.heap.size, 1, none⟩ = some (.int .i64 0) := (by go_cell); have c2 : w'.cell? ⟨wr.heap.size, 2, none⟩ = some (.string ⟨#[]⟩) := (by go_cell); clear hc))
                go_returns
                refine ⟨⟨none, 0, by rw [hN.out.1, hN.out.2]; rfl, by rw [hN.out.1]; exact Nat.le_refl _, by rw [hN.out.1]; exact fun h => absurd rfl h⟩, ?_⟩
                exact below_through (Below.setCell (Below.setCell (Below.setCell (below_through hbn (by simp) (Below.alloc (Below.refl _ _) (Nat.le_refl _) _)) (Nat.le_refl _) _) (Nat.le_refl _) _) (Nat.le_refl _) _) hsz hB
              · have hM := hid0 (read_more hR.out (by simp) hd h8)
                have h8'' : (vs.length : Int) < 8 := by omega
                go_wp2_with (first
                  | (go_at_call 33; refine (refBool_any _ _).mono ?_; rintro e w' ⟨rfl, hbn⟩; obtain ⟨hc, hf⟩ := below_cells hbn; have hzz : wr.heap.size < w'.heap.size := (by have := hbn.size; (try simp at this); omega); have c0 : w'.cell? ⟨wr.heap.size, 0, none⟩ = some (.int .i64 0) := (by go_cell); have c1 : w'.cell? ⟨wr.heap.size, 1, none⟩ = some (.int .i64 0) := (by go_cell); have c2 : w'.cell? ⟨wr.heap.size, 2, none⟩ = some (.string ⟨#[]⟩) := (by go_cell); clear hc)
                  | (at_builtin; refine wpList_append_own _ rfl _ _ 22 rfl w.heap.size 38 i0 (.agg #[.int .i64 0, .int .i64 0, .string ⟨#[]⟩]) 3 32 Try.underlying22 hi hz0 hz1 hz2 rfl (by decide) _ _ _ rfl (World.ownsRow.alloc (own_below hown (Below.setCell (Below.setCell (Below.setCell (below_through hbn (by simp) (Below.alloc (Below.refl _ _) (Nat.le_refl _) _)) (Nat.le_refl _) _) (Nat.le_refl _) _) (Nat.le_refl _) _)) _) _ 1 1 [.int .i64 2, .int .i64 1, .string (txt [])] rfl rfl ?c1e ?c2e ?c3e ?c4e ?c5e ?_))
                case c1e =>
                  intro j u hj
                  match j, hj with
                  | 0, hj => simp at hj; subst hj; first | (simp [WideShapes.add_plain]; done) | (rw [WideShapes.add_plain, World.cell?_alloc_at _ _ _ _ (by simp)]; rfl)
                  | 1, hj => simp at hj; subst hj; first | (simp [WideShapes.add_plain]; done) | (rw [WideShapes.add_plain, World.cell?_alloc_at _ _ _ _ (by simp)]; rfl)
                  | 2, hj => simp at hj; subst hj; first | (simp [WideShapes.add_plain]; done) | (rw [WideShapes.add_plain, World.cell?_alloc_at _ _ _ _ (by simp)]; rfl)
                  | j + 3, hj => simp at hj
                case c2e => intro u hu; simp at hu; rcases hu with rfl | rfl | rfl <;> rfl
                case c3e => unfold maxLen; omega
                case c4e => omega
                case c5e => first | (simp; omega) | (have := hbn.size; simp at this; simp; omega)
                try any_goals (exfalso; have h : (((m : Int) + 1) == 0) = true ∨ ((vs.length : Int) == 8) = true := (by assumption); simp only [beq_iff_eq] at h; omega)
                intro v' w1 hown' hgrow _
                have R := row_next (x := ⟨2, 1, txt []⟩) hown (by exact Below.alloc (below_through (Below.setCell (Below.setCell (Below.setCell (below_through hbn (by simp) (Below.alloc (Below.refl _ _) (Nat.le_refl _) _)) (Nat.le_refl _) _) (Nat.le_refl _) _) (Nat.le_refl _) _) hsz hB) (Below.size (below_through (Below.setCell (Below.setCell (Below.setCell (below_through hbn (by simp) (Below.alloc (Below.refl _ _) (Nat.le_refl _) _)) (Nat.le_refl _) _) (Nat.le_refl _) _) (Nat.le_refl _) _) hsz hB)) _) hown' hgrow
                clear hown' hgrow hown hcap
                have hlt : ((3 :: x :: r).drop (2)).length < (3 :: x :: r).length := by rw [List.length_drop, List.length_cons]; omega
                go_wp2
                exact ⟨⟨vs ++ [⟨2, 1, txt []⟩], (3 :: x :: r).drop (2), rfl, R.1, R.2, hM⟩, by
                  show (txt ((3 :: x :: r).drop (2))).size < (txt (3 :: x :: r)).size
                  rw [txt_size, txt_size]; exact hlt⟩
          · have hd : keyD (3 :: x :: r) = none := by rw [keyD_bool, if_neg hx1]
            have hxi : (1 : Int) < (x.toNat : Int) := by omega
            have hN := hid0 (read_none hR.out (by simp) (.inl hd))
            go_wp2
            go_returns
            refine ⟨⟨none, 0, by rw [hN.out.1, hN.out.2]; rfl, by rw [hN.out.1]; exact Nat.le_refl _, by rw [hN.out.1]; exact fun h => absurd rfl h⟩, ?_⟩
            exact below_through (Below.alloc (Below.refl _ _) (Nat.le_refl _) _) hsz hB
      by_cases b4 : b = 4
      · subst b4
        have hcut1 : ∀ W : World, (Instr.slice 9 (.string (txt (4 :: r))) (some (.int .i64 1)) none none).run Try.prog W = .ok (.string (txt r)) W := fun W => by
          rw [cut_from _ _ W (by omega) (by rw [List.length_cons]; omega)]; rfl
        cases hu : unesc r with
        | none =>
          have ht : textD r = none := textD_none hu
          have H1 : ∀ W, Calls Try.prog 34 #[.string (txt r)] W fun e w' => e = .returned (.tuple #[.agg #[.int .i64 0, .int .i64 0, .string ⟨#[]⟩], .int .i64 0]) ∧ Below W.heap.size W w' := fun W => by
            have h := refKeyText_any r W (by omega)
            rw [ht] at h
            exact h
          have hd : keyD (4 :: r) = none := by rw [keyD_four, ht]; rfl
          have hN := hid0 (read_none hR.out (by simp) (.inl hd))
          go_wp2_with (first
            | (go_at_call 34; refine (H1 _).mono ?_; rintro e w' ⟨rfl, hbn⟩; obtain ⟨hc, hf⟩ := below_cells hbn; have hzz : wr.heap.size < w'.heap.size := (by have := hbn.size; (try simp at this); omega); have c0 : w'.cell? ⟨wr.heap.size, 0, none⟩ = some (.int .i64 0) := (by go_cell); have c1 : w'.cell? ⟨wr.heap.size, 1, none⟩ = some (.int .i64 0) := (by go_cell); have c2 : w'.cell? ⟨wr.heap.size, 2, none⟩ = some (.string ⟨#[]⟩) := (by go_cell); clear hc))
          go_returns
          refine ⟨⟨none, 0, by rw [hN.out.1, hN.out.2]; rfl, by rw [hN.out.1]; exact Nat.le_refl _, by rw [hN.out.1]; exact fun h => absurd rfl h⟩, ?_⟩
          exact below_through (Below.setCell (Below.setCell (Below.setCell (below_through hbn (by simp) (Below.alloc (Below.refl _ _) (Nat.le_refl _) _)) (Nat.le_refl _) _) (Nat.le_refl _) _) (Nat.le_refl _) _) hsz hB
        | some y =>
          obtain ⟨t, m⟩ := y
          by_cases h64 : t.length ≤ 64
          · have ht : textD r = some (⟨3, 0, txt t⟩, m) := by rw [textD_some hu, if_pos h64]
            obtain ⟨hu1, hu2⟩ := esc_unesc r.length r t m (Nat.le_refl _) hu
            have hmr : m ≤ r.length := by
              have h := congrArg List.length hu1
              rw [List.length_append, List.length_cons, List.length_cons, List.length_drop] at h
              omega
            have hm0 : (0 : Int) < (m : Int) := by omega
            have hm1 : (m : Int) + 1 ≤ (r.length : Int) + 1 := by omega
            clear hu1 hu2
            have H1 : ∀ W, Calls Try.prog 34 #[.string (txt r)] W fun e w' => e = .returned (.tuple #[.agg #[.int .i64 3, .int .i64 0, .string (txt t)], .int .i64 (m : Int)]) ∧ Below W.heap.size W w' := fun W => by
              have h := refKeyText_any r W (by omega)
              rw [ht] at h
              exact h
            have hd : keyD (4 :: r) = some (⟨3, 0, txt t⟩, m + 1) := by rw [keyD_four, ht]; rfl
            have hcut : ∀ W : World, (Instr.slice 9 (.string (txt (4 :: r))) (some (.int .i64 ((m : Int) + 1))) none none).run Try.prog W = .ok (.string (txt ((4 :: r).drop (m + 1)))) W := fun W => by
              rw [cut_from _ _ W (by omega) (by rw [List.length_cons]; omega), show ((m : Int) + 1).toNat = m + 1 by omega]
            by_cases h8 : vs.length = 8
            · have hN := hid0 (read_none hR.out (by simp) (.inr h8))
              go_wp2_with (first
                | (go_at_call 34; refine (H1 _).mono ?_; rintro e w' ⟨rfl, hbn⟩; obtain ⟨hc, hf⟩ := below_cells hbn; have hzz : wr.heap.size < w'.heap.size := (by have := hbn.size; (try simp at this); omega); have c0 : w'.cell? ⟨wr.heap.size, 0, none⟩ = some (.int .i64 0) := (by go_cell); have c1 : w'.cell? ⟨wr.heap.size, 1, none⟩ = some (.int .i64 0) := (by go_cell); have c2 : w'.cell? ⟨wr.heap.size, 2, none⟩ = some (.string ⟨#[]⟩) := (by go_cell); clear hc))
              go_returns
              refine ⟨⟨none, 0, by rw [hN.out.1, hN.out.2]; rfl, by rw [hN.out.1]; exact Nat.le_refl _, by rw [hN.out.1]; exact fun h => absurd rfl h⟩, ?_⟩
              exact below_through (Below.setCell (Below.setCell (Below.setCell (below_through hbn (by simp) (Below.alloc (Below.refl _ _) (Nat.le_refl _) _)) (Nat.le_refl _) _) (Nat.le_refl _) _) (Nat.le_refl _) _) hsz hB
            · have hM := hid0 (read_more hR.out (by simp) hd h8)
              have h8'' : (vs.length : Int) < 8 := by omega
              go_wp2_with (first
                | (go_at_call 34; refine (H1 _).mono ?_; rintro e w' ⟨rfl, hbn⟩; obtain ⟨hc, hf⟩ := below_cells hbn; have hzz : wr.heap.size < w'.heap.size := (by have := hbn.size; (try simp at this); omega); have c0 : w'.cell? ⟨wr.heap.size, 0, none⟩ = some (.int .i64 0) := (by go_cell); have c1 : w'.cell? ⟨wr.heap.size, 1, none⟩ = some (.int .i64 0) := (by go_cell); have c2 : w'.cell? ⟨wr.heap.size, 2, none⟩ = some (.string ⟨#[]⟩) := (by go_cell); clear hc)
                | (at_builtin; refine wpList_append_own _ rfl _ _ 22 rfl w.heap.size 38 i0 (.agg #[.int .i64 0, .int .i64 0, .string ⟨#[]⟩]) 3 32 Try.underlying22 hi hz0 hz1 hz2 rfl (by decide) _ _ _ rfl (World.ownsRow.alloc (own_below hown (Below.setCell (Below.setCell (Below.setCell (below_through hbn (by simp) (Below.alloc (Below.refl _ _) (Nat.le_refl _) _)) (Nat.le_refl _) _) (Nat.le_refl _) _) (Nat.le_refl _) _)) _) _ 1 1 [.int .i64 3, .int .i64 0, .string (txt t)] rfl rfl ?c1f ?c2f ?c3f ?c4f ?c5f ?_))
              case c1f =>
                intro j u hj
                match j, hj with
                | 0, hj => simp at hj; subst hj; first | (simp [WideShapes.add_plain]; done) | (rw [WideShapes.add_plain, World.cell?_alloc_at _ _ _ _ (by simp)]; rfl)
                | 1, hj => simp at hj; subst hj; first | (simp [WideShapes.add_plain]; done) | (rw [WideShapes.add_plain, World.cell?_alloc_at _ _ _ _ (by simp)]; rfl)
                | 2, hj => simp at hj; subst hj; first | (simp [WideShapes.add_plain]; done) | (rw [WideShapes.add_plain, World.cell?_alloc_at _ _ _ _ (by simp)]; rfl)
                | j + 3, hj => simp at hj
              case c2f => intro u hu; simp at hu; rcases hu with rfl | rfl | rfl <;> rfl
              case c3f => unfold maxLen; omega
              case c4f => omega
              case c5f => first | (simp; omega) | (have := hbn.size; simp at this; simp; omega)
              try any_goals (exfalso; have h : (((m : Int) + 1) == 0) = true ∨ ((vs.length : Int) == 8) = true := (by assumption); simp only [beq_iff_eq] at h; omega)
              intro v' w1 hown' hgrow _
              have R := row_next (x := ⟨3, 0, txt t⟩) hown (by exact Below.alloc (below_through (Below.setCell (Below.setCell (Below.setCell (below_through hbn (by simp) (Below.alloc (Below.refl _ _) (Nat.le_refl _) _)) (Nat.le_refl _) _) (Nat.le_refl _) _) (Nat.le_refl _) _) hsz hB) (Below.size (below_through (Below.setCell (Below.setCell (Below.setCell (below_through hbn (by simp) (Below.alloc (Below.refl _ _) (Nat.le_refl _) _)) (Nat.le_refl _) _) (Nat.le_refl _) _) (Nat.le_refl _) _) hsz hB)) _) hown' hgrow
              clear hown' hgrow hown hcap
              have hlt : ((4 :: r).drop (m + 1)).length < (4 :: r).length := by rw [List.length_drop, List.length_cons]; omega
              go_wp2
              exact ⟨⟨vs ++ [⟨3, 0, txt t⟩], (4 :: r).drop (m + 1), rfl, R.1, R.2, hM⟩, by
                show (txt ((4 :: r).drop (m + 1))).size < (txt (4 :: r)).size
                rw [txt_size, txt_size]; exact hlt⟩
          · have ht : textD r = none := by rw [textD_some hu, if_neg h64]
            have H1 : ∀ W, Calls Try.prog 34 #[.string (txt r)] W fun e w' => e = .returned (.tuple #[.agg #[.int .i64 0, .int .i64 0, .string ⟨#[]⟩], .int .i64 0]) ∧ Below W.heap.size W w' := fun W => by
              have h := refKeyText_any r W (by omega)
              rw [ht] at h
              exact h
            have hd : keyD (4 :: r) = none := by rw [keyD_four, ht]; rfl
            have hN := hid0 (read_none hR.out (by simp) (.inl hd))
            go_wp2_with (first
              | (go_at_call 34; refine (H1 _).mono ?_; rintro e w' ⟨rfl, hbn⟩; obtain ⟨hc, hf⟩ := below_cells hbn; have hzz : wr.heap.size < w'.heap.size := (by have := hbn.size; (try simp at this); omega); have c0 : w'.cell? ⟨wr.heap.size, 0, none⟩ = some (.int .i64 0) := (by go_cell); have c1 : w'.cell? ⟨wr.heap.size, 1, none⟩ = some (.int .i64 0) := (by go_cell); have c2 : w'.cell? ⟨wr.heap.size, 2, none⟩ = some (.string ⟨#[]⟩) := (by go_cell); clear hc))
            go_returns
            refine ⟨⟨none, 0, by rw [hN.out.1, hN.out.2]; rfl, by rw [hN.out.1]; exact Nat.le_refl _, by rw [hN.out.1]; exact fun h => absurd rfl h⟩, ?_⟩
            exact below_through (Below.setCell (Below.setCell (Below.setCell (below_through hbn (by simp) (Below.alloc (Below.refl _ _) (Nat.le_refl _) _)) (Nat.le_refl _) _) (Nat.le_refl _) _) (Nat.le_refl _) _) hsz hB
      · have hb1 : ¬ b.toNat = 1 := fun e => b1 (UInt8.toNat_inj.1 e)
        have hb2 : ¬ b.toNat = 2 := fun e => b2 (UInt8.toNat_inj.1 e)
        have hb3 : ¬ b.toNat = 3 := fun e => b3 (UInt8.toNat_inj.1 e)
        have hb4 : ¬ b.toNat = 4 := fun e => b4 (UInt8.toNat_inj.1 e)
        have hd := keyD_else r b1 b2 b3 b4
        have hN := hid0 (read_none hR.out (by simp) (.inl hd))
        go_wp2
        go_returns
        refine ⟨⟨none, 0, by rw [hN.out.1, hN.out.2]; rfl, by rw [hN.out.1]; exact Nat.le_refl _, by rw [hN.out.1]; exact fun h => absurd rfl h⟩, ?_⟩
        exact below_through (Below.alloc (Below.refl _ _) (Nat.le_refl _) _) hsz hB
end Go.Proofs.Ytblleknmofbhiaa
