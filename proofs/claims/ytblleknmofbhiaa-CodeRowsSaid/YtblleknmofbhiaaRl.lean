/- The reference of layer 3: the text that a key's bytes go on with: a contract of the call, in whatever memory. Conditions: the bytes are a string's. -/
import Derived.Test.YtblleknmofbhiaaRh
import Derived.Test.YtblleknmofbhiaaRk
namespace Go.Proofs.Ytblleknmofbhiaa
open Go.RowKit

def textD (l : List UInt8) : Option (Val × Nat) := match unesc l with
  | none => none
  | some (t, m) => if t.length ≤ 64 then some (⟨3, 0, txt t⟩, m) else none
theorem textD_none {l : List UInt8} (h : unesc l = none) : textD l = none := by unfold textD; rw [h]
theorem textD_some {l t : List UInt8} {m : Nat} (h : unesc l = some (t, m)) : textD l = if t.length ≤ 64 then some (⟨3, 0, txt t⟩, m) else none := by unfold textD; rw [h]
theorem keyD_four (r : List UInt8) : keyD (4 :: r) = (textD r).map (fun x => (x.1, x.2 + 1)) := by
  cases h : unesc r with
  | none => rw [keyD_no h, textD_none h]; rfl
  | some x =>
    obtain ⟨t, m⟩ := x
    rw [keyD_text h, textD_some h]
    split <;> rfl
/-- t has been read, i bytes of it. -/
def TextTo (l t : List UInt8) (i : Nat) : Prop := i ≤ l.length ∧ t.length ≤ i ∧ unesc l = (unesc (l.drop i)).map (fun x => (t ++ x.1, x.2 + i))
theorem text_start (l : List UInt8) : TextTo l [] 0 := ⟨Nat.zero_le _, Nat.le_refl _, by simp⟩
theorem drop_two {l : List UInt8} {i : Nat} (h : i + 1 < l.length) : l.drop i = l[i] :: l[i + 1] :: l.drop (i + 2) := by
  rw [List.drop_eq_getElem_cons (by omega), List.drop_eq_getElem_cons (by omega)]
theorem text_more {l t : List UInt8} {i : Nat} (H : TextTo l t i) (h : i + 1 < l.length) (h0 : l[i] ≠ 0) : TextTo l (t ++ [l[i]]) (i + 1) := by
  obtain ⟨h1, h2, h3⟩ := H
  refine ⟨by omega, by simp; omega, ?_⟩
  rw [h3, List.drop_eq_getElem_cons (by omega : i < l.length), unesc_more h0, Option.map_map]
  congr 1
  funext x
  simp; omega
theorem text_zero {l t : List UInt8} {i : Nat} (H : TextTo l t i) (h : i + 1 < l.length) (h0 : l[i] = 0) (h5 : l[i + 1] = 255) : TextTo l (t ++ [0]) (i + 1 + 1) := by
  obtain ⟨h1, h2, h3⟩ := H
  refine ⟨by omega, by simp; omega, ?_⟩
  rw [h3, drop_two h, h0, h5, unesc_zero, Option.map_map]
  congr 1
  funext x
  simp; omega
theorem text_end {l t : List UInt8} {i : Nat} (H : TextTo l t i) (h : i + 1 < l.length) (h0 : l[i] = 0) (h5 : l[i + 1] = 0) : textD l = if t.length ≤ 64 then some (⟨3, 0, txt t⟩, i + 2) else none := by
  have e : unesc l = some (t, i + 2) := by
    rw [H.2.2, drop_two h, h0, h5, unesc_end]; simp; omega
  exact textD_some e
theorem text_bad {l t : List UInt8} {i : Nat} (H : TextTo l t i) (h : i + 1 < l.length) (h0 : l[i] = 0) (h5 : l[i + 1] ≠ 0) (h6 : l[i + 1] ≠ 255) : textD l = none :=
  textD_none (by rw [H.2.2, drop_two h, h0, unesc_bad _ h5 h6]; rfl)
theorem text_out {l t : List UInt8} {i : Nat} (H : TextTo l t i) (h : ¬ i + 1 < l.length) : textD l = none := by
  refine textD_none ?_
  rw [H.2.2]
  have hl : (l.drop i).length ≤ 1 := by rw [List.length_drop]; omega
  cases e : l.drop i with
  | nil => rfl
  | cons a r =>
    rw [e] at hl
    obtain rfl : r = [] := List.length_eq_zero_iff.1 (by simp at hl; simpa using hl)
    rfl

set_option maxHeartbeats 4000000 in
theorem refKeyText_any (l : List UInt8) (w : World) (hl : l.length ≤ 140737488351232) :
    Calls Try.prog 34 #[.string (txt l)] w fun e w' => e = .returned (oneA (textD l)) ∧ Below w.heap.size w w' := by
  have hsize := txt_size l
  go_enter Try.func34, Try.ntmps34
  go_wp2_with fail
  have hB0 : Below w.heap.size w (w.alloc (Obj.cells #[.int .i64 0, .int .i64 0, .string ⟨#[]⟩] 38)) := by go_grown
  have q0 : (w.alloc (Obj.cells #[.int .i64 0, .int .i64 0, .string ⟨#[]⟩] 38)).cell? ⟨w.heap.size, 0, none⟩ = some (.int .i64 0) := by go_cell
  have q1 : (w.alloc (Obj.cells #[.int .i64 0, .int .i64 0, .string ⟨#[]⟩] 38)).cell? ⟨w.heap.size, 1, none⟩ = some (.int .i64 0) := by go_cell
  have q2 : (w.alloc (Obj.cells #[.int .i64 0, .int .i64 0, .string ⟨#[]⟩] 38)).cell? ⟨w.heap.size, 2, none⟩ = some (.string ⟨#[]⟩) := by go_cell
  have f0 : ∀ o, (w.alloc (Obj.cells #[.int .i64 0, .int .i64 0, .string ⟨#[]⟩] 38)).frozen? ⟨w.heap.size, o, none⟩ = false := fun o => World.frozen?_alloc_at _ _ _ _ rfl
  have hz0 : w.heap.size < (w.alloc (Obj.cells #[.int .i64 0, .int .i64 0, .string ⟨#[]⟩] 38)).heap.size := by simp
  generalize (w.alloc (Obj.cells #[.int .i64 0, .int .i64 0, .string ⟨#[]⟩] 38)) = W0 at hB0 q0 q1 q2 f0 hz0 ⊢
  go_loopw [4, 5] (fun tv i w2 => ∃ (t : List UInt8) (j : Nat), tv = .string (txt t) ∧ i = .int .i64 j ∧ Hid (TextTo l t j) ∧ w2 = W0) (fun _ i _ => l.length - (intOf i).toNat)
  case atStart => exact ⟨[], 0, rfl, rfl, hid0 (text_start l), rfl⟩
  case round =>
    obtain ⟨t, j, rfl, rfl, H, rfl⟩ := hrel
    have hj1 := H.out.1
    have hj2 := H.out.2.1
    have hst : (txt t).size = t.length := txt_size t
    by_cases hjl : j + 1 < l.length
    · have hcut : ∀ W : World, (Instr.slice 9 (.string (txt l)) (some (.int .i64 (j : Int))) (some (.int .i64 ((j : Int) + 1))) none).run Try.prog W = .ok (.string (txt [l[j]])) W := fun W => by
        rw [cut_at l _ _ W (by omega) (by omega) (by omega), Int.toNat_natCast, show ((j : Int) + 1).toNat - j = 1 by omega, List.drop_eq_getElem_cons (by omega : j < l.length)]; rfl
      by_cases h0 : l[j] = 0
      · rw [h0] at hcut
        have hg0 : ∀ h, (txt l)[j]'h = 0 := fun h => h0
        by_cases h5 : l[j + 1] = 0
        · have hg1 : ∀ h, (txt l)[j + 1]'h = 0 := fun h => h5
          have HE := hid0 (text_end H.out hjl h0 h5)
          by_cases h64 : t.length ≤ 64
          · have h64' : (t.length : Int) ≤ 64 := by omega
            go_wp2_with (go_at_call 42; refine (refText_any _ _).mono ?_; rintro e w' ⟨rfl, hbn⟩; obtain ⟨hc, hf⟩ := below_cells hbn; have hz2 : w.heap.size < w'.heap.size := (by have := hbn.size; (try simp at this); omega); have c0 : w'.cell? ⟨w.heap.size, 0, none⟩ = some (.int .i64 0) := (by go_cell); have c1 : w'.cell? ⟨w.heap.size, 1, none⟩ = some (.int .i64 0) := (by go_cell); have c2 : w'.cell? ⟨w.heap.size, 2, none⟩ = some (.string ⟨#[]⟩) := (by go_cell); clear hc)
            refine bodyPost_ret (v := .tuple #[.agg #[.int .i64 3, .int .i64 0, .string (txt t)], .int .i64 ((j : Int) + 2)]) (by simp [results, Try.results34, go_sem, c0, c1, c2]) rfl ⟨?_, Below.setCell (Below.setCell (Below.setCell (below_through hbn (by omega) hB0) (by simp) _) (by simp) _) (by simp) _⟩
            rw [HE.out, if_pos h64]
            rfl
          · have h64' : (64 : Int) < (t.length : Int) := by omega
            go_wp2
            refine bodyPost_ret (v := .tuple #[.agg #[.int .i64 0, .int .i64 0, .string ⟨#[]⟩], .int .i64 0]) (by simp [results, Try.results34, go_sem, q0, q1, q2]) rfl ⟨?_, Below.setCell (Below.setCell (Below.setCell hB0 (by simp) _) (by simp) _) (by simp) _⟩
            rw [HE.out, if_neg h64]; rfl
        · have hz5 : ¬ (l[j + 1]).toNat = 0 := fun e => h5 (UInt8.toNat_inj.1 e)
          by_cases h6 : l[j + 1] = 255
          · have hg1 : ∀ h, (txt l)[j + 1]'h = 255 := fun h => h6
            have H2 := hid0 (text_zero H.out hjl h0 h6)
            have ha : txt t ++ ⟨#[0]⟩ = txt (t ++ [0]) := txt_add _ [0]
            go_wp2
            exact ⟨⟨_, j + 1 + 1, rfl, by go_num, H2, trivial⟩, by simp [intOf]; omega⟩
          · have hg1 : ∀ h, (txt l)[j + 1]'h = l[j + 1] := fun h => rfl
            have hz6 : ¬ (l[j + 1]).toNat = 255 := fun e => h6 (UInt8.toNat_inj.1 e)
            have HB := hid0 (text_bad H.out hjl h0 h5 h6)
            go_wp2
            refine bodyPost_ret (v := .tuple #[.agg #[.int .i64 0, .int .i64 0, .string ⟨#[]⟩], .int .i64 0]) (by simp [results, Try.results34, go_sem, q0, q1, q2]) rfl ⟨?_, Below.setCell (Below.setCell (Below.setCell hB0 (by simp) _) (by simp) _) (by simp) _⟩
            rw [HB.out]; rfl
      · have hg0 : ∀ h, (txt l)[j]'h = l[j] := fun h => rfl
        have hz : ¬ (l[j]).toNat = 0 := fun e => h0 (UInt8.toNat_inj.1 e)
        have H2 := hid0 (text_more H.out hjl h0)
        have ha : txt t ++ txt [l[j]] = txt (t ++ [l[j]]) := txt_add _ _
        have hs1 : (txt [l[j]]).size = 1 := rfl
        go_wp2
        exact ⟨⟨_, j + 1, rfl, by go_num, H2, trivial⟩, by simp [intOf]; omega⟩
    · have HO := hid0 (text_out H.out hjl)
      go_wp2
      refine bodyPost_ret (v := .tuple #[.agg #[.int .i64 0, .int .i64 0, .string ⟨#[]⟩], .int .i64 0]) (by simp [results, Try.results34, go_sem, q0, q1, q2]) rfl ⟨?_, Below.setCell (Below.setCell (Below.setCell hB0 (by simp) _) (by simp) _) (by simp) _⟩
      rw [HO.out]; rfl
end Go.Proofs.Ytblleknmofbhiaa
