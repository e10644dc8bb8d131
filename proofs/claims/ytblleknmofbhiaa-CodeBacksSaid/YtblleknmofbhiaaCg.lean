/- The project's layer 3: the text that a key's bytes go on with, and what is behind it; the value that a key begins with: contracts of the calls, in whatever memory. Conditions: the bytes are a string's. -/
import Derived.Test.YtblleknmofbhiaaCf
import Derived.Test.YtblleknmofbhiaaCb
import Derived.Test.YtblleknmofbhiaaRl
namespace Go.Proofs.Ytblleknmofbhiaa
open Go.RowKit

def stopA (l : List UInt8) : Value := match unesc l with
  | none => takeA noV [] false
  | some (t, m) => takeA ⟨3, 0, txt t⟩ (l.drop m) true
theorem stopA_none {l : List UInt8} (h : unesc l = none) : stopA l = takeA noV [] false := by unfold stopA; rw [h]
theorem stopA_some {l t : List UInt8} {m : Nat} (h : unesc l = some (t, m)) : stopA l = takeA ⟨3, 0, txt t⟩ (l.drop m) true := by unfold stopA; rw [h]
theorem stop_end {l t : List UInt8} {i : Nat} (H : TextTo l t i) (h : i + 1 < l.length) (h0 : l[i] = 0) (h5 : l[i + 1] = 0) : stopA l = takeA ⟨3, 0, txt t⟩ (l.drop (i + 2)) true := by
  refine stopA_some ?_
  rw [H.2.2, drop_two h, h0, h5, unesc_end]; simp; omega
theorem stop_bad {l t : List UInt8} {i : Nat} (H : TextTo l t i) (h : i + 1 < l.length) (h0 : l[i] = 0) (h5 : l[i + 1] ≠ 0) (h6 : l[i + 1] ≠ 255) : stopA l = takeA noV [] false :=
  stopA_none (by rw [H.2.2, drop_two h, h0, unesc_bad _ h5 h6]; rfl)
theorem stop_out {l t : List UInt8} {i : Nat} (H : TextTo l t i) (h : ¬ i + 1 < l.length) : stopA l = takeA noV [] false := by
  refine stopA_none ?_
  rw [H.2.2]
  have hl : (l.drop i).length ≤ 1 := by rw [List.length_drop]; omega
  cases e : l.drop i with
  | nil => rfl
  | cons a r =>
    rw [e] at hl
    obtain rfl : r = [] := List.length_eq_zero_iff.1 (by simp at hl; simpa using hl)
    rfl

set_option maxHeartbeats 4000000 in
theorem takeStopped_any (l : List UInt8) (w : World) (hl : l.length ≤ 140737488351232) :
    Calls Try.prog 44 #[.string (txt l)] w fun e w' => e = .returned (stopA l) ∧ Below w.heap.size w w' := by
  have hsize := txt_size l
  go_enter Try.func44, Try.ntmps44
  go_wp2_with fail
  have hB0 : Below w.heap.size w (w.alloc (Obj.cells #[.int .i64 0, .int .i64 0, .string ⟨#[]⟩] 38)) := by go_grown
  have q0 : (w.alloc (Obj.cells #[.int .i64 0, .int .i64 0, .string ⟨#[]⟩] 38)).cell? ⟨w.heap.size, 0, none⟩ = some (.int .i64 0) := by go_cell
  have q1 : (w.alloc (Obj.cells #[.int .i64 0, .int .i64 0, .string ⟨#[]⟩] 38)).cell? ⟨w.heap.size, 1, none⟩ = some (.int .i64 0) := by go_cell
  have q2 : (w.alloc (Obj.cells #[.int .i64 0, .int .i64 0, .string ⟨#[]⟩] 38)).cell? ⟨w.heap.size, 2, none⟩ = some (.string ⟨#[]⟩) := by go_cell
  have f0 : ∀ o, (w.alloc (Obj.cells #[.int .i64 0, .int .i64 0, .string ⟨#[]⟩] 38)).frozen? ⟨w.heap.size, o, none⟩ = false := fun o => World.frozen?_alloc_at _ _ _ _ rfl
  have hz0 : w.heap.size < (w.alloc (Obj.cells #[.int .i64 0, .int .i64 0, .string ⟨#[]⟩] 38)).heap.size := by simp
  generalize (w.alloc (Obj.cells #[.int .i64 0, .int .i64 0, .string ⟨#[]⟩] 38)) = W0 at hB0 q0 q1 q2 f0 hz0 ⊢
  go_loopw [5, 6] (fun bv i w2 => ∃ (t : List UInt8) (j : Nat), Buf w2 W0.heap.size bv t ∧ i = .int .i64 j ∧ Hid (TextTo l t j) ∧ Kept W0.heap.size W0 w2) (fun _ i _ => l.length - (intOf i).toNat)
  case atStart => exact ⟨[], 0, Buf.nil _ _, rfl, hid0 (text_start l), Kept.refl _ _⟩
  case round =>
    obtain ⟨t, j, hB, rfl, H, hK⟩ := hrel
    have hj1 := H.out.1
    have hj2 := H.out.2.1
    have hsz := hK.below.size
    have hbl : Below w.heap.size w wr := hB0.trans (hK.below.mono (by omega))
    have c0 : wr.cell? ⟨w.heap.size, 0, none⟩ = some (.int .i64 0) := (hK.below.cell (p := ⟨w.heap.size, 0, none⟩) hz0).trans q0
    have c1 : wr.cell? ⟨w.heap.size, 1, none⟩ = some (.int .i64 0) := (hK.below.cell (p := ⟨w.heap.size, 1, none⟩) hz0).trans q1
    have c2 : wr.cell? ⟨w.heap.size, 2, none⟩ = some (.string ⟨#[]⟩) := (hK.below.cell (p := ⟨w.heap.size, 2, none⟩) hz0).trans q2
    have g0 : ∀ o, wr.frozen? ⟨w.heap.size, o, none⟩ = false := fun o => (hK.below.frozen (p := ⟨w.heap.size, o, none⟩) hz0).trans (f0 o)
    have hB1 := fun o => hB.alloc o
    clear q0 q1 q2 f0
    by_cases hjl : j + 1 < l.length
    · by_cases h0 : l[j] = 0
      · have hg0 : ∀ h, (txt l)[j]'h = 0 := fun h => h0
        by_cases h5 : l[j + 1] = 0
        · have hg1 : ∀ h, (txt l)[j + 1]'h = 0 := fun h => h5
          have HE := hid0 (stop_end H.out hjl h0 h5)
          have hcv := hB.conv
          have hcv2 := hB.drew.conv
          have hw2 : IntKind.i64.wrap ((j : Int) + 2) = (j : Int) + 2 := IntWalk.i64_in _ (by omega)
          have hcut : ∀ W : World, (Instr.slice 9 (.string (txt l)) (some (.int .i64 ((j : Int) + 2))) none none).run Try.prog W = .ok (.string (txt (l.drop (j + 2)))) W := fun W => by
            rw [cut_from _ _ W (by omega) (by omega), show ((j : Int) + 2).toNat = j + 2 by omega]
          go_wp2_with fail
          go_region
          go_wp2
          refine bodyPost_ret (v := takeA ⟨3, 0, txt t⟩ (l.drop (j + 2)) true) (by simp [takeA, vA, results, Try.results44, go_sem, c0, c1, c2]) rfl ⟨?_, by first | exact Below.drew (Below.setCell (Below.setCell (Below.setCell hbl (by simp) _) (by simp) _) (by simp) _) | exact Below.setCell (Below.setCell (Below.setCell hbl.drew (by simp) _) (by simp) _) (by simp) _⟩
          rw [HE.out]
        · have hz5 : ¬ (l[j + 1]).toNat = 0 := fun e => h5 (UInt8.toNat_inj.1 e)
          by_cases h6 : l[j + 1] = 255
          · have hg1 : ∀ h, (txt l)[j + 1]'h = 255 := fun h => h6
            have H2 := hid0 (text_zero H.out hjl h0 h6)
            go_wp2_with (at_builtin; refine wp_put1 rfl _ _ rfl rfl (hB1 _) wr.heap.size rfl 0 (cell_new _ _ _) ?hn ?hl ?hb ?_)
            case hn => rfl
            case hl => omega
            case hb => simp; omega
            intro v1 w1 hB2 hK1
            have hk1 := hK.trans ((Kept.alloc hsz _).trans hK1)
            clear hK1 c0 c1 c2 g0
            go_wp2
            exact ⟨⟨_, j + 1 + 1, hB2, by go_num, H2, hk1⟩, by simp [intOf]; omega⟩
          · have hg1 : ∀ h, (txt l)[j + 1]'h = l[j + 1] := fun h => rfl
            have hz6 : ¬ (l[j + 1]).toNat = 255 := fun e => h6 (UInt8.toNat_inj.1 e)
            have HB := hid0 (stop_bad H.out hjl h0 h5 h6)
            go_wp2
            refine bodyPost_ret (v := takeA noV [] false) (by simp [takeA, vA, noV, results, Try.results44, go_sem, c0, c1, c2]; rfl) rfl ⟨?_, Below.setCell (Below.setCell (Below.setCell hbl (by simp) _) (by simp) _) (by simp) _⟩
            rw [HB.out]
      · have hg0 : ∀ h, (txt l)[j]'h = l[j] := fun h => rfl
        have hz : ¬ (l[j]).toNat = 0 := fun e => h0 (UInt8.toNat_inj.1 e)
        have H2 := hid0 (text_more H.out hjl h0)
        go_wp2_with (at_builtin; refine wp_put1 rfl _ _ rfl rfl (hB1 _) wr.heap.size rfl l[j] (cell_new _ _ _) ?hn ?hl ?hb ?_)
        case hn => first | rfl | simp
        case hl => omega
        case hb => simp; omega
        intro v1 w1 hB2 hK1
        have hk1 := hK.trans ((Kept.alloc hsz _).trans hK1)
        clear hK1 c0 c1 c2 g0
        go_wp2
        exact ⟨⟨_, j + 1, hB2, by go_num, H2, hk1⟩, by simp [intOf]; omega⟩
    · have HO := hid0 (stop_out H.out hjl)
      go_wp2
      refine bodyPost_ret (v := takeA noV [] false) (by simp [takeA, vA, noV, results, Try.results44, go_sem, c0, c1, c2]; rfl) rfl ⟨?_, Below.setCell (Below.setCell (Below.setCell hbl (by simp) _) (by simp) _) (by simp) _⟩
      rw [HO.out]

theorem wrap64_low (u : Nat) (h : u < 256 ^ 8) : wrap64 (IntKind.u64.wrap ((u : Int) - 9223372036854775808)) = low u := by
  rw [pow8] at h
  rw [IntKind.wrap_u64]
  unfold wrap64 low
  omega
theorem esc_ge : ∀ t : List UInt8, t.length ≤ (esc t).length
  | [] => Nat.le_refl _
  | x :: t => by
    have h := esc_ge t
    by_cases hx : x = 0
    · subst hx; rw [esc_zero]; simp; omega
    · rw [esc_more _ hx]; simp; omega
theorem unesc_len {l t : List UInt8} {m : Nat} (h : unesc l = some (t, m)) : t.length ≤ l.length := by
  have h1 := (esc_unesc l.length l t m (Nat.le_refl _) h).1
  have h2 := esc_ge t
  rw [h1, List.length_append]; omega
theorem taken_stopped {r t : List UInt8} {m : Nat} (hl : r.length ≤ 140737488351232) (hu : unesc r = some (t, m)) : Taken keyD (4 :: r) ⟨3, 0, txt t⟩ (r.drop m) true := by
  have hlen := unesc_len hu
  have hsz : (txt t).size = t.length := txt_size t
  have hmx : (txt t).size ≤ maxLen := by rw [hsz]; unfold maxLen; omega
  by_cases hc : t.length ≤ 64
  · exact taken_is (m := m + 1) hmx ((keyD_text hu).trans (if_pos hc)) rfl
  · refine taken_bad hmx ((keyD_text hu).trans (if_neg hc)) ?_
    show chk 3 0 (txt t) ≠ 0
    unfold chk
    rw [hsz]; simp; omega

set_option maxHeartbeats 4000000 in
theorem takeSorted_any (b : UInt8) (r : List UInt8) (w : World) (hl : r.length ≤ 140737488351232) :
    Calls Try.prog 30 #[.string (txt (b :: r))] w fun e w' => (∃ v rest ok, e = .returned (takeA v rest ok) ∧ Taken keyD (b :: r) v rest ok) ∧ Below w.heap.size w w' := by
  have hz : (txt (b :: r)).size = r.length + 1 := by rw [txt_size]; rfl
  have hzr : (txt r).size = r.length := txt_size r
  have hget : ∀ h, (txt (b :: r))[0]'h = b := fun h => rfl
  have hb := b.toNat_lt
  have hw0 : IntKind.i64.wrap (b.toNat : Int) = (b.toNat : Int) := IntWalk.i64_in _ (by omega)
  have hw1 : IntKind.i64.wrap ((b.toNat : Int) - 1) = (b.toNat : Int) - 1 := IntWalk.i64_in _ (by omega)
  have hcut : ∀ W : World, (Instr.slice 9 (.string (txt (b :: r))) (some (.int .i64 1)) none none).run Try.prog W = .ok (.string (txt r)) W := fun W => by
    rw [cut_from _ _ W (by omega) (by rw [List.length_cons]; omega)]; rfl
  have hpos : (0 : Int) < (r.length : Int) + 1 := by omega
  by_cases b0 : b = 1
  · subst b0
    go_enter Try.func30, Try.ntmps30
    go_wp2_with fail
    go_region
    go_wp2
    exact bodyPost_ret (v := takeA noV r true) (by simp [takeA, vA, noV, results, Try.results30, go_sem]) rfl ⟨⟨_, _, _, rfl, taken_is (Nat.zero_le _) (keyD_none r) rfl⟩, by go_grown⟩
  by_cases b1 : b = 2
  · subst b1
    by_cases h8 : 8 ≤ r.length
    · have hl8 : (r.take 8).length = 8 := by rw [List.length_take]; omega
      have hw : wrap64 (IntKind.u64.wrap ((decBE (r.take 8) : Int) - 9223372036854775808)) = low (decBE (r.take 8)) := wrap64_low _ (by have := decBE_lt (r.take 8); rwa [hl8] at this)
      go_enter Try.func30, Try.ntmps30
      go_wp2_with fail
      go_region
      go_wp2_with (go_at_call 39; go_must (refine (takeWord_any r _ h8).mono ?_; rintro e w1 ⟨rfl, hbn⟩; obtain ⟨hc, hf⟩ := below_cells hbn; have hz2 : w.heap.size < w1.heap.size := (by have := hbn.size; (try simp at this); omega); have c0 : w1.cell? ⟨w.heap.size, 0, none⟩ = some (.int .i64 0) := (by go_cell); have c1 : w1.cell? ⟨w.heap.size, 1, none⟩ = some (.int .i64 0) := (by go_cell); have c2 : w1.cell? ⟨w.heap.size, 2, none⟩ = some (.string ⟨#[]⟩) := (by go_cell); clear hc))
      exact bodyPost_ret (v := takeA ⟨1, low (decBE (r.take 8)), txt []⟩ (r.drop 8) true) (by simp [takeA, vA, results, Try.results30, go_sem, c0, c1, c2] <;> rfl) rfl ⟨⟨_, _, _, rfl, taken_is (Nat.zero_le _) ((keyD_int r).trans (if_pos h8)) rfl⟩, Below.setCell (Below.setCell (Below.setCell (below_through hbn (by simp) (by go_grown)) (by simp) _) (by simp) _) (by simp) _⟩
    · have h8' : r.length < 8 := by omega
      go_enter Try.func30, Try.ntmps30
      go_wp2_with fail
      go_region
      go_wp2_with (go_at_call 39; go_must (refine (takeWord_few r _ h8').mono ?_; rintro e w1 ⟨rfl, hbn⟩; obtain ⟨hc, hf⟩ := below_cells hbn; have hz2 : w.heap.size < w1.heap.size := (by have := hbn.size; (try simp at this); omega); have c0 : w1.cell? ⟨w.heap.size, 0, none⟩ = some (.int .i64 0) := (by go_cell); have c1 : w1.cell? ⟨w.heap.size, 1, none⟩ = some (.int .i64 0) := (by go_cell); have c2 : w1.cell? ⟨w.heap.size, 2, none⟩ = some (.string ⟨#[]⟩) := (by go_cell); clear hc))
      exact bodyPost_ret (v := takeA ⟨1, wrap64 (IntKind.u64.wrap (-9223372036854775808)), txt []⟩ [] false) (by simp [takeA, vA, results, Try.results30, go_sem, c0, c1, c2] <;> rfl) rfl ⟨⟨_, _, _, rfl, taken_not 1 _ [] ((keyD_int r).trans (if_neg h8))⟩, Below.setCell (Below.setCell (Below.setCell (below_through hbn (by simp) (by go_grown)) (by simp) _) (by simp) _) (by simp) _⟩
  by_cases b2 : b = 3
  · subst b2
    cases r with
    | nil =>
      have C0 : ∀ W, Calls Try.prog 40 #[.string (txt [])] W fun e w' => e = .returned (.tuple #[.agg #[.int .i64 0, .int .i64 0, .string ⟨#[]⟩], .string ⟨#[]⟩, .bool false]) ∧ Below W.heap.size W w' := fun W => takeTruth_nil W
      go_enter Try.func30, Try.ntmps30
      go_wp2_with fail
      go_region
      go_wp2_with (go_at_call 40; go_must (refine (C0 _).mono ?_; rintro e w1 ⟨rfl, hbn⟩; obtain ⟨hc, hf⟩ := below_cells hbn; have hz2 : w.heap.size < w1.heap.size := (by have := hbn.size; (try simp at this); omega); have c0 : w1.cell? ⟨w.heap.size, 0, none⟩ = some (.int .i64 0) := (by go_cell); have c1 : w1.cell? ⟨w.heap.size, 1, none⟩ = some (.int .i64 0) := (by go_cell); have c2 : w1.cell? ⟨w.heap.size, 2, none⟩ = some (.string ⟨#[]⟩) := (by go_cell); clear hc))
      exact bodyPost_ret (v := takeA noV [] false) (by simp [takeA, vA, noV, results, Try.results30, go_sem, c0, c1, c2] <;> rfl) rfl ⟨⟨_, _, _, rfl, taken_not 0 0 [] rfl⟩, Below.setCell (Below.setCell (Below.setCell (below_through hbn (by simp) (by go_grown)) (by simp) _) (by simp) _) (by simp) _⟩
    | cons c r =>
      have hlc : r.length < 9223372036854775806 := by rw [List.length_cons] at hl; omega
      have C0 : ∀ W, Calls Try.prog 40 #[.string (txt (c :: r))] W fun e w' => e = .returned (.tuple #[.agg #[.int .i64 2, .int .i64 (c.toNat : Int), .string ⟨#[]⟩], .string (txt r), .bool true]) ∧ Below W.heap.size W w' := fun W => takeTruth_any c r W hlc
      go_enter Try.func30, Try.ntmps30
      go_wp2_with fail
      go_region
      go_wp2_with (go_at_call 40; go_must (refine (C0 _).mono ?_; rintro e w1 ⟨rfl, hbn⟩; obtain ⟨hc, hf⟩ := below_cells hbn; have hz2 : w.heap.size < w1.heap.size := (by have := hbn.size; (try simp at this); omega); have c0 : w1.cell? ⟨w.heap.size, 0, none⟩ = some (.int .i64 0) := (by go_cell); have c1 : w1.cell? ⟨w.heap.size, 1, none⟩ = some (.int .i64 0) := (by go_cell); have c2 : w1.cell? ⟨w.heap.size, 2, none⟩ = some (.string ⟨#[]⟩) := (by go_cell); clear hc))
      exact bodyPost_ret (v := takeA ⟨2, c.toNat, txt []⟩ r true) (by simp [takeA, vA, results, Try.results30, go_sem, c0, c1, c2] <;> rfl) rfl ⟨⟨_, _, _, rfl, taken_truth c (fun h => (keyD_bool c r).trans (if_pos h)) (fun h => (keyD_bool c r).trans (if_neg h)) rfl⟩, Below.setCell (Below.setCell (Below.setCell (below_through hbn (by simp) (by go_grown)) (by simp) _) (by simp) _) (by simp) _⟩
  by_cases b3 : b = 4
  · subst b3
    cases hu : unesc r with
    | none =>
      have C0 : ∀ W, Calls Try.prog 44 #[.string (txt r)] W fun e w' => e = .returned (.tuple #[.agg #[.int .i64 0, .int .i64 0, .string ⟨#[]⟩], .string ⟨#[]⟩, .bool false]) ∧ Below W.heap.size W w' := fun W => by
        have h := takeStopped_any r W hl
        rwa [stopA_none hu] at h
      go_enter Try.func30, Try.ntmps30
      go_wp2_with fail
      go_region
      go_wp2_with (go_at_call 44; go_must (refine (C0 _).mono ?_; rintro e w1 ⟨rfl, hbn⟩; obtain ⟨hc, hf⟩ := below_cells hbn; have hz2 : w.heap.size < w1.heap.size := (by have := hbn.size; (try simp at this); omega); have c0 : w1.cell? ⟨w.heap.size, 0, none⟩ = some (.int .i64 0) := (by go_cell); have c1 : w1.cell? ⟨w.heap.size, 1, none⟩ = some (.int .i64 0) := (by go_cell); have c2 : w1.cell? ⟨w.heap.size, 2, none⟩ = some (.string ⟨#[]⟩) := (by go_cell); clear hc))
      exact bodyPost_ret (v := takeA noV [] false) (by simp [takeA, vA, noV, results, Try.results30, go_sem, c0, c1, c2] <;> rfl) rfl ⟨⟨_, _, _, rfl, taken_not 0 0 [] (keyD_no hu)⟩, Below.setCell (Below.setCell (Below.setCell (below_through hbn (by simp) (by go_grown)) (by simp) _) (by simp) _) (by simp) _⟩
    | some x =>
      obtain ⟨t, m⟩ := x
      have C0 : ∀ W, Calls Try.prog 44 #[.string (txt r)] W fun e w' => e = .returned (.tuple #[.agg #[.int .i64 3, .int .i64 0, .string (txt t)], .string (txt (r.drop m)), .bool true]) ∧ Below W.heap.size W w' := fun W => by
        have h := takeStopped_any r W hl
        rwa [stopA_some hu] at h
      go_enter Try.func30, Try.ntmps30
      go_wp2_with fail
      go_region
      go_wp2_with (go_at_call 44; go_must (refine (C0 _).mono ?_; rintro e w1 ⟨rfl, hbn⟩; obtain ⟨hc, hf⟩ := below_cells hbn; have hz2 : w.heap.size < w1.heap.size := (by have := hbn.size; (try simp at this); omega); have c0 : w1.cell? ⟨w.heap.size, 0, none⟩ = some (.int .i64 0) := (by go_cell); have c1 : w1.cell? ⟨w.heap.size, 1, none⟩ = some (.int .i64 0) := (by go_cell); have c2 : w1.cell? ⟨w.heap.size, 2, none⟩ = some (.string ⟨#[]⟩) := (by go_cell); clear hc))
      exact bodyPost_ret (v := takeA ⟨3, 0, txt t⟩ (r.drop m) true) (by simp [takeA, vA, results, Try.results30, go_sem, c0, c1, c2] <;> rfl) rfl ⟨⟨_, _, _, rfl, taken_stopped hl hu⟩, Below.setCell (Below.setCell (Below.setCell (below_through hbn (by simp) (by go_grown)) (by simp) _) (by simp) _) (by simp) _⟩
  have hb0 : ¬ b.toNat = 1 := fun e => b0 (UInt8.toNat_inj.1 e)
  have hb1 : ¬ b.toNat = 2 := fun e => b1 (UInt8.toNat_inj.1 e)
  have hb2 : ¬ b.toNat = 3 := fun e => b2 (UInt8.toNat_inj.1 e)
  have hb3 : ¬ b.toNat = 4 := fun e => b3 (UInt8.toNat_inj.1 e)
  have hk0 : ¬ (b.toNat : Int) - 1 = 0 := by omega
  have hk1 : ¬ (b.toNat : Int) - 1 = 1 := by omega
  have hk2 : ¬ (b.toNat : Int) - 1 = 2 := by omega
  have hk3 : ¬ (b.toNat : Int) - 1 = 3 := by omega
  go_enter Try.func30, Try.ntmps30
  go_wp2_with fail
  go_region
  go_wp2
  exact bodyPost_ret (v := takeA noV [] false) (by simp [takeA, vA, noV, results, Try.results30, go_sem]; rfl) rfl ⟨⟨_, _, _, rfl, taken_not 0 0 [] (keyD_else r b0 b1 b2 b3)⟩, by go_grown⟩
end Go.Proofs.Ytblleknmofbhiaa
