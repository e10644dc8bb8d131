/- Several of my texts laid together, each as it was: Uh. Conditions: each names its own. -/
import Derived.Test.YtneebnankghhgabYI
import Derived.Test.YtneebnankghhgabSuI
import Derived.Test.YtneebnankghhgabSsI
import Derived.Test.YtneebnankghhgabSw
import Derived.Test.YtneebnankghhgabUe
import Derived.BigQuiet
/- The document's example of layer 7. Conditions: none. -/
namespace Go.Proofs.Ytneebnankghhgab
open Go.RowKit

/-- The first letters, each with its place. -/
def abc (i : Nat) : List (Key × Int) := (List.range i).map fun j => ([UInt8.ofNat (97 + j)], (j : Int))
theorem abc_next : ∀ i : Fin 10, insA [UInt8.ofNat (97 + i.val)] (i.val : Int) (abc i.val) = abc (i.val + 1) := by decide +kernel
theorem abc_get : getA [100] (abc 10) = some 3 := by decide +kernel
theorem abc_keys : ((flt [99] [102] (abc 10)).map (·.1)).length = 3 := by decide +kernel
theorem abc_len (i : Nat) : (abc i).length = i := by simp [abc]
theorem root_low {β : Type} {least most : Nat} (hl : 1 ≤ least) : ∀ {n : Nat} {t : Tr β n}, Wf least most n (min n 1) most none none t → n = 0 ∨ (least + 1) ^ n ≤ (flat n t).length
  | 0, _, _ => .inl rfl
  | n + 1, t, h => by
    right
    have hk := ch_len h.2.2.2
    have ha := ch_all (R := fun c => least * (least + 1) ^ n ≤ (flat n c).length) (fun _ _ _ hc => wf_low hc) h.2.2.2
    have h0 : t.2.length * (least * (least + 1) ^ n) ≤ (t.2.flatMap (flat n)).length := by
      generalize t.2 = cs at ha
      clear hk h
      induction cs with
      | nil => simp
      | cons c cs ih =>
        have h1 := ha c (by simp)
        have h2 := ih (fun x hx => ha x (by simp [hx]))
        rw [List.length_cons, List.flatMap_cons, List.length_append, Nat.succ_mul]; omega
    show _ ≤ (t.2.flatMap (flat n)).length
    refine Nat.le_trans ?_ h0
    have h1 := h.2.1
    have h2 : 2 ≤ t.2.length := by omega
    refine Nat.le_trans ?_ (Nat.mul_le_mul_right _ h2)
    rw [Nat.pow_succ, Nat.mul_comm, ← Nat.mul_assoc]
    exact Nat.mul_le_mul_right _ (by omega)
theorem root_few {β : Type} {o n : Nat} {t : Tr β n} (ho : 3 ≤ o) (h : Wf (o / 2) o n (min n 1) o none none t) (hl : (flat n t).length ≤ 400) : n ≤ 8 := by
  rcases root_low (by omega) h with h | h
  · omega
  · by_cases hn : n ≤ 8
    · exact hn
    · exfalso
      have h1 : 2 ^ 9 ≤ 2 ^ n := Nat.pow_le_pow_right (by omega) (by omega)
      have h2 : 2 ^ n ≤ (o / 2 + 1) ^ n := Nat.pow_le_pow_left (by omega) n
      omega
theorem letter_back (W : World) (B : Nat) (x : UInt8) (h : W.cell? ⟨B, 0, none⟩ = some (.int .u8 (x.toNat : Int))) : (convert 58 9 (.slice (some ⟨B, 0, none⟩) 1 1)).run Try.prog W = .ok (.string (txt [x])) W := by
  refine run_convert_bytes_back (P := Try.prog) W 58 9 5 ⟨B, 0, none⟩ 1 [x] Try.underlying58 Try.underlying5 Try.underlying9 (fun j hj => ?_)
  obtain rfl : j = 0 := by simpa using hj
  rw [WideShapes.add_plain]
  exact h
set_option maxRecDepth 100000 in
set_option maxHeartbeats 4000000 in
theorem awakeT_any (w : World) : Calls Try.prog 5 #[] w fun e w' => e = .returned (.bool true) ∧ Below w.heap.size w w' := by
  go_enter Try.func5, Try.ntmps5
  go_wp2_with fail
  refine (newI_yes 3 w (by omega) (by omega)).mono ?_
  rintro e w1 ⟨rfl, hT0, hb1, hs1⟩
  have hT := hT0 (fun b => b ≠ w.heap.size + 1) (by omega) (fun h => h rfl)
  obtain ⟨tb, htb⟩ : ∃ tb, w.heap.size + 1 = tb := ⟨_, rfl⟩
  have hlo : w.heap.size ≤ tb := by omega
  rw [htb] at hT ⊢
  have HT := hid0 (And.intro hT hb1)
  clear hT0 hT hb1 hs1 htb
  go_wp2_with fail
  go_loopw [3] (fun iv wr => ∃ i : Nat, i ≤ 10 ∧ iv = .int .i64 i ∧ Hid (TAI (fun b => b ≠ tb) wr tb 3 (abc i) ∧ Below w.heap.size w wr)) (fun iv _ => 10 - (intOf iv).toNat)
  case atStart => exact ⟨0, by omega, rfl, HT⟩
  case round =>
    obtain ⟨i, hi, rfl, hR⟩ := hrel
    by_cases hlt : i < 10
    · have hnx := abc_next ⟨i, hlt⟩
      simp only at hnx
      have hcase : i = 0 ∨ i = 1 ∨ i = 2 ∨ i = 3 ∨ i = 4 ∨ i = 5 ∨ i = 6 ∨ i = 7 ∨ i = 8 ∨ i = 9 := by omega
      clear hnx hlt hi
      have htl := hR.out.1.lt
      rcases hcase with rfl | rfl | rfl | rfl | rfl | rfl | rfl | rfl | rfl | rfl
      · have hcv := letter_back (wr.alloc (.cells #[.int .u8 97] 5)) wr.heap.size 97 (by go_cell)
        have HX := hid0 (show insA [97] ((0 : Nat) : Int) (abc 0) = abc 1 by decide +kernel)
        go_wp2_with (first
          | (go_at_call 21; refine (putIT_any (fun b => b ≠ tb) tb 3 (abc 0) [97] ((0 : Nat) : Int) _ (hR.out.1.later ((Below.refl _ _).alloc (Nat.le_refl _) _)) (by rw [abc_len]; omega) (fun q hq e => by simp at hq; omega)).mono ?_; rintro e w3 ⟨rfl, hA, hTu⟩)
          | fail)
        exact ⟨⟨1, by omega, by go_num, hid0 ⟨by rw [← HX.out]; exact hA, below_turn (hR.out.2.trans (((Below.refl wr.heap.size wr).alloc (Nat.le_refl _) _).mono hR.out.2.size)) hTu hlo⟩⟩, by simp [intOf]⟩
      · have hcv := letter_back (wr.alloc (.cells #[.int .u8 98] 5)) wr.heap.size 98 (by go_cell)
        have HX := hid0 (show insA [98] ((1 : Nat) : Int) (abc 1) = abc 2 by decide +kernel)
        go_wp2_with (first
          | (go_at_call 21; refine (putIT_any (fun b => b ≠ tb) tb 3 (abc 1) [98] ((1 : Nat) : Int) _ (hR.out.1.later ((Below.refl _ _).alloc (Nat.le_refl _) _)) (by rw [abc_len]; omega) (fun q hq e => by simp at hq; omega)).mono ?_; rintro e w3 ⟨rfl, hA, hTu⟩)
          | fail)
        exact ⟨⟨2, by omega, by go_num, hid0 ⟨by rw [← HX.out]; exact hA, below_turn (hR.out.2.trans (((Below.refl wr.heap.size wr).alloc (Nat.le_refl _) _).mono hR.out.2.size)) hTu hlo⟩⟩, by simp [intOf]⟩
      · have hcv := letter_back (wr.alloc (.cells #[.int .u8 99] 5)) wr.heap.size 99 (by go_cell)
        have HX := hid0 (show insA [99] ((2 : Nat) : Int) (abc 2) = abc 3 by decide +kernel)
        go_wp2_with (first
          | (go_at_call 21; refine (putIT_any (fun b => b ≠ tb) tb 3 (abc 2) [99] ((2 : Nat) : Int) _ (hR.out.1.later ((Below.refl _ _).alloc (Nat.le_refl _) _)) (by rw [abc_len]; omega) (fun q hq e => by simp at hq; omega)).mono ?_; rintro e w3 ⟨rfl, hA, hTu⟩)
          | fail)
        exact ⟨⟨3, by omega, by go_num, hid0 ⟨by rw [← HX.out]; exact hA, below_turn (hR.out.2.trans (((Below.refl wr.heap.size wr).alloc (Nat.le_refl _) _).mono hR.out.2.size)) hTu hlo⟩⟩, by simp [intOf]⟩
      · have hcv := letter_back (wr.alloc (.cells #[.int .u8 100] 5)) wr.heap.size 100 (by go_cell)
        have HX := hid0 (show insA [100] ((3 : Nat) : Int) (abc 3) = abc 4 by decide +kernel)
        go_wp2_with (first
          | (go_at_call 21; refine (putIT_any (fun b => b ≠ tb) tb 3 (abc 3) [100] ((3 : Nat) : Int) _ (hR.out.1.later ((Below.refl _ _).alloc (Nat.le_refl _) _)) (by rw [abc_len]; omega) (fun q hq e => by simp at hq; omega)).mono ?_; rintro e w3 ⟨rfl, hA, hTu⟩)
          | fail)
        exact ⟨⟨4, by omega, by go_num, hid0 ⟨by rw [← HX.out]; exact hA, below_turn (hR.out.2.trans (((Below.refl wr.heap.size wr).alloc (Nat.le_refl _) _).mono hR.out.2.size)) hTu hlo⟩⟩, by simp [intOf]⟩
      · have hcv := letter_back (wr.alloc (.cells #[.int .u8 101] 5)) wr.heap.size 101 (by go_cell)
        have HX := hid0 (show insA [101] ((4 : Nat) : Int) (abc 4) = abc 5 by decide +kernel)
        go_wp2_with (first
          | (go_at_call 21; refine (putIT_any (fun b => b ≠ tb) tb 3 (abc 4) [101] ((4 : Nat) : Int) _ (hR.out.1.later ((Below.refl _ _).alloc (Nat.le_refl _) _)) (by rw [abc_len]; omega) (fun q hq e => by simp at hq; omega)).mono ?_; rintro e w3 ⟨rfl, hA, hTu⟩)
          | fail)
        exact ⟨⟨5, by omega, by go_num, hid0 ⟨by rw [← HX.out]; exact hA, below_turn (hR.out.2.trans (((Below.refl wr.heap.size wr).alloc (Nat.le_refl _) _).mono hR.out.2.size)) hTu hlo⟩⟩, by simp [intOf]⟩
      · have hcv := letter_back (wr.alloc (.cells #[.int .u8 102] 5)) wr.heap.size 102 (by go_cell)
        have HX := hid0 (show insA [102] ((5 : Nat) : Int) (abc 5) = abc 6 by decide +kernel)
        go_wp2_with (first
          | (go_at_call 21; refine (putIT_any (fun b => b ≠ tb) tb 3 (abc 5) [102] ((5 : Nat) : Int) _ (hR.out.1.later ((Below.refl _ _).alloc (Nat.le_refl _) _)) (by rw [abc_len]; omega) (fun q hq e => by simp at hq; omega)).mono ?_; rintro e w3 ⟨rfl, hA, hTu⟩)
          | fail)
        exact ⟨⟨6, by omega, by go_num, hid0 ⟨by rw [← HX.out]; exact hA, below_turn (hR.out.2.trans (((Below.refl wr.heap.size wr).alloc (Nat.le_refl _) _).mono hR.out.2.size)) hTu hlo⟩⟩, by simp [intOf]⟩
      · have hcv := letter_back (wr.alloc (.cells #[.int .u8 103] 5)) wr.heap.size 103 (by go_cell)
        have HX := hid0 (show insA [103] ((6 : Nat) : Int) (abc 6) = abc 7 by decide +kernel)
        go_wp2_with (first
          | (go_at_call 21; refine (putIT_any (fun b => b ≠ tb) tb 3 (abc 6) [103] ((6 : Nat) : Int) _ (hR.out.1.later ((Below.refl _ _).alloc (Nat.le_refl _) _)) (by rw [abc_len]; omega) (fun q hq e => by simp at hq; omega)).mono ?_; rintro e w3 ⟨rfl, hA, hTu⟩)
          | fail)
        exact ⟨⟨7, by omega, by go_num, hid0 ⟨by rw [← HX.out]; exact hA, below_turn (hR.out.2.trans (((Below.refl wr.heap.size wr).alloc (Nat.le_refl _) _).mono hR.out.2.size)) hTu hlo⟩⟩, by simp [intOf]⟩
      · have hcv := letter_back (wr.alloc (.cells #[.int .u8 104] 5)) wr.heap.size 104 (by go_cell)
        have HX := hid0 (show insA [104] ((7 : Nat) : Int) (abc 7) = abc 8 by decide +kernel)
        go_wp2_with (first
          | (go_at_call 21; refine (putIT_any (fun b => b ≠ tb) tb 3 (abc 7) [104] ((7 : Nat) : Int) _ (hR.out.1.later ((Below.refl _ _).alloc (Nat.le_refl _) _)) (by rw [abc_len]; omega) (fun q hq e => by simp at hq; omega)).mono ?_; rintro e w3 ⟨rfl, hA, hTu⟩)
          | fail)
        exact ⟨⟨8, by omega, by go_num, hid0 ⟨by rw [← HX.out]; exact hA, below_turn (hR.out.2.trans (((Below.refl wr.heap.size wr).alloc (Nat.le_refl _) _).mono hR.out.2.size)) hTu hlo⟩⟩, by simp [intOf]⟩
      · have hcv := letter_back (wr.alloc (.cells #[.int .u8 105] 5)) wr.heap.size 105 (by go_cell)
        have HX := hid0 (show insA [105] ((8 : Nat) : Int) (abc 8) = abc 9 by decide +kernel)
        go_wp2_with (first
          | (go_at_call 21; refine (putIT_any (fun b => b ≠ tb) tb 3 (abc 8) [105] ((8 : Nat) : Int) _ (hR.out.1.later ((Below.refl _ _).alloc (Nat.le_refl _) _)) (by rw [abc_len]; omega) (fun q hq e => by simp at hq; omega)).mono ?_; rintro e w3 ⟨rfl, hA, hTu⟩)
          | fail)
        exact ⟨⟨9, by omega, by go_num, hid0 ⟨by rw [← HX.out]; exact hA, below_turn (hR.out.2.trans (((Below.refl wr.heap.size wr).alloc (Nat.le_refl _) _).mono hR.out.2.size)) hTu hlo⟩⟩, by simp [intOf]⟩
      · have hcv := letter_back (wr.alloc (.cells #[.int .u8 106] 5)) wr.heap.size 106 (by go_cell)
        have HX := hid0 (show insA [106] ((9 : Nat) : Int) (abc 9) = abc 10 by decide +kernel)
        go_wp2_with (first
          | (go_at_call 21; refine (putIT_any (fun b => b ≠ tb) tb 3 (abc 9) [106] ((9 : Nat) : Int) _ (hR.out.1.later ((Below.refl _ _).alloc (Nat.le_refl _) _)) (by rw [abc_len]; omega) (fun q hq e => by simp at hq; omega)).mono ?_; rintro e w3 ⟨rfl, hA, hTu⟩)
          | fail)
        exact ⟨⟨10, by omega, by go_num, hid0 ⟨by rw [← HX.out]; exact hA, below_turn (hR.out.2.trans (((Below.refl wr.heap.size wr).alloc (Nat.le_refl _) _).mono hR.out.2.size)) hTu hlo⟩⟩, by simp [intOf]⟩
    · obtain rfl : i = 10 := by omega
      obtain ⟨hT, hB⟩ := hR.out
      have CG : ∀ W, TAI (fun b => b ≠ tb) W tb 3 (abc 10) → Calls Try.prog 13 #[.pointer (some ⟨tb, 0, none⟩), .string (txt [100])] W fun e w' => e = .returned (.tuple #[.int .i64 3, .bool true]) ∧ Below W.heap.size W w' := fun W h => by
        have hg := getI_any _ tb 3 (abc 10) [100] W h
        rw [abc_get] at hg
        exact hg
      have CL : ∀ W, TAI (fun b => b ≠ tb) W tb 3 (abc 10) → Calls Try.prog 26 #[.pointer (some ⟨tb, 0, none⟩)] W fun e w' => e = .returned (.int .i64 10) ∧ W = w' := fun W h => by
        have hg := lenI_any _ tb 3 (abc 10) W h
        rw [abc_len] at hg
        exact hg
      have CK : ∀ W, TAI (fun b => b ≠ tb) W tb 3 (abc 10) → Calls Try.prog 12 #[.pointer (some ⟨tb, 0, none⟩), .string (txt [99]), .string (txt [102])] W fun e w' => (∃ a c, e = .returned (.slice a 3 c)) ∧ Below W.heap.size W w' := fun W h => by
        refine (keysI_any _ tb 3 (abc 10) [99] [102] W h (by rw [abc_len]; omega)).mono ?_
        rintro e w' ⟨⟨v, rfl, hs⟩, hb⟩
        obtain ⟨a, c, rfl, _⟩ := hs.out
        rw [abc_keys]
        exact ⟨⟨_, _, rfl⟩, hb⟩
      have CD : ∀ W, TAI (fun b => b ≠ tb) W tb 3 (abc 10) → ∃ n : Nat, 1 ≤ n ∧ n ≤ 8 ∧ Calls Try.prog 28 #[.pointer (some ⟨tb, 0, none⟩)] W fun e w' => e = .returned (.int .i64 ((n : Int) + 1)) ∧ W = w' := fun W h => by
        obtain ⟨n, t, hw, hf, hc⟩ := depthI_any _ tb 3 (abc 10) W h
        have h8 : n ≤ 8 := root_few (by omega) hw (by rw [hf, abc_len]; omega)
        refine ⟨n, ?_, h8, hc (by omega)⟩
        rcases Nat.eq_zero_or_pos n with rfl | h0
        · exfalso
          have h3 := hw.2.2.1
          have h4 : List.length (α := Key × Int) t = 10 := by rw [← abc_len 10, ← hf]; rfl
          omega
        · exact h0
      have HC := hid0 (And.intro CG (And.intro CL (And.intro CK CD)))
      have HT := hid0 hT
      have HBB := hid0 hB
      clear CG CL CK CD hR hT hB
      go_wp2_with (first
        | (go_at_call 13; refine (HC.out.1 _ HT.out).mono ?_; rintro e w3 ⟨rfl, hb3⟩; have HT3 := hid0 (HT.out.later hb3); have HB3 := hid0 (HBB.out.trans (hb3.mono HBB.out.size)); clear hb3)
        | (go_at_call 26; refine (HC.out.2.1 _ HT3.out).mono ?_; rintro e w' ⟨rfl, rfl⟩)
        | (go_at_call 12; refine (HC.out.2.2.1 _ HT3.out).mono ?_; rintro e w4 ⟨⟨a4, c4, rfl⟩, hb4⟩; have HT4 := hid0 (HT3.out.later hb4); have HB4 := hid0 (HB3.out.trans (hb4.mono HB3.out.size)); clear hb4)
        | (go_at_call 28; obtain ⟨nd, hd1, hd8, hcd⟩ := HC.out.2.2.2 _ HT4.out; refine hcd.mono ?_; rintro e w' ⟨rfl, rfl⟩; have hdi : (1 : Int) < (nd : Int) + 1 := by omega)
        | fail)
      go_ret
      exact ⟨rfl, HB4.out⟩
end Go.Proofs.Ytneebnankghhgab
