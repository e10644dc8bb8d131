/- The project's lexer: one word: a contract of the call, in whatever memory. Conditions: the row of bytes isn't empty; what strconv.ErrRange holds is an error. -/
import Derived.Test.YtfjhkchkiacfpaaDoorNd
import Derived.Lib.IndexLaws
namespace Go.Proofs.YtfjhkchkiacfpaaDoor
open Go.RowKit

theorem isS_index (c : UInt8) : (0 ≤ Lib.indexByte [40, 41, 44, 46, 42, 43, 45, 61, 60, 62] c) ↔ isS c = true := by
  have hge := Lib.indexByte_ge [40, 41, 44, 46, 42, 43, 45, 61, 60, 62] c
  constructor
  · intro h
    obtain ⟨o, ho⟩ : ∃ o : Nat, Lib.indexByte [40, 41, 44, 46, 42, 43, 45, 61, 60, 62] c = o := ⟨_, (Int.toNat_of_nonneg h).symm⟩
    have := (Lib.indexByte_some ho).1
    unfold isS
    rw [List.contains_iff_mem]
    exact List.mem_of_getElem? this
  · intro h
    rcases Int.lt_or_le (Lib.indexByte [40, 41, 44, 46, 42, 43, 45, 61, 60, 62] c) 0 with h1 | h1
    · exfalso
      unfold isS at h
      rw [List.contains_iff_mem] at h
      obtain ⟨k, hk, e⟩ := List.mem_iff_getElem.1 h
      exact Lib.indexByte_none (l := [40, 41, 44, 46, 42, 43, 45, 61, 60, 62]) (c := c) (by omega) k (by rw [List.getElem?_eq_getElem hk, e])
    · exact h1
theorem num_is {c : UInt8} {r : List UInt8} (h : isL c = false) (h1 : isD c = true) : wordM (c :: r) = numW (c :: r) := by rw [word_num h h1]; rfl
theorem text_is {c : UInt8} {r : List UInt8} (h : isL c = false) (h1 : isD c = false) (h2 : c = 39) : wordM (c :: r) = txW r := by rw [word_text h h1 h2]; rfl

/-- What a call answers that makes a word. -/
structure WordAt (f : Nat) (l : List UInt8) (k : Nat) (s : List UInt8) (n p z : Nat) : Prop where
  out : ∀ W, ErAt W → Calls Tryd.prog f #[.string (txt l)] W fun e w' => e = .returned (.tuple #[.agg #[.int .i64 (k : Int), .string (txt s), .int .u64 (n : Int), .int .i64 (p : Int)], .int .i64 (z : Int)]) ∧ Below W.heap.size W w'

set_option maxHeartbeats 4000000 in
theorem lxWord_any (l : List UInt8) (w : World) (hl : l.length ≤ 2048) (hne : l ≠ []) (er : ErAt w) :
    Calls Tryd.prog 19 #[.string (txt l)] w fun e w' => e = .returned (.tuple #[wdV (wordM l).1, .int .i64 ((wordM l).2 : Nat)]) ∧ Below w.heap.size w w' := by
  match l, hne with
  | c :: r, _ =>
    have hsz : (txt (c :: r)).size = r.length + 1 := by rw [txt_size]; rfl
    have g0 : ∀ h, (txt (c :: r))[0]'h = c := fun h => rfl
    have ER := er.later ((Below.refl _ _).alloc (Nat.le_refl _) noCells)
    have HB0 := hid0 ((Below.refl w.heap.size w).alloc (Nat.le_refl _) noCells)
    have CL := fun W => lxLetter_any c W
    have CD := fun W => lxDigit_any c W
    have CI := fun W => Tryd.strings_IndexByte ⟨#[40, 41, 44, 46, 42, 43, 45, 61, 60, 62]⟩ (c.toNat : Int) W
    have e1 : ((c.toNat : Int).toNat.toUInt8) = c := by simp
    rw [e1] at CI
    have e2 : (⟨#[40, 41, 44, 46, 42, 43, 45, 61, 60, 62]⟩ : ByteArray).data.toList = [40, 41, 44, 46, 42, 43, 45, 61, 60, 62] := rfl
    rw [e2] at CI
    have hS := isS_index c
    have hge := Lib.indexByte_ge [40, 41, 44, 46, 42, 43, 45, 61, 60, 62] c
    obtain ⟨X, hX⟩ : ∃ X, Lib.indexByte [40, 41, 44, 46, 42, 43, 45, 61, 60, 62] c = X := ⟨_, rfl⟩
    rw [hX] at CI hS hge
    clear hX e1 e2
    rcases word_cases c with h | ⟨h, h1⟩ | ⟨h, h1, h2⟩ | ⟨h, h1, h2, h3⟩ | ⟨h, h1, h2, h3⟩
    · have HW0 : ∀ W, ErAt W → Calls Tryd.prog 24 #[.string (txt (c :: r))] W fun e w' => e = .returned (.tuple #[wdV (wordM (c :: r)).1, .int .i64 ((wordM (c :: r)).2 : Nat)]) ∧ Below W.heap.size W w' := fun W hE => by
        rw [word_name h]; exact lxName_any (c :: r) W (by unfold maxLen; omega)
      rw [h] at CL
      clear hS hge
      obtain ⟨⟨⟨k, s, n, p⟩, z⟩, hx⟩ : ∃ x, wordM (c :: r) = x := ⟨_, rfl⟩
      rw [hx] at HW0 ⊢
      have HW : WordAt 24 (c :: r) k s n p z := ⟨HW0⟩
      clear hx HW0
      go_enter Tryd.func19, Tryd.ntmps19
      go_wp2_with (first
        | (go_at_call 21; refine (CL _).mono ?_; rintro e w' ⟨rfl, rfl⟩)
        | (go_at_call 22; refine (CD _).mono ?_; rintro e w' ⟨rfl, rfl⟩)
        | (go_at_call 27; refine (CI _).mono ?_; rintro e w' ⟨rfl, rfl⟩)
        | (go_at_call 24; refine (HW.out _ ER).mono ?_; rintro e w' ⟨rfl, hb⟩; obtain ⟨r0, r1, r2, r3, rf⟩ := (NoAt.new w).later hb; have rf0 := rf 0; have hB2 := below_through hb (by simp) HB0.out)
        | fail)
      refine bodyPost_ret (v := .tuple #[wdV ⟨k, s, n, p⟩, .int .i64 (z : Int)]) (by simp [results, Tryd.results19, go_sem, wdV, r0, r1, r2, r3]; done) rfl ⟨rfl, (((hB2.setCell (Nat.le_refl _) _).setCell (Nat.le_refl _) _).setCell (Nat.le_refl _) _).setCell (Nat.le_refl _) _⟩
    · have HW0 : ∀ W, ErAt W → Calls Tryd.prog 25 #[.string (txt (c :: r))] W fun e w' => e = .returned (.tuple #[wdV (wordM (c :: r)).1, .int .i64 ((wordM (c :: r)).2 : Nat)]) ∧ Below W.heap.size W w' := fun W hE => by
        rw [num_is h h1]; exact lxNumber_any (c :: r) W (by omega) (by show 0 < (if isD c then cnt isD r + 1 else 0); rw [if_pos h1]; omega) hE
      rw [h] at CL
      rw [h1] at CD
      clear hS hge
      obtain ⟨⟨⟨k, s, n, p⟩, z⟩, hx⟩ : ∃ x, wordM (c :: r) = x := ⟨_, rfl⟩
      rw [hx] at HW0 ⊢
      have HW : WordAt 25 (c :: r) k s n p z := ⟨HW0⟩
      clear hx HW0
      go_enter Tryd.func19, Tryd.ntmps19
      go_wp2_with (first
        | (go_at_call 21; refine (CL _).mono ?_; rintro e w' ⟨rfl, rfl⟩)
        | (go_at_call 22; refine (CD _).mono ?_; rintro e w' ⟨rfl, rfl⟩)
        | (go_at_call 27; refine (CI _).mono ?_; rintro e w' ⟨rfl, rfl⟩)
        | (go_at_call 25; refine (HW.out _ ER).mono ?_; rintro e w' ⟨rfl, hb⟩; obtain ⟨r0, r1, r2, r3, rf⟩ := (NoAt.new w).later hb; have rf0 := rf 0; have hB2 := below_through hb (by simp) HB0.out)
        | fail)
      refine bodyPost_ret (v := .tuple #[wdV ⟨k, s, n, p⟩, .int .i64 (z : Int)]) (by simp [results, Tryd.results19, go_sem, wdV, r0, r1, r2, r3]; done) rfl ⟨rfl, (((hB2.setCell (Nat.le_refl _) _).setCell (Nat.le_refl _) _).setCell (Nat.le_refl _) _).setCell (Nat.le_refl _) _⟩
    · have HW0 : ∀ W, ErAt W → Calls Tryd.prog 26 #[.string (txt (c :: r))] W fun e w' => e = .returned (.tuple #[wdV (wordM (c :: r)).1, .int .i64 ((wordM (c :: r)).2 : Nat)]) ∧ Below W.heap.size W w' := fun W hE => by
        rw [text_is h h1 h2]; exact lxText_any c r W (by simp at hl; omega)
      rw [h] at CL
      rw [h1] at CD
      have hc39 : ((c.toNat : Int) == 39) = true := by rw [beq_iff_eq, h2]; rfl
      clear h2
      clear hS hge
      obtain ⟨⟨⟨k, s, n, p⟩, z⟩, hx⟩ : ∃ x, wordM (c :: r) = x := ⟨_, rfl⟩
      rw [hx] at HW0 ⊢
      have HW : WordAt 26 (c :: r) k s n p z := ⟨HW0⟩
      clear hx HW0
      go_enter Tryd.func19, Tryd.ntmps19
      go_wp2_with (first
        | (go_at_call 21; refine (CL _).mono ?_; rintro e w' ⟨rfl, rfl⟩)
        | (go_at_call 22; refine (CD _).mono ?_; rintro e w' ⟨rfl, rfl⟩)
        | (go_at_call 27; refine (CI _).mono ?_; rintro e w' ⟨rfl, rfl⟩)
        | (go_at_call 26; refine (HW.out _ ER).mono ?_; rintro e w' ⟨rfl, hb⟩; obtain ⟨r0, r1, r2, r3, rf⟩ := (NoAt.new w).later hb; have rf0 := rf 0; have hB2 := below_through hb (by simp) HB0.out)
        | fail)
      refine bodyPost_ret (v := .tuple #[wdV ⟨k, s, n, p⟩, .int .i64 (z : Int)]) (by simp [results, Tryd.results19, go_sem, wdV, r0, r1, r2, r3]; done) rfl ⟨rfl, (((hB2.setCell (Nat.le_refl _) _).setCell (Nat.le_refl _) _).setCell (Nat.le_refl _) _).setCell (Nat.le_refl _) _⟩
    · have HW0 : ∀ W, ErAt W → Calls Tryd.prog 28 #[.string (txt (c :: r))] W fun e w' => e = .returned (.tuple #[wdV (wordM (c :: r)).1, .int .i64 ((wordM (c :: r)).2 : Nat)]) ∧ Below W.heap.size W w' := fun W hE => by
        rw [word_sign h h1 h2 h3]; exact lxSign_any (c :: r) W hl (by simp)
      rw [h] at CL
      rw [h1] at CD
      have hc39 : ¬ (c.toNat : Int) = 39 := fun e => h2 (UInt8.toNat_inj.1 (show c.toNat = 39 by omega))
      have hX0 := hS.2 h3
      clear hS hge
      obtain ⟨⟨⟨k, s, n, p⟩, z⟩, hx⟩ : ∃ x, wordM (c :: r) = x := ⟨_, rfl⟩
      rw [hx] at HW0 ⊢
      have HW : WordAt 28 (c :: r) k s n p z := ⟨HW0⟩
      clear hx HW0
      go_enter Tryd.func19, Tryd.ntmps19
      go_wp2_with (first
        | (go_at_call 21; refine (CL _).mono ?_; rintro e w' ⟨rfl, rfl⟩)
        | (go_at_call 22; refine (CD _).mono ?_; rintro e w' ⟨rfl, rfl⟩)
        | (go_at_call 27; refine (CI _).mono ?_; rintro e w' ⟨rfl, rfl⟩)
        | (go_at_call 28; refine (HW.out _ ER).mono ?_; rintro e w' ⟨rfl, hb⟩; obtain ⟨r0, r1, r2, r3, rf⟩ := (NoAt.new w).later hb; have rf0 := rf 0; have hB2 := below_through hb (by simp) HB0.out)
        | fail)
      refine bodyPost_ret (v := .tuple #[wdV ⟨k, s, n, p⟩, .int .i64 (z : Int)]) (by simp [results, Tryd.results19, go_sem, wdV, r0, r1, r2, r3]; done) rfl ⟨rfl, (((hB2.setCell (Nat.le_refl _) _).setCell (Nat.le_refl _) _).setCell (Nat.le_refl _) _).setCell (Nat.le_refl _) _⟩
    · have hx := word_none (r := r) h h1 h2 h3
      rw [h] at CL
      rw [h1] at CD
      have hc39 : ¬ (c.toNat : Int) = 39 := fun e => h2 (UInt8.toNat_inj.1 (show c.toNat = 39 by omega))
      have hX0 : ¬ 0 ≤ X := fun e => by rw [hS.1 e] at h3; cases h3
      rw [hx]
      clear hS hge hx
      go_enter Tryd.func19, Tryd.ntmps19
      go_wp2_with (first
        | (go_at_call 21; refine (CL _).mono ?_; rintro e w' ⟨rfl, rfl⟩)
        | (go_at_call 22; refine (CD _).mono ?_; rintro e w' ⟨rfl, rfl⟩)
        | (go_at_call 27; refine (CI _).mono ?_; rintro e w' ⟨rfl, rfl⟩)
        | fail)
      exact bodyPost_ret (v := .tuple #[wdV noW, .int .i64 0]) (by simp [results, Tryd.results19, go_sem, wdV_no]; done) rfl ⟨rfl, by go_grown⟩
end Go.Proofs.YtfjhkchkiacfpaaDoor
