/- Several of my texts laid together, each as it was: Mc, Rf, Qi, Qj, Qk. Conditions: each names its own. -/
import Derived.Test.YtneebnankghhgaaGA
import Derived.Deep.RegionHeld3
import Derived.Laws.IdiomStrings
import Derived.Laws.Strings2
import Derived.Test.YtneebnankghhgaaGB
import Derived.BigQuiet
/- A row's key, plainly: it is read back as it was written; keys stand to one another, byte by byte, as their rows do. Nothing of any program here. Conditions: each lemma names its own. -/
namespace Go.Proofs.Ytneebnankghhgaa
open Go.RowKit

/-! ### A text's bytes in a key -/
def esc : List UInt8 → List UInt8
  | [] => []
  | b :: t => if b = 0 then 0 :: 255 :: esc t else b :: esc t
def unesc : List UInt8 → Option (List UInt8 × Nat)
  | [] => none
  | [_] => none
  | a :: b :: r =>
    if a ≠ 0 then (unesc (b :: r)).map (fun x => (a :: x.1, x.2 + 1))
    else if b = 0 then some ([], 2)
    else if b = 255 then (unesc r).map (fun x => (0 :: x.1, x.2 + 2))
    else none
theorem esc_zero (t : List UInt8) : esc (0 :: t) = 0 :: 255 :: esc t := rfl
theorem esc_more {b : UInt8} (t : List UInt8) (h : b ≠ 0) : esc (b :: t) = b :: esc t := by simp [esc, h]
theorem unesc_more {a : UInt8} {l : List UInt8} (h : a ≠ 0) : unesc (a :: l) = (unesc l).map (fun x => (a :: x.1, x.2 + 1)) := by
  cases l with
  | nil => rfl
  | cons b r => rw [unesc, if_pos h]
theorem unesc_end (r : List UInt8) : unesc (0 :: 0 :: r) = some ([], 2) := by simp [unesc]
theorem unesc_zero (r : List UInt8) : unesc (0 :: 255 :: r) = (unesc r).map (fun x => (0 :: x.1, x.2 + 2)) := by simp [unesc]
theorem unesc_bad {b : UInt8} (r : List UInt8) (h0 : b ≠ 0) (h1 : b ≠ 255) : unesc (0 :: b :: r) = none := by simp [unesc, h0, h1]
theorem unesc_one (a : UInt8) : unesc [a] = none := rfl
theorem unesc_esc : ∀ (t r : List UInt8), unesc (esc t ++ 0 :: 0 :: r) = some (t, (esc t).length + 2)
  | [], r => by simp [esc, unesc_end]
  | b :: t, r => by
    by_cases h : b = 0
    · subst h
      rw [esc_zero, List.cons_append, List.cons_append, unesc_zero, unesc_esc t r]; rfl
    · rw [esc_more t h, List.cons_append, unesc_more h, unesc_esc t r]; simp
theorem esc_unesc : ∀ (n : Nat) (s t : List UInt8) (m : Nat), s.length ≤ n → unesc s = some (t, m) → s = esc t ++ 0 :: 0 :: s.drop m ∧ m = (esc t).length + 2 := by
  intro n
  induction n with
  | zero =>
    intro s t m hl h
    rw [List.length_eq_zero_iff.1 (Nat.le_zero.1 hl)] at h
    cases h
  | succ n ih =>
    intro s t m hl h
    cases s with
    | nil => cases h
    | cons a l =>
      by_cases ha : a = 0
      · subst ha
        cases l with
        | nil => cases h
        | cons b r =>
          by_cases hb : b = 0
          · subst hb
            rw [unesc_end] at h
            obtain ⟨rfl, rfl⟩ := Prod.mk.inj (Option.some.inj h)
            exact ⟨rfl, rfl⟩
          by_cases hf : b = 255
          · subst hf
            rw [unesc_zero] at h
            obtain ⟨⟨t', m'⟩, h', e⟩ := Option.map_eq_some_iff.1 h
            dsimp only at e
            obtain ⟨rfl, rfl⟩ := Prod.mk.inj e
            obtain ⟨e1, e2⟩ := ih r t' m' (by simp at hl; omega) h'
            refine ⟨?_, by rw [esc_zero, List.length_cons, List.length_cons]; omega⟩
            rw [esc_zero, List.cons_append, List.cons_append, List.drop_succ_cons, List.drop_succ_cons, ← e1]
          · rw [unesc_bad r hb hf] at h; cases h
      · rw [unesc_more ha] at h
        obtain ⟨⟨t', m'⟩, h', e⟩ := Option.map_eq_some_iff.1 h
        dsimp only at e
        obtain ⟨rfl, rfl⟩ := Prod.mk.inj e
        obtain ⟨e1, e2⟩ := ih l t' m' (by simp at hl; omega) h'
        refine ⟨?_, by rw [esc_more _ ha, List.length_cons]; omega⟩
        rw [esc_more _ ha, List.cons_append, List.drop_succ_cons, ← e1]
theorem esc_len : ∀ t, (esc t).length ≤ 2 * t.length
  | [] => Nat.le_refl _
  | b :: t => by
    have := esc_len t
    by_cases h : b = 0
    · subst h; rw [esc_zero]; simp; omega
    · rw [esc_more t h]; simp; omega
theorem u8_pos {b : UInt8} (h : b ≠ 0) : (0 : UInt8).toNat < b.toNat := by
  show 0 < b.toNat
  rcases Nat.eq_zero_or_pos b.toNat with e | e
  · exact absurd (UInt8.toNat_inj.1 (by rw [e]; rfl)) h
  · exact e
theorem u8_low (b : UInt8) : ¬ b.toNat < (0 : UInt8).toNat := by show ¬ b.toNat < 0; omega
theorem esc_order : ∀ (s t r r' : List UInt8), Lib.compareBytes (esc s ++ 0 :: 0 :: r) (esc t ++ 0 :: 0 :: r') = if s = t then Lib.compareBytes r r' else Lib.compareBytes s t
  | [], [], r, r' => by rw [if_pos rfl]; simp [esc, bytes_cons_same]
  | [], b :: t, r, r' => by
    rw [if_neg (by simp)]
    by_cases h : b = 0
    · subst h
      rw [esc_zero]
      show Lib.compareBytes (0 :: 0 :: r) (0 :: 255 :: (esc t ++ 0 :: 0 :: r')) = -1
      rw [bytes_cons_same, bytes_cons, if_pos (by decide)]
    · rw [esc_more t h]
      show Lib.compareBytes (0 :: 0 :: r) (b :: (esc t ++ 0 :: 0 :: r')) = -1
      rw [bytes_cons, if_pos (u8_pos h)]
  | b :: s, [], r, r' => by
    rw [if_neg (by simp)]
    by_cases h : b = 0
    · subst h
      rw [esc_zero]
      show Lib.compareBytes (0 :: 255 :: (esc s ++ 0 :: 0 :: r)) (0 :: 0 :: r') = 1
      rw [bytes_cons_same, bytes_cons, if_neg (by decide), if_pos (by decide)]
    · rw [esc_more s h]
      show Lib.compareBytes (b :: (esc s ++ 0 :: 0 :: r)) (0 :: 0 :: r') = 1
      have := u8_pos h
      rw [bytes_cons, if_neg (u8_low b), if_pos this]
  | b :: s, c :: t, r, r' => by
    have ih := esc_order s t r r'
    by_cases hb : b = 0
    · subst hb
      by_cases hc : c = 0
      · subst hc
        rw [esc_zero, esc_zero, List.cons_append, List.cons_append, List.cons_append, List.cons_append, bytes_cons_same, bytes_cons_same, ih, bytes_cons_same]
        simp
      · rw [esc_zero, esc_more t hc, List.cons_append, List.cons_append, List.cons_append, bytes_cons, if_pos (u8_pos hc), if_neg (by simp; intro e; exact absurd e.symm hc), bytes_cons, if_pos (u8_pos hc)]
    · by_cases hc : c = 0
      · subst hc
        have := u8_pos hb
        rw [esc_zero, esc_more s hb, List.cons_append, List.cons_append, List.cons_append, bytes_cons, if_neg (u8_low b), if_pos this, if_neg (by simp [hb]), bytes_cons, if_neg (u8_low b), if_pos this]
      · rw [esc_more s hb, esc_more t hc, List.cons_append, List.cons_append, bytes_cons, bytes_cons, ih]
        by_cases h1 : b.toNat < c.toNat
        · rw [if_pos h1, if_neg (by simp; intro e; subst e; omega), if_pos h1]
        · rw [if_neg h1]
          by_cases h2 : c.toNat < b.toNat
          · rw [if_pos h2, if_neg (by simp; intro e; subst e; omega), if_neg h1, if_pos h2]
          · obtain rfl : b = c := UInt8.toNat_inj.1 (by omega)
            rw [if_neg h2, if_neg h1, if_neg h2]
            simp

/-! ### A row's key -/
def high (n : Int) : Nat := (n + 9223372036854775808).toNat
def low (u : Nat) : Int := (u : Int) - 9223372036854775808
def keyB (v : Val) : List UInt8 :=
  if v.k = 1 then 2 :: encBE 8 (high v.n) else if v.k = 2 then [3, UInt8.ofNat v.n.toNat] else if v.k = 3 then 4 :: (esc v.s.data.toList ++ [0, 0]) else [1]
def keyD : List UInt8 → Option (Val × Nat)
  | [] => none
  | b :: r =>
    if b = 1 then some (noV, 1)
    else if b = 2 then (if 8 ≤ r.length then some (⟨1, low (decBE (r.take 8)), txt []⟩, 9) else none)
    else if b = 3 then (match r with | [] => none | c :: _ => if c.toNat ≤ 1 then some (⟨2, c.toNat, txt []⟩, 2) else none)
    else if b = 4 then (match unesc r with | none => none | some (t, m) => if t.length ≤ 64 then some (⟨3, 0, txt t⟩, m + 1) else none)
    else none
theorem keyB_none : keyB noV = [1] := rfl
theorem keyB_int (n : Int) : keyB ⟨1, n, txt []⟩ = 2 :: encBE 8 (high n) := rfl
theorem keyB_bool (n : Int) : keyB ⟨2, n, txt []⟩ = [3, UInt8.ofNat n.toNat] := rfl
theorem keyB_text (l : List UInt8) : keyB ⟨3, 0, txt l⟩ = 4 :: (esc l ++ [0, 0]) := rfl
theorem keyD_none (r : List UInt8) : keyD (1 :: r) = some (noV, 1) := rfl
theorem keyD_int (r : List UInt8) : keyD (2 :: r) = if 8 ≤ r.length then some (⟨1, low (decBE (r.take 8)), txt []⟩, 9) else none := rfl
theorem keyD_bool (c : UInt8) (r : List UInt8) : keyD (3 :: c :: r) = if c.toNat ≤ 1 then some (⟨2, c.toNat, txt []⟩, 2) else none := rfl
theorem keyD_text {r t : List UInt8} {m : Nat} (h : unesc r = some (t, m)) : keyD (4 :: r) = if t.length ≤ 64 then some (⟨3, 0, txt t⟩, m + 1) else none := by
  show (match unesc r with | none => none | some (t, m) => if t.length ≤ 64 then some (⟨3, 0, txt t⟩, m + 1) else none : Option (Val × Nat)) = _
  rw [h]
theorem keyD_no {r : List UInt8} (h : unesc r = none) : keyD (4 :: r) = none := by
  show (match unesc r with | none => none | some (t, m) => if t.length ≤ 64 then some (⟨3, 0, txt t⟩, m + 1) else none : Option (Val × Nat)) = _
  rw [h]
theorem keyD_else {b : UInt8} (r : List UInt8) (h0 : b ≠ 1) (h1 : b ≠ 2) (h2 : b ≠ 3) (h3 : b ≠ 4) : keyD (b :: r) = none := by
  simp [keyD, h0, h1, h2, h3]
theorem high_lt {n : Int} (h2 : n ≤ 9223372036854775807) : high n < 256 ^ 8 := by unfold high; rw [pow8]; omega
theorem low_high {n : Int} (h1 : -9223372036854775808 ≤ n) : low (high n) = n := by unfold low high; omega
theorem high_low (u : Nat) : high (low u) = u := by unfold low high; omega
theorem low_in {u : Nat} (h : u < 256 ^ 8) : -9223372036854775808 ≤ low u ∧ low u ≤ 9223372036854775807 := by unfold low; rw [pow8] at h; omega

theorem keyCoded : Coded keyB keyD := {
  there := fun v h r => by
    rcases okV_cases h with rfl | ⟨n, rfl, h1, h2⟩ | ⟨n, rfl, hn⟩ | ⟨l, rfl, hl⟩
    · rfl
    · rw [keyB_int, List.cons_append, keyD_int, if_pos (by rw [List.length_append, encBE_len]; omega), List.take_left' (encBE_len 8 _), decBE_encBE 8 _ (high_lt h2), low_high h1, List.length_cons, encBE_len]
    · rw [keyB_bool]
      rcases hn with rfl | rfl <;> rfl
    · rw [keyB_text, List.cons_append, List.append_assoc]
      show keyD (4 :: (esc l ++ 0 :: 0 :: r)) = _
      rw [keyD_text (unesc_esc l r), if_pos hl]
      simp
  back := fun s v m h => by
    cases s with
    | nil => cases h
    | cons b r =>
      by_cases b0 : b = 1
      · subst b0
        rw [keyD_none] at h
        obtain ⟨rfl, rfl⟩ := Prod.mk.inj (Option.some.inj h)
        exact ⟨ok_none, rfl, rfl⟩
      by_cases b1 : b = 2
      · subst b1
        rw [keyD_int] at h
        split at h
        · rename_i h8
          obtain ⟨rfl, rfl⟩ := Prod.mk.inj (Option.some.inj h)
          have hl : (r.take 8).length = 8 := by rw [List.length_take]; omega
          have hlt := decBE_lt (r.take 8)
          rw [hl] at hlt
          have hs := low_in hlt
          refine ⟨ok_int hs.1 hs.2, ?_, by rw [keyB_int, List.length_cons, encBE_len]⟩
          rw [keyB_int, high_low, encBE_decBE_of _ 8 hl, List.cons_append, List.drop_succ_cons, List.take_append_drop]
        · cases h
      by_cases b2 : b = 3
      · subst b2
        cases r with
        | nil => cases h
        | cons c r =>
          rw [keyD_bool] at h
          split at h
          · rename_i hc
            obtain ⟨rfl, rfl⟩ := Prod.mk.inj (Option.some.inj h)
            refine ⟨ok_bool (by omega), ?_, rfl⟩
            rw [keyB_bool]
            show 3 :: c :: r = 3 :: UInt8.ofNat _ :: r
            rw [Int.toNat_natCast, UInt8.ofNat_toNat]
          · cases h
      by_cases b3 : b = 4
      · subst b3
        cases hu : unesc r with
        | none => rw [keyD_no hu] at h; cases h
        | some x =>
          obtain ⟨t, m'⟩ := x
          rw [keyD_text hu] at h
          split at h
          · rename_i hl
            obtain ⟨rfl, rfl⟩ := Prod.mk.inj (Option.some.inj h)
            obtain ⟨e1, e2⟩ := esc_unesc r.length r t m' (Nat.le_refl _) hu
            refine ⟨ok_text hl, ?_, by rw [keyB_text]; simp; omega⟩
            rw [keyB_text, List.drop_succ_cons, List.cons_append, List.append_assoc]
            show 4 :: r = 4 :: (esc t ++ 0 :: 0 :: r.drop m')
            rw [← e1]
          · cases h
      rw [keyD_else r b0 b1 b2 b3] at h; cases h
  pos := fun v => by
    unfold keyB
    repeat' split
    all_goals simp }

/-! ### The order of keys -/
theorem key_less {x y : Val} {a b : UInt8} {s t : List UInt8} (r r' : List UInt8) (hx : keyB x = a :: s) (hy : keyB y = b :: t) (h : a.toNat < b.toNat) (hk : x.k < y.k) : Lib.compareBytes (keyB x ++ r) (keyB y ++ r') = if cmpT x y = 0 then Lib.compareBytes r r' else cmpT x y := by
  have e : cmpT x y = -1 := by unfold cmpT cmpV; rw [if_pos hk]
  rw [e, if_neg (by decide), hx, hy, List.cons_append, List.cons_append, bytes_cons, if_pos h]
theorem key_more {x y : Val} {a b : UInt8} {s t : List UInt8} (r r' : List UInt8) (hx : keyB x = a :: s) (hy : keyB y = b :: t) (h : b.toNat < a.toNat) (hk : y.k < x.k) : Lib.compareBytes (keyB x ++ r) (keyB y ++ r') = if cmpT x y = 0 then Lib.compareBytes r r' else cmpT x y := by
  have e : cmpT x y = 1 := by unfold cmpT cmpV; rw [if_neg (by omega), if_pos hk]
  rw [e, if_neg (by decide), hx, hy, List.cons_append, List.cons_append, bytes_cons, if_neg (by omega), if_pos h]
theorem cmpT_num (k n n' : Int) : cmpT ⟨k, n, txt []⟩ ⟨k, n', txt []⟩ = if n < n' then -1 else if n' < n then 1 else 0 := by
  unfold cmpT cmpV
  dsimp only
  rw [if_neg (by omega), if_neg (by omega)]; rfl
theorem cmpT_text (l l' : List UInt8) : cmpT ⟨3, 0, txt l⟩ ⟨3, 0, txt l'⟩ = Lib.compareBytes l l' := by
  unfold cmpT cmpV
  dsimp only
  rw [if_neg (by omega), if_neg (by omega), if_neg (by omega), if_neg (by omega)]; rfl
theorem key_order {x y : Val} (hx : okV x) (hy : okV y) (r r' : List UInt8) : Lib.compareBytes (keyB x ++ r) (keyB y ++ r') = if cmpT x y = 0 then Lib.compareBytes r r' else cmpT x y := by
  rcases okV_cases hx with rfl | ⟨n, rfl, h1, h2⟩ | ⟨n, rfl, hn⟩ | ⟨l, rfl, hl⟩ <;> rcases okV_cases hy with rfl | ⟨n', rfl, h1', h2'⟩ | ⟨n', rfl, hn'⟩ | ⟨l', rfl, hl'⟩
  · rw [if_pos ((cmpT_zero _ _).2 rfl)]; exact bytes_cons_same _ _ _
  · exact key_less r r' keyB_none (keyB_int n') (by decide) (by show (0 : Int) < 1; decide)
  · exact key_less r r' keyB_none (keyB_bool n') (by decide) (by show (0 : Int) < 2; decide)
  · exact key_less r r' keyB_none (keyB_text l') (by decide) (by show (0 : Int) < 3; decide)
  · exact key_more r r' (keyB_int n) keyB_none (by decide) (by show (0 : Int) < 1; decide)
  · rw [keyB_int, keyB_int, List.cons_append, List.cons_append, bytes_cons_same, bytes_BE 8 _ _ _ _ (high_lt h2) (high_lt h2'), cmpT_num]
    unfold high
    repeat' split
    all_goals first | rfl | omega
  · exact key_less r r' (keyB_int n) (keyB_bool n') (by decide) (by show (1 : Int) < 2; decide)
  · exact key_less r r' (keyB_int n) (keyB_text l') (by decide) (by show (1 : Int) < 3; decide)
  · exact key_more r r' (keyB_bool n) keyB_none (by decide) (by show (0 : Int) < 2; decide)
  · exact key_more r r' (keyB_bool n) (keyB_int n') (by decide) (by show (1 : Int) < 2; decide)
  · rw [keyB_bool, keyB_bool, cmpT_num]
    show Lib.compareBytes (3 :: UInt8.ofNat n.toNat :: r) (3 :: UInt8.ofNat n'.toNat :: r') = _
    rw [bytes_cons_same, bytes_cons, u8_ofNat, u8_ofNat]
    rcases hn with rfl | rfl <;> rcases hn' with rfl | rfl <;> rfl
  · exact key_less r r' (keyB_bool n) (keyB_text l') (by decide) (by show (2 : Int) < 3; decide)
  · exact key_more r r' (keyB_text l) keyB_none (by decide) (by show (0 : Int) < 3; decide)
  · exact key_more r r' (keyB_text l) (keyB_int n') (by decide) (by show (1 : Int) < 3; decide)
  · exact key_more r r' (keyB_text l) (keyB_bool n') (by decide) (by show (2 : Int) < 3; decide)
  · rw [keyB_text, keyB_text, List.cons_append, List.cons_append, bytes_cons_same, List.append_assoc, List.append_assoc, cmpT_text]
    show Lib.compareBytes (esc l ++ 0 :: 0 :: r) (esc l' ++ 0 :: 0 :: r') = _
    rw [esc_order]
    by_cases e : l = l'
    · subst e; rw [if_pos rfl, if_pos (bytes_same l)]
    · rw [if_neg e, if_neg (fun h => e (bytes_zero l l' h))]
theorem keys_order : ∀ (a b : List Val), (∀ v ∈ a, okV v) → (∀ v ∈ b, okV v) → Lib.compareBytes (encL keyB a) (encL keyB b) = rowsV a b
  | [], [], _, _ => rfl
  | [], y :: b, _, _ => by
    rw [encL_cons, encL_nil]
    have := keyCoded.pos y
    cases h : keyB y with
    | nil => rw [h] at this; exact absurd this (by simp)
    | cons c s => rfl
  | x :: a, [], _, _ => by
    rw [encL_cons, encL_nil]
    have := keyCoded.pos x
    cases h : keyB x with
    | nil => rw [h] at this; exact absurd this (by simp)
    | cons c s => rfl
  | x :: a, y :: b, ha, hb => by
    rw [encL_cons, encL_cons, key_order (ha x (by simp)) (hb y (by simp)), keys_order a b (fun v hv => ha v (by simp [hv])) (fun v hv => hb v (by simp [hv])), rowsV]

/-! ### Which rows may be -/
def firstBad : List Val → Int
  | [] => 0
  | v :: l => if chk v.k v.n v.s = 0 then firstBad l else chk v.k v.n v.s
/-- The error that a row is refused with; 0: none. -/
def rightV (l : List Val) : Int := if 8 < l.length then 3 else firstBad l
theorem firstBad_ok : ∀ {l : List Val}, (∀ v ∈ l, inI v) → firstBad l = 0 → ∀ v ∈ l, okV v
  | [], _, _, v, hv => absurd hv (by simp)
  | x :: l, hn, h, v, hv => by
    unfold firstBad at h
    by_cases hx : chk x.k x.n x.s = 0
    · rw [if_pos hx] at h
      rcases List.mem_cons.1 hv with rfl | hv
      · exact ⟨hx, hn v (by simp)⟩
      · exact firstBad_ok (fun v hv => hn v (by simp [hv])) h v hv
    · rw [if_neg hx] at h; exact absurd h hx
theorem firstBad_of : ∀ {l : List Val}, (∀ v ∈ l, okV v) → firstBad l = 0
  | [], _ => rfl
  | x :: l, h => by unfold firstBad; rw [if_pos (h x (by simp)).1]; exact firstBad_of (fun v hv => h v (by simp [hv]))
theorem rightV_ok {l : List Val} (hn : ∀ v ∈ l, inI v) (h : rightV l = 0) : l.length ≤ 8 ∧ ∀ v ∈ l, okV v := by
  unfold rightV at h
  split at h
  · cases h
  · exact ⟨by omega, firstBad_ok hn h⟩
theorem rightV_of {l : List Val} (h1 : l.length ≤ 8) (h2 : ∀ v ∈ l, okV v) : rightV l = 0 := by
  unfold rightV; rw [if_neg (by omega)]; exact firstBad_of h2
theorem rightV_take {l : List Val} (k : Nat) (h : rightV l = 0) (hn : ∀ v ∈ l, inI v) : rightV (l.take k) = 0 := by
  obtain ⟨h1, h2⟩ := rightV_ok hn h
  exact rightV_of (by rw [List.length_take]; omega) (fun v hv => h2 v (List.mem_of_mem_take hv))
theorem rightV_drop {l : List Val} (k : Nat) (h : rightV l = 0) (hn : ∀ v ∈ l, inI v) : rightV (l.drop k) = 0 := by
  obtain ⟨h1, h2⟩ := rightV_ok hn h
  exact rightV_of (by rw [List.length_drop]; omega) (fun v hv => h2 v (List.mem_of_mem_drop hv))
theorem rows_len {l : List Val} (h : ∀ v ∈ l, okV v) : (encL rowB l).length ≤ 66 * l.length := by
  induction l with
  | nil => simp [encL]
  | cons x l ih =>
    have h1 := rowB_len (h x (by simp))
    have h2 := ih (fun v hv => h v (by simp [hv]))
    rw [encL_cons, List.length_append, List.length_cons]; omega
theorem key_len {v : Val} (h : okV v) : (keyB v).length ≤ 131 := by
  rcases okV_cases h with rfl | ⟨n, rfl, _⟩ | ⟨n, rfl, _⟩ | ⟨l, rfl, hl⟩
  · rw [keyB_none]; simp
  · rw [keyB_int, List.length_cons, encBE_len]; omega
  · rw [keyB_bool]; simp
  · have := esc_len l
    rw [keyB_text]; simp; omega

/-! ### What the laws ask of keys and rows -/
theorem less_sign (x y : List UInt8) : Op.bytesLess x y = decide (Lib.compareBytes x y < 0) := by
  cases h : Op.bytesLess x y with
  | true => rw [bytes_less x y h]; rfl
  | false =>
    by_cases e : x = y
    · rw [e, bytes_same]; rfl
    · rw [bytes_more x y h e]; rfl
theorem keys_less {a b : List Val} (ha : ∀ v ∈ a, okV v) (hb : ∀ v ∈ b, okV v) : Op.bytesLess (encL keyB a) (encL keyB b) = decide (rowsV a b < 0) := by
  rw [less_sign, keys_order a b ha hb]
theorem rowsV_zero : ∀ (a b : List Val), rowsV a b = 0 ↔ a = b
  | [], [] => by simp [rowsV]
  | [], _ :: _ => by simp [rowsV]
  | _ :: _, [] => by simp [rowsV]
  | x :: a, y :: b => by
    unfold rowsV
    by_cases h : cmpT x y = 0
    · rw [if_pos h, rowsV_zero a b]
      obtain rfl := (cmpT_zero x y).1 h
      simp
    · rw [if_neg h]
      constructor
      · intro e; exact absurd e h
      · intro e
        obtain ⟨rfl, _⟩ := List.cons.inj e
        exact absurd ((cmpT_zero x x).2 rfl) h
theorem keys_same {a b : List Val} (ha : ∀ v ∈ a, okV v) (hb : ∀ v ∈ b, okV v) : encL keyB a = encL keyB b ↔ rowsV a b = 0 := by
  rw [rowsV_zero]
  exact ⟨keyCoded.inj ha hb, fun e => by rw [e]⟩
theorem rows_same {a b : List Val} (ha : ∀ v ∈ a, okV v) (hb : ∀ v ∈ b, okV v) : encL rowB a = encL rowB b ↔ rowsV a b = 0 := by
  rw [rowsV_zero]
  exact ⟨rowCoded.inj ha hb, fun e => by rw [e]⟩
theorem begins_iff {a b : List Val} (ha : ∀ v ∈ a, okV v) (hb : ∀ v ∈ b, okV v) :
    (a.length ≤ b.length ∧ rowsV a (b.take (min a.length b.length)) = 0) ↔ ((encL keyB a).length ≤ (encL keyB b).length ∧ (encL keyB b).take (min (encL keyB a).length (encL keyB b).length) = encL keyB a) := by
  rw [rowsV_zero]
  constructor
  · rintro ⟨h1, h2⟩
    rw [Nat.min_eq_left h1] at h2
    have e : encL keyB b = encL keyB a ++ encL keyB (b.drop a.length) := by
      rw [← encL_append]; congr 1
      have := (List.take_append_drop a.length b).symm
      rwa [← h2] at this
    have hl : (encL keyB a).length ≤ (encL keyB b).length := by rw [e, List.length_append]; omega
    refine ⟨hl, ?_⟩
    rw [Nat.min_eq_left hl, e, List.take_left' rfl]
  · rintro ⟨h1, h2⟩
    rw [Nat.min_eq_left h1] at h2
    have e : encL keyB b = encL keyB a ++ (encL keyB b).drop (encL keyB a).length := by
      have := (List.take_append_drop (encL keyB a).length (encL keyB b)).symm
      rwa [h2] at this
    obtain ⟨c, rfl⟩ := keyCoded.begins a b _ ha hb e
    have hl : a.length ≤ (a ++ c).length := by simp
    refine ⟨hl, ?_⟩
    rw [Nat.min_eq_left hl, List.take_left' rfl]
end Go.Proofs.Ytneebnankghhgaa

/- The reference of layer 3: whether all of a row's values may be; numbers in eight bytes: contracts of the calls, in whatever memory. Conditions: a row's cells are known (what came in reads so). -/
namespace Go.Proofs.Ytneebnankghhgaa
open Go.RowKit

/-! ### A text cut -/
theorem cut_at (l : List UInt8) (i j : Int) (W : World) (h0 : 0 ≤ i) (h1 : i ≤ j) (h2 : j ≤ l.length) :
    (Instr.slice 9 (.string (txt l)) (some (.int .i64 i)) (some (.int .i64 j)) none).run Try.prog W = .ok (.string (txt ((l.drop i.toNat).take (j.toNat - i.toNat)))) W := by
  rw [run_slice_string W 9 (txt l) .i64 .i64 i j Try.underlying9 h0 h1 (by rw [txt_size]; exact h2), txt_cut]
theorem cut_from (l : List UInt8) (i : Int) (W : World) (h0 : 0 ≤ i) (h1 : i ≤ l.length) :
    (Instr.slice 9 (.string (txt l)) (some (.int .i64 i)) none none).run Try.prog W = .ok (.string (txt (l.drop i.toNat))) W := by
  rw [run_slice_string_l W 9 (txt l) Try.underlying9 .i64 i h0 (by rw [txt_size]; exact h1), txt_cut, txt_size, List.take_of_length_le (by rw [List.length_drop]; omega)]

theorem bad_here {l : List Val} {k : Nat} (h : k < l.length) (hb : chk l[k].k l[k].n l[k].s ≠ 0) : firstBad (l.drop k) = chk l[k].k l[k].n l[k].s := by
  rw [List.drop_eq_getElem_cons h, firstBad, if_neg hb]
theorem bad_next {l : List Val} {k : Nat} (h : k < l.length) (hb : chk l[k].k l[k].n l[k].s = 0) : firstBad (l.drop k) = firstBad (l.drop (k + 1)) := by
  rw [List.drop_eq_getElem_cons h, firstBad, if_pos hb]

theorem wrap_u64 (x : Int) (h1 : 0 ≤ x) (h2 : x < 18446744073709551616) : IntKind.u64.wrap x = x := IntWalk.u64_in x ⟨h1, by omega⟩
theorem dec_next (l : List UInt8) (i : Nat) (h : i < l.length) : decBE (l.take (i + 1)) = 256 * decBE (l.take i) + (l[i]).toNat := by
  rw [List.take_succ_eq_append_getElem h, decBE_snoc]

end Go.Proofs.Ytneebnankghhgaa

/- The reference of layer 5: a number in two bytes: a contract of the call, in whatever memory. Conditions: the number has no more than two bytes. -/
namespace Go.Proofs.Ytneebnankghhgaa
open Go.RowKit

theorem two_convert (n : Nat) (hn : n < 65536) (w : World) : (convert 67 9 (.slice (some ⟨w.heap.size, 0, none⟩) 2 2)).run Try.prog (w.alloc (.cells #[.int .u8 ((n / 256 : Nat) : Int), .int .u8 ((n % 256 : Nat) : Int)] 5)) = .ok (.string (txt (twoB n))) (w.alloc (.cells #[.int .u8 ((n / 256 : Nat) : Int), .int .u8 ((n % 256 : Nat) : Int)] 5)) :=
  run_convert_bytes_back (P := Try.prog) _ 67 9 5 ⟨w.heap.size, 0, none⟩ 2 (twoB n) Try.underlying67 Try.underlying5 Try.underlying9 (fun j hj => by
    have h2 : (twoB n).length = 2 := rfl
    rcases (by omega : j = 0 ∨ j = 1) with rfl | rfl
    · have e : ((twoB n)[0]).toNat = n / 256 := by show (UInt8.ofNat (n / 256)).toNat = _; rw [u8_ofNat]; omega
      simp only [e]
      show (World.alloc _ _).cell? ⟨_, 0 + 0, none⟩ = _
      go_cell
    · have e : ((twoB n)[1]).toNat = n % 256 := by show (UInt8.ofNat (n % 256)).toNat = _; rw [u8_ofNat]; omega
      simp only [e]
      show (World.alloc _ _).cell? ⟨_, 0 + 1, none⟩ = _
      go_cell)
end Go.Proofs.Ytneebnankghhgaa

/- The reference of layer 5: a page's bytes: a contract of the call, in whatever memory. Conditions: the slots' cells are known. -/
namespace Go.Proofs.Ytneebnankghhgaa
open Go.RowKit

def bytD (p : Pg) : List UInt8 := if rightB p then bytesP p else []
def bytE (p : Pg) : Int := if rightB p then 0 else 1
theorem dataP_take {p : Pg} {i : Nat} (h : i < p.length) : dataP (p.take (i + 1)) = (p[i]).2 ++ dataP (p.take i) := by
  rw [List.take_succ_eq_append_getElem h, dataP_append]; rfl
theorem headsP_take {p : Pg} {i : Nat} (h : i < p.length) : headsP 0 (p.take (i + 1)) = headsP 0 (p.take i) ++ (twoB (if (p[i]).1 then 1024 - ((p[i]).2 ++ dataP (p.take i)).length else 0) ++ twoB (p[i]).2.length) := by
  rw [List.take_succ_eq_append_getElem h, headsP_split]
  simp only [headsP, List.append_nil, Nat.zero_add, List.length_append]
  rw [Nat.add_comm (dataP (p.take i)).length]
theorem dataP_few {p : Pg} (i : Nat) : (dataP (p.take i)).length ≤ (dataP p).length := by
  have := dataP_append (p.take i) (p.drop i)
  rw [List.take_append_drop] at this
  rw [this, List.length_append]; omega
theorem cat_run (x y : List UInt8) (h : x.length + y.length ≤ 9223372036854775807) (W : World) : (Op.stringOp .add (txt x) (txt y)).run Try.prog W = .ok (.string (txt (x ++ y))) W := by
  have h' : (txt x).size + (txt y).size ≤ 9223372036854775807 := by rw [txt_size, txt_size]; exact h
  rw [run_string_add_sum W _ _ h', txt_add]
end Go.Proofs.Ytneebnankghhgaa

/- The reference of layer 5: reading a page: a contract of the call, in whatever memory. Conditions: the bytes are a string's. -/
namespace Go.Proofs.Ytneebnankghhgaa
open Go.RowKit

def readQ (s : List UInt8) : Pg := (readP s).getD []
def readE (s : List UInt8) : Int := if (readP s).isSome then 0 else 2
theorem read_none {s : List UInt8} (h : readP s = none) : readQ s = [] ∧ readE s = 2 := by unfold readQ readE; rw [h]; exact ⟨rfl, rfl⟩
theorem read_some {s : List UInt8} {p : Pg} (h : readP s = some p) : readQ s = p ∧ readE s = 0 := by unfold readQ readE; rw [h]; exact ⟨rfl, rfl⟩
/-- Q has been read of the first i slots of n. -/
def ReadTo (s : List UInt8) (n i : Nat) (Q : Pg) : Prop := slotsD s 0 n = (slotsD s i (n - i)).map (Q ++ ·) ∧ Q.length = i
theorem readTo_start (s : List UInt8) (n : Nat) : ReadTo s n 0 [] := ⟨by cases h : slotsD s 0 n <;> simp, rfl⟩
theorem readTo_bad {s : List UInt8} {n i : Nat} {Q : Pg} (h : ReadTo s n i Q) (hi : i < n) (hb : slotD s i = none) : slotsD s 0 n = none := by
  rw [h.1, show n - i = (n - (i + 1)) + 1 by omega, slotsD, hb]; rfl
theorem readTo_next {s : List UInt8} {n i : Nat} {Q : Pg} {t : Slot} (h : ReadTo s n i Q) (hi : i < n) (hb : slotD s i = some t) : ReadTo s n (i + 1) (Q ++ [t]) := by
  refine ⟨?_, by rw [List.length_append, h.2]; rfl⟩
  rw [h.1, show n - i = (n - (i + 1)) + 1 by omega, slotsD, hb]
  cases slotsD s (i + 1) (n - (i + 1)) <;> simp
theorem readTo_end {s : List UInt8} {n : Nat} {Q : Pg} (h : ReadTo s n n Q) : slotsD s 0 n = some Q := by
  rw [h.1, Nat.sub_self]; simp [slotsD]
theorem read_long {s : List UInt8} (h : s.length ≠ 1024) : readP s = none := by unfold readP; rw [if_pos h]
theorem read_many {s : List UInt8} (h : s.length = 1024) (hn : 1024 < 2 + 4 * numAt s 0) : readP s = none := by unfold readP; rw [if_neg (by omega), if_pos hn]
theorem read_is {s : List UInt8} (h : s.length = 1024) (hn : ¬ 1024 < 2 + 4 * numAt s 0) : readP s = match slotsD s 0 (numAt s 0) with
    | none => none
    | some p => if rightB p = true ∧ bytesP p = s then some p else none := by unfold readP; rw [if_neg (by omega), if_neg hn]; rfl
theorem idx_run (s : List UInt8) (k : Nat) (h : k < s.length) (W : World) (x : Int) (hx : x = (k : Int)) : (Instr.index 9 (.string (txt s)) (.int .i64 x)).run Try.prog W = .ok (.int .u8 (((s.getD k 0).toNat : Nat) : Int)) W := by
  subst hx
  have hz : (txt s).size = s.length := txt_size s
  have hk : k < (txt s).size := by omega
  have e : (txt s)[k]'hk = s.getD k 0 := by rw [txt_get s k hk h]; simp [List.getD, h]
  rw [run_index_string W 9 (txt s) .i64 k Try.underlying9]
  simp [hk, e]

theorem slotD_bad {s : List UInt8} {i x y : Nat} (h1 : numAt s (2 + 4 * i) = x) (h2 : numAt s (4 + 4 * i) = y) (h : 1024 < x ∨ 1024 - x < y) : slotD s i = none := by
  unfold slotD; rw [h1, h2, if_pos h]
theorem slotD_ok {s : List UInt8} {i x y : Nat} (h1 : numAt s (2 + 4 * i) = x) (h2 : numAt s (4 + 4 * i) = y) (h : ¬ (1024 < x ∨ 1024 - x < y)) : slotD s i = some (if 0 < x then (true, (s.drop x).take y) else noS) := by
  unfold slotD; rw [h1, h2, if_neg h]
theorem slotsD_small {s : List UInt8} : ∀ (k i : Nat) (p : Pg), slotsD s i k = some p → ∀ t ∈ p, t.2.length ≤ s.length
  | 0, i, p, h, t, ht => by
    obtain rfl : [] = p := Option.some.inj h
    exact absurd ht (by simp)
  | k + 1, i, p, h, t, ht => by
    rw [slotsD] at h
    cases hd : slotD s i with
    | none => rw [hd] at h; cases h
    | some u =>
      rw [hd] at h
      dsimp only at h
      cases hr : slotsD s (i + 1) k with
      | none => rw [hr] at h; cases h
      | some q =>
        rw [hr] at h
        obtain rfl : u :: q = p := Option.some.inj h
        rcases List.mem_cons.1 ht with rfl | ht
        · unfold slotD at hd
          split at hd
          · cases hd
          · obtain rfl := Option.some.inj hd
            split
            · show ((s.drop _).take _).length ≤ s.length
              rw [List.length_take, List.length_drop]; omega
            · exact Nat.zero_le _
        · exact slotsD_small k (i + 1) q hr t ht
theorem txt_toList (l : List UInt8) : (txt l).toList = l := by rw [ByteArray.toList_eq]; rfl
theorem w64 {x y : Int} (e : x = y) (h1 : -9223372036854775808 ≤ x) (h2 : x ≤ 9223372036854775807) : IntKind.i64.wrap x = y ∧ wrap64 x = y := by
  subst e
  exact ⟨IntWalk.i64_in _ (by omega), by unfold wrap64; omega⟩

end Go.Proofs.Ytneebnankghhgaa
