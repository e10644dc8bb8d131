/- Several of my texts laid together, each as it was: Wa, Mo, Mv, Ma, Mb, Na, La, Mc, Rf, Nb, Lb, Ca. Conditions: each names its own. -/
import Derived.Test.YtneebnankghhgacGreatDoorRows
import Derived.WalkKit
import Derived.WalkSpells
import Derived.WalkLawsBesides
import Derived.Handy
import Derived.BigQuiet
import Derived.Deep.QuietTactic
import Derived.Lib.Bytealg
import Derived.Lib.ParseIntB
import Derived.Deep.RegionHeld3
import Derived.Laws.IdiomStrings
import Derived.Laws.Strings2
import Derived.OwnWalk
import Derived.Lib.AppendStr
import Derived.Laws.BytesArg
/- What the two checks of a value answer, said once for both: contracts of the calls, in whatever memory. -/
namespace Go.Proofs.YtneebnankghhgacGreatDoor
open Go.RowKit

theorem below_cells {W w1 : World} (hb : Below W.heap.size W w1) : (∀ b o, b < W.heap.size → w1.cell? ⟨b, o, none⟩ = W.cell? ⟨b, o, none⟩) ∧ (∀ b o, b < W.heap.size → w1.frozen? ⟨b, o, none⟩ = W.frozen? ⟨b, o, none⟩) :=
  ⟨fun b o h => hb.cell (p := ⟨b, o, none⟩) h, fun b o h => hb.frozen (p := ⟨b, o, none⟩) h⟩

theorem below_through {n : Nat} {W w1 w2 : World} (hb : Below w1.heap.size w1 w2) (hn : n ≤ w1.heap.size) (h : Below n W w1) : Below n W w2 := h.trans (hb.mono hn)

theorem hid0 {p : Prop} (h : p) : Hid p := h

theorem isEmpty_dec (l : List UInt8) : l.isEmpty = decide (l = []) := by cases l <;> simp

def chk (k n : Int) (s : ByteArray) : Int :=
  if k = 0 then (if n = 0 ∧ s.toList = [] then 0 else 1)
  else if k = 1 then (if s.toList = [] then 0 else 1)
  else if k = 2 then (if s.toList = [] ∧ (n = 0 ∨ n = 1) then 0 else 1)
  else if k = 3 then (if n = 0 then (if s.size ≤ 64 then 0 else 3) else 1)
  else 1

def mayB (k n : Int) (s : ByteArray) : Bool := decide (chk k n s = 0)

theorem ret_i64 {a b : Int} (h : a = b) : Ending.returned (.int .i64 a) = .returned (.int .i64 b) := by rw [h]
theorem ret_bool {a b : Bool} (h : a = b) : Ending.returned (.bool a) = .returned (.bool b) := by rw [h]

set_option maxHeartbeats 400000 in
theorem refCheck_any (k n : Int) (s : ByteArray) (w : World) (hs : s.size ≤ maxLen) :
    Calls Tryz.prog 5 #[.agg #[.int .i64 k, .int .i64 n, .string s]] w fun e w' => e = .returned (.int .i64 (chk k n s)) ∧ Below w.heap.size w w' := by
  unfold maxLen at hs
  go_enter Tryz.func5, Tryz.ntmps5
  go_wp2
  all_goals
    go_ret
    refine ⟨ret_i64 ?_, by go_grown⟩
    simp_all [chk]
  all_goals omega
end Go.Proofs.YtneebnankghhgacGreatDoor

/- How any two values stand to each other, as one plain function, and that it is one order. Nothing of any program here. Conditions: none. -/
namespace Go.Proofs.YtneebnankghhgacGreatDoor
open Go.RowKit

theorem u8_tri (a b : UInt8) : a < b ∨ b < a ∨ a = b := by
  rcases Nat.lt_trichotomy a.toNat b.toNat with h | h | h
  · exact .inl (UInt8.lt_iff_toNat_lt.2 h)
  · exact .inr (.inr (UInt8.toNat_inj.1 h))
  · exact .inr (.inl (UInt8.lt_iff_toNat_lt.2 h))
theorem u8_asym {a b : UInt8} (h : a < b) : ¬ b < a := fun g => by
  have := UInt8.lt_iff_toNat_lt.1 h; have := UInt8.lt_iff_toNat_lt.1 g; omega
theorem u8_irrefl (a : UInt8) : ¬ a < a := fun g => by
  have := UInt8.lt_iff_toNat_lt.1 g; omega
theorem u8_ne {a b : UInt8} (h : a < b) : ¬ a = b := fun e => u8_irrefl a (by rw [e] at h; exact absurd h (u8_irrefl b))

theorem bytes_less : ∀ (x y : List UInt8), Op.bytesLess x y = true → Lib.compareBytes x y = -1
  | [], [], h => by simp [Op.bytesLess] at h
  | [], _ :: _, _ => rfl
  | _ :: _, [], h => by simp [Op.bytesLess] at h
  | a :: x, b :: y, h => by
    simp only [Op.bytesLess, Bool.or_eq_true, Bool.and_eq_true, decide_eq_true_eq, beq_iff_eq] at h
    unfold Lib.compareBytes
    rcases h with h | ⟨rfl, h⟩
    · rw [if_pos h]
    · rw [if_neg (u8_irrefl a), if_neg (u8_irrefl a)]
      exact bytes_less x y h
theorem bytes_more : ∀ (x y : List UInt8), Op.bytesLess x y = false → x ≠ y → Lib.compareBytes x y = 1
  | [], [], _, h => absurd rfl h
  | [], _ :: _, h, _ => by simp [Op.bytesLess] at h
  | _ :: _, [], _, _ => rfl
  | a :: x, b :: y, h, hn => by
    simp only [Op.bytesLess, Bool.or_eq_false_iff, decide_eq_false_iff_not] at h
    unfold Lib.compareBytes
    rw [if_neg h.1]
    by_cases hba : b < a
    · rw [if_pos hba]
    · rw [if_neg hba]
      have e : a = b := by rcases u8_tri a b with g | g | g; exact absurd g h.1; exact absurd g hba; exact g
      subst e
      exact bytes_more x y (by simpa using h.2) (fun e => hn (by rw [e]))
theorem bytes_same (x : List UInt8) : Lib.compareBytes x x = 0 := by
  induction x with
  | nil => rfl
  | cons a x ih => unfold Lib.compareBytes; rw [if_neg (u8_irrefl a), if_neg (u8_irrefl a), ih]

theorem bytes_zero : ∀ (x y : List UInt8), Lib.compareBytes x y = 0 → x = y
  | [], [], _ => rfl
  | [], _ :: _, h => by simp [Lib.compareBytes] at h
  | _ :: _, [], h => by simp [Lib.compareBytes] at h
  | a :: x, b :: y, h => by
    unfold Lib.compareBytes at h
    by_cases h1 : a < b
    · rw [if_pos h1] at h; exact absurd h (by decide)
    · rw [if_neg h1] at h
      by_cases h2 : b < a
      · rw [if_pos h2] at h; exact absurd h (by decide)
      · rw [if_neg h2] at h
        have e : a = b := by rcases u8_tri a b with g | g | g; exact absurd g h1; exact absurd g h2; exact g
        rw [e, bytes_zero x y h]
theorem bytes_flip : ∀ (x y : List UInt8), Lib.compareBytes x y = -Lib.compareBytes y x
  | [], [] => rfl
  | [], _ :: _ => rfl
  | _ :: _, [] => rfl
  | a :: x, b :: y => by
    unfold Lib.compareBytes
    by_cases h1 : a < b
    · rw [if_pos h1, if_neg (u8_asym h1), if_pos h1]
    · rw [if_neg h1]
      by_cases h2 : b < a
      · rw [if_pos h2, if_pos h2]; decide
      · rw [if_neg h2, if_neg h2, if_neg h1]
        exact bytes_flip x y
theorem bytes_trans : ∀ (x y z : List UInt8), Lib.compareBytes x y ≤ 0 → Lib.compareBytes y z ≤ 0 → Lib.compareBytes x z ≤ 0
  | [], _, [], _, _ => by simp [Lib.compareBytes]
  | [], _, _ :: _, _, _ => by simp [Lib.compareBytes]
  | _ :: _, [], _, h, _ => by simp [Lib.compareBytes] at h
  | _ :: _, _ :: _, [], _, h => by simp [Lib.compareBytes] at h
  | a :: x, b :: y, c :: z, h1, h2 => by
    unfold Lib.compareBytes at h1 h2 ⊢
    by_cases ab : a < b
    · by_cases bc : b < c
      · have : a < c := UInt8.lt_iff_toNat_lt.2 (Nat.lt_trans (UInt8.lt_iff_toNat_lt.1 ab) (UInt8.lt_iff_toNat_lt.1 bc))
        rw [if_pos this]; decide
      · rw [if_neg bc] at h2
        by_cases cb : c < b
        · rw [if_pos cb] at h2; exact absurd h2 (by decide)
        · have e : b = c := by rcases u8_tri b c with g | g | g; exact absurd g bc; exact absurd g cb; exact g
          subst e
          rw [if_pos ab]; decide
    · rw [if_neg ab] at h1
      by_cases ba : b < a
      · rw [if_pos ba] at h1; exact absurd h1 (by decide)
      · have e : a = b := by rcases u8_tri a b with g | g | g; exact absurd g ab; exact absurd g ba; exact g
        subst e
        rw [if_neg ba] at h1
        by_cases ac : a < c
        · rw [if_pos ac]; decide
        · rw [if_neg ac] at h2 ⊢
          by_cases ca : c < a
          · rw [if_pos ca] at h2; exact absurd h2 (by decide)
          · rw [if_neg ca] at h2 ⊢
            exact bytes_trans x y z h1 h2

def cmpV (k n : Int) (s : ByteArray) (k' n' : Int) (s' : ByteArray) : Int :=
  if k < k' then -1 else if k' < k then 1 else if n < n' then -1 else if n' < n then 1 else Lib.compareBytes s.data.toList s'.data.toList

theorem cmpV_flip (k n : Int) (s : ByteArray) (k' n' : Int) (s' : ByteArray) : cmpV k n s k' n' s' = -cmpV k' n' s' k n s := by
  unfold cmpV
  have := bytes_flip s.data.toList s'.data.toList
  repeat' split
  all_goals omega
theorem cmpV_trans (k n : Int) (s : ByteArray) (k' n' : Int) (s' : ByteArray) (k'' n'' : Int) (s'' : ByteArray) (h1 : cmpV k n s k' n' s' ≤ 0) (h2 : cmpV k' n' s' k'' n'' s'' ≤ 0) : cmpV k n s k'' n'' s'' ≤ 0 := by
  have := bytes_trans s.data.toList s'.data.toList s''.data.toList
  revert h1 h2
  unfold cmpV
  repeat' split
  all_goals omega
theorem cmpV_zero (k n : Int) (s : ByteArray) (k' n' : Int) (s' : ByteArray) : cmpV k n s k' n' s' = 0 ↔ k = k' ∧ n = n' ∧ s = s' := by
  constructor
  · intro h
    have hz := bytes_zero s.data.toList s'.data.toList
    unfold cmpV at h
    by_cases a1 : k < k'
    · rw [if_pos a1] at h; omega
    rw [if_neg a1] at h
    by_cases a2 : k' < k
    · rw [if_pos a2] at h; omega
    rw [if_neg a2] at h
    by_cases a3 : n < n'
    · rw [if_pos a3] at h; omega
    rw [if_neg a3] at h
    by_cases a4 : n' < n
    · rw [if_pos a4] at h; omega
    rw [if_neg a4] at h
    exact ⟨by omega, by omega, WideShapes.bytes_inj (hz h)⟩
  · rintro ⟨rfl, rfl, rfl⟩
    simp [cmpV, bytes_same]
theorem cmpV_bd (k n : Int) (s : ByteArray) (k' n' : Int) (s' : ByteArray) : -1 ≤ cmpV k n s k' n' s' ∧ cmpV k n s k' n' s' ≤ 1 := by
  have h : -1 ≤ Lib.compareBytes s.data.toList s'.data.toList ∧ Lib.compareBytes s.data.toList s'.data.toList ≤ 1 := by
    cases h : Op.bytesLess s.data.toList s'.data.toList with
    | true => rw [bytes_less _ _ h]; decide
    | false =>
      by_cases e : s.data.toList = s'.data.toList
      · rw [e, bytes_same]; decide
      · rw [bytes_more _ _ h e]; decide
  unfold cmpV
  repeat' split
  all_goals omega

end Go.Proofs.YtneebnankghhgacGreatDoor

/- Rows of values, plainly: how two rows stand to each other, and that it is one order. Nothing of any program here. Conditions: none. -/
namespace Go.Proofs.YtneebnankghhgacGreatDoor
open Go.RowKit

structure Val where
  k : Int
  n : Int
  s : ByteArray

/-- Its number is an int, its text a string. -/
def inI (v : Val) : Prop := -9223372036854775808 ≤ v.n ∧ v.n ≤ 9223372036854775807 ∧ v.s.size ≤ maxLen

def cmpT (a b : Val) : Int := cmpV a.k a.n a.s b.k b.n b.s
def rowsV : List Val → List Val → Int
  | [], [] => 0
  | [], _ :: _ => -1
  | _ :: _, [] => 1
  | a :: xs, b :: ys => if cmpT a b = 0 then rowsV xs ys else cmpT a b

theorem cmpT_zero (a b : Val) : cmpT a b = 0 ↔ a = b := by
  obtain ⟨k, n, s⟩ := a
  obtain ⟨k', n', s'⟩ := b
  simp only [cmpT, cmpV_zero, Val.mk.injEq]
theorem cmpT_flip (a b : Val) : cmpT a b = -cmpT b a := cmpV_flip ..
theorem cmpT_trans (a b c : Val) (h1 : cmpT a b ≤ 0) (h2 : cmpT b c ≤ 0) : cmpT a c ≤ 0 := cmpV_trans _ _ _ _ _ _ _ _ _ h1 h2
theorem rowsV_bd : ∀ (l1 l2 : List Val), -1 ≤ rowsV l1 l2 ∧ rowsV l1 l2 ≤ 1
  | [], [] => by simp [rowsV]
  | [], _ :: _ => by simp [rowsV]
  | _ :: _, [] => by simp [rowsV]
  | a :: xs, b :: ys => by
    unfold rowsV
    split
    · exact rowsV_bd xs ys
    · exact cmpV_bd ..
theorem rowsV_flip : ∀ (l1 l2 : List Val), rowsV l1 l2 = -rowsV l2 l1
  | [], [] => by simp [rowsV]
  | [], _ :: _ => by simp [rowsV]
  | _ :: _, [] => by simp [rowsV]
  | a :: xs, b :: ys => by
    unfold rowsV
    have h := cmpT_flip a b
    by_cases h0 : cmpT a b = 0
    · rw [if_pos h0, if_pos (by omega)]
      exact rowsV_flip xs ys
    · rw [if_neg h0, if_neg (by omega)]
      exact h
theorem rowsV_trans : ∀ (l1 l2 l3 : List Val), rowsV l1 l2 ≤ 0 → rowsV l2 l3 ≤ 0 → rowsV l1 l3 ≤ 0
  | [], _, [], _, _ => by simp [rowsV]
  | [], _, _ :: _, _, _ => by simp [rowsV]
  | _ :: _, [], _, h, _ => by simp [rowsV] at h
  | _ :: _, _ :: _, [], _, h => by simp [rowsV] at h
  | a :: xs, b :: ys, c :: zs, h1, h2 => by
    unfold rowsV at h1 h2 ⊢
    by_cases ab : cmpT a b = 0
    · rw [if_pos ab] at h1
      obtain rfl := (cmpT_zero a b).1 ab
      by_cases ac : cmpT a c = 0
      · rw [if_pos ac] at h2 ⊢
        exact rowsV_trans xs ys zs h1 h2
      · rw [if_neg ac] at h2 ⊢
        exact h2
    · rw [if_neg ab] at h1
      by_cases bc : cmpT b c = 0
      · obtain rfl := (cmpT_zero b c).1 bc
        rw [if_neg ab]
        exact h1
      · rw [if_neg bc] at h2
        have ac : cmpT a c ≠ 0 := by
          intro e
          obtain rfl := (cmpT_zero a c).1 e
          have := cmpT_flip a b
          omega
        rw [if_neg ac]
        exact cmpT_trans a b c h1 h2
end Go.Proofs.YtneebnankghhgacGreatDoor

/- Rows of values as bytes, plainly: numbers in eight bytes, a code that goes value by value and is read back value by value, the order of bytes. Nothing of any program here: lemmas on lists. Conditions: each lemma names its own. -/
namespace Go.Proofs.YtneebnankghhgacGreatDoor
open Go.RowKit

/-! ### Numbers, the highest byte first -/
def encBE : Nat → Nat → List UInt8
  | 0, _ => []
  | j + 1, u => encBE j (u / 256) ++ [UInt8.ofNat u]
def decBE (l : List UInt8) : Nat := l.foldl (fun u b => 256 * u + b.toNat) 0

theorem u8_ofNat (u : Nat) : (UInt8.ofNat u).toNat = u % 256 := by simp
theorem encBE_len : ∀ j u, (encBE j u).length = j
  | 0, _ => rfl
  | j + 1, u => by simp [encBE, encBE_len j]
theorem decBE_snoc (l : List UInt8) (b : UInt8) : decBE (l ++ [b]) = 256 * decBE l + b.toNat := by simp [decBE]
theorem pow256 (j : Nat) : 256 ^ (j + 1) = 256 * 256 ^ j := by rw [Nat.pow_succ, Nat.mul_comm]
theorem decBE_encBE : ∀ j u, u < 256 ^ j → decBE (encBE j u) = u
  | 0, u, h => by simp at h; subst h; rfl
  | j + 1, u, h => by
    rw [pow256] at h
    rw [encBE, decBE_snoc, decBE_encBE j (u / 256) (by omega), u8_ofNat]; omega
theorem decBE_lt (l : List UInt8) : decBE l < 256 ^ l.length := by
  have H : ∀ (l : List UInt8) (u n : Nat), u < 256 ^ n → l.foldl (fun u b => 256 * u + b.toNat) u < 256 ^ (n + l.length) := by
    intro l
    induction l with
    | nil => intro u n h; exact h
    | cons b l ih =>
      intro u n h
      have hb := b.toNat_lt
      have := ih (256 * u + b.toNat) (n + 1) (by rw [pow256]; omega)
      rw [List.length_cons, show n + (l.length + 1) = n + 1 + l.length by omega]
      exact this
  have := H l 0 0 (by simp)
  simpa [decBE] using this
theorem encBE_decBE_of (l : List UInt8) : ∀ j, l.length = j → encBE j (decBE l) = l := by
  have H : ∀ r : List UInt8, encBE r.length (decBE r.reverse) = r.reverse := by
    intro r
    induction r with
    | nil => rfl
    | cons b r ih =>
      have hb := b.toNat_lt
      rw [List.reverse_cons, decBE_snoc, List.length_cons, encBE, show (256 * decBE r.reverse + b.toNat) / 256 = decBE r.reverse by omega, ih]
      congr 2
      exact UInt8.toNat_inj.1 (by rw [u8_ofNat]; omega)
  intro j h
  subst h
  have := H l.reverse
  rwa [List.reverse_reverse, List.length_reverse] at this

theorem u8_lt {a b : UInt8} : a < b ↔ a.toNat < b.toNat := UInt8.lt_iff_toNat_lt
theorem bytes_cons (a b : UInt8) (x y : List UInt8) : Lib.compareBytes (a :: x) (b :: y) = if a.toNat < b.toNat then -1 else if b.toNat < a.toNat then 1 else Lib.compareBytes x y := by
  rw [Lib.compareBytes]
  simp only [u8_lt]
theorem bytes_cons_same (a : UInt8) (x y : List UInt8) : Lib.compareBytes (a :: x) (a :: y) = Lib.compareBytes x y := by
  rw [bytes_cons, if_neg (by omega), if_neg (by omega)]
theorem bytes_BE : ∀ j u v r r', u < 256 ^ j → v < 256 ^ j → Lib.compareBytes (encBE j u ++ r) (encBE j v ++ r') = if u < v then -1 else if v < u then 1 else Lib.compareBytes r r'
  | 0, u, v, r, r', h, h' => by
    simp at h h'; subst h h'; rfl
  | j + 1, u, v, r, r', h, h' => by
    rw [pow256] at h h'
    rw [encBE, encBE, List.append_assoc, List.append_assoc, bytes_BE j (u / 256) (v / 256) _ _ (by omega) (by omega), List.singleton_append, List.singleton_append, bytes_cons, u8_ofNat, u8_ofNat]
    repeat' split
    all_goals first | rfl | omega

def un64 (n : Int) : Nat := (n % 18446744073709551616).toNat
def sn64 (u : Nat) : Int := if u < 9223372036854775808 then u else (u : Int) - 18446744073709551616
theorem un64_lt (n : Int) : un64 n < 256 ^ 8 := by unfold un64; omega
theorem sn64_un64 {n : Int} (h1 : -9223372036854775808 ≤ n) (h2 : n ≤ 9223372036854775807) : sn64 (un64 n) = n := by unfold sn64 un64; split <;> omega
theorem un64_sn64 {u : Nat} (h : u < 256 ^ 8) : un64 (sn64 u) = u := by unfold sn64 un64; split <;> omega
theorem sn64_in {u : Nat} (h : u < 256 ^ 8) : -9223372036854775808 ≤ sn64 u ∧ sn64 u ≤ 9223372036854775807 := by unfold sn64; split <;> omega

/-! ### A code value by value -/
/-- A value that may be, whose number is an int. -/
def okV (v : Val) : Prop := chk v.k v.n v.s = 0 ∧ inI v
def noV : Val := ⟨0, 0, ⟨#[]⟩⟩

structure Coded (enc : Val → List UInt8) (dec : List UInt8 → Option (Val × Nat)) : Prop where
  there : ∀ v, okV v → ∀ r, dec (enc v ++ r) = some (v, (enc v).length)
  back : ∀ s v m, dec s = some (v, m) → okV v ∧ s = enc v ++ s.drop m ∧ m = (enc v).length
  pos : ∀ v, 0 < (enc v).length

def encL (enc : Val → List UInt8) (l : List Val) : List UInt8 := l.flatMap enc
def decL (dec : List UInt8 → Option (Val × Nat)) : Nat → List UInt8 → Option (List Val)
  | _, [] => some []
  | 0, _ :: _ => none
  | n + 1, c :: s => match dec (c :: s) with
    | none => none
    | some (v, m) => (decL dec n ((c :: s).drop m)).map (v :: ·)

theorem encL_nil (enc : Val → List UInt8) : encL enc [] = [] := rfl
theorem encL_cons (enc : Val → List UInt8) (v : Val) (l : List Val) : encL enc (v :: l) = enc v ++ encL enc l := by simp [encL]
theorem encL_append (enc : Val → List UInt8) (a b : List Val) : encL enc (a ++ b) = encL enc a ++ encL enc b := by simp [encL]
theorem decL_nil (dec : List UInt8 → Option (Val × Nat)) (n : Nat) : decL dec n [] = some [] := by cases n <;> rfl
theorem decL_full {dec : List UInt8 → Option (Val × Nat)} {s : List UInt8} (h : s ≠ []) : decL dec 0 s = none := by
  cases s with
  | nil => exact absurd rfl h
  | cons c s => rfl
theorem decL_stop {dec : List UInt8 → Option (Val × Nat)} {n : Nat} {s : List UInt8} (h : s ≠ []) (hd : dec s = none) : decL dec n s = none := by
  cases s with
  | nil => exact absurd rfl h
  | cons c s => cases n with
    | zero => rfl
    | succ n => simp [decL, hd]
theorem decL_go {dec : List UInt8 → Option (Val × Nat)} {n : Nat} {s : List UInt8} {v : Val} {m : Nat} (h : s ≠ []) (hd : dec s = some (v, m)) : decL dec (n + 1) s = (decL dec n (s.drop m)).map (v :: ·) := by
  cases s with
  | nil => exact absurd rfl h
  | cons c s => simp [decL, hd]

section
variable {enc : Val → List UInt8} {dec : List UInt8 → Option (Val × Nat)} (C : Coded enc dec)
include C

theorem Coded.ne (v : Val) (r : List UInt8) : enc v ++ r ≠ [] := fun h => by
  have := C.pos v
  rw [(List.append_eq_nil_iff.1 h).1] at this
  exact absurd this (by simp)
theorem Coded.decL_encL : ∀ (l : List Val) (n : Nat), (∀ v ∈ l, okV v) → l.length ≤ n → decL dec n (encL enc l) = some l
  | [], n, _, _ => by rw [encL_nil, decL_nil]
  | v :: l, 0, _, h => by simp at h
  | v :: l, n + 1, hv, h => by
    rw [encL_cons, decL_go (C.ne v _) (C.there v (hv v (by simp)) _), List.drop_left, Coded.decL_encL l n (fun x hx => hv x (by simp [hx])) (by simp at h; omega)]
    rfl
theorem Coded.encL_decL : ∀ (n : Nat) (s : List UInt8) (l : List Val), decL dec n s = some l → (∀ v ∈ l, okV v) ∧ l.length ≤ n ∧ encL enc l = s
  | n, [], l, h => by
    rw [decL_nil] at h
    obtain rfl := Option.some.inj h
    exact ⟨fun v hv => absurd hv (by simp), Nat.zero_le _, rfl⟩
  | 0, c :: s, l, h => by cases h
  | n + 1, c :: s, l, h => by
    cases hd : dec (c :: s) with
    | none => rw [decL_stop (by simp) hd] at h; cases h
    | some x =>
      obtain ⟨v, m⟩ := x
      rw [decL_go (by simp) hd] at h
      obtain ⟨l', hl', rfl⟩ := Option.map_eq_some_iff.1 h
      obtain ⟨ok, e, _⟩ := C.back _ _ _ hd
      obtain ⟨h1, h2, h3⟩ := Coded.encL_decL n _ l' hl'
      refine ⟨fun x hx => ?_, by simp; omega, by rw [encL_cons, h3, ← e]⟩
      rcases List.mem_cons.1 hx with rfl | hx
      · exact ok
      · exact h1 x hx
theorem Coded.inj {a b : List Val} (ha : ∀ v ∈ a, okV v) (hb : ∀ v ∈ b, okV v) (h : encL enc a = encL enc b) : a = b := by
  have h1 := Coded.decL_encL C a (max a.length b.length) ha (by omega)
  have h2 := Coded.decL_encL C b (max a.length b.length) hb (by omega)
  rw [h, h2] at h1
  exact (Option.some.inj h1).symm
theorem Coded.begins : ∀ (a b : List Val) (r : List UInt8), (∀ v ∈ a, okV v) → (∀ v ∈ b, okV v) → encL enc b = encL enc a ++ r → ∃ c, b = a ++ c
  | [], b, _, _, _, _ => ⟨b, rfl⟩
  | x :: a, [], r, _, _, h => absurd (by rw [encL_nil, encL_cons, List.append_assoc] at h; exact h.symm) (C.ne x _)
  | x :: a, y :: b, r, ha, hb, h => by
    rw [encL_cons, encL_cons, List.append_assoc] at h
    have h1 := C.there x (ha x (by simp)) (encL enc a ++ r)
    have h2 := C.there y (hb y (by simp)) (encL enc b)
    rw [h, h1] at h2
    obtain rfl : x = y := congrArg Prod.fst (Option.some.inj h2)
    obtain ⟨c, rfl⟩ := Coded.begins a b r (fun v hv => ha v (by simp [hv])) (fun v hv => hb v (by simp [hv])) (List.append_cancel_left h)
    exact ⟨c, rfl⟩
end
end Go.Proofs.YtneebnankghhgacGreatDoor

/- The two codes of a row, plainly: as it stands in a page, and as a key; each is read back as it was written; keys stand to one another as their rows do. Nothing of any program here. Conditions: each lemma names its own. -/
namespace Go.Proofs.YtneebnankghhgacGreatDoor
open Go.RowKit

def txt (l : List UInt8) : ByteArray := ⟨l.toArray⟩
theorem txt_list (l : List UInt8) : (txt l).data.toList = l := rfl
theorem txt_get (l : List UInt8) (k : Nat) (h : k < (txt l).size) (h' : k < l.length) : (txt l)[k]'h = l[k] := rfl
theorem txt_add (a b : List UInt8) : txt a ++ txt b = txt (a ++ b) := WideShapes.bytes_inj (by simp [txt])
theorem txt_cut (l : List UInt8) (a b : Nat) : (txt l).extract a b = txt ((l.drop a).take (b - a)) := WideShapes.bytes_inj (by
  show ((txt l).extract a b).data.toList = _
  rw [ByteArray.data_extract, txt_list]
  simp [txt])
theorem txt_of (s : ByteArray) : txt s.data.toList = s := WideShapes.bytes_inj rfl
theorem txt_size (l : List UInt8) : (txt l).size = l.length := by simp [txt, ByteArray.size]
theorem size_list (s : ByteArray) : s.data.toList.length = s.size := Array.length_toList

theorem okV_cases {v : Val} (h : okV v) : v = noV ∨ (∃ n, v = ⟨1, n, txt []⟩ ∧ -9223372036854775808 ≤ n ∧ n ≤ 9223372036854775807) ∨ (∃ n, v = ⟨2, n, txt []⟩ ∧ (n = 0 ∨ n = 1)) ∨ ∃ l : List UInt8, v = ⟨3, 0, txt l⟩ ∧ l.length ≤ 64 := by
  obtain ⟨k, n, s⟩ := v
  obtain ⟨h, h1, h2, _⟩ := h
  simp only at h h1 h2
  have hs : s.toList = [] → s = txt [] := fun e => WideShapes.bytes_inj (by rw [ByteArray.toList_eq] at e; rw [e]; rfl)
  unfold chk at h
  by_cases k0 : k = 0
  · rw [if_pos k0] at h
    split at h
    · rename_i g; left; rw [k0, g.1, hs g.2]; rfl
    · cases h
  rw [if_neg k0] at h
  by_cases k1 : k = 1
  · rw [if_pos k1] at h
    split at h
    · rename_i g; right; left; exact ⟨n, by rw [k1, hs g], h1, h2⟩
    · cases h
  rw [if_neg k1] at h
  by_cases k2 : k = 2
  · rw [if_pos k2] at h
    split at h
    · rename_i g; right; right; left; exact ⟨n, by rw [k2, hs g.1], g.2⟩
    · cases h
  rw [if_neg k2] at h
  by_cases k3 : k = 3
  · rw [if_pos k3] at h
    split at h
    · split at h
      · rename_i g g2; right; right; right; exact ⟨s.data.toList, by rw [k3, g, txt_of], by rw [size_list]; exact g2⟩
      · cases h
    · cases h
  rw [if_neg k3] at h; cases h
theorem ok_none : okV noV := ⟨by simp [chk, noV, ByteArray.toList_eq], by decide, by decide, by show (0 : Nat) ≤ maxLen; exact Nat.zero_le _⟩
theorem ok_int {n : Int} (h1 : -9223372036854775808 ≤ n) (h2 : n ≤ 9223372036854775807) : okV ⟨1, n, txt []⟩ := ⟨by simp [chk, txt, ByteArray.toList_eq], h1, h2, by show (0 : Nat) ≤ maxLen; exact Nat.zero_le _⟩
theorem ok_bool {n : Int} (h : n = 0 ∨ n = 1) : okV ⟨2, n, txt []⟩ := ⟨by simp [chk, txt, ByteArray.toList_eq, h], by show -9223372036854775808 ≤ n; omega, by show n ≤ 9223372036854775807; omega, by show (0 : Nat) ≤ maxLen; exact Nat.zero_le _⟩
theorem ok_text {l : List UInt8} (h : l.length ≤ 64) : okV ⟨3, 0, txt l⟩ := ⟨by simp [chk, txt_size, h], by show (-9223372036854775808 : Int) ≤ 0; omega, by show (0 : Int) ≤ 9223372036854775807; omega, by show (txt l).size ≤ maxLen; rw [txt_size]; unfold maxLen; omega⟩

/-! ### As it stands in a page -/
def rowB (v : Val) : List UInt8 :=
  if v.k = 1 then 1 :: encBE 8 (un64 v.n) else if v.k = 2 then [2, UInt8.ofNat v.n.toNat] else if v.k = 3 then 3 :: UInt8.ofNat v.s.size :: v.s.data.toList else [0]
def rowD : List UInt8 → Option (Val × Nat)
  | [] => none
  | b :: r =>
    if b = 0 then some (noV, 1)
    else if b = 1 then (if 8 ≤ r.length then some (⟨1, sn64 (decBE (r.take 8)), txt []⟩, 9) else none)
    else if b = 2 then (match r with | [] => none | c :: _ => if c.toNat ≤ 1 then some (⟨2, c.toNat, txt []⟩, 2) else none)
    else if b = 3 then (match r with | [] => none | c :: t => if c.toNat ≤ 64 ∧ c.toNat ≤ t.length then some (⟨3, 0, txt (t.take c.toNat)⟩, 2 + c.toNat) else none)
    else none

theorem rowB_none : rowB noV = [0] := rfl
theorem rowB_int (n : Int) : rowB ⟨1, n, txt []⟩ = 1 :: encBE 8 (un64 n) := rfl
theorem rowB_bool (n : Int) : rowB ⟨2, n, txt []⟩ = [2, UInt8.ofNat n.toNat] := rfl
theorem rowB_text (l : List UInt8) : rowB ⟨3, 0, txt l⟩ = 3 :: UInt8.ofNat l.length :: l := by simp [rowB, txt, ByteArray.size]

theorem rowD_none (r : List UInt8) : rowD (0 :: r) = some (noV, 1) := rfl
theorem rowD_int (r : List UInt8) : rowD (1 :: r) = if 8 ≤ r.length then some (⟨1, sn64 (decBE (r.take 8)), txt []⟩, 9) else none := rfl
theorem rowD_bool (c : UInt8) (r : List UInt8) : rowD (2 :: c :: r) = if c.toNat ≤ 1 then some (⟨2, c.toNat, txt []⟩, 2) else none := rfl
theorem rowD_text (c : UInt8) (r : List UInt8) : rowD (3 :: c :: r) = if c.toNat ≤ 64 ∧ c.toNat ≤ r.length then some (⟨3, 0, txt (r.take c.toNat)⟩, 2 + c.toNat) else none := rfl
theorem rowD_else {b : UInt8} (r : List UInt8) (h0 : b ≠ 0) (h1 : b ≠ 1) (h2 : b ≠ 2) (h3 : b ≠ 3) : rowD (b :: r) = none := by
  simp [rowD, h0, h1, h2, h3]
theorem rowB_len {v : Val} (h : okV v) : (rowB v).length ≤ 66 := by
  rcases okV_cases h with rfl | ⟨n, rfl, _⟩ | ⟨n, rfl, _⟩ | ⟨l, rfl, hl⟩
  · rw [rowB_none]; simp
  · rw [rowB_int, List.length_cons, encBE_len]; omega
  · rw [rowB_bool]; simp
  · rw [rowB_text]; simp; omega

theorem pow8 : 256 ^ 8 = 18446744073709551616 := by decide
theorem rowCoded : Coded rowB rowD := {
  there := fun v h r => by
    rcases okV_cases h with rfl | ⟨n, rfl, h1, h2⟩ | ⟨n, rfl, hn⟩ | ⟨l, rfl, hl⟩
    · rfl
    · rw [rowB_int, List.cons_append, rowD_int, if_pos (by rw [List.length_append, encBE_len]; omega), List.take_left' (encBE_len 8 _), decBE_encBE 8 _ (un64_lt n), sn64_un64 h1 h2, List.length_cons, encBE_len]
    · rw [rowB_bool]
      rcases hn with rfl | rfl <;> rfl
    · have e : (UInt8.ofNat l.length).toNat = l.length := by rw [u8_ofNat]; omega
      rw [rowB_text, List.cons_append, List.cons_append, rowD_text, e, if_pos ⟨hl, by simp⟩, List.take_left' rfl]
      simp; omega
  back := fun s v m h => by
    cases s with
    | nil => cases h
    | cons b r =>
      by_cases b0 : b = 0
      · subst b0
        rw [rowD_none] at h
        obtain ⟨rfl, rfl⟩ := Prod.mk.inj (Option.some.inj h)
        exact ⟨ok_none, rfl, rfl⟩
      by_cases b1 : b = 1
      · subst b1
        rw [rowD_int] at h
        split at h
        · rename_i h8
          obtain ⟨rfl, rfl⟩ := Prod.mk.inj (Option.some.inj h)
          have hl : (r.take 8).length = 8 := by rw [List.length_take]; omega
          have hlt := decBE_lt (r.take 8)
          rw [hl] at hlt
          have hs := sn64_in hlt
          refine ⟨ok_int hs.1 hs.2, ?_, by rw [rowB_int, List.length_cons, encBE_len]⟩
          rw [rowB_int, un64_sn64 hlt, encBE_decBE_of _ 8 hl, List.cons_append, List.drop_succ_cons, List.take_append_drop]
        · cases h
      by_cases b2 : b = 2
      · subst b2
        cases r with
        | nil => cases h
        | cons c r =>
          rw [rowD_bool] at h
          split at h
          · rename_i hc
            obtain ⟨rfl, rfl⟩ := Prod.mk.inj (Option.some.inj h)
            refine ⟨ok_bool (by omega), ?_, rfl⟩
            rw [rowB_bool]
            show 2 :: c :: r = 2 :: UInt8.ofNat _ :: r
            rw [Int.toNat_natCast, UInt8.ofNat_toNat]
          · cases h
      by_cases b3 : b = 3
      · subst b3
        cases r with
        | nil => cases h
        | cons c r =>
          rw [rowD_text] at h
          split at h
          · rename_i hc
            obtain ⟨rfl, rfl⟩ := Prod.mk.inj (Option.some.inj h)
            have hl : (r.take c.toNat).length = c.toNat := by rw [List.length_take]; omega
            refine ⟨ok_text (by rw [hl]; exact hc.1), ?_, by rw [rowB_text, List.length_cons, List.length_cons, hl]; omega⟩
            rw [rowB_text, hl, UInt8.ofNat_toNat, show 2 + c.toNat = c.toNat + 1 + 1 by omega, List.drop_succ_cons, List.drop_succ_cons, List.cons_append, List.cons_append, List.take_append_drop]
          · cases h
      rw [rowD_else r b0 b1 b2 b3] at h; cases h
  pos := fun v => by
    unfold rowB
    repeat' split
    all_goals simp }
end Go.Proofs.YtneebnankghhgacGreatDoor

/- Commands as words, plainly: how far a name, a number, a text, a sign goes; the words of a row of bytes, or its first fault. Nothing of any program here: lemmas on lists. Conditions: each lemma names its own. -/
namespace Go.Proofs.YtneebnankghhgacGreatDoor
open Go.RowKit

def isL (c : UInt8) : Bool := decide (c.toNat = 95) || (decide (97 ≤ c.toNat) && decide (c.toNat ≤ 122))
def isD (c : UInt8) : Bool := decide (48 ≤ c.toNat) && decide (c.toNat ≤ 57)
def isLD (c : UInt8) : Bool := isL c || isD c
def isS (c : UInt8) : Bool := [40, 41, 44, 46, 42, 43, 45, 61, 60, 62].contains c
def cnt (p : UInt8 → Bool) : List UInt8 → Nat
  | [] => 0
  | c :: r => if p c then cnt p r + 1 else 0
/-- How many bytes go on as a name does. -/
def nmS : List UInt8 → Nat
  | [] => 0
  | c :: r => if isL c then cnt isLD r + 1 else 0
def decV (l : List UInt8) : Nat := l.foldl (fun u c => 10 * u + (c.toNat - 48)) 0
def numN (l : List UInt8) : Nat := decV (l.take (cnt isD l))
/-- No number begins so. -/
def numBad (l : List UInt8) : Bool := (decide (1 < cnt isD l) && decide (l.head? = some 48)) || (l[cnt isD l]?).any isL || decide (9223372036854775808 < numN l)
/-- What stands behind a sign ' up to the one that ends it, and how many bytes that takes. -/
def txR : List UInt8 → Option (List UInt8 × Nat)
  | [] => none
  | [c] => if c = 39 then some ([], 1) else none
  | c :: d :: r => if c = 39 then (if d = 39 then (txR r).map (fun x => (39 :: x.1, x.2 + 2)) else some ([], 1)) else (txR (d :: r)).map (fun x => (c :: x.1, x.2 + 1))
def sgS : List UInt8 → Nat
  | c :: d :: _ => if (c = 60 ∧ d = 62) ∨ (c = 60 ∧ d = 61) ∨ (c = 62 ∧ d = 61) then 2 else 1
  | _ => 1
structure Wd where
  k : Nat
  s : List UInt8
  n : Nat
  p : Nat
  deriving DecidableEq
def noW : Wd := ⟨0, [], 0, 0⟩
/-- The word that a row of bytes begins with, and how many bytes it takes: 0, if there is none. -/
def wordM : List UInt8 → Wd × Nat
  | [] => (noW, 0)
  | c :: r => if isL c then (⟨1, (c :: r).take (nmS (c :: r)), 0, 0⟩, nmS (c :: r))
    else if isD c then (if numBad (c :: r) then (noW, 0) else (⟨2, [], numN (c :: r), 0⟩, cnt isD (c :: r)))
    else if c = 39 then (match txR r with | none => (noW, 0) | some x => (⟨3, x.1, 0, 0⟩, x.2 + 1))
    else if isS c then (⟨4, (c :: r).take (sgS (c :: r)), 0, 0⟩, sgS (c :: r))
    else (noW, 0)
inductive LexR where
  | ok (ws : List Wd)
  | syn (i : Nat)
  | long (i : Nat)
  deriving DecidableEq
def Wd.put (x : Wd) (i : Nat) : Wd := ⟨x.k, x.s, x.n, i⟩
def lexM : Nat → Nat → List UInt8 → List Wd → LexR
  | 0, _, _, acc => .ok acc
  | _ + 1, _, [], acc => .ok acc
  | f + 1, i, c :: r, acc => if c = 32 then lexM f (i + 1) r acc
    else if (wordM (c :: r)).2 = 0 then .syn i
    else if acc.length = 512 then .long i
    else lexM f (i + (wordM (c :: r)).2) ((c :: r).drop (wordM (c :: r)).2) (acc ++ [(wordM (c :: r)).1.put i])
def lexR (l : List UInt8) : LexR := if 2048 < l.length then .long 0 else lexM (l.length + 1) 0 l []
def outW (n : Nat) : LexR → List Wd
  | .ok ws => ws ++ [⟨5, [], 0, n⟩]
  | _ => []
def outN : LexR → Nat
  | .ok _ => 0
  | .syn i => i
  | .long i => i
def outE : LexR → Nat
  | .ok _ => 0
  | .syn _ => 4
  | .long _ => 3

/-! ### How far -/
theorem cnt_le (p : UInt8 → Bool) : ∀ l, cnt p l ≤ l.length
  | [] => Nat.le_refl _
  | c :: r => by
    have := cnt_le p r
    simp only [cnt, List.length_cons]
    split <;> omega
theorem cnt_all (p : UInt8 → Bool) : ∀ l i (h : i < l.length), i < cnt p l → p l[i] = true
  | c :: r, 0, _, h => by
    simp only [cnt] at h
    split at h
    · assumption
    · omega
  | c :: r, i + 1, h, hi => by
    simp only [cnt] at hi
    split at hi
    · exact cnt_all p r i (by simpa using h) (by omega)
    · omega
theorem cnt_end (p : UInt8 → Bool) : ∀ l (h : cnt p l < l.length), p (l[cnt p l]) = false
  | c :: r, h => by
    by_cases hc : p c = true
    · have e : cnt p (c :: r) = cnt p r + 1 := by simp [cnt, hc]
      have := cnt_end p r (by rw [e] at h; simpa using h)
      simp only [e, List.getElem_cons_succ]
      exact this
    · have e : cnt p (c :: r) = 0 := by simp [cnt, hc]
      simp only [e, List.getElem_cons_zero]
      simpa using hc
theorem cnt_go {p : UInt8 → Bool} {l : List UInt8} {i : Nat} (h : ∀ j (hj : j < l.length), j < i → p l[j] = true) (hi : i ≤ l.length) : i ≤ cnt p l := by
  rcases Nat.lt_or_ge (cnt p l) i with hlt | hge
  · have h1 := cnt_end p l (by omega)
    rw [h _ (by omega) hlt] at h1
    cases h1
  · exact hge
theorem nmS_le : ∀ l, nmS l ≤ l.length
  | [] => Nat.le_refl _
  | c :: r => by
    have := cnt_le isLD r
    simp only [nmS, List.length_cons]
    split <;> omega
/-- One byte more of a name. -/
def goesOn (l : List UInt8) (i : Nat) : Bool := match l[i]? with
  | none => false
  | some c => isL c || (decide (0 < i) && isD c)
theorem nmS_all : ∀ l i, i < nmS l → goesOn l i = true
  | c :: r, i, h => by
    simp only [nmS] at h
    split at h
    · rename_i hc
      cases i with
      | zero => simp [goesOn, hc]
      | succ i =>
        have hl := cnt_le isLD r
        have := cnt_all isLD r i (by omega) (by omega)
        simp only [isLD] at this
        simp [goesOn, List.getElem?_eq_getElem (show i < r.length by omega), this]
    · omega
theorem nmS_end : ∀ l, goesOn l (nmS l) = false
  | [] => rfl
  | c :: r => by
    by_cases hc : isL c = true
    · have e : nmS (c :: r) = cnt isLD r + 1 := by simp [nmS, hc]
      rw [e]
      rcases Nat.lt_or_ge (cnt isLD r) r.length with h | h
      · have := cnt_end isLD r h
        simp only [isLD] at this
        simp [goesOn, List.getElem?_eq_getElem h, this]
      · simp [goesOn, List.getElem?_eq_none h]
    · have e : nmS (c :: r) = 0 := by simp [nmS, hc]
      rw [e]
      simpa [goesOn] using hc
theorem nmS_go {l : List UInt8} {i : Nat} (h : ∀ j, j < i → goesOn l j = true) : i ≤ nmS l := by
  rcases Nat.lt_or_ge (nmS l) i with hlt | hge
  · have h1 := nmS_end l
    rw [h _ hlt] at h1
    cases h1
  · exact hge
theorem nmS_is {l : List UInt8} {i : Nat} (h : ∀ j, j < i → goesOn l j = true) (he : goesOn l i = false) : nmS l = i := by
  have h1 := nmS_go h
  rcases Nat.lt_or_ge i (nmS l) with hlt | hge
  · rw [nmS_all l i hlt] at he; cases he
  · omega

/-! ### Numbers -/
theorem decV_snoc (l : List UInt8) (c : UInt8) : decV (l ++ [c]) = 10 * decV l + (c.toNat - 48) := by simp [decV]
theorem parseM_digits : ∀ (l : List UInt8) (acc : Nat), (∀ c ∈ l, isD c = true) → acc < 18446744073709551616 →
    Lib.parseUintM 18446744073709551615 acc l = if l.foldl (fun u c => 10 * u + (c.toNat - 48)) acc < 18446744073709551616 then .ok (l.foldl (fun u c => 10 * u + (c.toNat - 48)) acc) else .range
  | [], acc, _, ha => by simp [Lib.parseUintM, ha]
  | c :: r, acc, h, ha => by
    have hc := h c (by simp)
    simp only [isD, Bool.and_eq_true, decide_eq_true_eq] at hc
    have hmono : ∀ (l : List UInt8) (a : Nat), a ≤ l.foldl (fun u c => 10 * u + (c.toNat - 48)) a := by
      intro l
      induction l with
      | nil => intro a; exact Nat.le_refl _
      | cons d l ih => intro a; exact Nat.le_trans (by omega) (ih (10 * a + (d.toNat - 48)))
    have e : acc * 10 + (c.toNat - 48) = 10 * acc + (c.toNat - 48) := by omega
    simp only [Lib.parseUintM, List.foldl_cons]
    rw [if_pos hc]
    have := hmono r (10 * acc + (c.toNat - 48))
    have hn : ∀ x : Nat, 18446744073709551616 ≤ x → ¬ x < 18446744073709551616 := fun x h => by omega
    split
    · exact (if_neg (hn _ (by omega))).symm
    · split
      · exact (if_neg (hn _ (by omega))).symm
      · rw [e]
        exact parseM_digits r _ (fun d hd => h d (List.mem_cons_of_mem _ hd)) (by omega)
theorem parse_digits {l : List UInt8} (h : ∀ c ∈ l, isD c = true) (hne : l ≠ []) : Lib.parseUintB 64 l = if decV l < 18446744073709551616 then .ok (decV l) else .range := by
  unfold Lib.parseUintB
  rw [if_neg hne]
  exact parseM_digits l 0 h (by omega)
theorem cnt_digits (l : List UInt8) : ∀ c ∈ l.take (cnt isD l), isD c = true := by
  intro c hc
  obtain ⟨i, hi, rfl⟩ := List.mem_iff_getElem.1 hc
  have hl := cnt_le isD l
  rw [List.length_take] at hi
  rw [List.getElem_take]
  exact cnt_all isD l i (by omega) (by omega)

/-! ### Texts -/
theorem txR_le : ∀ (l : List UInt8) x, txR l = some x → x.2 ≤ l.length ∧ 1 ≤ x.2
  | [], x, h => by simp [txR] at h
  | [c], x, h => by
    simp only [txR] at h
    split at h
    · cases h; simp
    · cases h
  | c :: d :: r, x, h => by
    simp only [txR] at h
    split at h
    · split at h
      · obtain ⟨y, hy, rfl⟩ := Option.map_eq_some_iff.1 h
        have := txR_le r y hy
        simp; omega
      · cases h; simp
    · obtain ⟨y, hy, rfl⟩ := Option.map_eq_some_iff.1 h
      have := txR_le (d :: r) y hy
      simp at this ⊢; omega
theorem sgS_one (l : List UInt8) : sgS l = 1 ∨ sgS l = 2 := by
  unfold sgS
  split
  · split
    · exact .inr rfl
    · exact .inl rfl
  · exact .inl rfl
theorem sgS_le {l : List UInt8} (h : l ≠ []) : sgS l ≤ l.length := by
  unfold sgS
  split
  · split <;> simp
  · cases l with
    | nil => exact absurd rfl h
    | cons _ _ => simp
theorem word_name {c : UInt8} {r : List UInt8} (h : isL c = true) : wordM (c :: r) = (⟨1, (c :: r).take (nmS (c :: r)), 0, 0⟩, nmS (c :: r)) := if_pos h
theorem word_num {c : UInt8} {r : List UInt8} (h : isL c = false) (h1 : isD c = true) : wordM (c :: r) = if numBad (c :: r) then (noW, 0) else (⟨2, [], numN (c :: r), 0⟩, cnt isD (c :: r)) :=
  (if_neg (by simp [h])).trans (if_pos h1)
theorem word_text {c : UInt8} {r : List UInt8} (h : isL c = false) (h1 : isD c = false) (h2 : c = 39) : wordM (c :: r) = (match txR r with | none => (noW, 0) | some x => (⟨3, x.1, 0, 0⟩, x.2 + 1)) :=
  (if_neg (by simp [h])).trans ((if_neg (by simp [h1])).trans (if_pos h2))
theorem word_sign {c : UInt8} {r : List UInt8} (h : isL c = false) (h1 : isD c = false) (h2 : c ≠ 39) (h3 : isS c = true) : wordM (c :: r) = (⟨4, (c :: r).take (sgS (c :: r)), 0, 0⟩, sgS (c :: r)) :=
  (if_neg (by simp [h])).trans ((if_neg (by simp [h1])).trans ((if_neg h2).trans (if_pos h3)))
theorem word_none {c : UInt8} {r : List UInt8} (h : isL c = false) (h1 : isD c = false) (h2 : c ≠ 39) (h3 : isS c = false) : wordM (c :: r) = (noW, 0) :=
  (if_neg (by simp [h])).trans ((if_neg (by simp [h1])).trans ((if_neg h2).trans (if_neg (by simp [h3]))))
/-- The five ways in which a word begins. -/
theorem word_cases (c : UInt8) : isL c = true ∨ (isL c = false ∧ isD c = true) ∨ (isL c = false ∧ isD c = false ∧ c = 39) ∨ (isL c = false ∧ isD c = false ∧ c ≠ 39 ∧ isS c = true) ∨ (isL c = false ∧ isD c = false ∧ c ≠ 39 ∧ isS c = false) := by
  cases isL c <;> cases isD c <;> cases isS c <;> by_cases h : c = 39 <;> simp [h]
theorem word_le : ∀ l, (wordM l).2 ≤ l.length
  | [] => Nat.le_refl _
  | c :: r => by
    rcases word_cases c with h | ⟨h, h1⟩ | ⟨h, h1, h2⟩ | ⟨h, h1, h2, h3⟩ | ⟨h, h1, h2, h3⟩
    · rw [word_name h]; exact nmS_le (c :: r)
    · rw [word_num h h1]
      split
      · exact Nat.zero_le _
      · exact cnt_le isD (c :: r)
    · rw [word_text h h1 h2]
      split
      · exact Nat.zero_le _
      · rename_i x hx
        have := txR_le r x hx
        simp; omega
    · rw [word_sign h h1 h2 h3]; exact sgS_le (by simp)
    · rw [word_none h h1 h2 h3]; exact Nat.zero_le _
end Go.Proofs.YtneebnankghhgacGreatDoor

/- Lists that lie in memory: a list of ints, a row of values: their cells are known. Nothing of any program here. Conditions: each lemma names its own. -/
namespace Go.Proofs.YtneebnankghhgacGreatDoor
open Go.RowKit

/-- The cells of a list of ints. -/
def IntsAt (w : World) (a : Option Addr) (l : List Int) : Prop :=
  l ≠ [] → ∃ b off, a = some ⟨b, off, none⟩ ∧ ∀ i (h : i < l.length), w.cell? ⟨b, off + i, none⟩ = some (.int .i64 l[i])
theorem IntsAt.later {w w' : World} {a : Option Addr} {l : List Int} (h : IntsAt w a l) (hb : Below w.heap.size w w') : IntsAt w' a l := fun hn => by
  obtain ⟨b, off, e, hc⟩ := h hn
  exact ⟨b, off, e, fun i hi => cell_later hb (hc i hi)⟩

/-- Of two numbers in a block of its own. -/
theorem pair_at (b : Nat) (x y : Int) (w : World) (h0 : w.cell? ⟨b, 0, none⟩ = some (.int .i64 x)) (h1 : w.cell? ⟨b, 1, none⟩ = some (.int .i64 y)) : IntsAt w (some ⟨b, 0, none⟩) [x, y] := fun _ =>
  ⟨b, 0, rfl, fun i hi => by
    match i, hi with
    | 0, _ => exact h0
    | 1, _ => exact h1
    | i + 2, hi => exact absurd hi (by simp)⟩
/-- The cells of a row's elements. -/
def RowAt (w : World) (a : Option Addr) (l : List Val) : Prop :=
  l ≠ [] → ∃ b off, a = some ⟨b, off, none⟩ ∧ ∀ i (h : i < l.length), w.cell? ⟨b, off + i * 3, none⟩ = some (.int .i64 (l[i]).k) ∧ w.cell? ⟨b, off + i * 3 + 1, none⟩ = some (.int .i64 (l[i]).n) ∧ w.cell? ⟨b, off + i * 3 + 2, none⟩ = some (.string (l[i]).s)

theorem RowAt.later {w w' : World} {a : Option Addr} {l : List Val} (h : RowAt w a l) (hb : Below w.heap.size w w') : RowAt w' a l := fun hn => by
  obtain ⟨b, off, e, hc⟩ := h hn
  exact ⟨b, off, e, fun i hi => ⟨cell_later hb (hc i hi).1, cell_later hb (hc i hi).2.1, cell_later hb (hc i hi).2.2⟩⟩

end Go.Proofs.YtneebnankghhgacGreatDoor

/- A row's key, plainly: it is read back as it was written; keys stand to one another, byte by byte, as their rows do. Nothing of any program here. Conditions: each lemma names its own. -/
namespace Go.Proofs.YtneebnankghhgacGreatDoor
open Go.RowKit

/-! ### A text's bytes in a key -/
def esc : List UInt8 → List UInt8
  | [] => []
  | b :: t => if b = 0 then 0 :: 255 :: esc t else b :: esc t
def unesc : List UInt8 → Option (List UInt8 × Nat)
  | [] => none
  | [_] => none
  | a :: b :: r =>
    if a ≠ 0 then (unesc (b :: r)).map (fun x => (a :: x.1, x.2 + 1))
    else if b = 0 then some ([], 2)
    else if b = 255 then (unesc r).map (fun x => (0 :: x.1, x.2 + 2))
    else none
theorem esc_zero (t : List UInt8) : esc (0 :: t) = 0 :: 255 :: esc t := rfl
theorem esc_more {b : UInt8} (t : List UInt8) (h : b ≠ 0) : esc (b :: t) = b :: esc t := by simp [esc, h]
theorem unesc_more {a : UInt8} {l : List UInt8} (h : a ≠ 0) : unesc (a :: l) = (unesc l).map (fun x => (a :: x.1, x.2 + 1)) := by
  cases l with
  | nil => rfl
  | cons b r => rw [unesc, if_pos h]
theorem unesc_end (r : List UInt8) : unesc (0 :: 0 :: r) = some ([], 2) := by simp [unesc]
theorem unesc_zero (r : List UInt8) : unesc (0 :: 255 :: r) = (unesc r).map (fun x => (0 :: x.1, x.2 + 2)) := by simp [unesc]
theorem unesc_bad {b : UInt8} (r : List UInt8) (h0 : b ≠ 0) (h1 : b ≠ 255) : unesc (0 :: b :: r) = none := by simp [unesc, h0, h1]
theorem unesc_one (a : UInt8) : unesc [a] = none := rfl
theorem unesc_esc : ∀ (t r : List UInt8), unesc (esc t ++ 0 :: 0 :: r) = some (t, (esc t).length + 2)
  | [], r => by simp [esc, unesc_end]
  | b :: t, r => by
    by_cases h : b = 0
    · subst h
      rw [esc_zero, List.cons_append, List.cons_append, unesc_zero, unesc_esc t r]; rfl
    · rw [esc_more t h, List.cons_append, unesc_more h, unesc_esc t r]; simp
theorem esc_unesc : ∀ (n : Nat) (s t : List UInt8) (m : Nat), s.length ≤ n → unesc s = some (t, m) → s = esc t ++ 0 :: 0 :: s.drop m ∧ m = (esc t).length + 2 := by
  intro n
  induction n with
  | zero =>
    intro s t m hl h
    rw [List.length_eq_zero_iff.1 (Nat.le_zero.1 hl)] at h
    cases h
  | succ n ih =>
    intro s t m hl h
    cases s with
    | nil => cases h
    | cons a l =>
      by_cases ha : a = 0
      · subst ha
        cases l with
        | nil => cases h
        | cons b r =>
          by_cases hb : b = 0
          · subst hb
            rw [unesc_end] at h
            obtain ⟨rfl, rfl⟩ := Prod.mk.inj (Option.some.inj h)
            exact ⟨rfl, rfl⟩
          by_cases hf : b = 255
          · subst hf
            rw [unesc_zero] at h
            obtain ⟨⟨t', m'⟩, h', e⟩ := Option.map_eq_some_iff.1 h
            dsimp only at e
            obtain ⟨rfl, rfl⟩ := Prod.mk.inj e
            obtain ⟨e1, e2⟩ := ih r t' m' (by simp at hl; omega) h'
            refine ⟨?_, by rw [esc_zero, List.length_cons, List.length_cons]; omega⟩
            rw [esc_zero, List.cons_append, List.cons_append, List.drop_succ_cons, List.drop_succ_cons, ← e1]
          · rw [unesc_bad r hb hf] at h; cases h
      · rw [unesc_more ha] at h
        obtain ⟨⟨t', m'⟩, h', e⟩ := Option.map_eq_some_iff.1 h
        dsimp only at e
        obtain ⟨rfl, rfl⟩ := Prod.mk.inj e
        obtain ⟨e1, e2⟩ := ih l t' m' (by simp at hl; omega) h'
        refine ⟨?_, by rw [esc_more _ ha, List.length_cons]; omega⟩
        rw [esc_more _ ha, List.cons_append, List.drop_succ_cons, ← e1]
theorem esc_len : ∀ t, (esc t).length ≤ 2 * t.length
  | [] => Nat.le_refl _
  | b :: t => by
    have := esc_len t
    by_cases h : b = 0
    · subst h; rw [esc_zero]; simp; omega
    · rw [esc_more t h]; simp; omega
theorem u8_pos {b : UInt8} (h : b ≠ 0) : (0 : UInt8).toNat < b.toNat := by
  show 0 < b.toNat
  rcases Nat.eq_zero_or_pos b.toNat with e | e
  · exact absurd (UInt8.toNat_inj.1 (by rw [e]; rfl)) h
  · exact e
theorem u8_low (b : UInt8) : ¬ b.toNat < (0 : UInt8).toNat := by show ¬ b.toNat < 0; omega
theorem esc_order : ∀ (s t r r' : List UInt8), Lib.compareBytes (esc s ++ 0 :: 0 :: r) (esc t ++ 0 :: 0 :: r') = if s = t then Lib.compareBytes r r' else Lib.compareBytes s t
  | [], [], r, r' => by rw [if_pos rfl]; simp [esc, bytes_cons_same]
  | [], b :: t, r, r' => by
    rw [if_neg (by simp)]
    by_cases h : b = 0
    · subst h
      rw [esc_zero]
      show Lib.compareBytes (0 :: 0 :: r) (0 :: 255 :: (esc t ++ 0 :: 0 :: r')) = -1
      rw [bytes_cons_same, bytes_cons, if_pos (by decide)]
    · rw [esc_more t h]
      show Lib.compareBytes (0 :: 0 :: r) (b :: (esc t ++ 0 :: 0 :: r')) = -1
      rw [bytes_cons, if_pos (u8_pos h)]
  | b :: s, [], r, r' => by
    rw [if_neg (by simp)]
    by_cases h : b = 0
    · subst h
      rw [esc_zero]
      show Lib.compareBytes (0 :: 255 :: (esc s ++ 0 :: 0 :: r)) (0 :: 0 :: r') = 1
      rw [bytes_cons_same, bytes_cons, if_neg (by decide), if_pos (by decide)]
    · rw [esc_more s h]
      show Lib.compareBytes (b :: (esc s ++ 0 :: 0 :: r)) (0 :: 0 :: r') = 1
      have := u8_pos h
      rw [bytes_cons, if_neg (u8_low b), if_pos this]
  | b :: s, c :: t, r, r' => by
    have ih := esc_order s t r r'
    by_cases hb : b = 0
    · subst hb
      by_cases hc : c = 0
      · subst hc
        rw [esc_zero, esc_zero, List.cons_append, List.cons_append, List.cons_append, List.cons_append, bytes_cons_same, bytes_cons_same, ih, bytes_cons_same]
        simp
      · rw [esc_zero, esc_more t hc, List.cons_append, List.cons_append, List.cons_append, bytes_cons, if_pos (u8_pos hc), if_neg (by simp; intro e; exact absurd e.symm hc), bytes_cons, if_pos (u8_pos hc)]
    · by_cases hc : c = 0
      · subst hc
        have := u8_pos hb
        rw [esc_zero, esc_more s hb, List.cons_append, List.cons_append, List.cons_append, bytes_cons, if_neg (u8_low b), if_pos this, if_neg (by simp [hb]), bytes_cons, if_neg (u8_low b), if_pos this]
      · rw [esc_more s hb, esc_more t hc, List.cons_append, List.cons_append, bytes_cons, bytes_cons, ih]
        by_cases h1 : b.toNat < c.toNat
        · rw [if_pos h1, if_neg (by simp; intro e; subst e; omega), if_pos h1]
        · rw [if_neg h1]
          by_cases h2 : c.toNat < b.toNat
          · rw [if_pos h2, if_neg (by simp; intro e; subst e; omega), if_neg h1, if_pos h2]
          · obtain rfl : b = c := UInt8.toNat_inj.1 (by omega)
            rw [if_neg h2, if_neg h1, if_neg h2]
            simp

/-! ### A row's key -/
def high (n : Int) : Nat := (n + 9223372036854775808).toNat
def low (u : Nat) : Int := (u : Int) - 9223372036854775808
def keyB (v : Val) : List UInt8 :=
  if v.k = 1 then 2 :: encBE 8 (high v.n) else if v.k = 2 then [3, UInt8.ofNat v.n.toNat] else if v.k = 3 then 4 :: (esc v.s.data.toList ++ [0, 0]) else [1]
def keyD : List UInt8 → Option (Val × Nat)
  | [] => none
  | b :: r =>
    if b = 1 then some (noV, 1)
    else if b = 2 then (if 8 ≤ r.length then some (⟨1, low (decBE (r.take 8)), txt []⟩, 9) else none)
    else if b = 3 then (match r with | [] => none | c :: _ => if c.toNat ≤ 1 then some (⟨2, c.toNat, txt []⟩, 2) else none)
    else if b = 4 then (match unesc r with | none => none | some (t, m) => if t.length ≤ 64 then some (⟨3, 0, txt t⟩, m + 1) else none)
    else none
theorem keyB_none : keyB noV = [1] := rfl
theorem keyB_int (n : Int) : keyB ⟨1, n, txt []⟩ = 2 :: encBE 8 (high n) := rfl
theorem keyB_bool (n : Int) : keyB ⟨2, n, txt []⟩ = [3, UInt8.ofNat n.toNat] := rfl
theorem keyB_text (l : List UInt8) : keyB ⟨3, 0, txt l⟩ = 4 :: (esc l ++ [0, 0]) := rfl
theorem keyD_none (r : List UInt8) : keyD (1 :: r) = some (noV, 1) := rfl
theorem keyD_int (r : List UInt8) : keyD (2 :: r) = if 8 ≤ r.length then some (⟨1, low (decBE (r.take 8)), txt []⟩, 9) else none := rfl
theorem keyD_bool (c : UInt8) (r : List UInt8) : keyD (3 :: c :: r) = if c.toNat ≤ 1 then some (⟨2, c.toNat, txt []⟩, 2) else none := rfl
theorem keyD_text {r t : List UInt8} {m : Nat} (h : unesc r = some (t, m)) : keyD (4 :: r) = if t.length ≤ 64 then some (⟨3, 0, txt t⟩, m + 1) else none := by
  show (match unesc r with | none => none | some (t, m) => if t.length ≤ 64 then some (⟨3, 0, txt t⟩, m + 1) else none : Option (Val × Nat)) = _
  rw [h]
theorem keyD_no {r : List UInt8} (h : unesc r = none) : keyD (4 :: r) = none := by
  show (match unesc r with | none => none | some (t, m) => if t.length ≤ 64 then some (⟨3, 0, txt t⟩, m + 1) else none : Option (Val × Nat)) = _
  rw [h]
theorem keyD_else {b : UInt8} (r : List UInt8) (h0 : b ≠ 1) (h1 : b ≠ 2) (h2 : b ≠ 3) (h3 : b ≠ 4) : keyD (b :: r) = none := by
  simp [keyD, h0, h1, h2, h3]
theorem high_lt {n : Int} (h2 : n ≤ 9223372036854775807) : high n < 256 ^ 8 := by unfold high; rw [pow8]; omega
theorem low_high {n : Int} (h1 : -9223372036854775808 ≤ n) : low (high n) = n := by unfold low high; omega
theorem high_low (u : Nat) : high (low u) = u := by unfold low high; omega
theorem low_in {u : Nat} (h : u < 256 ^ 8) : -9223372036854775808 ≤ low u ∧ low u ≤ 9223372036854775807 := by unfold low; rw [pow8] at h; omega

theorem keyCoded : Coded keyB keyD := {
  there := fun v h r => by
    rcases okV_cases h with rfl | ⟨n, rfl, h1, h2⟩ | ⟨n, rfl, hn⟩ | ⟨l, rfl, hl⟩
    · rfl
    · rw [keyB_int, List.cons_append, keyD_int, if_pos (by rw [List.length_append, encBE_len]; omega), List.take_left' (encBE_len 8 _), decBE_encBE 8 _ (high_lt h2), low_high h1, List.length_cons, encBE_len]
    · rw [keyB_bool]
      rcases hn with rfl | rfl <;> rfl
    · rw [keyB_text, List.cons_append, List.append_assoc]
      show keyD (4 :: (esc l ++ 0 :: 0 :: r)) = _
      rw [keyD_text (unesc_esc l r), if_pos hl]
      simp
  back := fun s v m h => by
    cases s with
    | nil => cases h
    | cons b r =>
      by_cases b0 : b = 1
      · subst b0
        rw [keyD_none] at h
        obtain ⟨rfl, rfl⟩ := Prod.mk.inj (Option.some.inj h)
        exact ⟨ok_none, rfl, rfl⟩
      by_cases b1 : b = 2
      · subst b1
        rw [keyD_int] at h
        split at h
        · rename_i h8
          obtain ⟨rfl, rfl⟩ := Prod.mk.inj (Option.some.inj h)
          have hl : (r.take 8).length = 8 := by rw [List.length_take]; omega
          have hlt := decBE_lt (r.take 8)
          rw [hl] at hlt
          have hs := low_in hlt
          refine ⟨ok_int hs.1 hs.2, ?_, by rw [keyB_int, List.length_cons, encBE_len]⟩
          rw [keyB_int, high_low, encBE_decBE_of _ 8 hl, List.cons_append, List.drop_succ_cons, List.take_append_drop]
        · cases h
      by_cases b2 : b = 3
      · subst b2
        cases r with
        | nil => cases h
        | cons c r =>
          rw [keyD_bool] at h
          split at h
          · rename_i hc
            obtain ⟨rfl, rfl⟩ := Prod.mk.inj (Option.some.inj h)
            refine ⟨ok_bool (by omega), ?_, rfl⟩
            rw [keyB_bool]
            show 3 :: c :: r = 3 :: UInt8.ofNat _ :: r
            rw [Int.toNat_natCast, UInt8.ofNat_toNat]
          · cases h
      by_cases b3 : b = 4
      · subst b3
        cases hu : unesc r with
        | none => rw [keyD_no hu] at h; cases h
        | some x =>
          obtain ⟨t, m'⟩ := x
          rw [keyD_text hu] at h
          split at h
          · rename_i hl
            obtain ⟨rfl, rfl⟩ := Prod.mk.inj (Option.some.inj h)
            obtain ⟨e1, e2⟩ := esc_unesc r.length r t m' (Nat.le_refl _) hu
            refine ⟨ok_text hl, ?_, by rw [keyB_text]; simp; omega⟩
            rw [keyB_text, List.drop_succ_cons, List.cons_append, List.append_assoc]
            show 4 :: r = 4 :: (esc t ++ 0 :: 0 :: r.drop m')
            rw [← e1]
          · cases h
      rw [keyD_else r b0 b1 b2 b3] at h; cases h
  pos := fun v => by
    unfold keyB
    repeat' split
    all_goals simp }

/-! ### The order of keys -/
theorem key_less {x y : Val} {a b : UInt8} {s t : List UInt8} (r r' : List UInt8) (hx : keyB x = a :: s) (hy : keyB y = b :: t) (h : a.toNat < b.toNat) (hk : x.k < y.k) : Lib.compareBytes (keyB x ++ r) (keyB y ++ r') = if cmpT x y = 0 then Lib.compareBytes r r' else cmpT x y := by
  have e : cmpT x y = -1 := by unfold cmpT cmpV; rw [if_pos hk]
  rw [e, if_neg (by decide), hx, hy, List.cons_append, List.cons_append, bytes_cons, if_pos h]
theorem key_more {x y : Val} {a b : UInt8} {s t : List UInt8} (r r' : List UInt8) (hx : keyB x = a :: s) (hy : keyB y = b :: t) (h : b.toNat < a.toNat) (hk : y.k < x.k) : Lib.compareBytes (keyB x ++ r) (keyB y ++ r') = if cmpT x y = 0 then Lib.compareBytes r r' else cmpT x y := by
  have e : cmpT x y = 1 := by unfold cmpT cmpV; rw [if_neg (by omega), if_pos hk]
  rw [e, if_neg (by decide), hx, hy, List.cons_append, List.cons_append, bytes_cons, if_neg (by omega), if_pos h]
theorem cmpT_num (k n n' : Int) : cmpT ⟨k, n, txt []⟩ ⟨k, n', txt []⟩ = if n < n' then -1 else if n' < n then 1 else 0 := by
  unfold cmpT cmpV
  dsimp only
  rw [if_neg (by omega), if_neg (by omega)]; rfl
theorem cmpT_text (l l' : List UInt8) : cmpT ⟨3, 0, txt l⟩ ⟨3, 0, txt l'⟩ = Lib.compareBytes l l' := by
  unfold cmpT cmpV
  dsimp only
  rw [if_neg (by omega), if_neg (by omega), if_neg (by omega), if_neg (by omega)]; rfl
theorem key_order {x y : Val} (hx : okV x) (hy : okV y) (r r' : List UInt8) : Lib.compareBytes (keyB x ++ r) (keyB y ++ r') = if cmpT x y = 0 then Lib.compareBytes r r' else cmpT x y := by
  rcases okV_cases hx with rfl | ⟨n, rfl, h1, h2⟩ | ⟨n, rfl, hn⟩ | ⟨l, rfl, hl⟩ <;> rcases okV_cases hy with rfl | ⟨n', rfl, h1', h2'⟩ | ⟨n', rfl, hn'⟩ | ⟨l', rfl, hl'⟩
  · rw [if_pos ((cmpT_zero _ _).2 rfl)]; exact bytes_cons_same _ _ _
  · exact key_less r r' keyB_none (keyB_int n') (by decide) (by show (0 : Int) < 1; decide)
  · exact key_less r r' keyB_none (keyB_bool n') (by decide) (by show (0 : Int) < 2; decide)
  · exact key_less r r' keyB_none (keyB_text l') (by decide) (by show (0 : Int) < 3; decide)
  · exact key_more r r' (keyB_int n) keyB_none (by decide) (by show (0 : Int) < 1; decide)
  · rw [keyB_int, keyB_int, List.cons_append, List.cons_append, bytes_cons_same, bytes_BE 8 _ _ _ _ (high_lt h2) (high_lt h2'), cmpT_num]
    unfold high
    repeat' split
    all_goals first | rfl | omega
  · exact key_less r r' (keyB_int n) (keyB_bool n') (by decide) (by show (1 : Int) < 2; decide)
  · exact key_less r r' (keyB_int n) (keyB_text l') (by decide) (by show (1 : Int) < 3; decide)
  · exact key_more r r' (keyB_bool n) keyB_none (by decide) (by show (0 : Int) < 2; decide)
  · exact key_more r r' (keyB_bool n) (keyB_int n') (by decide) (by show (1 : Int) < 2; decide)
  · rw [keyB_bool, keyB_bool, cmpT_num]
    show Lib.compareBytes (3 :: UInt8.ofNat n.toNat :: r) (3 :: UInt8.ofNat n'.toNat :: r') = _
    rw [bytes_cons_same, bytes_cons, u8_ofNat, u8_ofNat]
    rcases hn with rfl | rfl <;> rcases hn' with rfl | rfl <;> rfl
  · exact key_less r r' (keyB_bool n) (keyB_text l') (by decide) (by show (2 : Int) < 3; decide)
  · exact key_more r r' (keyB_text l) keyB_none (by decide) (by show (0 : Int) < 3; decide)
  · exact key_more r r' (keyB_text l) (keyB_int n') (by decide) (by show (1 : Int) < 3; decide)
  · exact key_more r r' (keyB_text l) (keyB_bool n') (by decide) (by show (2 : Int) < 3; decide)
  · rw [keyB_text, keyB_text, List.cons_append, List.cons_append, bytes_cons_same, List.append_assoc, List.append_assoc, cmpT_text]
    show Lib.compareBytes (esc l ++ 0 :: 0 :: r) (esc l' ++ 0 :: 0 :: r') = _
    rw [esc_order]
    by_cases e : l = l'
    · subst e; rw [if_pos rfl, if_pos (bytes_same l)]
    · rw [if_neg e, if_neg (fun h => e (bytes_zero l l' h))]
theorem keys_order : ∀ (a b : List Val), (∀ v ∈ a, okV v) → (∀ v ∈ b, okV v) → Lib.compareBytes (encL keyB a) (encL keyB b) = rowsV a b
  | [], [], _, _ => rfl
  | [], y :: b, _, _ => by
    rw [encL_cons, encL_nil]
    have := keyCoded.pos y
    cases h : keyB y with
    | nil => rw [h] at this; exact absurd this (by simp)
    | cons c s => rfl
  | x :: a, [], _, _ => by
    rw [encL_cons, encL_nil]
    have := keyCoded.pos x
    cases h : keyB x with
    | nil => rw [h] at this; exact absurd this (by simp)
    | cons c s => rfl
  | x :: a, y :: b, ha, hb => by
    rw [encL_cons, encL_cons, key_order (ha x (by simp)) (hb y (by simp)), keys_order a b (fun v hv => ha v (by simp [hv])) (fun v hv => hb v (by simp [hv])), rowsV]

/-! ### Which rows may be -/
def firstBad : List Val → Int
  | [] => 0
  | v :: l => if chk v.k v.n v.s = 0 then firstBad l else chk v.k v.n v.s
/-- The error that a row is refused with; 0: none. -/
def rightV (l : List Val) : Int := if 8 < l.length then 3 else firstBad l
theorem firstBad_ok : ∀ {l : List Val}, (∀ v ∈ l, inI v) → firstBad l = 0 → ∀ v ∈ l, okV v
  | [], _, _, v, hv => absurd hv (by simp)
  | x :: l, hn, h, v, hv => by
    unfold firstBad at h
    by_cases hx : chk x.k x.n x.s = 0
    · rw [if_pos hx] at h
      rcases List.mem_cons.1 hv with rfl | hv
      · exact ⟨hx, hn v (by simp)⟩
      · exact firstBad_ok (fun v hv => hn v (by simp [hv])) h v hv
    · rw [if_neg hx] at h; exact absurd h hx
theorem firstBad_of : ∀ {l : List Val}, (∀ v ∈ l, okV v) → firstBad l = 0
  | [], _ => rfl
  | x :: l, h => by unfold firstBad; rw [if_pos (h x (by simp)).1]; exact firstBad_of (fun v hv => h v (by simp [hv]))
theorem rightV_ok {l : List Val} (hn : ∀ v ∈ l, inI v) (h : rightV l = 0) : l.length ≤ 8 ∧ ∀ v ∈ l, okV v := by
  unfold rightV at h
  split at h
  · cases h
  · exact ⟨by omega, firstBad_ok hn h⟩
theorem rightV_of {l : List Val} (h1 : l.length ≤ 8) (h2 : ∀ v ∈ l, okV v) : rightV l = 0 := by
  unfold rightV; rw [if_neg (by omega)]; exact firstBad_of h2
theorem rightV_take {l : List Val} (k : Nat) (h : rightV l = 0) (hn : ∀ v ∈ l, inI v) : rightV (l.take k) = 0 := by
  obtain ⟨h1, h2⟩ := rightV_ok hn h
  exact rightV_of (by rw [List.length_take]; omega) (fun v hv => h2 v (List.mem_of_mem_take hv))
theorem rightV_drop {l : List Val} (k : Nat) (h : rightV l = 0) (hn : ∀ v ∈ l, inI v) : rightV (l.drop k) = 0 := by
  obtain ⟨h1, h2⟩ := rightV_ok hn h
  exact rightV_of (by rw [List.length_drop]; omega) (fun v hv => h2 v (List.mem_of_mem_drop hv))
theorem rows_len {l : List Val} (h : ∀ v ∈ l, okV v) : (encL rowB l).length ≤ 66 * l.length := by
  induction l with
  | nil => simp [encL]
  | cons x l ih =>
    have h1 := rowB_len (h x (by simp))
    have h2 := ih (fun v hv => h v (by simp [hv]))
    rw [encL_cons, List.length_append, List.length_cons]; omega
theorem key_len {v : Val} (h : okV v) : (keyB v).length ≤ 131 := by
  rcases okV_cases h with rfl | ⟨n, rfl, _⟩ | ⟨n, rfl, _⟩ | ⟨l, rfl, hl⟩
  · rw [keyB_none]; simp
  · rw [keyB_int, List.length_cons, encBE_len]; omega
  · rw [keyB_bool]; simp
  · have := esc_len l
    rw [keyB_text]; simp; omega

/-! ### What the laws ask of keys and rows -/
theorem less_sign (x y : List UInt8) : Op.bytesLess x y = decide (Lib.compareBytes x y < 0) := by
  cases h : Op.bytesLess x y with
  | true => rw [bytes_less x y h]; rfl
  | false =>
    by_cases e : x = y
    · rw [e, bytes_same]; rfl
    · rw [bytes_more x y h e]; rfl
theorem keys_less {a b : List Val} (ha : ∀ v ∈ a, okV v) (hb : ∀ v ∈ b, okV v) : Op.bytesLess (encL keyB a) (encL keyB b) = decide (rowsV a b < 0) := by
  rw [less_sign, keys_order a b ha hb]
theorem rowsV_zero : ∀ (a b : List Val), rowsV a b = 0 ↔ a = b
  | [], [] => by simp [rowsV]
  | [], _ :: _ => by simp [rowsV]
  | _ :: _, [] => by simp [rowsV]
  | x :: a, y :: b => by
    unfold rowsV
    by_cases h : cmpT x y = 0
    · rw [if_pos h, rowsV_zero a b]
      obtain rfl := (cmpT_zero x y).1 h
      simp
    · rw [if_neg h]
      constructor
      · intro e; exact absurd e h
      · intro e
        obtain ⟨rfl, _⟩ := List.cons.inj e
        exact absurd ((cmpT_zero x x).2 rfl) h
theorem keys_same {a b : List Val} (ha : ∀ v ∈ a, okV v) (hb : ∀ v ∈ b, okV v) : encL keyB a = encL keyB b ↔ rowsV a b = 0 := by
  rw [rowsV_zero]
  exact ⟨keyCoded.inj ha hb, fun e => by rw [e]⟩
theorem rows_same {a b : List Val} (ha : ∀ v ∈ a, okV v) (hb : ∀ v ∈ b, okV v) : encL rowB a = encL rowB b ↔ rowsV a b = 0 := by
  rw [rowsV_zero]
  exact ⟨rowCoded.inj ha hb, fun e => by rw [e]⟩
theorem begins_iff {a b : List Val} (ha : ∀ v ∈ a, okV v) (hb : ∀ v ∈ b, okV v) :
    (a.length ≤ b.length ∧ rowsV a (b.take (min a.length b.length)) = 0) ↔ ((encL keyB a).length ≤ (encL keyB b).length ∧ (encL keyB b).take (min (encL keyB a).length (encL keyB b).length) = encL keyB a) := by
  rw [rowsV_zero]
  constructor
  · rintro ⟨h1, h2⟩
    rw [Nat.min_eq_left h1] at h2
    have e : encL keyB b = encL keyB a ++ encL keyB (b.drop a.length) := by
      rw [← encL_append]; congr 1
      have := (List.take_append_drop a.length b).symm
      rwa [← h2] at this
    have hl : (encL keyB a).length ≤ (encL keyB b).length := by rw [e, List.length_append]; omega
    refine ⟨hl, ?_⟩
    rw [Nat.min_eq_left hl, e, List.take_left' rfl]
  · rintro ⟨h1, h2⟩
    rw [Nat.min_eq_left h1] at h2
    have e : encL keyB b = encL keyB a ++ (encL keyB b).drop (encL keyB a).length := by
      have := (List.take_append_drop (encL keyB a).length (encL keyB b)).symm
      rwa [h2] at this
    obtain ⟨c, rfl⟩ := keyCoded.begins a b _ ha hb e
    have hl : a.length ≤ (a ++ c).length := by simp
    refine ⟨hl, ?_⟩
    rw [Nat.min_eq_left hl, List.take_left' rfl]
end Go.Proofs.YtneebnankghhgacGreatDoor

/- The reference of layer 3: whether all of a row's values may be; numbers in eight bytes: contracts of the calls, in whatever memory. Conditions: a row's cells are known (what came in reads so). -/
namespace Go.Proofs.YtneebnankghhgacGreatDoor
open Go.RowKit

/-! ### A text cut -/
theorem cut_at (l : List UInt8) (i j : Int) (W : World) (h0 : 0 ≤ i) (h1 : i ≤ j) (h2 : j ≤ l.length) :
    (Instr.slice 9 (.string (txt l)) (some (.int .i64 i)) (some (.int .i64 j)) none).run Tryz.prog W = .ok (.string (txt ((l.drop i.toNat).take (j.toNat - i.toNat)))) W := by
  rw [run_slice_string W 9 (txt l) .i64 .i64 i j Tryz.underlying9 h0 h1 (by rw [txt_size]; exact h2), txt_cut]
theorem cut_from (l : List UInt8) (i : Int) (W : World) (h0 : 0 ≤ i) (h1 : i ≤ l.length) :
    (Instr.slice 9 (.string (txt l)) (some (.int .i64 i)) none none).run Tryz.prog W = .ok (.string (txt (l.drop i.toNat))) W := by
  rw [run_slice_string_l W 9 (txt l) Tryz.underlying9 .i64 i h0 (by rw [txt_size]; exact h1), txt_cut, txt_size, List.take_of_length_le (by rw [List.length_drop]; omega)]

theorem bad_here {l : List Val} {k : Nat} (h : k < l.length) (hb : chk l[k].k l[k].n l[k].s ≠ 0) : firstBad (l.drop k) = chk l[k].k l[k].n l[k].s := by
  rw [List.drop_eq_getElem_cons h, firstBad, if_neg hb]
theorem bad_next {l : List Val} {k : Nat} (h : k < l.length) (hb : chk l[k].k l[k].n l[k].s = 0) : firstBad (l.drop k) = firstBad (l.drop (k + 1)) := by
  rw [List.drop_eq_getElem_cons h, firstBad, if_pos hb]

theorem wrap_u64 (x : Int) (h1 : 0 ≤ x) (h2 : x < 18446744073709551616) : IntKind.u64.wrap x = x := IntWalk.u64_in x ⟨h1, by omega⟩
theorem dec_next (l : List UInt8) (i : Nat) (h : i < l.length) : decBE (l.take (i + 1)) = 256 * decBE (l.take i) + (l[i]).toNat := by
  rw [List.take_succ_eq_append_getElem h, decBE_snoc]

end Go.Proofs.YtneebnankghhgacGreatDoor

/- The project's lexer, one byte and a name: contracts of the calls, in whatever memory. Conditions: each names its own. -/
namespace Go.Proofs.YtneebnankghhgacGreatDoor
open Go.RowKit

theorem isL_iff (c : UInt8) : isL c = true ↔ c.toNat = 95 ∨ (97 ≤ c.toNat ∧ c.toNat ≤ 122) := by simp [isL]
theorem isD_iff (c : UInt8) : isD c = true ↔ 48 ≤ c.toNat ∧ c.toNat ≤ 57 := by simp [isD]

theorem lxLetter_any (c : UInt8) (w : World) :
    Calls Tryz.prog 30 #[.int .u8 c.toNat] w fun e w' => e = .returned (.bool (isL c)) ∧ w = w' := by
  have h255 := c.toNat_lt
  go_enter Tryz.func30, Tryz.ntmps30
  go_wp2
  all_goals
    go_ret
    refine ⟨ret_bool ?_, rfl⟩
    rw [Bool.eq_iff_iff, isL_iff]
    simp_all
  all_goals omega
theorem lxDigit_any (c : UInt8) (w : World) :
    Calls Tryz.prog 32 #[.int .u8 c.toNat] w fun e w' => e = .returned (.bool (isD c)) ∧ w = w' := by
  have h255 := c.toNat_lt
  go_enter Tryz.func32, Tryz.ntmps32
  go_wp2
  all_goals
    go_ret
    refine ⟨ret_bool ?_, rfl⟩
    rw [Bool.eq_iff_iff, isD_iff]
    simp_all
  all_goals omega
theorem goes_at {l : List UInt8} {k : Nat} (h : k < l.length) : goesOn l k = (isL l[k] || (decide (0 < k) && isD l[k])) := by
  unfold goesOn
  rw [List.getElem?_eq_getElem h]
theorem goes_no {l : List UInt8} {k : Nat} (h : l.length ≤ k) : goesOn l k = false := by
  unfold goesOn
  rw [List.getElem?_eq_none h]
theorem goes_more {l : List UInt8} {k : Nat} (h : ∀ j, j < k → goesOn l j = true) (hk : goesOn l k = true) : ∀ j, j < k + 1 → goesOn l j = true := fun j hj => by
  rcases Nat.lt_or_ge j k with g | g
  · exact h j g
  · obtain rfl : j = k := by omega
    exact hk
theorem u8_back (c : UInt8) : IntKind.u8.wrap (c.toNat : Int) = (c.toNat : Int) := by
  have := c.toNat_lt
  exact IntWalk.u8_in _ ⟨by omega, by omega⟩

set_option maxHeartbeats 1000000 in
theorem lxNameSize_any (l : List UInt8) (w : World) (hl : l.length ≤ maxLen) :
    Calls Tryz.prog 49 #[.string (txt l)] w fun e w' => e = .returned (.int .i64 (nmS l : Nat)) ∧ w = w' := by
  unfold maxLen at hl
  have hsz : (txt l).size = l.length := txt_size l
  go_enter Tryz.func49, Tryz.ntmps49
  go_wp2
  go_loopw [3] (fun i wr => ∃ k : Nat, k ≤ l.length ∧ i = .int .i64 k ∧ wr = w ∧ Hid (∀ j, j < k → goesOn l j = true)) (fun i _ => l.length - (intOf i).toNat)
  case atStart => exact ⟨0, Nat.zero_le _, rfl, rfl, hid0 (fun j h => absurd h (by omega))⟩
  case round =>
    obtain ⟨k, hk, rfl, rfl, hR⟩ := hrel
    by_cases hlt : k < l.length
    · have hk2 : k < (txt l).size := by omega
      have e : (txt l)[k]'hk2 = l[k] := txt_get l k hk2 hlt
      have hg : goesOn l k = (isL l[k] || (decide (0 < k) && isD l[k])) := goes_at hlt
      obtain ⟨c, hc⟩ : ∃ c, l[k] = c := ⟨_, rfl⟩
      rw [hc] at e hg
      have CL := fun W => lxLetter_any c W
      have CD := fun W => lxDigit_any c W
      have HG := hid0 hg
      clear hg hc
      have hki : (k : Int) < (l.length : Int) := by omega
      go_wp2_with (first
        | (go_at_call 30; refine (CL _).mono ?_; rintro e w' ⟨rfl, rfl⟩)
        | (go_at_call 32; refine (CD _).mono ?_; rintro e w' ⟨rfl, rfl⟩)
        | fail)
      all_goals first
        | (exact ⟨⟨k + 1, by omega, by go_num, trivial, hid0 (goes_more hR.out (HG.out.trans (by first | (simp [*]; done) | (simp [*]; omega))))⟩, by simp [intOf]; omega⟩)
        | (go_ret; exact ⟨ret_i64 (by rw [nmS_is hR.out (HG.out.trans (by first | (simp [*]; done) | (simp [*]; omega)))]), rfl⟩)
    · go_wp2
      go_ret
      exact ⟨ret_i64 (by rw [nmS_is hR.out (goes_no (by omega))]), rfl⟩

structure Zcell (w : World) (B : Nat) : Prop where
  cell : w.cell? ⟨B, 0, none⟩ = some (.int .i64 0)
def wdV (x : Wd) : Value := .agg #[.int .i64 (x.k : Nat), .string (txt x.s), .int .u64 (x.n : Nat), .int .i64 (x.p : Nat)]

set_option maxHeartbeats 1000000 in
theorem lxName_any (l : List UInt8) (w : World) (hl : l.length ≤ maxLen) :
    Calls Tryz.prog 31 #[.string (txt l)] w fun e w' => e = .returned (.tuple #[wdV ⟨1, l.take (nmS l), 0, 0⟩, .int .i64 (nmS l : Nat)]) ∧ Below w.heap.size w w' := by
  have CN := fun W => lxNameSize_any l W hl
  unfold maxLen at hl
  have hsz : (txt l).size = l.length := txt_size l
  have hle := nmS_le l
  obtain ⟨n, hn⟩ : ∃ n, nmS l = n := ⟨_, rfl⟩
  rw [hn] at CN hle ⊢
  have hcut : ∀ W : World, (Instr.slice 9 (.string (txt l)) none (some (.int .i64 (n : Int))) none).run Tryz.prog W = .ok (.string (txt (l.take n))) W := fun W => by
    rw [run_slice_string_h W 9 (txt l) Tryz.underlying9 .i64 (n : Int) (by omega) (by rw [txt_size]; omega), txt_cut]
    simp
  go_enter Tryz.func31, Tryz.ntmps31
  go_wp2_with (first | (go_at_call 49; refine (CN _).mono ?_; rintro e w' ⟨rfl, rfl⟩) | fail)
  refine bodyPost_ret (v := .tuple #[wdV ⟨1, l.take n, 0, 0⟩, .int .i64 (n : Int)]) (by simp [results, Tryz.results31, go_sem, wdV]) rfl ⟨rfl, by go_grown⟩
end Go.Proofs.YtneebnankghhgacGreatDoor

/- A row of values that a call built itself: what it holds. Nothing of any program here but a value's type. Conditions: each lemma names its own. -/
namespace Go.Proofs.YtneebnankghhgacGreatDoor
open Go.RowKit

theorem info23 : (Tryz.prog.info? 28).map (fun i => (i.zero, i.size, i.bytes)) = some (some (.agg #[.int .i64 0, .int .i64 0, .string ⟨#[]⟩]), 3, 32) := by kernel_rfl

theorem own_below {B : Nat} {e : TypeId} {k : Nat} {v : Value} {n : Nat} {xs : List Value} {w w' : World} (h : w.ownsRow B e k v n xs) (hb : Below w.heap.size w w') : w'.ownsRow B e k v n xs :=
  h.kept (row := none) ⟨hb.os, hb.tape, hb.output, hb.size, fun j hj _ => hb.block j hj⟩ (by cases hv : v.ownBlock <;> simp)

def rowCells (vs : List Val) : List Value := vs.flatMap fun v => [.int .i64 v.k, .int .i64 v.n, .string v.s]
theorem rowCells_snoc (vs : List Val) (v : Val) : rowCells (vs ++ [v]) = rowCells vs ++ [.int .i64 v.k, .int .i64 v.n, .string v.s] := by simp [rowCells]
theorem rowCells_len : ∀ vs, (rowCells vs).length = vs.length * 3
  | [] => rfl
  | v :: vs => by
    have := rowCells_len vs
    show (rowCells vs).length + 3 = _
    rw [this, List.length_cons]; omega
theorem rowCells_at : ∀ (vs : List Val) (i : Nat) (h : i < vs.length), (rowCells vs)[i * 3]? = some (.int .i64 vs[i].k) ∧ (rowCells vs)[i * 3 + 1]? = some (.int .i64 vs[i].n) ∧ (rowCells vs)[i * 3 + 2]? = some (.string vs[i].s)
  | v :: vs, 0, _ => ⟨rfl, rfl, rfl⟩
  | v :: vs, i + 1, h => by
    have := rowCells_at vs i (by simpa using h)
    have e : rowCells (v :: vs) = [.int .i64 v.k, .int .i64 v.n, .string v.s] ++ rowCells vs := rfl
    have g : ∀ d, (rowCells (v :: vs))[(i + 1) * 3 + d]? = (rowCells vs)[i * 3 + d]? := fun d => by
      rw [e, List.getElem?_append_right (by simp; omega)]
      congr 1
      simp; omega
    exact ⟨(g 0).trans this.1, (g 1).trans this.2.1, (g 2).trans this.2.2⟩

theorem row_owned {B : Nat} {w : World} {v : Value} {vs : List Val} (h : w.ownsRow B 28 3 v vs.length (rowCells vs)) : ∃ a c, v = .slice a vs.length c ∧ vs.length ≤ c ∧ c ≤ maxLen ∧ RowAt w a vs := by
  have h0 := h
  obtain ⟨_, hcase⟩ := h
  rcases hcase with ⟨rfl, hl⟩ | ⟨g, cap', cur, rfl, hg, hh, hn, hcap, hsz, htake⟩
  · exact ⟨none, 0, by rw [hl], by omega, by unfold maxLen; omega, fun hne => absurd (List.length_eq_zero_iff.1 hl) hne⟩
  · refine ⟨some ⟨g, 0, none⟩, cap', rfl, hn, hcap, fun _ => ⟨g, 0, rfl, fun i hi => ?_⟩⟩
    obtain ⟨h1, h2, h3⟩ := rowCells_at vs i hi
    rw [Nat.zero_add]
    exact ⟨(h0.cellAt _ (by omega)).trans h1, (h0.cellAt _ (by omega)).trans h2, (h0.cellAt _ (by omega)).trans h3⟩

/-- Behind an append of one value, laid in a block of its own first. -/
theorem row_next {vs : List Val} {x : Val} {w wr wa w1 : World} {v v' : Value} (hown : wr.ownsRow w.heap.size 28 3 v vs.length (rowCells vs)) (hnx : Below w.heap.size w wa)
    (hown' : w1.ownsRow w.heap.size 28 3 v' (vs.length + 1) (rowCells vs ++ [.int .i64 x.k, .int .i64 x.n, .string x.s])) (hgrow : wa.grownBy w1 v.ownBlock) :
    w1.ownsRow w.heap.size 28 3 v' (vs ++ [x]).length (rowCells (vs ++ [x])) ∧ Below w.heap.size w w1 := by
  refine ⟨by rw [rowCells_snoc, List.length_append]; exact hown', hnx.grown hgrow hnx.size (fun j hj => by have := (hown.lt j hj).1; omega)⟩

/-! ### How far a row has been read -/
def readL (dec : List UInt8 → Option (Val × Nat)) (l : List UInt8) : List Val := (decL dec 8 l).getD []
def readE (dec : List UInt8 → Option (Val × Nat)) (l : List UInt8) : Int := if (decL dec 8 l).isSome then 0 else 2
/-- vs have been read, s is left. -/
def ReadTo (dec : List UInt8 → Option (Val × Nat)) (l : List UInt8) (vs : List Val) (s : List UInt8) : Prop :=
  vs.length ≤ 8 ∧ s.length ≤ l.length ∧ decL dec 8 l = (decL dec (8 - vs.length) s).map (vs ++ ·)
theorem read_start (dec : List UInt8 → Option (Val × Nat)) (l : List UInt8) : ReadTo dec l [] l := ⟨by simp, Nat.le_refl _, by simp⟩
theorem read_more {dec : List UInt8 → Option (Val × Nat)} {l s : List UInt8} {vs : List Val} {v : Val} {m : Nat} (h : ReadTo dec l vs s) (hs : s ≠ []) (hd : dec s = some (v, m)) (h8 : vs.length ≠ 8) :
    ReadTo dec l (vs ++ [v]) (s.drop m) := by
  obtain ⟨h1, h2, h3⟩ := h
  refine ⟨by simp; omega, by rw [List.length_drop]; omega, ?_⟩
  rw [h3, show 8 - vs.length = (8 - (vs ++ [v]).length) + 1 by simp; omega, decL_go hs hd, Option.map_map]
  congr 1
  funext x
  simp
theorem read_none {dec : List UInt8 → Option (Val × Nat)} {l s : List UInt8} {vs : List Val} (h : ReadTo dec l vs s) (hs : s ≠ []) (hd : dec s = none ∨ vs.length = 8) : readL dec l = [] ∧ readE dec l = 2 := by
  obtain ⟨h1, h2, h3⟩ := h
  have e : decL dec 8 l = none := by
    rw [h3]
    rcases hd with hd | hd
    · rw [decL_stop hs hd]; rfl
    · rw [hd]
      show (decL dec 0 s).map _ = none
      rw [decL_full hs]; rfl
  unfold readL readE
  rw [e]
  exact ⟨rfl, rfl⟩
theorem read_all {dec : List UInt8 → Option (Val × Nat)} {l : List UInt8} {vs : List Val} (h : ReadTo dec l vs []) : readL dec l = vs ∧ readE dec l = 0 := by
  obtain ⟨h1, h2, h3⟩ := h
  have e : decL dec 8 l = some vs := by rw [h3, decL_nil]; simp
  unfold readL readE
  rw [e]
  exact ⟨rfl, rfl⟩
end Go.Proofs.YtneebnankghhgacGreatDoor

/- Bytes that a call builds by appending: what the slice holds, whatever block it lies in. Nothing of any program here but the type of a slice of bytes. Conditions: each lemma names its own. -/
namespace Go.Proofs.YtneebnankghhgacGreatDoor
open Go.RowKit

theorem info5c : (Tryz.prog.info? 5).map (fun i => (i.zero, i.size, i.bytes)) = some (some (.int .u8 0), 1, 1) := by kernel_rfl

def bytesV (l : List UInt8) : List Value := l.map fun b => Value.int .u8 b.toNat
theorem bytesV_append (a b : List UInt8) : bytesV (a ++ b) = bytesV a ++ bytesV b := List.map_append
theorem bytesV_len (l : List UInt8) : (bytesV l).length = l.length := List.length_map _
theorem bytesV_one (l : List UInt8) : ∀ u ∈ bytesV l, u.oneCell' = true := by
  intro u hu
  obtain ⟨b, _, rfl⟩ := List.mem_map.1 hu
  rfl
theorem strCells_txt (l : List UInt8) : Lib.strCells (txt l) = bytesV l := rfl

/-- The bytes l, in a block of its own from base on, or nil. -/
def Buf (w : World) (base : Nat) (v : Value) (l : List UInt8) : Prop := w.ownsRow base 5 1 v l.length (bytesV l)
theorem Buf.nil (w : World) (base : Nat) : Buf w base (.slice none 0 0) [] := World.ownsRow_nil w base 5 1
theorem Buf.is {w : World} {base : Nat} {v : Value} {l : List UInt8} (h : Buf w base v l) : ∃ a c, v = .slice a l.length c := by
  rcases h.2 with ⟨rfl, hl⟩ | ⟨g, cap, cur, rfl, _⟩
  · exact ⟨none, 0, by rw [hl]⟩
  · exact ⟨_, _, rfl⟩
theorem Buf.kept {w w' : World} {base : Nat} {v : Value} {l : List UInt8} (h : Buf w base v l) (hb : Below w.heap.size w w') : Buf w' base v l := own_below h hb
theorem Buf.alloc {w : World} {base : Nat} {v : Value} {l : List UInt8} (h : Buf w base v l) (o : Obj) : Buf (w.alloc o) base v l := World.ownsRow.alloc h o
theorem Buf.drew {w : World} {base : Nat} {v : Value} {l : List UInt8} (h : Buf w base v l) : Buf w.drew base v l := h
/-- A store into a block that isn't one of bytes. -/
theorem Buf.setCell {w : World} {base : Nat} {v : Value} {l : List UInt8} (h : Buf w base v l) {p : Addr} (hp : p.block < base) (u : Value) : Buf (w.setCell p u) base v l := ownsRow_setCell_below h hp u

theorem Buf.conv {w : World} {base : Nat} {v : Value} {l : List UInt8} (h : Buf w base v l) : (convert 61 9 v).run Tryz.prog w = .ok (.string (txt l)) w := by
  have h0 : w.ownsRow base 5 1 v l.length (bytesV l) := h
  rcases h.2 with ⟨rfl, hl⟩ | ⟨g, cap, cur, rfl, hg, hh, hn, hcap, hsz, htake⟩
  · obtain rfl := List.length_eq_zero_iff.1 hl
    exact run_convert_bytes_nil (P := Tryz.prog) w 61 5 Tryz.underlying61 Tryz.underlying5 0 0 9 Tryz.underlying9
  · refine run_convert_bytes_back (P := Tryz.prog) w 61 9 5 ⟨g, 0, none⟩ cap l Tryz.underlying61 Tryz.underlying5 Tryz.underlying9 (fun j hj => ?_)
    rw [WideShapes.add_plain, Nat.zero_add, h0.cellAt j (by omega)]
    simp [bytesV, hj]

/-- What an append leaves: below base all is as it was, and each block of another type. -/
structure Kept (base : Nat) (w w' : World) : Prop where
  below : Below base w w'
  other : ∀ (B : Nat) cs fz (t : TypeId), t ≠ 5 → w.heap[B]? = some (Obj.cells cs t fz) → w'.heap[B]? = some (Obj.cells cs t fz)
theorem Kept.refl (base : Nat) (w : World) : Kept base w w := ⟨Below.refl _ _, fun _ _ _ _ _ h => h⟩
theorem Kept.trans {base : Nat} {a b c : World} (h : Kept base a b) (k : Kept base b c) : Kept base a c :=
  ⟨h.below.trans k.below, fun B cs fz t ht e => k.other B cs fz t ht (h.other B cs fz t ht e)⟩
theorem Kept.alloc {base : Nat} {w : World} (hb : base ≤ w.heap.size) (o : Obj) : Kept base w (w.alloc o) :=
  ⟨(Below.refl _ _).alloc hb o, fun B cs fz t _ e => by
    rw [Below.heap_alloc w o B (Array.getElem?_eq_some_iff.1 e).1]; exact e⟩
theorem kept_grown {w w' : World} {base : Nat} {v : Value} {l : List UInt8} (h : Buf w base v l) (hb : base ≤ w.heap.size) (hg : w.grownBy w' v.ownBlock) : Kept base w w' := by
  refine ⟨(Below.refl _ _).grown hg hb (fun k hk => (h.lt k hk).1), fun B cs fz t ht e => ?_⟩
  rw [hg.block B (Array.getElem?_eq_some_iff.1 e).1 (fun hB => ?_)]; exact e
  rcases h.2 with ⟨rfl, _⟩ | ⟨g, cap, cur, rfl, _, hh, _⟩
  · cases hB
  · have hB' : B = g := Option.some.inj hB
    subst hB'
    rw [hh] at e
    obtain ⟨-, h2, -⟩ := Obj.cells.inj (Option.some.inj e)
    exact ht h2.symm
theorem Kept.buf_cell {base : Nat} {w w' : World} (h : Kept base w w') {B : Nat} {cs : Array Value} {t : TypeId} {fz : Nat × Nat} (ht : t ≠ 5) (hB : w.heap[B]? = some (Obj.cells cs t fz)) {o : Nat} : w'.cell? ⟨B, o, none⟩ = w.cell? ⟨B, o, none⟩ :=
  World.cell?_of_block (by rw [h.other B cs fz t ht hB, hB])
theorem Kept.buf_frozen {base : Nat} {w w' : World} (h : Kept base w w') {B : Nat} {cs : Array Value} {t : TypeId} {fz : Nat × Nat} (ht : t ≠ 5) (hB : w.heap[B]? = some (Obj.cells cs t fz)) {o : Nat} : w'.frozen? ⟨B, o, none⟩ = w.frozen? ⟨B, o, none⟩ :=
  World.frozen?_of_block (by rw [h.other B cs fz t ht hB, hB])

/-- An append of bytes that lie in memory. -/
theorem wp_put {w : World} {ops : Array Oper} {rest : List Oper} {o : Oper} {a : Act} {Q : Exit → Act → World → Prop} (hgd : o.guard = none) (s x : Operand)
    (ho : o.op = .call { callee := .builtin .append, args := #[s, x], argTypes := #[61, 61] })
    {base : Nat} {v : Value} {l : List UInt8} (hs : a.eval s = v) (hbuf : Buf w base v l)
    (ad : Addr) (m c : Nat) (hx : a.eval x = .slice (some ad) m c) (news : List UInt8) (hm : m = news.length) (hnews : ∀ j u, (bytesV news)[j]? = some u → w.cell? (ad.add j) = some u)
    (hlen : l.length + news.length ≤ 140737488355328) (hbase : base ≤ w.heap.size)
    (h : ∀ v' w', Buf w' base v' (l ++ news) → Kept base w w' → wpList Tryz.prog ops Q rest (a.put o.dst v') w') : wpList Tryz.prog ops Q (o :: rest) a w := by
  obtain ⟨i0, hi, hz0, hz1, hz2⟩ := info_parts info5c
  refine wpList_append_own w hgd s x 61 ho base 5 i0 (.int .u8 0) 1 1 Tryz.underlying61 hi hz0 hz1 hz2 rfl (by decide) v l.length (bytesV l) hs hbuf ad m c (bytesV news) hx (by rw [bytesV_len, hm, Nat.mul_one]) hnews (bytesV_one news) (by unfold maxLen; omega) (by omega) hbase ?_
  intro v' w' hown hgrow _
  refine h v' w' ?_ (kept_grown hbuf hbase hgrow)
  unfold Buf
  rw [List.length_append, bytesV_append, ← hm]
  exact hown
/-- An append of one byte that was just laid in a block of its own. -/
theorem wp_put1 {w : World} {ops : Array Oper} {rest : List Oper} {o : Oper} {a : Act} {Q : Exit → Act → World → Prop} (hgd : o.guard = none) (s x : Operand)
    (ho : o.op = .call { callee := .builtin .append, args := #[s, x], argTypes := #[61, 61] })
    {base : Nat} {v : Value} {l : List UInt8} (hs : a.eval s = v) (hbuf : Buf w base v l)
    (B : Nat) (hx : a.eval x = .slice (some ⟨B, 0, none⟩) 1 1) (b : UInt8) {n : Int} (hnews : w.cell? ⟨B, 0, none⟩ = some (.int .u8 n)) (hn : n = b.toNat)
    (hlen : l.length + 1 ≤ 140737488355328) (hbase : base ≤ w.heap.size)
    (h : ∀ v' w', Buf w' base v' (l ++ [b]) → Kept base w w' → wpList Tryz.prog ops Q rest (a.put o.dst v') w') : wpList Tryz.prog ops Q (o :: rest) a w := by
  refine wp_put hgd s x ho hs hbuf ⟨B, 0, none⟩ 1 1 hx [b] rfl ?_ hlen hbase h
  intro j u hj
  match j, hj with
  | 0, hj =>
    obtain rfl := Option.some.inj hj
    rw [WideShapes.add_plain]
    show w.cell? ⟨B, 0, none⟩ = some (.int .u8 (b.toNat : Int))
    rw [← hn]; exact hnews
  | j + 1, hj => simp [bytesV] at hj
/-- An append of a text. -/
theorem wp_puts {w : World} {ops : Array Oper} {rest : List Oper} {o : Oper} {a : Act} {Q : Exit → Act → World → Prop} (hgd : o.guard = none) (s x : Operand)
    (ho : o.op = .call { callee := .builtin .append, args := #[s, x], argTypes := #[61, 9] })
    {base : Nat} {v : Value} {l : List UInt8} (hs : a.eval s = v) (hbuf : Buf w base v l)
    (t : List UInt8) (hx : a.eval x = .string (txt t)) (hlen : l.length + t.length ≤ 140737488355328) (hbase : base ≤ w.heap.size)
    (h : ∀ v' w', Buf w' base v' (l ++ t) → Kept base w w' → wpList Tryz.prog ops Q rest (a.put o.dst v') w') : wpList Tryz.prog ops Q (o :: rest) a w := by
  obtain ⟨i0, hi, hz0, hz1, hz2⟩ := info_parts info5c
  have ht : (txt t).size = t.length := txt_size t
  refine Lib.wpList_append_own_string w hgd s x 61 9 ho base 5 i0 Tryz.underlying61 Tryz.underlying9 hi hz0 hz1 hz2 v l.length (bytesV l) hs hbuf (txt t) hx (by unfold maxLen; omega) (by omega) hbase ?_
  intro v' w' hown hgrow _
  refine h v' w' ?_ (kept_grown hbuf hbase hgrow)
  unfold Buf
  rw [List.length_append, bytesV_append, ← ht]
  exact hown
end Go.Proofs.YtneebnankghhgacGreatDoor
