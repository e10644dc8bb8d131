/- Several of my texts laid together, each as it was: Wa, Mo, Mv, La, Ma, Mb, Qa, Qb. Conditions: each names its own. -/
import Derived.Test.YtneebnankghhgaaRows
import Derived.WalkKit
import Derived.WalkSpells
import Derived.WalkLawsBesides
import Derived.Handy
import Derived.BigQuiet
import Derived.Deep.QuietTactic
import Derived.Lib.Bytealg
/- What the two checks of a value answer, said once for both: contracts of the calls, in whatever memory. -/
namespace Go.Proofs.Ytneebnankghhgaa
open Go.RowKit

theorem below_cells {W w1 : World} (hb : Below W.heap.size W w1) : (∀ b o, b < W.heap.size → w1.cell? ⟨b, o, none⟩ = W.cell? ⟨b, o, none⟩) ∧ (∀ b o, b < W.heap.size → w1.frozen? ⟨b, o, none⟩ = W.frozen? ⟨b, o, none⟩) :=
  ⟨fun b o h => hb.cell (p := ⟨b, o, none⟩) h, fun b o h => hb.frozen (p := ⟨b, o, none⟩) h⟩

theorem below_through {n : Nat} {W w1 w2 : World} (hb : Below w1.heap.size w1 w2) (hn : n ≤ w1.heap.size) (h : Below n W w1) : Below n W w2 := h.trans (hb.mono hn)

theorem hid0 {p : Prop} (h : p) : Hid p := h

theorem isEmpty_dec (l : List UInt8) : l.isEmpty = decide (l = []) := by cases l <;> simp

def chk (k n : Int) (s : ByteArray) : Int :=
  if k = 0 then (if n = 0 ∧ s.toList = [] then 0 else 1)
  else if k = 1 then (if s.toList = [] then 0 else 1)
  else if k = 2 then (if s.toList = [] ∧ (n = 0 ∨ n = 1) then 0 else 1)
  else if k = 3 then (if n = 0 then (if s.size ≤ 64 then 0 else 3) else 1)
  else 1

def mayB (k n : Int) (s : ByteArray) : Bool := decide (chk k n s = 0)

theorem ret_i64 {a b : Int} (h : a = b) : Ending.returned (.int .i64 a) = .returned (.int .i64 b) := by rw [h]
theorem ret_bool {a b : Bool} (h : a = b) : Ending.returned (.bool a) = .returned (.bool b) := by rw [h]

end Go.Proofs.Ytneebnankghhgaa

/- How any two values stand to each other, as one plain function, and that it is one order. Nothing of any program here. Conditions: none. -/
namespace Go.Proofs.Ytneebnankghhgaa
open Go.RowKit

theorem u8_tri (a b : UInt8) : a < b ∨ b < a ∨ a = b := by
  rcases Nat.lt_trichotomy a.toNat b.toNat with h | h | h
  · exact .inl (UInt8.lt_iff_toNat_lt.2 h)
  · exact .inr (.inr (UInt8.toNat_inj.1 h))
  · exact .inr (.inl (UInt8.lt_iff_toNat_lt.2 h))
theorem u8_asym {a b : UInt8} (h : a < b) : ¬ b < a := fun g => by
  have := UInt8.lt_iff_toNat_lt.1 h; have := UInt8.lt_iff_toNat_lt.1 g; omega
theorem u8_irrefl (a : UInt8) : ¬ a < a := fun g => by
  have := UInt8.lt_iff_toNat_lt.1 g; omega
theorem u8_ne {a b : UInt8} (h : a < b) : ¬ a = b := fun e => u8_irrefl a (by rw [e] at h; exact absurd h (u8_irrefl b))

theorem bytes_less : ∀ (x y : List UInt8), Op.bytesLess x y = true → Lib.compareBytes x y = -1
  | [], [], h => by simp [Op.bytesLess] at h
  | [], _ :: _, _ => rfl
  | _ :: _, [], h => by simp [Op.bytesLess] at h
  | a :: x, b :: y, h => by
    simp only [Op.bytesLess, Bool.or_eq_true, Bool.and_eq_true, decide_eq_true_eq, beq_iff_eq] at h
    unfold Lib.compareBytes
    rcases h with h | ⟨rfl, h⟩
    · rw [if_pos h]
    · rw [if_neg (u8_irrefl a), if_neg (u8_irrefl a)]
      exact bytes_less x y h
theorem bytes_more : ∀ (x y : List UInt8), Op.bytesLess x y = false → x ≠ y → Lib.compareBytes x y = 1
  | [], [], _, h => absurd rfl h
  | [], _ :: _, h, _ => by simp [Op.bytesLess] at h
  | _ :: _, [], _, _ => rfl
  | a :: x, b :: y, h, hn => by
    simp only [Op.bytesLess, Bool.or_eq_false_iff, decide_eq_false_iff_not] at h
    unfold Lib.compareBytes
    rw [if_neg h.1]
    by_cases hba : b < a
    · rw [if_pos hba]
    · rw [if_neg hba]
      have e : a = b := by rcases u8_tri a b with g | g | g; exact absurd g h.1; exact absurd g hba; exact g
      subst e
      exact bytes_more x y (by simpa using h.2) (fun e => hn (by rw [e]))
theorem bytes_same (x : List UInt8) : Lib.compareBytes x x = 0 := by
  induction x with
  | nil => rfl
  | cons a x ih => unfold Lib.compareBytes; rw [if_neg (u8_irrefl a), if_neg (u8_irrefl a), ih]

theorem bytes_zero : ∀ (x y : List UInt8), Lib.compareBytes x y = 0 → x = y
  | [], [], _ => rfl
  | [], _ :: _, h => by simp [Lib.compareBytes] at h
  | _ :: _, [], h => by simp [Lib.compareBytes] at h
  | a :: x, b :: y, h => by
    unfold Lib.compareBytes at h
    by_cases h1 : a < b
    · rw [if_pos h1] at h; exact absurd h (by decide)
    · rw [if_neg h1] at h
      by_cases h2 : b < a
      · rw [if_pos h2] at h; exact absurd h (by decide)
      · rw [if_neg h2] at h
        have e : a = b := by rcases u8_tri a b with g | g | g; exact absurd g h1; exact absurd g h2; exact g
        rw [e, bytes_zero x y h]
theorem bytes_flip : ∀ (x y : List UInt8), Lib.compareBytes x y = -Lib.compareBytes y x
  | [], [] => rfl
  | [], _ :: _ => rfl
  | _ :: _, [] => rfl
  | a :: x, b :: y => by
    unfold Lib.compareBytes
    by_cases h1 : a < b
    · rw [if_pos h1, if_neg (u8_asym h1), if_pos h1]
    · rw [if_neg h1]
      by_cases h2 : b < a
      · rw [if_pos h2, if_pos h2]; decide
      · rw [if_neg h2, if_neg h2, if_neg h1]
        exact bytes_flip x y
theorem bytes_trans : ∀ (x y z : List UInt8), Lib.compareBytes x y ≤ 0 → Lib.compareBytes y z ≤ 0 → Lib.compareBytes x z ≤ 0
  | [], _, [], _, _ => by simp [Lib.compareBytes]
  | [], _, _ :: _, _, _ => by simp [Lib.compareBytes]
  | _ :: _, [], _, h, _ => by simp [Lib.compareBytes] at h
  | _ :: _, _ :: _, [], _, h => by simp [Lib.compareBytes] at h
  | a :: x, b :: y, c :: z, h1, h2 => by
    unfold Lib.compareBytes at h1 h2 ⊢
    by_cases ab : a < b
    · by_cases bc : b < c
      · have : a < c := UInt8.lt_iff_toNat_lt.2 (Nat.lt_trans (UInt8.lt_iff_toNat_lt.1 ab) (UInt8.lt_iff_toNat_lt.1 bc))
        rw [if_pos this]; decide
      · rw [if_neg bc] at h2
        by_cases cb : c < b
        · rw [if_pos cb] at h2; exact absurd h2 (by decide)
        · have e : b = c := by rcases u8_tri b c with g | g | g; exact absurd g bc; exact absurd g cb; exact g
          subst e
          rw [if_pos ab]; decide
    · rw [if_neg ab] at h1
      by_cases ba : b < a
      · rw [if_pos ba] at h1; exact absurd h1 (by decide)
      · have e : a = b := by rcases u8_tri a b with g | g | g; exact absurd g ab; exact absurd g ba; exact g
        subst e
        rw [if_neg ba] at h1
        by_cases ac : a < c
        · rw [if_pos ac]; decide
        · rw [if_neg ac] at h2 ⊢
          by_cases ca : c < a
          · rw [if_pos ca] at h2; exact absurd h2 (by decide)
          · rw [if_neg ca] at h2 ⊢
            exact bytes_trans x y z h1 h2

def cmpV (k n : Int) (s : ByteArray) (k' n' : Int) (s' : ByteArray) : Int :=
  if k < k' then -1 else if k' < k then 1 else if n < n' then -1 else if n' < n then 1 else Lib.compareBytes s.data.toList s'.data.toList

theorem cmpV_flip (k n : Int) (s : ByteArray) (k' n' : Int) (s' : ByteArray) : cmpV k n s k' n' s' = -cmpV k' n' s' k n s := by
  unfold cmpV
  have := bytes_flip s.data.toList s'.data.toList
  repeat' split
  all_goals omega
theorem cmpV_trans (k n : Int) (s : ByteArray) (k' n' : Int) (s' : ByteArray) (k'' n'' : Int) (s'' : ByteArray) (h1 : cmpV k n s k' n' s' ≤ 0) (h2 : cmpV k' n' s' k'' n'' s'' ≤ 0) : cmpV k n s k'' n'' s'' ≤ 0 := by
  have := bytes_trans s.data.toList s'.data.toList s''.data.toList
  revert h1 h2
  unfold cmpV
  repeat' split
  all_goals omega
theorem cmpV_zero (k n : Int) (s : ByteArray) (k' n' : Int) (s' : ByteArray) : cmpV k n s k' n' s' = 0 ↔ k = k' ∧ n = n' ∧ s = s' := by
  constructor
  · intro h
    have hz := bytes_zero s.data.toList s'.data.toList
    unfold cmpV at h
    by_cases a1 : k < k'
    · rw [if_pos a1] at h; omega
    rw [if_neg a1] at h
    by_cases a2 : k' < k
    · rw [if_pos a2] at h; omega
    rw [if_neg a2] at h
    by_cases a3 : n < n'
    · rw [if_pos a3] at h; omega
    rw [if_neg a3] at h
    by_cases a4 : n' < n
    · rw [if_pos a4] at h; omega
    rw [if_neg a4] at h
    exact ⟨by omega, by omega, WideShapes.bytes_inj (hz h)⟩
  · rintro ⟨rfl, rfl, rfl⟩
    simp [cmpV, bytes_same]
theorem cmpV_bd (k n : Int) (s : ByteArray) (k' n' : Int) (s' : ByteArray) : -1 ≤ cmpV k n s k' n' s' ∧ cmpV k n s k' n' s' ≤ 1 := by
  have h : -1 ≤ Lib.compareBytes s.data.toList s'.data.toList ∧ Lib.compareBytes s.data.toList s'.data.toList ≤ 1 := by
    cases h : Op.bytesLess s.data.toList s'.data.toList with
    | true => rw [bytes_less _ _ h]; decide
    | false =>
      by_cases e : s.data.toList = s'.data.toList
      · rw [e, bytes_same]; decide
      · rw [bytes_more _ _ h e]; decide
  unfold cmpV
  repeat' split
  all_goals omega

end Go.Proofs.Ytneebnankghhgaa

/- Rows of values, plainly: how two rows stand to each other, and that it is one order. Nothing of any program here. Conditions: none. -/
namespace Go.Proofs.Ytneebnankghhgaa
open Go.RowKit

structure Val where
  k : Int
  n : Int
  s : ByteArray

/-- Its number is an int, its text a string. -/
def inI (v : Val) : Prop := -9223372036854775808 ≤ v.n ∧ v.n ≤ 9223372036854775807 ∧ v.s.size ≤ maxLen

def cmpT (a b : Val) : Int := cmpV a.k a.n a.s b.k b.n b.s
def rowsV : List Val → List Val → Int
  | [], [] => 0
  | [], _ :: _ => -1
  | _ :: _, [] => 1
  | a :: xs, b :: ys => if cmpT a b = 0 then rowsV xs ys else cmpT a b

theorem cmpT_zero (a b : Val) : cmpT a b = 0 ↔ a = b := by
  obtain ⟨k, n, s⟩ := a
  obtain ⟨k', n', s'⟩ := b
  simp only [cmpT, cmpV_zero, Val.mk.injEq]
theorem cmpT_flip (a b : Val) : cmpT a b = -cmpT b a := cmpV_flip ..
theorem cmpT_trans (a b c : Val) (h1 : cmpT a b ≤ 0) (h2 : cmpT b c ≤ 0) : cmpT a c ≤ 0 := cmpV_trans _ _ _ _ _ _ _ _ _ h1 h2
theorem rowsV_bd : ∀ (l1 l2 : List Val), -1 ≤ rowsV l1 l2 ∧ rowsV l1 l2 ≤ 1
  | [], [] => by simp [rowsV]
  | [], _ :: _ => by simp [rowsV]
  | _ :: _, [] => by simp [rowsV]
  | a :: xs, b :: ys => by
    unfold rowsV
    split
    · exact rowsV_bd xs ys
    · exact cmpV_bd ..
theorem rowsV_flip : ∀ (l1 l2 : List Val), rowsV l1 l2 = -rowsV l2 l1
  | [], [] => by simp [rowsV]
  | [], _ :: _ => by simp [rowsV]
  | _ :: _, [] => by simp [rowsV]
  | a :: xs, b :: ys => by
    unfold rowsV
    have h := cmpT_flip a b
    by_cases h0 : cmpT a b = 0
    · rw [if_pos h0, if_pos (by omega)]
      exact rowsV_flip xs ys
    · rw [if_neg h0, if_neg (by omega)]
      exact h
theorem rowsV_trans : ∀ (l1 l2 l3 : List Val), rowsV l1 l2 ≤ 0 → rowsV l2 l3 ≤ 0 → rowsV l1 l3 ≤ 0
  | [], _, [], _, _ => by simp [rowsV]
  | [], _, _ :: _, _, _ => by simp [rowsV]
  | _ :: _, [], _, h, _ => by simp [rowsV] at h
  | _ :: _, _ :: _, [], _, h => by simp [rowsV] at h
  | a :: xs, b :: ys, c :: zs, h1, h2 => by
    unfold rowsV at h1 h2 ⊢
    by_cases ab : cmpT a b = 0
    · rw [if_pos ab] at h1
      obtain rfl := (cmpT_zero a b).1 ab
      by_cases ac : cmpT a c = 0
      · rw [if_pos ac] at h2 ⊢
        exact rowsV_trans xs ys zs h1 h2
      · rw [if_neg ac] at h2 ⊢
        exact h2
    · rw [if_neg ab] at h1
      by_cases bc : cmpT b c = 0
      · obtain rfl := (cmpT_zero b c).1 bc
        rw [if_neg ab]
        exact h1
      · rw [if_neg bc] at h2
        have ac : cmpT a c ≠ 0 := by
          intro e
          obtain rfl := (cmpT_zero a c).1 e
          have := cmpT_flip a b
          omega
        rw [if_neg ac]
        exact cmpT_trans a b c h1 h2
end Go.Proofs.Ytneebnankghhgaa

/- Lists that lie in memory: a list of ints, a row of values: their cells are known. Nothing of any program here. Conditions: each lemma names its own. -/
namespace Go.Proofs.Ytneebnankghhgaa
open Go.RowKit

/-- The cells of a list of ints. -/
def IntsAt (w : World) (a : Option Addr) (l : List Int) : Prop :=
  l ≠ [] → ∃ b off, a = some ⟨b, off, none⟩ ∧ ∀ i (h : i < l.length), w.cell? ⟨b, off + i, none⟩ = some (.int .i64 l[i])
theorem IntsAt.later {w w' : World} {a : Option Addr} {l : List Int} (h : IntsAt w a l) (hb : Below w.heap.size w w') : IntsAt w' a l := fun hn => by
  obtain ⟨b, off, e, hc⟩ := h hn
  exact ⟨b, off, e, fun i hi => cell_later hb (hc i hi)⟩

/-- Of two numbers in a block of its own. -/
theorem pair_at (b : Nat) (x y : Int) (w : World) (h0 : w.cell? ⟨b, 0, none⟩ = some (.int .i64 x)) (h1 : w.cell? ⟨b, 1, none⟩ = some (.int .i64 y)) : IntsAt w (some ⟨b, 0, none⟩) [x, y] := fun _ =>
  ⟨b, 0, rfl, fun i hi => by
    match i, hi with
    | 0, _ => exact h0
    | 1, _ => exact h1
    | i + 2, hi => exact absurd hi (by simp)⟩
/-- The cells of a row's elements. -/
def RowAt (w : World) (a : Option Addr) (l : List Val) : Prop :=
  l ≠ [] → ∃ b off, a = some ⟨b, off, none⟩ ∧ ∀ i (h : i < l.length), w.cell? ⟨b, off + i * 3, none⟩ = some (.int .i64 (l[i]).k) ∧ w.cell? ⟨b, off + i * 3 + 1, none⟩ = some (.int .i64 (l[i]).n) ∧ w.cell? ⟨b, off + i * 3 + 2, none⟩ = some (.string (l[i]).s)

theorem RowAt.later {w w' : World} {a : Option Addr} {l : List Val} (h : RowAt w a l) (hb : Below w.heap.size w w') : RowAt w' a l := fun hn => by
  obtain ⟨b, off, e, hc⟩ := h hn
  exact ⟨b, off, e, fun i hi => ⟨cell_later hb (hc i hi).1, cell_later hb (hc i hi).2.1, cell_later hb (hc i hi).2.2⟩⟩

end Go.Proofs.Ytneebnankghhgaa

/- Rows of values as bytes, plainly: numbers in eight bytes, a code that goes value by value and is read back value by value, the order of bytes. Nothing of any program here: lemmas on lists. Conditions: each lemma names its own. -/
namespace Go.Proofs.Ytneebnankghhgaa
open Go.RowKit

/-! ### Numbers, the highest byte first -/
def encBE : Nat → Nat → List UInt8
  | 0, _ => []
  | j + 1, u => encBE j (u / 256) ++ [UInt8.ofNat u]
def decBE (l : List UInt8) : Nat := l.foldl (fun u b => 256 * u + b.toNat) 0

theorem u8_ofNat (u : Nat) : (UInt8.ofNat u).toNat = u % 256 := by simp
theorem encBE_len : ∀ j u, (encBE j u).length = j
  | 0, _ => rfl
  | j + 1, u => by simp [encBE, encBE_len j]
theorem decBE_snoc (l : List UInt8) (b : UInt8) : decBE (l ++ [b]) = 256 * decBE l + b.toNat := by simp [decBE]
theorem pow256 (j : Nat) : 256 ^ (j + 1) = 256 * 256 ^ j := by rw [Nat.pow_succ, Nat.mul_comm]
theorem decBE_encBE : ∀ j u, u < 256 ^ j → decBE (encBE j u) = u
  | 0, u, h => by simp at h; subst h; rfl
  | j + 1, u, h => by
    rw [pow256] at h
    rw [encBE, decBE_snoc, decBE_encBE j (u / 256) (by omega), u8_ofNat]; omega
theorem decBE_lt (l : List UInt8) : decBE l < 256 ^ l.length := by
  have H : ∀ (l : List UInt8) (u n : Nat), u < 256 ^ n → l.foldl (fun u b => 256 * u + b.toNat) u < 256 ^ (n + l.length) := by
    intro l
    induction l with
    | nil => intro u n h; exact h
    | cons b l ih =>
      intro u n h
      have hb := b.toNat_lt
      have := ih (256 * u + b.toNat) (n + 1) (by rw [pow256]; omega)
      rw [List.length_cons, show n + (l.length + 1) = n + 1 + l.length by omega]
      exact this
  have := H l 0 0 (by simp)
  simpa [decBE] using this
theorem encBE_decBE_of (l : List UInt8) : ∀ j, l.length = j → encBE j (decBE l) = l := by
  have H : ∀ r : List UInt8, encBE r.length (decBE r.reverse) = r.reverse := by
    intro r
    induction r with
    | nil => rfl
    | cons b r ih =>
      have hb := b.toNat_lt
      rw [List.reverse_cons, decBE_snoc, List.length_cons, encBE, show (256 * decBE r.reverse + b.toNat) / 256 = decBE r.reverse by omega, ih]
      congr 2
      exact UInt8.toNat_inj.1 (by rw [u8_ofNat]; omega)
  intro j h
  subst h
  have := H l.reverse
  rwa [List.reverse_reverse, List.length_reverse] at this

theorem u8_lt {a b : UInt8} : a < b ↔ a.toNat < b.toNat := UInt8.lt_iff_toNat_lt
theorem bytes_cons (a b : UInt8) (x y : List UInt8) : Lib.compareBytes (a :: x) (b :: y) = if a.toNat < b.toNat then -1 else if b.toNat < a.toNat then 1 else Lib.compareBytes x y := by
  rw [Lib.compareBytes]
  simp only [u8_lt]
theorem bytes_cons_same (a : UInt8) (x y : List UInt8) : Lib.compareBytes (a :: x) (a :: y) = Lib.compareBytes x y := by
  rw [bytes_cons, if_neg (by omega), if_neg (by omega)]
theorem bytes_BE : ∀ j u v r r', u < 256 ^ j → v < 256 ^ j → Lib.compareBytes (encBE j u ++ r) (encBE j v ++ r') = if u < v then -1 else if v < u then 1 else Lib.compareBytes r r'
  | 0, u, v, r, r', h, h' => by
    simp at h h'; subst h h'; rfl
  | j + 1, u, v, r, r', h, h' => by
    rw [pow256] at h h'
    rw [encBE, encBE, List.append_assoc, List.append_assoc, bytes_BE j (u / 256) (v / 256) _ _ (by omega) (by omega), List.singleton_append, List.singleton_append, bytes_cons, u8_ofNat, u8_ofNat]
    repeat' split
    all_goals first | rfl | omega

def un64 (n : Int) : Nat := (n % 18446744073709551616).toNat
def sn64 (u : Nat) : Int := if u < 9223372036854775808 then u else (u : Int) - 18446744073709551616
theorem un64_lt (n : Int) : un64 n < 256 ^ 8 := by unfold un64; omega
theorem sn64_un64 {n : Int} (h1 : -9223372036854775808 ≤ n) (h2 : n ≤ 9223372036854775807) : sn64 (un64 n) = n := by unfold sn64 un64; split <;> omega
theorem un64_sn64 {u : Nat} (h : u < 256 ^ 8) : un64 (sn64 u) = u := by unfold sn64 un64; split <;> omega
theorem sn64_in {u : Nat} (h : u < 256 ^ 8) : -9223372036854775808 ≤ sn64 u ∧ sn64 u ≤ 9223372036854775807 := by unfold sn64; split <;> omega

/-! ### A code value by value -/
/-- A value that may be, whose number is an int. -/
def okV (v : Val) : Prop := chk v.k v.n v.s = 0 ∧ inI v
def noV : Val := ⟨0, 0, ⟨#[]⟩⟩

structure Coded (enc : Val → List UInt8) (dec : List UInt8 → Option (Val × Nat)) : Prop where
  there : ∀ v, okV v → ∀ r, dec (enc v ++ r) = some (v, (enc v).length)
  back : ∀ s v m, dec s = some (v, m) → okV v ∧ s = enc v ++ s.drop m ∧ m = (enc v).length
  pos : ∀ v, 0 < (enc v).length

def encL (enc : Val → List UInt8) (l : List Val) : List UInt8 := l.flatMap enc
def decL (dec : List UInt8 → Option (Val × Nat)) : Nat → List UInt8 → Option (List Val)
  | _, [] => some []
  | 0, _ :: _ => none
  | n + 1, c :: s => match dec (c :: s) with
    | none => none
    | some (v, m) => (decL dec n ((c :: s).drop m)).map (v :: ·)

theorem encL_nil (enc : Val → List UInt8) : encL enc [] = [] := rfl
theorem encL_cons (enc : Val → List UInt8) (v : Val) (l : List Val) : encL enc (v :: l) = enc v ++ encL enc l := by simp [encL]
theorem encL_append (enc : Val → List UInt8) (a b : List Val) : encL enc (a ++ b) = encL enc a ++ encL enc b := by simp [encL]
theorem decL_nil (dec : List UInt8 → Option (Val × Nat)) (n : Nat) : decL dec n [] = some [] := by cases n <;> rfl
theorem decL_full {dec : List UInt8 → Option (Val × Nat)} {s : List UInt8} (h : s ≠ []) : decL dec 0 s = none := by
  cases s with
  | nil => exact absurd rfl h
  | cons c s => rfl
theorem decL_stop {dec : List UInt8 → Option (Val × Nat)} {n : Nat} {s : List UInt8} (h : s ≠ []) (hd : dec s = none) : decL dec n s = none := by
  cases s with
  | nil => exact absurd rfl h
  | cons c s => cases n with
    | zero => rfl
    | succ n => simp [decL, hd]
theorem decL_go {dec : List UInt8 → Option (Val × Nat)} {n : Nat} {s : List UInt8} {v : Val} {m : Nat} (h : s ≠ []) (hd : dec s = some (v, m)) : decL dec (n + 1) s = (decL dec n (s.drop m)).map (v :: ·) := by
  cases s with
  | nil => exact absurd rfl h
  | cons c s => simp [decL, hd]

section
variable {enc : Val → List UInt8} {dec : List UInt8 → Option (Val × Nat)} (C : Coded enc dec)
include C

theorem Coded.ne (v : Val) (r : List UInt8) : enc v ++ r ≠ [] := fun h => by
  have := C.pos v
  rw [(List.append_eq_nil_iff.1 h).1] at this
  exact absurd this (by simp)
theorem Coded.decL_encL : ∀ (l : List Val) (n : Nat), (∀ v ∈ l, okV v) → l.length ≤ n → decL dec n (encL enc l) = some l
  | [], n, _, _ => by rw [encL_nil, decL_nil]
  | v :: l, 0, _, h => by simp at h
  | v :: l, n + 1, hv, h => by
    rw [encL_cons, decL_go (C.ne v _) (C.there v (hv v (by simp)) _), List.drop_left, Coded.decL_encL l n (fun x hx => hv x (by simp [hx])) (by simp at h; omega)]
    rfl
theorem Coded.encL_decL : ∀ (n : Nat) (s : List UInt8) (l : List Val), decL dec n s = some l → (∀ v ∈ l, okV v) ∧ l.length ≤ n ∧ encL enc l = s
  | n, [], l, h => by
    rw [decL_nil] at h
    obtain rfl := Option.some.inj h
    exact ⟨fun v hv => absurd hv (by simp), Nat.zero_le _, rfl⟩
  | 0, c :: s, l, h => by cases h
  | n + 1, c :: s, l, h => by
    cases hd : dec (c :: s) with
    | none => rw [decL_stop (by simp) hd] at h; cases h
    | some x =>
      obtain ⟨v, m⟩ := x
      rw [decL_go (by simp) hd] at h
      obtain ⟨l', hl', rfl⟩ := Option.map_eq_some_iff.1 h
      obtain ⟨ok, e, _⟩ := C.back _ _ _ hd
      obtain ⟨h1, h2, h3⟩ := Coded.encL_decL n _ l' hl'
      refine ⟨fun x hx => ?_, by simp; omega, by rw [encL_cons, h3, ← e]⟩
      rcases List.mem_cons.1 hx with rfl | hx
      · exact ok
      · exact h1 x hx
theorem Coded.inj {a b : List Val} (ha : ∀ v ∈ a, okV v) (hb : ∀ v ∈ b, okV v) (h : encL enc a = encL enc b) : a = b := by
  have h1 := Coded.decL_encL C a (max a.length b.length) ha (by omega)
  have h2 := Coded.decL_encL C b (max a.length b.length) hb (by omega)
  rw [h, h2] at h1
  exact (Option.some.inj h1).symm
theorem Coded.begins : ∀ (a b : List Val) (r : List UInt8), (∀ v ∈ a, okV v) → (∀ v ∈ b, okV v) → encL enc b = encL enc a ++ r → ∃ c, b = a ++ c
  | [], b, _, _, _, _ => ⟨b, rfl⟩
  | x :: a, [], r, _, _, h => absurd (by rw [encL_nil, encL_cons, List.append_assoc] at h; exact h.symm) (C.ne x _)
  | x :: a, y :: b, r, ha, hb, h => by
    rw [encL_cons, encL_cons, List.append_assoc] at h
    have h1 := C.there x (ha x (by simp)) (encL enc a ++ r)
    have h2 := C.there y (hb y (by simp)) (encL enc b)
    rw [h, h1] at h2
    obtain rfl : x = y := congrArg Prod.fst (Option.some.inj h2)
    obtain ⟨c, rfl⟩ := Coded.begins a b r (fun v hv => ha v (by simp [hv])) (fun v hv => hb v (by simp [hv])) (List.append_cancel_left h)
    exact ⟨c, rfl⟩
end
end Go.Proofs.Ytneebnankghhgaa

/- The two codes of a row, plainly: as it stands in a page, and as a key; each is read back as it was written; keys stand to one another as their rows do. Nothing of any program here. Conditions: each lemma names its own. -/
namespace Go.Proofs.Ytneebnankghhgaa
open Go.RowKit

def txt (l : List UInt8) : ByteArray := ⟨l.toArray⟩
theorem txt_list (l : List UInt8) : (txt l).data.toList = l := rfl
theorem txt_get (l : List UInt8) (k : Nat) (h : k < (txt l).size) (h' : k < l.length) : (txt l)[k]'h = l[k] := rfl
theorem txt_add (a b : List UInt8) : txt a ++ txt b = txt (a ++ b) := WideShapes.bytes_inj (by simp [txt])
theorem txt_cut (l : List UInt8) (a b : Nat) : (txt l).extract a b = txt ((l.drop a).take (b - a)) := WideShapes.bytes_inj (by
  show ((txt l).extract a b).data.toList = _
  rw [ByteArray.data_extract, txt_list]
  simp [txt])
theorem txt_of (s : ByteArray) : txt s.data.toList = s := WideShapes.bytes_inj rfl
theorem txt_size (l : List UInt8) : (txt l).size = l.length := by simp [txt, ByteArray.size]
theorem size_list (s : ByteArray) : s.data.toList.length = s.size := Array.length_toList

theorem okV_cases {v : Val} (h : okV v) : v = noV ∨ (∃ n, v = ⟨1, n, txt []⟩ ∧ -9223372036854775808 ≤ n ∧ n ≤ 9223372036854775807) ∨ (∃ n, v = ⟨2, n, txt []⟩ ∧ (n = 0 ∨ n = 1)) ∨ ∃ l : List UInt8, v = ⟨3, 0, txt l⟩ ∧ l.length ≤ 64 := by
  obtain ⟨k, n, s⟩ := v
  obtain ⟨h, h1, h2, _⟩ := h
  simp only at h h1 h2
  have hs : s.toList = [] → s = txt [] := fun e => WideShapes.bytes_inj (by rw [ByteArray.toList_eq] at e; rw [e]; rfl)
  unfold chk at h
  by_cases k0 : k = 0
  · rw [if_pos k0] at h
    split at h
    · rename_i g; left; rw [k0, g.1, hs g.2]; rfl
    · cases h
  rw [if_neg k0] at h
  by_cases k1 : k = 1
  · rw [if_pos k1] at h
    split at h
    · rename_i g; right; left; exact ⟨n, by rw [k1, hs g], h1, h2⟩
    · cases h
  rw [if_neg k1] at h
  by_cases k2 : k = 2
  · rw [if_pos k2] at h
    split at h
    · rename_i g; right; right; left; exact ⟨n, by rw [k2, hs g.1], g.2⟩
    · cases h
  rw [if_neg k2] at h
  by_cases k3 : k = 3
  · rw [if_pos k3] at h
    split at h
    · split at h
      · rename_i g g2; right; right; right; exact ⟨s.data.toList, by rw [k3, g, txt_of], by rw [size_list]; exact g2⟩
      · cases h
    · cases h
  rw [if_neg k3] at h; cases h
theorem ok_none : okV noV := ⟨by simp [chk, noV, ByteArray.toList_eq], by decide, by decide, by show (0 : Nat) ≤ maxLen; exact Nat.zero_le _⟩
theorem ok_int {n : Int} (h1 : -9223372036854775808 ≤ n) (h2 : n ≤ 9223372036854775807) : okV ⟨1, n, txt []⟩ := ⟨by simp [chk, txt, ByteArray.toList_eq], h1, h2, by show (0 : Nat) ≤ maxLen; exact Nat.zero_le _⟩
theorem ok_bool {n : Int} (h : n = 0 ∨ n = 1) : okV ⟨2, n, txt []⟩ := ⟨by simp [chk, txt, ByteArray.toList_eq, h], by show -9223372036854775808 ≤ n; omega, by show n ≤ 9223372036854775807; omega, by show (0 : Nat) ≤ maxLen; exact Nat.zero_le _⟩
theorem ok_text {l : List UInt8} (h : l.length ≤ 64) : okV ⟨3, 0, txt l⟩ := ⟨by simp [chk, txt_size, h], by show (-9223372036854775808 : Int) ≤ 0; omega, by show (0 : Int) ≤ 9223372036854775807; omega, by show (txt l).size ≤ maxLen; rw [txt_size]; unfold maxLen; omega⟩

/-! ### As it stands in a page -/
def rowB (v : Val) : List UInt8 :=
  if v.k = 1 then 1 :: encBE 8 (un64 v.n) else if v.k = 2 then [2, UInt8.ofNat v.n.toNat] else if v.k = 3 then 3 :: UInt8.ofNat v.s.size :: v.s.data.toList else [0]
def rowD : List UInt8 → Option (Val × Nat)
  | [] => none
  | b :: r =>
    if b = 0 then some (noV, 1)
    else if b = 1 then (if 8 ≤ r.length then some (⟨1, sn64 (decBE (r.take 8)), txt []⟩, 9) else none)
    else if b = 2 then (match r with | [] => none | c :: _ => if c.toNat ≤ 1 then some (⟨2, c.toNat, txt []⟩, 2) else none)
    else if b = 3 then (match r with | [] => none | c :: t => if c.toNat ≤ 64 ∧ c.toNat ≤ t.length then some (⟨3, 0, txt (t.take c.toNat)⟩, 2 + c.toNat) else none)
    else none

theorem rowB_none : rowB noV = [0] := rfl
theorem rowB_int (n : Int) : rowB ⟨1, n, txt []⟩ = 1 :: encBE 8 (un64 n) := rfl
theorem rowB_bool (n : Int) : rowB ⟨2, n, txt []⟩ = [2, UInt8.ofNat n.toNat] := rfl
theorem rowB_text (l : List UInt8) : rowB ⟨3, 0, txt l⟩ = 3 :: UInt8.ofNat l.length :: l := by simp [rowB, txt, ByteArray.size]

theorem rowD_none (r : List UInt8) : rowD (0 :: r) = some (noV, 1) := rfl
theorem rowD_int (r : List UInt8) : rowD (1 :: r) = if 8 ≤ r.length then some (⟨1, sn64 (decBE (r.take 8)), txt []⟩, 9) else none := rfl
theorem rowD_bool (c : UInt8) (r : List UInt8) : rowD (2 :: c :: r) = if c.toNat ≤ 1 then some (⟨2, c.toNat, txt []⟩, 2) else none := rfl
theorem rowD_text (c : UInt8) (r : List UInt8) : rowD (3 :: c :: r) = if c.toNat ≤ 64 ∧ c.toNat ≤ r.length then some (⟨3, 0, txt (r.take c.toNat)⟩, 2 + c.toNat) else none := rfl
theorem rowD_else {b : UInt8} (r : List UInt8) (h0 : b ≠ 0) (h1 : b ≠ 1) (h2 : b ≠ 2) (h3 : b ≠ 3) : rowD (b :: r) = none := by
  simp [rowD, h0, h1, h2, h3]
theorem rowB_len {v : Val} (h : okV v) : (rowB v).length ≤ 66 := by
  rcases okV_cases h with rfl | ⟨n, rfl, _⟩ | ⟨n, rfl, _⟩ | ⟨l, rfl, hl⟩
  · rw [rowB_none]; simp
  · rw [rowB_int, List.length_cons, encBE_len]; omega
  · rw [rowB_bool]; simp
  · rw [rowB_text]; simp; omega

theorem pow8 : 256 ^ 8 = 18446744073709551616 := by decide
theorem rowCoded : Coded rowB rowD := {
  there := fun v h r => by
    rcases okV_cases h with rfl | ⟨n, rfl, h1, h2⟩ | ⟨n, rfl, hn⟩ | ⟨l, rfl, hl⟩
    · rfl
    · rw [rowB_int, List.cons_append, rowD_int, if_pos (by rw [List.length_append, encBE_len]; omega), List.take_left' (encBE_len 8 _), decBE_encBE 8 _ (un64_lt n), sn64_un64 h1 h2, List.length_cons, encBE_len]
    · rw [rowB_bool]
      rcases hn with rfl | rfl <;> rfl
    · have e : (UInt8.ofNat l.length).toNat = l.length := by rw [u8_ofNat]; omega
      rw [rowB_text, List.cons_append, List.cons_append, rowD_text, e, if_pos ⟨hl, by simp⟩, List.take_left' rfl]
      simp; omega
  back := fun s v m h => by
    cases s with
    | nil => cases h
    | cons b r =>
      by_cases b0 : b = 0
      · subst b0
        rw [rowD_none] at h
        obtain ⟨rfl, rfl⟩ := Prod.mk.inj (Option.some.inj h)
        exact ⟨ok_none, rfl, rfl⟩
      by_cases b1 : b = 1
      · subst b1
        rw [rowD_int] at h
        split at h
        · rename_i h8
          obtain ⟨rfl, rfl⟩ := Prod.mk.inj (Option.some.inj h)
          have hl : (r.take 8).length = 8 := by rw [List.length_take]; omega
          have hlt := decBE_lt (r.take 8)
          rw [hl] at hlt
          have hs := sn64_in hlt
          refine ⟨ok_int hs.1 hs.2, ?_, by rw [rowB_int, List.length_cons, encBE_len]⟩
          rw [rowB_int, un64_sn64 hlt, encBE_decBE_of _ 8 hl, List.cons_append, List.drop_succ_cons, List.take_append_drop]
        · cases h
      by_cases b2 : b = 2
      · subst b2
        cases r with
        | nil => cases h
        | cons c r =>
          rw [rowD_bool] at h
          split at h
          · rename_i hc
            obtain ⟨rfl, rfl⟩ := Prod.mk.inj (Option.some.inj h)
            refine ⟨ok_bool (by omega), ?_, rfl⟩
            rw [rowB_bool]
            show 2 :: c :: r = 2 :: UInt8.ofNat _ :: r
            rw [Int.toNat_natCast, UInt8.ofNat_toNat]
          · cases h
      by_cases b3 : b = 3
      · subst b3
        cases r with
        | nil => cases h
        | cons c r =>
          rw [rowD_text] at h
          split at h
          · rename_i hc
            obtain ⟨rfl, rfl⟩ := Prod.mk.inj (Option.some.inj h)
            have hl : (r.take c.toNat).length = c.toNat := by rw [List.length_take]; omega
            refine ⟨ok_text (by rw [hl]; exact hc.1), ?_, by rw [rowB_text, List.length_cons, List.length_cons, hl]; omega⟩
            rw [rowB_text, hl, UInt8.ofNat_toNat, show 2 + c.toNat = c.toNat + 1 + 1 by omega, List.drop_succ_cons, List.drop_succ_cons, List.cons_append, List.cons_append, List.take_append_drop]
          · cases h
      rw [rowD_else r b0 b1 b2 b3] at h; cases h
  pos := fun v => by
    unfold rowB
    repeat' split
    all_goals simp }
end Go.Proofs.Ytneebnankghhgaa

/- Pages, plainly: slots, each used or not, with its bytes: how full, whether it may be, what putting, getting, cutting and setting make of it. Nothing of any program here. Conditions: each lemma names its own. -/
namespace Go.Proofs.Ytneebnankghhgaa
open Go.RowKit

abbrev Slot := Bool × List UInt8
abbrev Pg := List Slot
def noS : Slot := (false, [])

def sizeP : Pg → Nat
  | [] => 4
  | s :: p => 4 + s.2.length + sizeP p
/-- Each slot may be: one that isn't used has no bytes; none has too many. -/
def slotsOK (p : Pg) : Prop := ∀ s ∈ p, (s.1 = false → s.2 = []) ∧ s.2.length ≤ 1024
def lastUsed : Pg → Bool
  | [] => true
  | [s] => s.1
  | _ :: p => lastUsed p
structure RightP (p : Pg) : Prop where
  len : p.length ≤ 256
  slots : slotsOK p
  size : sizeP p ≤ 1024
  last : lastUsed p = true

theorem sizeP_append : ∀ (p q : Pg), sizeP (p ++ q) + 4 = sizeP p + sizeP q
  | [], q => by simp [sizeP]; omega
  | s :: p, q => by
    have := sizeP_append p q
    rw [List.cons_append, sizeP, sizeP]; omega
theorem sizeP_set : ∀ (p : Pg) (i : Nat) (h : i < p.length) (s : Slot), sizeP (p.set i s) + (p[i]).2.length = sizeP p + s.2.length
  | t :: p, 0, _, s => by simp only [List.set_cons_zero, sizeP, List.getElem_cons_zero]; omega
  | t :: p, i + 1, h, s => by
    have := sizeP_set p i (by simpa using h) s
    simp only [List.set_cons_succ, sizeP, List.getElem_cons_succ]; omega
theorem sizeP_ge : ∀ p : Pg, 4 + 4 * p.length ≤ sizeP p
  | [] => by simp [sizeP]
  | s :: p => by
    have := sizeP_ge p
    rw [sizeP, List.length_cons]; omega
theorem last_snoc : ∀ (p : Pg) (s : Slot), lastUsed (p ++ [s]) = s.1
  | [], s => rfl
  | [t], s => rfl
  | t :: u :: p, s => by
    show lastUsed (u :: p ++ [s]) = s.1
    exact last_snoc (u :: p) s
theorem snoc_cases (p : Pg) : p = [] ∨ ∃ q s, p = q ++ [s] := by
  rcases List.eq_nil_or_concat p with h | ⟨q, s, h⟩
  · exact .inl h
  · exact .inr ⟨q, s, by simpa using h⟩
theorem last_set {p : Pg} {i : Nat} {d : List UInt8} (hl : lastUsed p = true) : lastUsed (p.set i (true, d)) = true := by
  rcases snoc_cases p with rfl | ⟨q, s, rfl⟩
  · simp [lastUsed]
  · rw [last_snoc] at hl
    by_cases hi : i < q.length
    · rw [List.set_append_left _ _ hi, last_snoc]; exact hl
    · rw [List.set_append_right _ _ (by omega)]
      cases hk : i - q.length with
      | zero => simp only [List.set_cons_zero]; rw [last_snoc]
      | succ k => simp only [List.set_cons_succ, List.set_nil]; rw [last_snoc]; exact hl

/-! ### Where a row would stand -/
def placeP : Pg → Nat
  | [] => 0
  | s :: p => if s.1 then placeP p + 1 else 0
theorem placeP_le : ∀ p : Pg, placeP p ≤ p.length
  | [] => Nat.le_refl _
  | s :: p => by
    have := placeP_le p
    unfold placeP
    split <;> simp <;> omega
theorem placeP_free : ∀ (p : Pg) (h : placeP p < p.length), (p[placeP p]).1 = false
  | s :: p, h => by
    unfold placeP at h
    by_cases hs : s.1 = true
    · rw [if_pos hs] at h
      have e : placeP (s :: p) = placeP p + 1 := by simp [placeP, hs]
      have := placeP_free p (by simpa using h)
      simp only [e, List.getElem_cons_succ]; exact this
    · have e : placeP (s :: p) = 0 := by simp [placeP, hs]
      simp only [e, List.getElem_cons_zero]; simpa using hs

/-- Is there room for n bytes? -/
def fitsP (p : Pg) (n : Int) : Prop := RightP p ∧ 0 ≤ n ∧ n ≤ 1024 ∧ n + (if placeP p = p.length then 4 else 0) ≤ 1024 - (sizeP p : Int)
def putR (p : Pg) (d : List UInt8) : Pg := if placeP p = p.length then p ++ [(true, d)] else p.set (placeP p) (true, d)
theorem putR_len (p : Pg) (d : List UInt8) : p.length ≤ (putR p d).length ∧ placeP p < (putR p d).length := by
  have := placeP_le p
  unfold putR
  split
  · rw [List.length_append]; simp; omega
  · rw [List.length_set]; omega
theorem putR_at (p : Pg) (d : List UInt8) : (putR p d)[placeP p]? = some (true, d) := by
  have := placeP_le p
  unfold putR
  split
  · rename_i h; rw [h]; simp
  · rw [List.getElem?_set]; simp; omega
theorem putR_other (p : Pg) (d : List UInt8) (j : Nat) (hj : j < p.length) (hne : j ≠ placeP p) : (putR p d)[j]? = p[j]? := by
  unfold putR
  split
  · rw [List.getElem?_append_left hj]
  · rw [List.getElem?_set]; simp [Ne.symm hne]
theorem putR_size {p : Pg} {d : List UInt8} (h : RightP p) : sizeP (putR p d) = sizeP p + d.length + (if placeP p = p.length then 4 else 0) := by
  unfold putR
  split
  · have := sizeP_append p [(true, d)]
    simp only [sizeP] at this; omega
  · rename_i hne
    have hlt : placeP p < p.length := by have := placeP_le p; omega
    have h1 := sizeP_set p (placeP p) hlt (true, d)
    have h2 := (h.slots _ (List.getElem_mem hlt)).1 (placeP_free p hlt)
    rw [h2] at h1
    simp at h1; omega
theorem putR_right {p : Pg} {d : List UInt8} (h : RightP p) (hf : fitsP p d.length) : RightP (putR p d) := by
  obtain ⟨_, h1, h2, h3⟩ := hf
  have hs := putR_size (d := d) h
  have hsz : sizeP (putR p d) ≤ 1024 := by
    rw [hs]
    split at h3 <;> simp_all <;> omega
  refine ⟨?_, ?_, hsz, ?_⟩
  · have := sizeP_ge (putR p d); omega
  · intro s hm
    unfold putR at hm
    split at hm
    · rcases List.mem_append.1 hm with hm | hm
      · exact h.slots s hm
      · obtain rfl := List.mem_singleton.1 hm
        exact ⟨(fun h => nomatch h), by show d.length ≤ 1024; omega⟩
    · rcases List.mem_or_eq_of_mem_set hm with hm | rfl
      · exact h.slots s hm
      · exact ⟨(fun h => nomatch h), by show d.length ≤ 1024; omega⟩
  · unfold putR
    split
    · rw [last_snoc]
    · exact last_set h.last

/-! ### Getting -/
/-- The slot's row, if it is there and used. -/
def gotP (p : Pg) (i : Int) : Option (List UInt8) := if 0 ≤ i then (match p[i.toNat]? with | some (true, d) => some d | _ => none) else none
theorem gotP_some {p : Pg} {i : Int} {d : List UInt8} (h : gotP p i = some d) : 0 ≤ i ∧ ∃ h : i.toNat < p.length, p[i.toNat] = (true, d) := by
  unfold gotP at h
  split at h
  · rename_i h0
    split at h
    · rename_i d' e
      obtain rfl := Option.some.inj h
      obtain ⟨hl, e⟩ := List.getElem?_eq_some_iff.1 e
      exact ⟨h0, hl, e⟩
    · cases h
  · cases h
theorem gotP_at {p : Pg} {i : Nat} {d : List UInt8} (h : p[i]? = some (true, d)) : gotP p i = some d := by
  unfold gotP
  rw [if_pos (by omega), Int.toNat_natCast, h]
theorem gotP_none {p : Pg} {i : Nat} (h : p[i]? = none ∨ ∃ d, p[i]? = some (false, d)) : gotP p i = none := by
  unfold gotP
  rw [if_pos (by omega), Int.toNat_natCast]
  rcases h with h | ⟨d, h⟩ <;> rw [h]
theorem gotP_put {p : Pg} (d : List UInt8) : gotP (putR p d) (placeP p) = some d := gotP_at (putR_at p d)
theorem gotP_place (p : Pg) : gotP p (placeP p) = none := by
  refine gotP_none ?_
  by_cases h : placeP p < p.length
  · right
    refine ⟨(p[placeP p]).2, ?_⟩
    rw [List.getElem?_eq_getElem h, ← placeP_free p h]
  · left
    exact List.getElem?_eq_none (by omega)
theorem gotP_put_other {p : Pg} (d : List UInt8) {j : Nat} (hj : j < p.length) (hne : j ≠ placeP p) : gotP (putR p d) j = gotP p j := by
  unfold gotP
  rw [if_pos (by omega), if_pos (by omega), Int.toNat_natCast, putR_other p d j hj hne]

/-! ### Setting -/
theorem set_right {p : Pg} {i : Nat} {d : List UInt8} (h : RightP p) (hi : i < p.length) (h1 : d.length ≤ 1024) (h2 : (d.length : Int) - (p[i]).2.length ≤ 1024 - (sizeP p : Int)) : RightP (p.set i (true, d)) := by
  have hs := sizeP_set p i hi (true, d)
  dsimp only at hs
  refine ⟨by rw [List.length_set]; exact h.len, ?_, by omega, last_set h.last⟩
  intro s hm
  rcases List.mem_or_eq_of_mem_set hm with hm | rfl
  · exact h.slots s hm
  · exact ⟨(fun h => nomatch h), h1⟩
theorem gotP_set {p : Pg} {i : Nat} (d : List UInt8) (hi : i < p.length) : gotP (p.set i (true, d)) i = some d := gotP_at (by rw [List.getElem?_set]; simp [hi])
theorem gotP_set_other {p : Pg} {i j : Nat} (d : List UInt8) (hne : j ≠ i) : gotP (p.set i (true, d)) j = gotP p j := by
  unfold gotP
  rw [if_pos (by omega), if_pos (by omega), Int.toNat_natCast, List.getElem?_set]
  simp [Ne.symm hne]

/-! ### Cutting -/
/-- Slots at the end that aren't used are gone. -/
def trimP : Pg → Pg
  | [] => []
  | s :: p => match trimP p with
    | [] => if s.1 then [s] else []
    | t :: q => s :: t :: q
theorem trimP_last : ∀ {p : Pg}, lastUsed p = true → trimP p = p
  | [], _ => rfl
  | [s], h => by
    have hs : s.1 = true := h
    simp [trimP, hs]
  | s :: t :: p, h => by
    have e := trimP_last (p := t :: p) h
    rw [trimP, e]
theorem trimP_snoc : ∀ (p : Pg) (d : List UInt8), trimP (p ++ [(false, d)]) = trimP p
  | [], d => rfl
  | s :: p, d => by
    have h := trimP_snoc p d
    rw [List.cons_append]
    simp only [trimP, h]
def cutR (p : Pg) (i : Nat) : Pg := trimP (p.set i noS)
theorem cut_put {p : Pg} {d : List UInt8} (h : RightP p) : cutR (putR p d) (placeP p) = p := by
  unfold cutR putR
  split
  · rename_i e
    rw [e, List.set_append_right _ _ (Nat.le_refl _), Nat.sub_self]
    show trimP (p ++ [noS]) = p
    rw [show noS = (false, []) from rfl, trimP_snoc, trimP_last h.last]
  · rename_i hne
    have hlt : placeP p < p.length := by have := placeP_le p; omega
    have hf := placeP_free p hlt
    have h2 := (h.slots _ (List.getElem_mem hlt)).1 hf
    have e : p[placeP p] = noS := Prod.ext hf h2
    rw [List.set_set, ← e, List.set_getElem_self, trimP_last h.last]
end Go.Proofs.Ytneebnankghhgaa

/- A page's bytes, plainly; it is read from them. Nothing of any program here. Conditions: each lemma names its own. -/
namespace Go.Proofs.Ytneebnankghhgaa
open Go.RowKit

def rightB (p : Pg) : Bool := decide (p.length ≤ 256) && p.all (fun s => (s.1 || s.2.isEmpty) && decide (s.2.length ≤ 1024)) && decide (sizeP p ≤ 1024) && lastUsed p
theorem rightB_iff (p : Pg) : rightB p = true ↔ RightP p := by
  unfold rightB
  simp only [Bool.and_eq_true, decide_eq_true_eq, List.all_eq_true, Bool.or_eq_true, List.isEmpty_iff]
  constructor
  · rintro ⟨⟨⟨h1, h2⟩, h3⟩, h4⟩
    exact ⟨h1, fun s hs => ⟨fun e => by rcases (h2 s hs).1 with h | h; rw [e] at h; cases h; exact h, (h2 s hs).2⟩, h3, h4⟩
  · rintro ⟨h1, h2, h3, h4⟩
    exact ⟨⟨⟨h1, fun s hs => ⟨by cases e : s.1; exact .inr ((h2 s hs).1 e); exact .inl rfl, (h2 s hs).2⟩⟩, h3⟩, h4⟩

def twoB (n : Nat) : List UInt8 := [UInt8.ofNat (n / 256), UInt8.ofNat (n % 256)]
def dataP : Pg → List UInt8
  | [] => []
  | s :: p => dataP p ++ s.2
def headsP : Nat → Pg → List UInt8
  | _, [] => []
  | acc, s :: p => twoB (if s.1 then 1024 - (acc + s.2.length) else 0) ++ twoB s.2.length ++ headsP (acc + s.2.length) p
def bytesP (p : Pg) : List UInt8 := twoB p.length ++ headsP 0 p ++ List.replicate (1024 - (2 + 4 * p.length + (dataP p).length)) 0 ++ dataP p

theorem dataP_append : ∀ A B : Pg, dataP (A ++ B) = dataP B ++ dataP A
  | [], B => by simp [dataP]
  | s :: A, B => by rw [List.cons_append, dataP, dataP_append A B, dataP, List.append_assoc]
theorem sizeP_data : ∀ p : Pg, sizeP p = 4 + 4 * p.length + (dataP p).length
  | [] => rfl
  | s :: p => by
    have := sizeP_data p
    rw [sizeP, dataP, List.length_append, List.length_cons]; omega
theorem headsP_len : ∀ (p : Pg) (acc : Nat), (headsP acc p).length = 4 * p.length
  | [], _ => rfl
  | s :: p, acc => by
    have := headsP_len p (acc + s.2.length)
    rw [headsP, List.length_append, List.length_append, this, List.length_cons]
    simp [twoB]; omega
theorem bytesP_len {p : Pg} (h : sizeP p ≤ 1024) : (bytesP p).length = 1024 := by
  have := sizeP_data p
  unfold bytesP
  rw [List.length_append, List.length_append, List.length_append, headsP_len, List.length_replicate]
  simp [twoB]; omega

/-! ### Reading -/
def numAt (s : List UInt8) (i : Nat) : Nat := 256 * (s.getD i 0).toNat + (s.getD (i + 1) 0).toNat
def slotD (s : List UInt8) (i : Nat) : Option Slot :=
  if 1024 < numAt s (2 + 4 * i) ∨ 1024 - numAt s (2 + 4 * i) < numAt s (4 + 4 * i) then none
  else some (if 0 < numAt s (2 + 4 * i) then (true, (s.drop (numAt s (2 + 4 * i))).take (numAt s (4 + 4 * i))) else noS)
def slotsD (s : List UInt8) : Nat → Nat → Option Pg
  | _, 0 => some []
  | i, k + 1 => match slotD s i with
    | none => none
    | some t => (slotsD s (i + 1) k).map (t :: ·)
def readP (s : List UInt8) : Option Pg :=
  if s.length ≠ 1024 then none
  else if 1024 < 2 + 4 * numAt s 0 then none
  else match slotsD s 0 (numAt s 0) with
    | none => none
    | some p => if rightB p = true ∧ bytesP p = s then some p else none
theorem readP_bytes {s : List UInt8} {p : Pg} (h : readP s = some p) : RightP p ∧ bytesP p = s := by
  unfold readP at h
  split at h
  · cases h
  split at h
  · cases h
  split at h
  · cases h
  · split at h
    · rename_i hh
      obtain rfl := Option.some.inj h
      exact ⟨(rightB_iff _).1 hh.1, hh.2⟩
    · cases h

theorem numAt_two (n : Nat) (h : n < 65536) (A r : List UInt8) : numAt (A ++ (twoB n ++ r)) A.length = n := by
  have e0 : (A ++ (twoB n ++ r)).getD A.length 0 = UInt8.ofNat (n / 256) := by simp [List.getD, twoB]
  have e1 : (A ++ (twoB n ++ r)).getD (A.length + 1) 0 = UInt8.ofNat (n % 256) := by
    rw [List.getD, List.getElem?_append_right (by omega)]
    simp [twoB]
  unfold numAt
  rw [e0, e1, u8_ofNat, u8_ofNat]; omega
theorem headsP_split : ∀ (A B : Pg) (acc : Nat), headsP acc (A ++ B) = headsP acc A ++ headsP (acc + (dataP A).length) B
  | [], B, acc => by simp [headsP, dataP]
  | s :: A, B, acc => by
    rw [List.cons_append, headsP, headsP_split A B, headsP, dataP, List.length_append]
    rw [show acc + s.2.length + (dataP A).length = acc + ((dataP A).length + s.2.length) by omega]
    simp [List.append_assoc]
theorem slot_back {p : Pg} (h : RightP p) {i : Nat} (hi : i < p.length) : slotD (bytesP p) i = some p[i] := by
  have hsz := h.size
  have hdl := sizeP_data p
  have hs := h.slots _ (List.getElem_mem hi)
  obtain ⟨s, hsi⟩ : ∃ s, p[i] = s := ⟨_, rfl⟩
  rw [hsi] at hs ⊢
  have hp : p = p.take i ++ s :: p.drop (i + 1) := by
    rw [← hsi, ← List.drop_eq_getElem_cons hi, List.take_append_drop]
  have hd : dataP p = dataP (p.drop (i + 1)) ++ s.2 ++ dataP (p.take i) := by
    conv => lhs; rw [hp]
    rw [dataP_append, dataP]
  have hh : headsP 0 p = headsP 0 (p.take i) ++ (twoB (if s.1 then 1024 - ((dataP (p.take i)).length + s.2.length) else 0) ++ (twoB s.2.length ++ headsP ((dataP (p.take i)).length + s.2.length) (p.drop (i + 1)))) := by
    conv => lhs; rw [hp]
    rw [headsP_split, headsP]
    simp [List.append_assoc]
  have hdle : (dataP p).length = (dataP (p.drop (i + 1))).length + s.2.length + (dataP (p.take i)).length := by rw [hd]; simp [Nat.add_assoc]
  obtain ⟨a, ha⟩ : ∃ a, (if s.1 then 1024 - ((dataP (p.take i)).length + s.2.length) else 0) = a := ⟨_, rfl⟩
  rw [ha] at hh
  have ha1 : a ≤ 1024 := by rw [← ha]; split <;> omega
  have hl1 : (twoB p.length ++ headsP 0 (p.take i)).length = 2 + 4 * i := by
    rw [List.length_append, headsP_len, List.length_take]; simp [twoB]; omega
  have hl2 : (twoB p.length ++ headsP 0 (p.take i) ++ twoB a).length = 4 + 4 * i := by rw [List.length_append, hl1]; simp [twoB]; omega
  have e1 : bytesP p = (twoB p.length ++ headsP 0 (p.take i)) ++ (twoB a ++ (twoB s.2.length ++ (headsP ((dataP (p.take i)).length + s.2.length) (p.drop (i + 1)) ++ (List.replicate (1024 - (2 + 4 * p.length + (dataP p).length)) 0 ++ dataP p)))) := by
    unfold bytesP; rw [hh]; simp [List.append_assoc]
  have e2 : bytesP p = (twoB p.length ++ headsP 0 (p.take i) ++ twoB a) ++ (twoB s.2.length ++ (headsP ((dataP (p.take i)).length + s.2.length) (p.drop (i + 1)) ++ (List.replicate (1024 - (2 + 4 * p.length + (dataP p).length)) 0 ++ dataP p))) := by
    rw [e1]; simp [List.append_assoc]
  have n1 : numAt (bytesP p) (2 + 4 * i) = a := by
    have := numAt_two a (by omega) (twoB p.length ++ headsP 0 (p.take i)) (twoB s.2.length ++ (headsP ((dataP (p.take i)).length + s.2.length) (p.drop (i + 1)) ++ (List.replicate (1024 - (2 + 4 * p.length + (dataP p).length)) 0 ++ dataP p)))
    rwa [← e1, hl1] at this
  have n2 : numAt (bytesP p) (4 + 4 * i) = s.2.length := by
    have := numAt_two s.2.length (by omega) (twoB p.length ++ headsP 0 (p.take i) ++ twoB a) (headsP ((dataP (p.take i)).length + s.2.length) (p.drop (i + 1)) ++ (List.replicate (1024 - (2 + 4 * p.length + (dataP p).length)) 0 ++ dataP p))
    rwa [← e2, hl2] at this
  unfold slotD
  rw [n1, n2]
  cases hu : s.1 with
  | false =>
    rw [hu] at ha
    have ha0 : a = 0 := by simpa using ha.symm
    have hs2 := hs.1 hu
    rw [ha0, hs2, if_neg (by simp), if_neg (by omega)]
    exact congrArg some (Prod.ext hu.symm hs2.symm)
  | true =>
    rw [hu] at ha
    have ha0 : 1024 - ((dataP (p.take i)).length + s.2.length) = a := by simpa using ha
    rw [if_neg (by omega), if_pos (by omega)]
    have e3 : bytesP p = (twoB p.length ++ headsP 0 p ++ List.replicate (1024 - (2 + 4 * p.length + (dataP p).length)) 0 ++ dataP (p.drop (i + 1))) ++ (s.2 ++ dataP (p.take i)) := by
      unfold bytesP
      conv => lhs; arg 2; rw [hd]
      simp [List.append_assoc]
    obtain ⟨X, hX⟩ : ∃ X, twoB p.length ++ headsP 0 p ++ List.replicate (1024 - (2 + 4 * p.length + (dataP p).length)) 0 ++ dataP (p.drop (i + 1)) = X := ⟨_, rfl⟩
    rw [hX] at e3
    have hl3 : X.length = a := by
      have ht := bytesP_len hsz
      rw [e3, List.length_append, List.length_append] at ht
      omega
    have e4 : ((bytesP p).drop a).take s.2.length = s.2 := by
      rw [e3, ← hl3, List.drop_left, List.take_left' rfl]
    rw [e4]
    exact congrArg some (Prod.ext hu.symm rfl)
theorem slots_back {p : Pg} (h : RightP p) : ∀ (k i : Nat), i + k = p.length → slotsD (bytesP p) i k = some (p.drop i)
  | 0, i, hk => by rw [List.drop_eq_nil_of_le (by omega)]; rfl
  | k + 1, i, hk => by
    have hi : i < p.length := by omega
    rw [slotsD, slot_back h hi]
    dsimp only
    rw [slots_back h k (i + 1) (by omega), List.drop_eq_getElem_cons hi]; rfl
theorem read_back {p : Pg} (h : RightP p) : readP (bytesP p) = some p := by
  have hn : numAt (bytesP p) 0 = p.length := by
    have := numAt_two p.length (by have := h.len; omega) [] (headsP 0 p ++ (List.replicate (1024 - (2 + 4 * p.length + (dataP p).length)) 0 ++ dataP p))
    unfold bytesP
    simpa [List.append_assoc] using this
  have hsz := h.size
  have hdl := sizeP_data p
  unfold readP
  rw [bytesP_len h.size, if_neg (by simp), hn, if_neg (by omega), slots_back h p.length 0 (by omega)]
  dsimp only
  rw [List.drop_zero, if_pos ⟨(rightB_iff p).2 h, rfl⟩]
end Go.Proofs.Ytneebnankghhgaa
