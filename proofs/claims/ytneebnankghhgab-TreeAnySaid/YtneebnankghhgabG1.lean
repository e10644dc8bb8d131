/- Several of my texts laid together, each as it was: Wa, Mo, Mv, La, Sa, Ma, Mb, Sb. Conditions: each names its own. -/
import Derived.Test.YtneebnankghhgabRows
import Derived.WalkKit
import Derived.WalkSpells
import Derived.WalkLawsBesides
import Derived.Handy
import Derived.BigQuiet
import Derived.Deep.QuietTactic
import Derived.Lib.Bytealg
import Derived.Lib.SliceRun
/- What the two checks of a value answer, said once for both: contracts of the calls, in whatever memory. -/
namespace Go.Proofs.Ytneebnankghhgab
open Go.RowKit

theorem below_cells {W w1 : World} (hb : Below W.heap.size W w1) : (∀ b o, b < W.heap.size → w1.cell? ⟨b, o, none⟩ = W.cell? ⟨b, o, none⟩) ∧ (∀ b o, b < W.heap.size → w1.frozen? ⟨b, o, none⟩ = W.frozen? ⟨b, o, none⟩) :=
  ⟨fun b o h => hb.cell (p := ⟨b, o, none⟩) h, fun b o h => hb.frozen (p := ⟨b, o, none⟩) h⟩

theorem below_through {n : Nat} {W w1 w2 : World} (hb : Below w1.heap.size w1 w2) (hn : n ≤ w1.heap.size) (h : Below n W w1) : Below n W w2 := h.trans (hb.mono hn)

theorem hid0 {p : Prop} (h : p) : Hid p := h

theorem isEmpty_dec (l : List UInt8) : l.isEmpty = decide (l = []) := by cases l <;> simp

def chk (k n : Int) (s : ByteArray) : Int :=
  if k = 0 then (if n = 0 ∧ s.toList = [] then 0 else 1)
  else if k = 1 then (if s.toList = [] then 0 else 1)
  else if k = 2 then (if s.toList = [] ∧ (n = 0 ∨ n = 1) then 0 else 1)
  else if k = 3 then (if n = 0 then (if s.size ≤ 64 then 0 else 3) else 1)
  else 1

def mayB (k n : Int) (s : ByteArray) : Bool := decide (chk k n s = 0)

theorem ret_i64 {a b : Int} (h : a = b) : Ending.returned (.int .i64 a) = .returned (.int .i64 b) := by rw [h]
theorem ret_bool {a b : Bool} (h : a = b) : Ending.returned (.bool a) = .returned (.bool b) := by rw [h]

end Go.Proofs.Ytneebnankghhgab

/- How any two values stand to each other, as one plain function, and that it is one order. Nothing of any program here. Conditions: none. -/
namespace Go.Proofs.Ytneebnankghhgab
open Go.RowKit

theorem u8_tri (a b : UInt8) : a < b ∨ b < a ∨ a = b := by
  rcases Nat.lt_trichotomy a.toNat b.toNat with h | h | h
  · exact .inl (UInt8.lt_iff_toNat_lt.2 h)
  · exact .inr (.inr (UInt8.toNat_inj.1 h))
  · exact .inr (.inl (UInt8.lt_iff_toNat_lt.2 h))
theorem u8_asym {a b : UInt8} (h : a < b) : ¬ b < a := fun g => by
  have := UInt8.lt_iff_toNat_lt.1 h; have := UInt8.lt_iff_toNat_lt.1 g; omega
theorem u8_irrefl (a : UInt8) : ¬ a < a := fun g => by
  have := UInt8.lt_iff_toNat_lt.1 g; omega
theorem u8_ne {a b : UInt8} (h : a < b) : ¬ a = b := fun e => u8_irrefl a (by rw [e] at h; exact absurd h (u8_irrefl b))

theorem bytes_less : ∀ (x y : List UInt8), Op.bytesLess x y = true → Lib.compareBytes x y = -1
  | [], [], h => by simp [Op.bytesLess] at h
  | [], _ :: _, _ => rfl
  | _ :: _, [], h => by simp [Op.bytesLess] at h
  | a :: x, b :: y, h => by
    simp only [Op.bytesLess, Bool.or_eq_true, Bool.and_eq_true, decide_eq_true_eq, beq_iff_eq] at h
    unfold Lib.compareBytes
    rcases h with h | ⟨rfl, h⟩
    · rw [if_pos h]
    · rw [if_neg (u8_irrefl a), if_neg (u8_irrefl a)]
      exact bytes_less x y h
theorem bytes_more : ∀ (x y : List UInt8), Op.bytesLess x y = false → x ≠ y → Lib.compareBytes x y = 1
  | [], [], _, h => absurd rfl h
  | [], _ :: _, h, _ => by simp [Op.bytesLess] at h
  | _ :: _, [], _, _ => rfl
  | a :: x, b :: y, h, hn => by
    simp only [Op.bytesLess, Bool.or_eq_false_iff, decide_eq_false_iff_not] at h
    unfold Lib.compareBytes
    rw [if_neg h.1]
    by_cases hba : b < a
    · rw [if_pos hba]
    · rw [if_neg hba]
      have e : a = b := by rcases u8_tri a b with g | g | g; exact absurd g h.1; exact absurd g hba; exact g
      subst e
      exact bytes_more x y (by simpa using h.2) (fun e => hn (by rw [e]))
theorem bytes_same (x : List UInt8) : Lib.compareBytes x x = 0 := by
  induction x with
  | nil => rfl
  | cons a x ih => unfold Lib.compareBytes; rw [if_neg (u8_irrefl a), if_neg (u8_irrefl a), ih]

theorem bytes_zero : ∀ (x y : List UInt8), Lib.compareBytes x y = 0 → x = y
  | [], [], _ => rfl
  | [], _ :: _, h => by simp [Lib.compareBytes] at h
  | _ :: _, [], h => by simp [Lib.compareBytes] at h
  | a :: x, b :: y, h => by
    unfold Lib.compareBytes at h
    by_cases h1 : a < b
    · rw [if_pos h1] at h; exact absurd h (by decide)
    · rw [if_neg h1] at h
      by_cases h2 : b < a
      · rw [if_pos h2] at h; exact absurd h (by decide)
      · rw [if_neg h2] at h
        have e : a = b := by rcases u8_tri a b with g | g | g; exact absurd g h1; exact absurd g h2; exact g
        rw [e, bytes_zero x y h]
theorem bytes_flip : ∀ (x y : List UInt8), Lib.compareBytes x y = -Lib.compareBytes y x
  | [], [] => rfl
  | [], _ :: _ => rfl
  | _ :: _, [] => rfl
  | a :: x, b :: y => by
    unfold Lib.compareBytes
    by_cases h1 : a < b
    · rw [if_pos h1, if_neg (u8_asym h1), if_pos h1]
    · rw [if_neg h1]
      by_cases h2 : b < a
      · rw [if_pos h2, if_pos h2]; decide
      · rw [if_neg h2, if_neg h2, if_neg h1]
        exact bytes_flip x y
theorem bytes_trans : ∀ (x y z : List UInt8), Lib.compareBytes x y ≤ 0 → Lib.compareBytes y z ≤ 0 → Lib.compareBytes x z ≤ 0
  | [], _, [], _, _ => by simp [Lib.compareBytes]
  | [], _, _ :: _, _, _ => by simp [Lib.compareBytes]
  | _ :: _, [], _, h, _ => by simp [Lib.compareBytes] at h
  | _ :: _, _ :: _, [], _, h => by simp [Lib.compareBytes] at h
  | a :: x, b :: y, c :: z, h1, h2 => by
    unfold Lib.compareBytes at h1 h2 ⊢
    by_cases ab : a < b
    · by_cases bc : b < c
      · have : a < c := UInt8.lt_iff_toNat_lt.2 (Nat.lt_trans (UInt8.lt_iff_toNat_lt.1 ab) (UInt8.lt_iff_toNat_lt.1 bc))
        rw [if_pos this]; decide
      · rw [if_neg bc] at h2
        by_cases cb : c < b
        · rw [if_pos cb] at h2; exact absurd h2 (by decide)
        · have e : b = c := by rcases u8_tri b c with g | g | g; exact absurd g bc; exact absurd g cb; exact g
          subst e
          rw [if_pos ab]; decide
    · rw [if_neg ab] at h1
      by_cases ba : b < a
      · rw [if_pos ba] at h1; exact absurd h1 (by decide)
      · have e : a = b := by rcases u8_tri a b with g | g | g; exact absurd g ab; exact absurd g ba; exact g
        subst e
        rw [if_neg ba] at h1
        by_cases ac : a < c
        · rw [if_pos ac]; decide
        · rw [if_neg ac] at h2 ⊢
          by_cases ca : c < a
          · rw [if_pos ca] at h2; exact absurd h2 (by decide)
          · rw [if_neg ca] at h2 ⊢
            exact bytes_trans x y z h1 h2

def cmpV (k n : Int) (s : ByteArray) (k' n' : Int) (s' : ByteArray) : Int :=
  if k < k' then -1 else if k' < k then 1 else if n < n' then -1 else if n' < n then 1 else Lib.compareBytes s.data.toList s'.data.toList

theorem cmpV_flip (k n : Int) (s : ByteArray) (k' n' : Int) (s' : ByteArray) : cmpV k n s k' n' s' = -cmpV k' n' s' k n s := by
  unfold cmpV
  have := bytes_flip s.data.toList s'.data.toList
  repeat' split
  all_goals omega
theorem cmpV_trans (k n : Int) (s : ByteArray) (k' n' : Int) (s' : ByteArray) (k'' n'' : Int) (s'' : ByteArray) (h1 : cmpV k n s k' n' s' ≤ 0) (h2 : cmpV k' n' s' k'' n'' s'' ≤ 0) : cmpV k n s k'' n'' s'' ≤ 0 := by
  have := bytes_trans s.data.toList s'.data.toList s''.data.toList
  revert h1 h2
  unfold cmpV
  repeat' split
  all_goals omega
theorem cmpV_zero (k n : Int) (s : ByteArray) (k' n' : Int) (s' : ByteArray) : cmpV k n s k' n' s' = 0 ↔ k = k' ∧ n = n' ∧ s = s' := by
  constructor
  · intro h
    have hz := bytes_zero s.data.toList s'.data.toList
    unfold cmpV at h
    by_cases a1 : k < k'
    · rw [if_pos a1] at h; omega
    rw [if_neg a1] at h
    by_cases a2 : k' < k
    · rw [if_pos a2] at h; omega
    rw [if_neg a2] at h
    by_cases a3 : n < n'
    · rw [if_pos a3] at h; omega
    rw [if_neg a3] at h
    by_cases a4 : n' < n
    · rw [if_pos a4] at h; omega
    rw [if_neg a4] at h
    exact ⟨by omega, by omega, WideShapes.bytes_inj (hz h)⟩
  · rintro ⟨rfl, rfl, rfl⟩
    simp [cmpV, bytes_same]
theorem cmpV_bd (k n : Int) (s : ByteArray) (k' n' : Int) (s' : ByteArray) : -1 ≤ cmpV k n s k' n' s' ∧ cmpV k n s k' n' s' ≤ 1 := by
  have h : -1 ≤ Lib.compareBytes s.data.toList s'.data.toList ∧ Lib.compareBytes s.data.toList s'.data.toList ≤ 1 := by
    cases h : Op.bytesLess s.data.toList s'.data.toList with
    | true => rw [bytes_less _ _ h]; decide
    | false =>
      by_cases e : s.data.toList = s'.data.toList
      · rw [e, bytes_same]; decide
      · rw [bytes_more _ _ h e]; decide
  unfold cmpV
  repeat' split
  all_goals omega

end Go.Proofs.Ytneebnankghhgab

/- Rows of values, plainly: how two rows stand to each other, and that it is one order. Nothing of any program here. Conditions: none. -/
namespace Go.Proofs.Ytneebnankghhgab
open Go.RowKit

structure Val where
  k : Int
  n : Int
  s : ByteArray

/-- Its number is an int, its text a string. -/
def inI (v : Val) : Prop := -9223372036854775808 ≤ v.n ∧ v.n ≤ 9223372036854775807 ∧ v.s.size ≤ maxLen

def cmpT (a b : Val) : Int := cmpV a.k a.n a.s b.k b.n b.s
def rowsV : List Val → List Val → Int
  | [], [] => 0
  | [], _ :: _ => -1
  | _ :: _, [] => 1
  | a :: xs, b :: ys => if cmpT a b = 0 then rowsV xs ys else cmpT a b

theorem cmpT_zero (a b : Val) : cmpT a b = 0 ↔ a = b := by
  obtain ⟨k, n, s⟩ := a
  obtain ⟨k', n', s'⟩ := b
  simp only [cmpT, cmpV_zero, Val.mk.injEq]
theorem cmpT_flip (a b : Val) : cmpT a b = -cmpT b a := cmpV_flip ..
theorem cmpT_trans (a b c : Val) (h1 : cmpT a b ≤ 0) (h2 : cmpT b c ≤ 0) : cmpT a c ≤ 0 := cmpV_trans _ _ _ _ _ _ _ _ _ h1 h2
theorem rowsV_bd : ∀ (l1 l2 : List Val), -1 ≤ rowsV l1 l2 ∧ rowsV l1 l2 ≤ 1
  | [], [] => by simp [rowsV]
  | [], _ :: _ => by simp [rowsV]
  | _ :: _, [] => by simp [rowsV]
  | a :: xs, b :: ys => by
    unfold rowsV
    split
    · exact rowsV_bd xs ys
    · exact cmpV_bd ..
theorem rowsV_flip : ∀ (l1 l2 : List Val), rowsV l1 l2 = -rowsV l2 l1
  | [], [] => by simp [rowsV]
  | [], _ :: _ => by simp [rowsV]
  | _ :: _, [] => by simp [rowsV]
  | a :: xs, b :: ys => by
    unfold rowsV
    have h := cmpT_flip a b
    by_cases h0 : cmpT a b = 0
    · rw [if_pos h0, if_pos (by omega)]
      exact rowsV_flip xs ys
    · rw [if_neg h0, if_neg (by omega)]
      exact h
theorem rowsV_trans : ∀ (l1 l2 l3 : List Val), rowsV l1 l2 ≤ 0 → rowsV l2 l3 ≤ 0 → rowsV l1 l3 ≤ 0
  | [], _, [], _, _ => by simp [rowsV]
  | [], _, _ :: _, _, _ => by simp [rowsV]
  | _ :: _, [], _, h, _ => by simp [rowsV] at h
  | _ :: _, _ :: _, [], _, h => by simp [rowsV] at h
  | a :: xs, b :: ys, c :: zs, h1, h2 => by
    unfold rowsV at h1 h2 ⊢
    by_cases ab : cmpT a b = 0
    · rw [if_pos ab] at h1
      obtain rfl := (cmpT_zero a b).1 ab
      by_cases ac : cmpT a c = 0
      · rw [if_pos ac] at h2 ⊢
        exact rowsV_trans xs ys zs h1 h2
      · rw [if_neg ac] at h2 ⊢
        exact h2
    · rw [if_neg ab] at h1
      by_cases bc : cmpT b c = 0
      · obtain rfl := (cmpT_zero b c).1 bc
        rw [if_neg ab]
        exact h1
      · rw [if_neg bc] at h2
        have ac : cmpT a c ≠ 0 := by
          intro e
          obtain rfl := (cmpT_zero a c).1 e
          have := cmpT_flip a b
          omega
        rw [if_neg ac]
        exact cmpT_trans a b c h1 h2
end Go.Proofs.Ytneebnankghhgab

/- Lists that lie in memory: a list of ints, a row of values: their cells are known. Nothing of any program here. Conditions: each lemma names its own. -/
namespace Go.Proofs.Ytneebnankghhgab
open Go.RowKit

/-- The cells of a list of ints. -/
def IntsAt (w : World) (a : Option Addr) (l : List Int) : Prop :=
  l ≠ [] → ∃ b off, a = some ⟨b, off, none⟩ ∧ ∀ i (h : i < l.length), w.cell? ⟨b, off + i, none⟩ = some (.int .i64 l[i])
theorem IntsAt.later {w w' : World} {a : Option Addr} {l : List Int} (h : IntsAt w a l) (hb : Below w.heap.size w w') : IntsAt w' a l := fun hn => by
  obtain ⟨b, off, e, hc⟩ := h hn
  exact ⟨b, off, e, fun i hi => cell_later hb (hc i hi)⟩

/-- Of two numbers in a block of its own. -/
theorem pair_at (b : Nat) (x y : Int) (w : World) (h0 : w.cell? ⟨b, 0, none⟩ = some (.int .i64 x)) (h1 : w.cell? ⟨b, 1, none⟩ = some (.int .i64 y)) : IntsAt w (some ⟨b, 0, none⟩) [x, y] := fun _ =>
  ⟨b, 0, rfl, fun i hi => by
    match i, hi with
    | 0, _ => exact h0
    | 1, _ => exact h1
    | i + 2, hi => exact absurd hi (by simp)⟩
/-- The cells of a row's elements. -/
def RowAt (w : World) (a : Option Addr) (l : List Val) : Prop :=
  l ≠ [] → ∃ b off, a = some ⟨b, off, none⟩ ∧ ∀ i (h : i < l.length), w.cell? ⟨b, off + i * 3, none⟩ = some (.int .i64 (l[i]).k) ∧ w.cell? ⟨b, off + i * 3 + 1, none⟩ = some (.int .i64 (l[i]).n) ∧ w.cell? ⟨b, off + i * 3 + 2, none⟩ = some (.string (l[i]).s)

theorem RowAt.later {w w' : World} {a : Option Addr} {l : List Val} (h : RowAt w a l) (hb : Below w.heap.size w w') : RowAt w' a l := fun hn => by
  obtain ⟨b, off, e, hc⟩ := h hn
  exact ⟨b, off, e, fun i hi => ⟨cell_later hb (hc i hi).1, cell_later hb (hc i hi).2.1, cell_later hb (hc i hi).2.2⟩⟩

end Go.Proofs.Ytneebnankghhgab

/- Trees with many keys a node, plainly: keys in order, chains of separators, putting and cutting. Nothing of any program here. Conditions: each lemma names its own. -/
namespace Go.Proofs.Ytneebnankghhgab

abbrev Key := List UInt8
theorem k_irrefl (x : Key) : ¬ x < x := List.lt_irrefl x
theorem k_trans {x y z : Key} (h : x < y) (g : y < z) : x < z := List.lt_trans h g
theorem k_asymm {x y : Key} (h : x < y) : ¬ y < x := fun g => k_irrefl _ (k_trans h g)
theorem k_ne {x y : Key} (h : x < y) : x ≠ y := fun e => k_irrefl x (by rw [← e] at h; exact h)
theorem k_tri (x y : Key) : x < y ∨ x = y ∨ y < x := by
  by_cases h : x < y
  · exact .inl h
  · by_cases g : y < x
    · exact .inr (.inr g)
    · exact .inr (.inl (List.le_antisymm (List.not_lt.1 g) (List.not_lt.1 h)))
theorem k_lt_of_le {x y z : Key} (h : x < y) (g : ¬ z < y) : x < z := by
  rcases k_tri y z with e | e | e
  · exact k_trans h e
  · exact e ▸ h
  · exact absurd e g
theorem k_lt_of_le' {x y z : Key} (h : ¬ y < x) (g : y < z) : x < z := by
  rcases k_tri x y with e | e | e
  · exact k_trans e g
  · exact e ▸ g
  · exact absurd e h
theorem k_le_lt {x y z : Key} (h : ¬ y < x) (g : y < z) : x < z := by
  rcases k_tri x y with e | e | e
  · exact k_trans e g
  · exact e ▸ g
  · exact absurd e h

/-- From a bound on (none: no bound), and below one. -/
def geO (lo : Option Key) (k : Key) : Prop := ∀ l, lo = some l → ¬ k < l
def ltO (k : Key) (hi : Option Key) : Prop := ∀ h, hi = some h → k < h
def lt2 (lo hi : Option Key) : Prop := ∀ l h, lo = some l → hi = some h → l < h

section Chains
variable {α β : Type} (P : Option Key → Option Key → α → Prop)

/-- Kids with separators between, each between its two. -/
def Ch : Option Key → List Key → List α → Option Key → Prop
  | lo, [], [c], hi => P lo hi c
  | lo, k :: ks, c :: cs, hi => P lo (some k) c ∧ Ch (some k) ks cs hi
  | _, _, _, _ => False
/-- Kids, each with the separator behind it. -/
def Lc : Option Key → List Key → List α → Option Key → Prop
  | lo, [], [], m => m = lo
  | lo, k :: ks, c :: cs, m => P lo (some k) c ∧ Lc (some k) ks cs m
  | _, _, _, _ => False
/-- Kids, each with the separator ahead of it. -/
def Rc (m : Option Key) (ks : List Key) (cs : List α) (hi : Option Key) : Prop :=
  (ks = [] ∧ cs = [] ∧ m = hi) ∨ ∃ k K, ks = k :: K ∧ m = some k ∧ Ch P (some k) K cs hi

variable {P}
theorem ch_len : ∀ {ks : List Key} {cs : List α} {lo hi : Option Key}, Ch P lo ks cs hi → cs.length = ks.length + 1
  | [], [c], _, _, _ => rfl
  | k :: ks, c :: cs, _, _, h => by simp [ch_len h.2]
  | [], [], _, _, h => h.elim
  | [], _ :: _ :: _, _, _, h => h.elim
  | _ :: _, [], _, _, h => h.elim
theorem lc_len : ∀ {ks : List Key} {cs : List α} {lo m : Option Key}, Lc P lo ks cs m → cs.length = ks.length
  | [], [], _, _, _ => rfl
  | k :: ks, c :: cs, _, _, h => by simp [lc_len h.2]
  | [], _ :: _, _, _, h => h.elim
  | _ :: _, [], _, _, h => h.elim
theorem rc_len {ks : List Key} {cs : List α} {m hi : Option Key} (h : Rc P m ks cs hi) : cs.length = ks.length := by
  rcases h with ⟨rfl, rfl, _⟩ | ⟨k, K, rfl, _, h⟩
  · rfl
  · simp [ch_len h]

theorem ch_left : ∀ {K1 K : List Key} {C1 C : List α} {lo hi : Option Key}, C1.length = K1.length → (Ch P lo (K1 ++ K) (C1 ++ C) hi ↔ ∃ m, Lc P lo K1 C1 m ∧ Ch P m K C hi)
  | [], K, [], C, lo, hi, _ => ⟨fun h => ⟨lo, rfl, h⟩, fun ⟨m, hm, h⟩ => by cases hm; exact h⟩
  | k :: K1, K, c :: C1, C, lo, hi, hl => by
    have ih := ch_left (K := K) (C := C) (lo := some k) (hi := hi) (show C1.length = K1.length by simpa using hl)
    constructor
    · rintro ⟨h1, h2⟩
      obtain ⟨m, a, b⟩ := ih.1 h2
      exact ⟨m, ⟨h1, a⟩, b⟩
    · rintro ⟨m, ⟨h1, a⟩, b⟩
      exact ⟨h1, ih.2 ⟨m, a, b⟩⟩
  | [], _, _ :: _, _, _, _, hl => by simp at hl
  | _ :: _, _, [], _, _, _, hl => by simp at hl
theorem ch_right : ∀ {M K2 : List Key} {D C2 : List α} {m hi : Option Key}, D.length = M.length + 1 → (Ch P m (M ++ K2) (D ++ C2) hi ↔ ∃ m', Ch P m M D m' ∧ Rc P m' K2 C2 hi)
  | [], [], [d], [], m, hi, _ => ⟨fun h => ⟨hi, h, .inl ⟨rfl, rfl, rfl⟩⟩, fun ⟨m', h, r⟩ => by
      rcases r with ⟨_, _, rfl⟩ | ⟨k, K, e, _⟩
      · exact h
      · cases e⟩
  | [], [], [d], c :: C2, m, hi, _ => ⟨fun h => h.elim, fun ⟨m', h, r⟩ => by
      rcases r with ⟨_, e, _⟩ | ⟨k, K, e, _⟩ <;> cases e⟩
  | [], k :: K2, [d], C2, m, hi, _ => ⟨fun h => ⟨some k, h.1, .inr ⟨k, K2, rfl, rfl, h.2⟩⟩, fun ⟨m', h, r⟩ => by
      rcases r with ⟨e, _⟩ | ⟨k', K, e, e2, r⟩
      · cases e
      · cases e; cases e2; exact ⟨h, r⟩⟩
  | k :: M, K2, d :: D, C2, m, hi, hl => by
    have ih := ch_right (K2 := K2) (C2 := C2) (m := some k) (hi := hi) (show D.length = M.length + 1 by simpa using hl)
    constructor
    · rintro ⟨h1, h2⟩
      obtain ⟨m', a, b⟩ := ih.1 h2
      exact ⟨m', ⟨h1, a⟩, b⟩
    · rintro ⟨m', ⟨h1, a⟩, b⟩
      exact ⟨h1, ih.2 ⟨m', a, b⟩⟩
  | [], _, [], _, _, _, hl => by simp at hl
  | [], _, _ :: _ :: _, _, _, _, hl => by simp at hl
  | _ :: _, _, [], _, _, _, hl => by simp at hl
/-- A chain apart at a separator. -/
theorem ch_parted {K1 K2 : List Key} {C1 C2 : List α} {lo hi : Option Key} {k : Key} (hl : C1.length = K1.length + 1) : Ch P lo (K1 ++ k :: K2) (C1 ++ C2) hi ↔ Ch P lo K1 C1 (some k) ∧ Ch P (some k) K2 C2 hi := by
  rw [ch_right hl]
  constructor
  · rintro ⟨m', h, r⟩
    rcases r with ⟨e, _⟩ | ⟨k', K, e, rfl, r⟩
    · cases e
    · cases e; exact ⟨h, r⟩
  · rintro ⟨h, r⟩
    exact ⟨some k, h, .inr ⟨k, K2, rfl, rfl, r⟩⟩
theorem ch_mono {Q : Option Key → Option Key → α → Prop} : ∀ {ks : List Key} {cs : List α} {lo hi : Option Key}, (∀ lo hi c, c ∈ cs → P lo hi c → Q lo hi c) → Ch P lo ks cs hi → Ch Q lo ks cs hi
  | [], [c], _, _, f, h => f _ _ _ (by simp) h
  | k :: ks, c :: cs, _, _, f, h => ⟨f _ _ _ (by simp) h.1, ch_mono (fun lo hi c hc => f lo hi c (by simp [hc])) h.2⟩
  | [], [], _, _, _, h => h.elim
  | [], _ :: _ :: _, _, _, _, h => h.elim
  | _ :: _, [], _, _, _, h => h.elim
theorem ch_all {R : α → Prop} : ∀ {ks : List Key} {cs : List α} {lo hi : Option Key}, (∀ lo hi c, P lo hi c → R c) → Ch P lo ks cs hi → ∀ c ∈ cs, R c
  | [], [c], _, _, f, h => by intro x hx; simp at hx; subst hx; exact f _ _ _ h
  | k :: ks, c :: cs, _, _, f, h => by
    intro x hx
    rcases List.mem_cons.1 hx with rfl | hx
    · exact f _ _ _ h.1
    · exact ch_all f h.2 x hx
  | [], [], _, _, _, h => h.elim
  | [], _ :: _ :: _, _, _, _, h => h.elim
  | _ :: _, [], _, _, _, h => h.elim

/-! ### Which way a key is -/
/-- How many keys are less. -/
def pl (k : Key) : List Key → Nat
  | [] => 0
  | s :: ks => if s < k then pl k ks + 1 else 0
/-- How many separators aren't above. -/
def tw (k : Key) : List Key → Nat
  | [] => 0
  | s :: ks => if k < s then 0 else tw k ks + 1
theorem pl_le (k : Key) : ∀ ks : List Key, pl k ks ≤ ks.length
  | [] => Nat.le_refl _
  | s :: ks => by
    have := pl_le k ks
    unfold pl; split <;> simp <;> omega
theorem tw_le (k : Key) : ∀ ks : List Key, tw k ks ≤ ks.length
  | [] => Nat.le_refl _
  | s :: ks => by
    have := tw_le k ks
    unfold tw; split <;> simp <;> omega
theorem pl_lt (k : Key) : ∀ (ks : List Key) (i : Nat) (h : i < ks.length), i < pl k ks → ks[i] < k
  | s :: ks, i, h, hi => by
    unfold pl at hi
    split at hi
    · rename_i hs
      cases i with
      | zero => exact hs
      | succ i => exact pl_lt k ks i (by simpa using h) (by omega)
    · omega
theorem pl_at (k : Key) : ∀ (ks : List Key) (h : pl k ks < ks.length), ¬ ks[pl k ks] < k
  | s :: ks, h => by
    by_cases hs : s < k
    · have e : pl k (s :: ks) = pl k ks + 1 := by simp [pl, hs]
      simp only [e, List.getElem_cons_succ]
      exact pl_at k ks (by rw [e] at h; simpa using h)
    · have e : pl k (s :: ks) = 0 := by simp [pl, hs]
      simp only [e, List.getElem_cons_zero]
      exact hs
theorem pl_ge (k : Key) {ks : List Key} (hs : ks.Pairwise (· < ·)) (i : Nat) (h : i < ks.length) (hi : pl k ks ≤ i) : ¬ ks[i] < k := by
  have h0 := pl_at k ks (by omega)
  rcases Nat.eq_or_lt_of_le hi with e | e
  · subst e; exact h0
  · intro hk
    exact h0 (k_trans (List.pairwise_iff_getElem.1 hs _ _ (by omega) h e) hk)
theorem pl_of {k : Key} {ks : List Key} {i : Nat} (hi : i ≤ ks.length) (h1 : ∀ j (h : j < ks.length), j < i → ks[j] < k) (h2 : ∀ h : i < ks.length, ¬ ks[i] < k) : pl k ks = i := by
  rcases Nat.lt_trichotomy (pl k ks) i with h | h | h
  · exact absurd (h1 (pl k ks) (by omega) h) (pl_at k ks (by omega))
  · exact h
  · have := pl_le k ks
    exact absurd (pl_lt k ks i (by omega) h) (h2 (by omega))
/-- Is it there? -/
def hasK (k : Key) (ks : List Key) : Bool := decide (ks[pl k ks]? = some k)
theorem tw_eq (k : Key) : ∀ {ks : List Key}, ks.Pairwise (· < ·) → tw k ks = if hasK k ks = true then pl k ks + 1 else pl k ks
  | [], _ => by simp [tw, pl, hasK]
  | s :: ks, hs => by
    have ih := tw_eq k (List.pairwise_cons.1 hs).2
    have hx := (List.pairwise_cons.1 hs).1
    rcases k_tri s k with h | h | h
    · have e1 : pl k (s :: ks) = pl k ks + 1 := by simp [pl, h]
      have e2 : tw k (s :: ks) = tw k ks + 1 := by simp [tw, k_asymm h]
      have e3 : hasK k (s :: ks) = hasK k ks := by unfold hasK; rw [e1]; simp
      rw [e1, e2, e3, ih]
      split <;> rfl
    · subst h
      have e1 : pl s (s :: ks) = 0 := by simp [pl, k_irrefl]
      have e2 : tw s (s :: ks) = tw s ks + 1 := by simp [tw, k_irrefl]
      have e3 : tw s ks = 0 := by
        cases ks with
        | nil => rfl
        | cons t ks => simp [tw, hx t (by simp)]
      rw [e1, e2, e3]
      simp [hasK, e1]
    · have e1 : pl k (s :: ks) = 0 := by simp [pl, k_asymm h]
      have e2 : tw k (s :: ks) = 0 := by simp [tw, h]
      rw [e1, e2]
      have : hasK k (s :: ks) = false := by
        unfold hasK; rw [e1]; simp
        intro e; subst e; exact absurd h (k_irrefl _)
      rw [this]; rfl

/-- The chain at a key's kid. -/
theorem ch_toward {k : Key} : ∀ {ks : List Key} {cs : List α} {lo hi : Option Key}, Ch P lo ks cs hi → geO lo k → ltO k hi →
    ∃ c m m', cs[tw k ks]? = some c ∧ Lc P lo (ks.take (tw k ks)) (cs.take (tw k ks)) m ∧ P m m' c ∧ Rc P m' (ks.drop (tw k ks)) (cs.drop (tw k ks + 1)) hi ∧ geO m k ∧ ltO k m'
  | [], [c], lo, hi, h, h1, h2 => ⟨c, lo, hi, rfl, rfl, h, .inl ⟨rfl, rfl, rfl⟩, h1, h2⟩
  | s :: ks, c :: cs, lo, hi, h, h1, h2 => by
    by_cases hs : k < s
    · have e : tw k (s :: ks) = 0 := by simp [tw, hs]
      rw [e]
      exact ⟨c, lo, some s, rfl, rfl, h.1, .inr ⟨s, ks, rfl, rfl, h.2⟩, h1, fun x hx => by cases hx; exact hs⟩
    · have e : tw k (s :: ks) = tw k ks + 1 := by simp [tw, hs]
      rw [e]
      obtain ⟨c', m, m', a, b, d, r, g1, g2⟩ := ch_toward (k := k) h.2 (fun x hx => by cases hx; exact hs) h2
      exact ⟨c', m, m', by simpa using a, ⟨h.1, b⟩, d, by simpa using r, g1, g2⟩
  | [], [], _, _, h, _, _ => h.elim
  | [], _ :: _ :: _, _, _, h, _, _ => h.elim
  | _ :: _, [], _, _, h, _, _ => h.elim
theorem ch_sorted (hP : ∀ lo hi c, P lo hi c → lt2 lo hi) : ∀ {ks : List Key} {cs : List α} {lo hi : Option Key}, Ch P lo ks cs hi → ks.Pairwise (· < ·) ∧ (∀ k ∈ ks, ∀ l, lo = some l → l < k) ∧ (∀ k ∈ ks, ltO k hi)
  | [], [c], _, _, _ => ⟨List.Pairwise.nil, by simp, by simp⟩
  | s :: ks, c :: cs, lo, hi, h => by
    obtain ⟨a, b, d⟩ := ch_sorted hP h.2
    have h0 := hP _ _ _ h.1
    refine ⟨List.pairwise_cons.2 ⟨fun k hk => b k hk s rfl, a⟩, ?_, ?_⟩
    · intro k hk l hl
      rcases List.mem_cons.1 hk with rfl | hk
      · exact h0 l _ hl rfl
      · exact k_trans (h0 l s hl rfl) (b k hk s rfl)
    · intro k hk x hx
      rcases List.mem_cons.1 hk with rfl | hk
      · cases ks with
        | nil => cases cs with
          | nil => exact h.2.elim
          | cons c' cs => cases cs with
            | nil => exact hP _ _ _ h.2 _ _ rfl hx
            | cons _ _ => exact h.2.elim
        | cons t ks => exact k_trans (b t (by simp) _ rfl) (d t (by simp) x hx)
      · exact d k hk x hx
  | [], [], _, _, h => h.elim
  | [], _ :: _ :: _, _, _, h => h.elim
  | _ :: _, [], _, _, h => h.elim
/-- All under the kids ahead are below what isn't below their end. -/
theorem lc_below {f : α → List (Key × β)} (hP : ∀ lo hi c, P lo hi c → lt2 lo hi ∧ ∀ x ∈ f c, geO lo x.1 ∧ ltO x.1 hi) {k : Key} : ∀ {ks : List Key} {cs : List α} {lo m : Option Key}, Lc P lo ks cs m → geO m k → geO lo k ∧ ∀ x ∈ cs.flatMap f, x.1 < k
  | [], [], _, _, h, hm => by cases h; exact ⟨hm, by simp⟩
  | s :: ks, c :: cs, lo, m, h, hm => by
    obtain ⟨a, b⟩ := lc_below hP h.2 hm
    obtain ⟨p, q⟩ := hP _ _ _ h.1
    refine ⟨fun l hl hk => a s rfl (k_trans hk (p l s hl rfl)), ?_⟩
    intro x hx
    rw [List.flatMap_cons, List.mem_append] at hx
    rcases hx with hx | hx
    · exact k_lt_of_le ((q x hx).2 s rfl) (a s rfl)
    · exact b x hx
  | [], _ :: _, _, _, h, _ => h.elim
  | _ :: _, [], _, _, h, _ => h.elim
theorem ch_above {f : α → List (Key × β)} (hP : ∀ lo hi c, P lo hi c → lt2 lo hi ∧ ∀ x ∈ f c, geO lo x.1 ∧ ltO x.1 hi) : ∀ {ks : List Key} {cs : List α} {lo hi : Option Key}, Ch P lo ks cs hi → ∀ x ∈ cs.flatMap f, geO lo x.1 ∧ ltO x.1 hi
  | [], [c], _, _, h => by intro x hx; simp at hx; exact (hP _ _ _ h).2 x (by simpa using hx)
  | s :: ks, c :: cs, lo, hi, h => by
    obtain ⟨p, q⟩ := hP _ _ _ h.1
    have ih := ch_above hP h.2
    have hs := (ch_sorted (fun lo hi c hc => (hP lo hi c hc).1) (show Ch P lo (s :: ks) (c :: cs) hi from h)).2.2 s (by simp)
    intro x hx
    rw [List.flatMap_cons, List.mem_append] at hx
    rcases hx with hx | hx
    · exact ⟨(q x hx).1, fun y hy => k_trans ((q x hx).2 s rfl) (hs y hy)⟩
    · exact ⟨fun l hl hk => (ih x hx).1 s rfl (k_trans hk (p l s hl rfl)), (ih x hx).2⟩
  | [], [], _, _, h => h.elim
  | [], _ :: _ :: _, _, _, h => h.elim
  | _ :: _, [], _, _, h => h.elim
theorem rc_above {f : α → List (Key × β)} (hP : ∀ lo hi c, P lo hi c → lt2 lo hi ∧ ∀ x ∈ f c, geO lo x.1 ∧ ltO x.1 hi) {k : Key} {ks : List Key} {cs : List α} {m hi : Option Key} (h : Rc P m ks cs hi) (hk : ltO k m) : ∀ x ∈ cs.flatMap f, k < x.1 := by
  rcases h with ⟨_, rfl, _⟩ | ⟨s, K, _, rfl, h⟩
  · simp
  · intro x hx
    exact k_lt_of_le (hk s rfl) ((ch_above hP h x hx).1 s rfl)
/-- What lies between the ends rises, if what each kid has does. -/
theorem ch_rises {f : α → List (Key × β)} (hP : ∀ lo hi c, P lo hi c → lt2 lo hi ∧ ∀ x ∈ f c, geO lo x.1 ∧ ltO x.1 hi) (hS : ∀ lo hi c, P lo hi c → (f c).Pairwise (fun a b => a.1 < b.1)) : ∀ {ks : List Key} {cs : List α} {lo hi : Option Key}, Ch P lo ks cs hi → (cs.flatMap f).Pairwise (fun a b => a.1 < b.1)
  | [], [c], _, _, h => by simpa using hS _ _ _ h
  | s :: ks, c :: cs, lo, hi, h => by
    rw [List.flatMap_cons, List.pairwise_append]
    refine ⟨hS _ _ _ h.1, ch_rises hP hS h.2, fun a ha b hb => ?_⟩
    exact k_lt_of_le (((hP _ _ _ h.1).2 a ha).2 s rfl) ((ch_above hP h.2 b hb).1 s rfl)
  | [], [], _, _, h => h.elim
  | [], _ :: _ :: _, _, _, h => h.elim
  | _ :: _, [], _, _, h => h.elim
end Chains
/-! ### Keys with what they have, in order -/
section Lists
variable {β : Type}
abbrev Asc (l : List (Key × β)) : Prop := l.Pairwise (fun a b => a.1 < b.1)
def insA (k : Key) (v : β) : List (Key × β) → List (Key × β)
  | [] => [(k, v)]
  | x :: r => if x.1 < k then x :: insA k v r else if x.1 = k then (k, v) :: r else (k, v) :: x :: r
def delA (k : Key) : List (Key × β) → List (Key × β)
  | [] => []
  | x :: r => if x.1 = k then r else x :: delA k r
def getA (k : Key) : List (Key × β) → Option β
  | [] => none
  | x :: r => if x.1 = k then some x.2 else getA k r
theorem insA_left {k : Key} {v : β} : ∀ {X Y : List (Key × β)}, (∀ x ∈ X, x.1 < k) → insA k v (X ++ Y) = X ++ insA k v Y
  | [], _, _ => rfl
  | x :: X, Y, h => by
    rw [List.cons_append, insA, if_pos (h x (by simp)), insA_left (fun y hy => h y (by simp [hy])), List.cons_append]
theorem insA_right {k : Key} {v : β} : ∀ {Y Z : List (Key × β)}, (∀ z ∈ Z, k < z.1) → insA k v (Y ++ Z) = insA k v Y ++ Z
  | [], [], _ => rfl
  | [], z :: Z, h => by
    have hz := h z (by simp)
    simp only [List.nil_append, insA, if_neg (k_asymm hz), if_neg (k_ne hz).symm, List.singleton_append]
  | y :: Y, Z, h => by
    rw [List.cons_append, insA, insA]
    split
    · rw [insA_right h]; rfl
    · split <;> rfl
theorem delA_left {k : Key} : ∀ {X Y : List (Key × β)}, (∀ x ∈ X, x.1 < k) → delA k (X ++ Y) = X ++ delA k Y
  | [], _, _ => rfl
  | x :: X, Y, h => by
    rw [List.cons_append, delA, if_neg (k_ne (h x (by simp))), delA_left (fun y hy => h y (by simp [hy])), List.cons_append]
theorem delA_none {k : Key} : ∀ {Z : List (Key × β)}, (∀ z ∈ Z, k < z.1) → delA k Z = Z
  | [], _ => rfl
  | z :: Z, h => by
    rw [delA, if_neg (k_ne (h z (by simp))).symm, delA_none (fun y hy => h y (by simp [hy]))]
theorem delA_right {k : Key} : ∀ {Y Z : List (Key × β)}, (∀ z ∈ Z, k < z.1) → delA k (Y ++ Z) = delA k Y ++ Z
  | [], Z, h => by rw [List.nil_append, delA_none h]; rfl
  | y :: Y, Z, h => by
    rw [List.cons_append, delA, delA]
    split
    · rfl
    · rw [delA_right h]; rfl
theorem getA_left {k : Key} : ∀ {X Y : List (Key × β)}, (∀ x ∈ X, x.1 < k) → getA k (X ++ Y) = getA k Y
  | [], _, _ => rfl
  | x :: X, Y, h => by
    rw [List.cons_append, getA, if_neg (k_ne (h x (by simp))), getA_left (fun y hy => h y (by simp [hy]))]
theorem getA_none {k : Key} : ∀ {Z : List (Key × β)}, (∀ z ∈ Z, k < z.1) → getA k Z = none
  | [], _ => rfl
  | z :: Z, h => by
    rw [getA, if_neg (k_ne (h z (by simp))).symm, getA_none (fun y hy => h y (by simp [hy]))]
theorem getA_right {k : Key} : ∀ {Y Z : List (Key × β)}, (∀ z ∈ Z, k < z.1) → getA k (Y ++ Z) = getA k Y
  | [], Z, h => by rw [List.nil_append, getA_none h]; rfl
  | y :: Y, Z, h => by
    rw [List.cons_append, getA, getA]
    split
    · rfl
    · rw [getA_right h]
theorem getA_some {k : Key} {v : β} : ∀ {l : List (Key × β)}, getA k l = some v → (k, v) ∈ l
  | [], h => by cases h
  | x :: l, h => by
    rw [getA] at h
    split at h
    · rename_i e; cases h; rw [← e]; simp
    · exact List.mem_cons_of_mem _ (getA_some h)
theorem getA_has {k : Key} : ∀ {l : List (Key × β)} {x : Key × β}, x ∈ l → x.1 = k → getA k l ≠ none
  | y :: l, x, hx, e => by
    rw [getA]
    split
    · simp
    · rename_i hne
      rcases List.mem_cons.1 hx with rfl | hx
      · exact absurd e hne
      · exact getA_has hx e
theorem map_pl (k : Key) (l : List (Key × β)) : pl k (l.map (·.1)) ≤ l.length := by have := pl_le k (l.map (·.1)); simpa using this
theorem asc_keys {l : List (Key × β)} (h : Asc l) : (l.map (·.1)).Pairwise (· < ·) := by rw [List.pairwise_map]; exact h
/-- Where a key stands, and what is there. -/
theorem ins_at {k : Key} {v : β} : ∀ {l : List (Key × β)}, Asc l → insA k v l = l.take (pl k (l.map (·.1))) ++ (k, v) :: l.drop (if hasK k (l.map (·.1)) = true then pl k (l.map (·.1)) + 1 else pl k (l.map (·.1)))
  | [], _ => by simp [insA, pl]
  | x :: l, h => by
    have ih := ins_at (k := k) (v := v) (List.pairwise_cons.1 h).2
    by_cases hx : x.1 < k
    · have e1 : pl k ((x :: l).map (·.1)) = pl k (l.map (·.1)) + 1 := by simp [pl, hx]
      have e3 : hasK k ((x :: l).map (·.1)) = hasK k (l.map (·.1)) := by unfold hasK; rw [e1]; simp
      rw [insA, if_pos hx, ih, e1, e3]
      split <;> simp
    · have e1 : pl k ((x :: l).map (·.1)) = 0 := by simp [pl, hx]
      rw [insA, if_neg hx, e1]
      by_cases he : x.1 = k
      · have e3 : hasK k ((x :: l).map (·.1)) = true := by unfold hasK; rw [e1]; simp [he]
        rw [if_pos he, if_pos e3]; simp
      · have e3 : hasK k ((x :: l).map (·.1)) = false := by unfold hasK; rw [e1]; simp [he]
        rw [if_neg he, if_neg (by rw [e3]; simp)]; simp
theorem get_at {k : Key} : ∀ {l : List (Key × β)}, Asc l → getA k l = if hasK k (l.map (·.1)) = true then (l[pl k (l.map (·.1))]?).map (·.2) else none
  | [], _ => by simp [getA, hasK]
  | x :: l, h => by
    have ih := get_at (k := k) (List.pairwise_cons.1 h).2
    by_cases hx : x.1 < k
    · have e1 : pl k ((x :: l).map (·.1)) = pl k (l.map (·.1)) + 1 := by simp [pl, hx]
      have e3 : hasK k ((x :: l).map (·.1)) = hasK k (l.map (·.1)) := by unfold hasK; rw [e1]; simp
      rw [getA, if_neg (k_ne hx), ih, e1, e3]
      split <;> simp
    · have e1 : pl k ((x :: l).map (·.1)) = 0 := by simp [pl, hx]
      rw [getA, e1]
      by_cases he : x.1 = k
      · have e3 : hasK k ((x :: l).map (·.1)) = true := by unfold hasK; rw [e1]; simp [he]
        rw [if_pos he, if_pos e3]; simp
      · have e3 : hasK k ((x :: l).map (·.1)) = false := by unfold hasK; rw [e1]; simp [he]
        rw [if_neg he, if_neg (by rw [e3]; simp)]
        have hk : ∀ z ∈ l, k < z.1 := fun z hz => by
          have h1 := (List.pairwise_cons.1 h).1 z hz
          rcases k_tri k x.1 with g | g | g
          · exact k_trans g h1
          · exact absurd g.symm he
          · exact absurd g hx
        exact getA_none hk
theorem del_at {k : Key} : ∀ {l : List (Key × β)}, Asc l → hasK k (l.map (·.1)) = true → delA k l = l.take (pl k (l.map (·.1))) ++ l.drop (pl k (l.map (·.1)) + 1)
  | [], _, h => by simp [hasK] at h
  | x :: l, h, hk => by
    by_cases hx : x.1 < k
    · have e1 : pl k ((x :: l).map (·.1)) = pl k (l.map (·.1)) + 1 := by simp [pl, hx]
      have e3 : hasK k ((x :: l).map (·.1)) = hasK k (l.map (·.1)) := by unfold hasK; rw [e1]; simp
      rw [delA, if_neg (k_ne hx), del_at (List.pairwise_cons.1 h).2 (by rw [← e3]; exact hk), e1]
      simp
    · have e1 : pl k ((x :: l).map (·.1)) = 0 := by simp [pl, hx]
      have he : x.1 = k := by unfold hasK at hk; rw [e1] at hk; simpa using hk
      rw [delA, if_pos he, e1]; simp
theorem insA_mem {k : Key} {v : β} : ∀ {l : List (Key × β)} {x : Key × β}, x ∈ insA k v l → x = (k, v) ∨ x ∈ l
  | [], x, h => by simpa [insA] using h
  | y :: l, x, h => by
    rw [insA] at h
    split at h
    · rcases List.mem_cons.1 h with rfl | h
      · exact .inr (by simp)
      · rcases insA_mem h with h | h
        · exact .inl h
        · exact .inr (by simp [h])
    · split at h
      · rcases List.mem_cons.1 h with h | h
        · exact .inl h
        · exact .inr (by simp [h])
      · rcases List.mem_cons.1 h with h | h
        · exact .inl h
        · exact .inr h
theorem insA_asc {k : Key} {v : β} : ∀ {l : List (Key × β)}, Asc l → Asc (insA k v l)
  | [], _ => by simp [insA]
  | y :: l, h => by
    have h1 := (List.pairwise_cons.1 h).1
    have h2 := (List.pairwise_cons.1 h).2
    rw [insA]
    split
    · rename_i hy
      refine List.pairwise_cons.2 ⟨fun z hz => ?_, insA_asc h2⟩
      rcases insA_mem hz with rfl | hz
      · exact hy
      · exact h1 z hz
    · split
      · rename_i hy he
        exact List.pairwise_cons.2 ⟨fun z hz => he ▸ h1 z hz, h2⟩
      · rename_i hy he
        have hk : k < y.1 := by
          rcases k_tri k y.1 with g | g | g
          · exact g
          · exact absurd g.symm he
          · exact absurd g hy
        exact List.pairwise_cons.2 ⟨fun z hz => by
          rcases List.mem_cons.1 hz with rfl | hz
          · exact hk
          · exact k_trans hk (h1 z hz), h⟩
theorem delA_sub (k : Key) : ∀ (l : List (Key × β)), (delA k l).Sublist l
  | [] => List.Sublist.slnil
  | y :: l => by
    rw [delA]
    split
    · exact List.sublist_cons_self _ _
    · exact (delA_sub k l).cons_cons _
theorem delA_asc {k : Key} {l : List (Key × β)} (h : Asc l) : Asc (delA k l) := List.Pairwise.sublist (delA_sub k l) h
theorem insA_len {k : Key} {v : β} : ∀ (l : List (Key × β)), (insA k v l).length ≤ l.length + 1
  | [] => by simp [insA]
  | y :: l => by
    have := insA_len (k := k) (v := v) l
    rw [insA]; split
    · simp; omega
    · split <;> simp
theorem insA_len' {k : Key} {v : β} : ∀ (l : List (Key × β)), l.length ≤ (insA k v l).length
  | [] => by simp
  | y :: l => by
    have := insA_len' (k := k) (v := v) l
    rw [insA]; split
    · simp; omega
    · split <;> simp
theorem delA_len {k : Key} : ∀ (l : List (Key × β)), l.length ≤ (delA k l).length + 1
  | [] => by simp
  | y :: l => by
    have := delA_len (k := k) l
    rw [delA]; split
    · simp
    · simp; omega
theorem insA_size {k : Key} {v : β} : ∀ {l : List (Key × β)}, Asc l → (insA k v l).length = if getA k l = none then l.length + 1 else l.length
  | [], _ => by simp [insA, getA]
  | y :: l, h => by
    have ih := insA_size (k := k) (v := v) (List.pairwise_cons.1 h).2
    rw [insA, getA]
    split
    · rename_i hy
      rw [if_neg (k_ne hy), List.length_cons, ih]
      split <;> simp
    · split
      · simp
      · rename_i hy he
        have hk : k < y.1 := by
          rcases k_tri k y.1 with g | g | g
          · exact g
          · exact absurd g.symm he
          · exact absurd g hy
        rw [getA_none (fun z hz => k_trans hk ((List.pairwise_cons.1 h).1 z hz))]
        simp
theorem delA_size {k : Key} : ∀ {l : List (Key × β)}, getA k l ≠ none → (delA k l).length + 1 = l.length
  | [], h => absurd rfl h
  | y :: l, h => by
    rw [getA] at h
    rw [delA]
    split
    · rfl
    · rename_i he
      rw [if_neg he] at h
      rw [List.length_cons, delA_size h, List.length_cons]
theorem getA_ins {k j : Key} {v : β} : ∀ {l : List (Key × β)}, Asc l → getA j (insA k v l) = if j = k then some v else getA j l
  | [], _ => by
    simp only [insA, getA]
    by_cases e : j = k
    · simp [e]
    · simp [e, Ne.symm e]
  | y :: l, h => by
    have ih := getA_ins (k := k) (j := j) (v := v) (List.pairwise_cons.1 h).2
    rw [insA]
    split
    · rename_i hy
      rw [getA, getA, ih]
      by_cases e : y.1 = j
      · have : j ≠ k := fun e' => k_irrefl k (by rw [← e', ← e] at hy ⊢; exact hy)
        simp [e, this]
      · simp [e]
    · split
      · rename_i hy he
        rw [getA, getA]
        by_cases e : j = k
        · simp [e]
        · have e1 : ¬ k = j := fun h => e h.symm
          have e2 : ¬ y.1 = j := fun h => e (h ▸ he)
          simp [e, e1, e2]
      · rw [getA]
        by_cases e : j = k
        · simp [e]
        · have e1 : ¬ k = j := fun h => e h.symm
          simp [e, e1]
theorem getA_del {k j : Key} : ∀ {l : List (Key × β)}, Asc l → getA j (delA k l) = if j = k then none else getA j l
  | [], _ => by simp [delA, getA]
  | y :: l, h => by
    have ih := getA_del (k := k) (j := j) (List.pairwise_cons.1 h).2
    rw [delA]
    split
    · rename_i he
      by_cases e : j = k
      · rw [if_pos e, e]
        exact getA_none (fun z hz => he ▸ (List.pairwise_cons.1 h).1 z hz)
      · rw [if_neg e, getA, if_neg (fun e' => e (e'.symm.trans he))]
    · rename_i he
      rw [getA, getA, ih]
      by_cases e : y.1 = j
      · have : j ≠ k := fun e' => he (e.trans e')
        simp [e, this]
      · simp [e]
end Lists
/-! ### Trees, by levels -/
section Trees
variable {β : Type}
/-- A tree of so many levels above its leaves. -/
def Tr (β : Type) : Nat → Type
  | 0 => List (Key × β)
  | n + 1 => List Key × List (Tr β n)
def flat : (n : Nat) → Tr β n → List (Key × β)
  | 0, l => l
  | n + 1, t => t.2.flatMap (flat n)
def keysT : (n : Nat) → Tr β n → List Key
  | 0, l => List.map (·.1) (show List (Key × β) from l)
  | _ + 1, t => t.1
def nk (n : Nat) (t : Tr β n) : Nat := (keysT n t).length
def nilT : (n : Nat) → Tr β n
  | 0 => ([] : List (Key × β))
  | _ + 1 => ([], [])
/-- A tree that may be: a to b keys in its node, least to most in those below. -/
def Wf (least most : Nat) : (n : Nat) → Nat → Nat → Option Key → Option Key → Tr β n → Prop
  | 0, a, b, lo, hi, l => lt2 lo hi ∧ a ≤ List.length (α := Key × β) l ∧ List.length (α := Key × β) l ≤ b ∧ Asc (β := β) l ∧ ∀ x : Key × β, List.Mem x l → geO lo x.1 ∧ ltO x.1 hi
  | n + 1, a, b, lo, hi, t => lt2 lo hi ∧ a ≤ t.1.length ∧ t.1.length ≤ b ∧ Ch (Wf least most n least most) lo t.1 t.2 hi
variable {least most : Nat}
theorem wf_lt2 : ∀ {n a b : Nat} {lo hi : Option Key} {t : Tr β n}, Wf least most n a b lo hi t → lt2 lo hi
  | 0, _, _, _, _, _, h => h.1
  | _ + 1, _, _, _, _, _, h => h.1
theorem wf_size : ∀ {n a b : Nat} {lo hi : Option Key} {t : Tr β n}, Wf least most n a b lo hi t → a ≤ nk n t ∧ nk n t ≤ b
  | 0, _, _, _, _, t, h => by have h1 := h.2.1; have h2 := h.2.2.1; unfold nk keysT; rw [List.length_map]; exact ⟨h1, h2⟩
  | _ + 1, _, _, _, _, _, h => ⟨h.2.1, h.2.2.1⟩
theorem wf_mono : ∀ {n a b a' b' : Nat} {lo hi : Option Key} {t : Tr β n}, Wf least most n a b lo hi t → a' ≤ nk n t → nk n t ≤ b' → Wf least most n a' b' lo hi t
  | 0, _, _, _, _, _, _, t, h, h1, h2 => by
    unfold nk keysT at h1 h2; rw [List.length_map] at h1 h2
    exact ⟨h.1, h1, h2, h.2.2.2⟩
  | _ + 1, _, _, _, _, _, _, _, h, h1, h2 => ⟨h.1, h1, h2, h.2.2.2⟩
theorem wf_flat : ∀ {n a b : Nat} {lo hi : Option Key} {t : Tr β n}, Wf least most n a b lo hi t → ∀ x ∈ flat n t, geO lo x.1 ∧ ltO x.1 hi
  | 0, _, _, _, _, _, h => h.2.2.2.2
  | _ + 1, _, _, _, _, _, h => ch_above (fun _ _ _ hc => ⟨wf_lt2 hc, wf_flat hc⟩) h.2.2.2
theorem wf_asc : ∀ {n a b : Nat} {lo hi : Option Key} {t : Tr β n}, Wf least most n a b lo hi t → Asc (flat n t)
  | 0, _, _, _, _, _, h => h.2.2.2.1
  | _ + 1, _, _, _, _, _, h => ch_rises (fun _ _ _ hc => ⟨wf_lt2 hc, wf_flat hc⟩) (fun _ _ _ hc => wf_asc hc) h.2.2.2
theorem wf_kids {n : Nat} {lo hi : Option Key} {c : Tr β n} (h : Wf least most n least most lo hi c) : lt2 lo hi ∧ ∀ x ∈ flat n c, geO lo x.1 ∧ ltO x.1 hi := ⟨wf_lt2 h, wf_flat h⟩
theorem wf_keys : ∀ {n a b : Nat} {lo hi : Option Key} {t : Tr β n}, Wf least most n a b lo hi t → (keysT n t).Pairwise (· < ·)
  | 0, _, _, _, _, _, h => asc_keys h.2.2.2.1
  | _ + 1, _, _, _, _, _, h => (ch_sorted (fun _ _ _ hc => wf_lt2 hc) h.2.2.2).1
theorem wf_low : ∀ {n : Nat} {lo hi : Option Key} {t : Tr β n}, Wf least most n least most lo hi t → least * (least + 1) ^ n ≤ (flat n t).length
  | 0, _, _, t, h => by simpa [flat] using h.2.1
  | n + 1, lo, hi, t, h => by
    have hk := ch_len h.2.2.2
    have ha := ch_all (R := fun c => least * (least + 1) ^ n ≤ (flat n c).length) (fun _ _ _ hc => wf_low hc) h.2.2.2
    have : t.2.length * (least * (least + 1) ^ n) ≤ (t.2.flatMap (flat n)).length := by
      generalize t.2 = cs at ha
      clear hk h
      induction cs with
      | nil => simp
      | cons c cs ih =>
        have h1 := ha c (by simp)
        have h2 := ih (fun x hx => ha x (by simp [hx]))
        rw [List.length_cons, List.flatMap_cons, List.length_append, Nat.succ_mul]; omega
    show _ ≤ (t.2.flatMap (flat n)).length
    refine Nat.le_trans ?_ this
    have h1 := h.2.1
    have e : least * (least + 1) ^ (n + 1) = (least + 1) * (least * (least + 1) ^ n) := by rw [Nat.pow_succ, Nat.mul_comm (least + 1), Nat.mul_assoc]
    rw [e]
    exact Nat.mul_le_mul_right _ (by omega)

/-! ### Apart and together -/
def part : (n : Nat) → Nat → Tr β n → Tr β n × Key × Tr β n
  | 0, s, l => (List.take s (show List (Key × β) from l), ((show List (Key × β) from l)[s]?.map (·.1)).getD [], List.drop s (show List (Key × β) from l))
  | _ + 1, s, t => ((t.1.take s, t.2.take (s + 1)), t.1.getD s [], (t.1.drop (s + 1), t.2.drop (s + 1)))
def joinT : (n : Nat) → Tr β n → Key → Tr β n → Tr β n
  | 0, l, _, r => List.append (show List (Key × β) from l) r
  | _ + 1, l, k, r => (l.1 ++ k :: r.1, l.2 ++ r.2)
theorem part_wf : ∀ {n a b s : Nat} {lo hi : Option Key} {t : Tr β n}, Wf least most n a b lo hi t → 1 ≤ s → s < nk n t →
    Wf least most n s s lo (some (part n s t).2.1) (part n s t).1 ∧ Wf least most n (nk n t - s - min n 1) (nk n t - s - min n 1) (some (part n s t).2.1) hi (part n s t).2.2 ∧ flat n (part n s t).1 ++ flat n (part n s t).2.2 = flat n t
  | 0, a, b, s, lo, hi, t, h, h1, h2 => by
    have hs : s < List.length (α := Key × β) t := by unfold nk keysT at h2; rwa [List.length_map] at h2
    obtain ⟨l, rfl⟩ : ∃ l : List (Key × β), l = t := ⟨t, rfl⟩
    have hN : nk 0 l = List.length l := by unfold nk keysT; rw [List.length_map]
    obtain ⟨ha, -, -, hasc, hb⟩ := h
    have he : (part 0 s l).2.1 = (List.get l ⟨s, hs⟩).1 := by
      show (l[s]?.map (·.1)).getD [] = _
      rw [List.getElem?_eq_getElem hs]; rfl
    rw [he]
    have hm : (List.get l ⟨s, hs⟩) ∈ l := List.getElem_mem hs
    have hd : List.drop s l = List.get l ⟨s, hs⟩ :: List.drop (s + 1) l := by simp
    have hmd : List.get l ⟨s, hs⟩ ∈ List.drop s l := by rw [hd]; exact List.mem_cons_self
    have hsplit : l = List.take s l ++ List.drop s l := (List.take_append_drop s l).symm
    have hap : List.Pairwise (fun a b : Key × β => a.1 < b.1) (List.take s l ++ List.drop s l) := by rw [← hsplit]; exact hasc
    obtain ⟨p1, p2, p3⟩ := List.pairwise_append.1 hap
    refine ⟨⟨?_, ?_, ?_, p1, ?_⟩, ⟨?_, ?_, ?_, p2, ?_⟩, ?_⟩
    · rintro x y hx hy
      cases hy
      have h0 : (List.get l ⟨0, by omega⟩) ∈ List.take s l := by
        rw [List.mem_take_iff_getElem]; exact ⟨0, by omega, rfl⟩
      exact k_lt_of_le' ((hb _ (List.getElem_mem (by omega : 0 < l.length))).1 x hx) (p3 _ h0 _ hmd)
    · show s ≤ (List.take s l).length; simp; omega
    · show (List.take s l).length ≤ s; simp; omega
    · intro x hx
      refine ⟨(hb x (List.mem_of_mem_take hx)).1, fun y hy => ?_⟩
      cases hy
      exact p3 x hx _ hmd
    · rintro x y hx hy
      cases hx
      exact (hb _ hm).2 y hy
    · show _ ≤ (List.drop s l).length; rw [hN]; simp
    · show (List.drop s l).length ≤ _; rw [hN]; simp
    · intro x hx
      refine ⟨fun y hy hk => ?_, (hb x (List.mem_of_mem_drop hx)).2⟩
      cases hy
      have hx' : x ∈ List.drop s l := hx
      rw [hd] at hx' p2
      rcases List.mem_cons.1 hx' with rfl | hx'
      · exact k_irrefl _ hk
      · exact k_asymm hk ((List.pairwise_cons.1 p2).1 x hx')
    · exact hsplit.symm
  | n + 1, a, b, s, lo, hi, (ks, cs), h, h1, h2 => by
    have hs : s < ks.length := h2
    obtain ⟨ha, -, -, hc⟩ := h
    have hl : cs.length = ks.length + 1 := ch_len hc
    have hd : ks.drop s = ks[s] :: ks.drop (s + 1) := by simp
    have hk : ks = ks.take s ++ ks[s] :: ks.drop (s + 1) := by rw [← hd, List.take_append_drop]
    have hcs : cs = cs.take (s + 1) ++ cs.drop (s + 1) := (List.take_append_drop _ _).symm
    have he : (part (n + 1) s ((ks, cs) : Tr β (n + 1))).2.1 = ks[s] := by
      show ks.getD s [] = _
      simp [List.getD, hs]
    have hS := ch_sorted (fun _ _ _ hc => wf_lt2 hc) hc
    have hc' := hc
    rw [hk, hcs] at hc'
    obtain ⟨c1, c2⟩ := (ch_parted (by simp; omega)).1 hc'
    rw [he]
    refine ⟨⟨?_, ?_, ?_, c1⟩, ⟨?_, ?_, ?_, c2⟩, ?_⟩
    · rintro x y hx hy; cases hy; exact hS.2.1 _ (List.getElem_mem hs) x hx
    · show s ≤ (ks.take s).length; simp; omega
    · show (ks.take s).length ≤ s; simp; omega
    · rintro x y hx hy; cases hx; exact hS.2.2 _ (List.getElem_mem hs) y hy
    · show nk (n + 1) ((ks, cs) : Tr β (n + 1)) - s - min (n + 1) 1 ≤ (ks.drop (s + 1)).length
      have : nk (n + 1) ((ks, cs) : Tr β (n + 1)) = ks.length := rfl
      rw [this]; simp; omega
    · show (ks.drop (s + 1)).length ≤ nk (n + 1) ((ks, cs) : Tr β (n + 1)) - s - min (n + 1) 1
      have : nk (n + 1) ((ks, cs) : Tr β (n + 1)) = ks.length := rfl
      rw [this]; simp; omega
    · show (cs.take (s + 1)).flatMap (flat n) ++ (cs.drop (s + 1)).flatMap (flat n) = cs.flatMap (flat n)
      rw [← List.flatMap_append, List.take_append_drop]
theorem join_wf : ∀ {n a b a' b' : Nat} {lo hi : Option Key} {k : Key} {l r : Tr β n}, Wf least most n a b lo (some k) l → Wf least most n a' b' (some k) hi r →
    Wf least most n (nk n l + nk n r + min n 1) (nk n l + nk n r + min n 1) lo hi (joinT n l k r) ∧ flat n (joinT n l k r) = flat n l ++ flat n r
  | 0, a, b, a', b', lo, hi, k, l, r, h, g => by
    obtain ⟨x, rfl⟩ : ∃ x : List (Key × β), x = l := ⟨l, rfl⟩
    obtain ⟨y, rfl⟩ : ∃ y : List (Key × β), y = r := ⟨r, rfl⟩
    have hx : nk 0 x = List.length x := by unfold nk keysT; rw [List.length_map]
    have hy : nk 0 y = List.length y := by unfold nk keysT; rw [List.length_map]
    obtain ⟨h1, -, -, h2, h3⟩ := h
    obtain ⟨g1, -, -, g2, g3⟩ := g
    rw [hx, hy]
    have hm : ∀ z, z ∈ x ++ y → geO lo z.1 ∧ ltO z.1 hi := by
      intro z hz
      rcases List.mem_append.1 hz with hz | hz
      · exact ⟨(h3 z hz).1, fun w hw => k_trans ((h3 z hz).2 k rfl) (g1 k w rfl hw)⟩
      · exact ⟨fun w hw hk => (g3 z hz).1 k rfl (k_trans hk (h1 w k hw rfl)), (g3 z hz).2⟩
    refine ⟨⟨?_, ?_, ?_, ?_, fun z hz => hm z hz⟩, rfl⟩
    · rintro a b ha hb; exact k_trans (h1 a k ha rfl) (g1 k b rfl hb)
    · show _ ≤ (x ++ y).length; simp
    · show (x ++ y).length ≤ _; simp
    · show List.Pairwise _ (x ++ y)
      exact List.pairwise_append.2 ⟨h2, g2, fun a ha b hb => k_lt_of_le ((h3 a ha).2 k rfl) ((g3 b hb).1 k rfl)⟩
  | n + 1, a, b, a', b', lo, hi, k, (lk, lc), (rk, rc), h, g => by
    obtain ⟨h1, -, -, h2⟩ := h
    obtain ⟨g1, -, -, g2⟩ := g
    refine ⟨⟨?_, ?_, ?_, (ch_parted (ch_len h2)).2 ⟨h2, g2⟩⟩, ?_⟩
    · rintro a b ha hb; exact k_trans (h1 a k ha rfl) (g1 k b rfl hb)
    · show lk.length + rk.length + min (n + 1) 1 ≤ (lk ++ k :: rk).length; simp; omega
    · show (lk ++ k :: rk).length ≤ lk.length + rk.length + min (n + 1) 1; simp; omega
    · show (lc ++ rc).flatMap (flat n) = lc.flatMap (flat n) ++ rc.flatMap (flat n)
      exact List.flatMap_append

/-! ### Putting -/
def withT {n : Nat} (t : Tr β (n + 1)) (i j : Nat) (bt : List Key) (kids : List (Tr β n)) : Tr β (n + 1) := (t.1.take i ++ bt ++ t.1.drop (j - 1), t.2.take i ++ kids ++ t.2.drop j)
def putT (most : Nat) : (n : Nat) → Tr β n → Key → β → Tr β n
  | 0, l, k, v => insA k v (show List (Key × β) from l)
  | n + 1, t, k, v =>
    let c := putT most n (t.2.getD (tw k t.1) (nilT n)) k v
    if nk n c ≤ most then withT t (tw k t.1) (tw k t.1 + 1) [] [c]
    else withT t (tw k t.1) (tw k t.1 + 1) [(part n (nk n c / 2) c).2.1] [(part n (nk n c / 2) c).1, (part n (nk n c / 2) c).2.2]
/-- Other kids in one's place, plainly. -/
theorem with_ch {n : Nat} {lo hi m m' : Option Key} {K1 K2 bt : List Key} {C1 C2 D : List (Tr β n)} (h1 : Lc (Wf least most n least most) lo K1 C1 m) (h2 : Ch (Wf least most n least most) m bt D m') (h3 : Rc (Wf least most n least most) m' K2 C2 hi) : Ch (Wf least most n least most) lo (K1 ++ bt ++ K2) (C1 ++ D ++ C2) hi := by
  rw [List.append_assoc, List.append_assoc]
  exact (ch_left (lc_len h1)).2 ⟨m, h1, (ch_right (ch_len h2)).2 ⟨m', h2, h3⟩⟩
theorem getD_some {α : Type} {l : List α} {i : Nat} {x d : α} (h : l[i]? = some x) : l.getD i d = x := by simp [List.getD, h]
theorem split_at {α : Type} {l : List α} {i : Nat} {x : α} (h : l[i]? = some x) : l = l.take i ++ [x] ++ l.drop (i + 1) := by
  obtain ⟨hi, e⟩ := List.getElem?_eq_some_iff.1 h
  have hd : l.drop i = l[i] :: l.drop (i + 1) := by simp
  rw [e] at hd
  rw [List.append_assoc, List.singleton_append, ← hd, List.take_append_drop]
theorem put_wf (hm : 1 ≤ least) (hmm : 2 * least ≤ most) {k : Key} {v : β} : ∀ {n a : Nat} {lo hi : Option Key} {t : Tr β n}, Wf least most n a most lo hi t → geO lo k → ltO k hi →
    Wf least most n a (most + 1) lo hi (putT most n t k v) ∧ flat n (putT most n t k v) = insA k v (flat n t)
  | 0, a, lo, hi, t, h, h1, h2 => by
    obtain ⟨l, rfl⟩ : ∃ l : List (Key × β), l = t := ⟨t, rfl⟩
    obtain ⟨ha, hb, hc, hd, he⟩ := h
    refine ⟨⟨ha, ?_, ?_, insA_asc hd, fun x hx => ?_⟩, rfl⟩
    · exact Nat.le_trans hb (insA_len' _)
    · have h0 : l.length ≤ most := hc
      exact Nat.le_trans (insA_len l) (by omega)
    · rcases insA_mem (l := l) hx with rfl | hx
      · exact ⟨h1, h2⟩
      · exact he x hx
  | n + 1, a, lo, hi, (ks, cs), h, h1, h2 => by
    obtain ⟨ha, hb, hc, hd⟩ := h
    replace hd : Ch (Wf least most n least most) lo ks cs hi := hd
    replace hb : a ≤ ks.length := hb
    replace hc : ks.length ≤ most := hc
    obtain ⟨c, m, m', e, hL, hc', hR, g1, g2⟩ := ch_toward hd h1 h2
    obtain ⟨i1, i2⟩ := put_wf hm hmm (k := k) (v := v) hc' g1 g2
    have hbelow := (lc_below (fun _ _ _ hc => wf_kids hc) hL g1).2
    have habove := rc_above (fun _ _ _ hc => wf_kids hc) hR g2
    have hflat : cs.flatMap (flat n) = (cs.take (tw k ks)).flatMap (flat n) ++ (flat n c ++ (cs.drop (tw k ks + 1)).flatMap (flat n)) := by
      conv => lhs; rw [split_at e]
      simp [List.flatMap_append]
    have hins : insA k v (cs.flatMap (flat n)) = (cs.take (tw k ks)).flatMap (flat n) ++ (insA k v (flat n c) ++ (cs.drop (tw k ks + 1)).flatMap (flat n)) := by
      rw [hflat, insA_left hbelow, insA_right habove]
    have hpt : putT most (n + 1) ((ks, cs) : Tr β (n + 1)) k v = if nk n (putT most n c k v) ≤ most then withT (n := n) (ks, cs) (tw k ks) (tw k ks + 1) [] [putT most n c k v] else withT (n := n) (ks, cs) (tw k ks) (tw k ks + 1) [(part n (nk n (putT most n c k v) / 2) (putT most n c k v)).2.1] [(part n (nk n (putT most n c k v) / 2) (putT most n c k v)).1, (part n (nk n (putT most n c k v) / 2) (putT most n c k v)).2.2] := by
      show (if nk n (putT most n (cs.getD (tw k ks) (nilT n)) k v) ≤ most then _ else _) = _
      rw [getD_some e]
    have htw := tw_le k ks
    have hz := wf_size i1
    rw [hpt]
    generalize putT most n c k v = C at i1 i2 hz ⊢
    show Wf _ _ _ _ _ _ _ _ ∧ _ = insA k v (cs.flatMap (flat n))
    rw [hins, ← i2]
    have hlen : ∀ bt : List Key, (ks.take (tw k ks) ++ bt ++ ks.drop (tw k ks)).length = ks.length + bt.length := fun bt => by simp; omega
    split
    · rename_i hq
      have hW := wf_mono i1 hz.1 hq
      refine ⟨⟨ha, ?_, ?_, with_ch hL (show Ch _ m [] [C] m' from hW) hR⟩, ?_⟩
      · show a ≤ (ks.take (tw k ks) ++ [] ++ ks.drop (tw k ks)).length; rw [hlen]; simpa using hb
      · show (ks.take (tw k ks) ++ [] ++ ks.drop (tw k ks)).length ≤ most + 1
        rw [hlen]; have := hc; simp only [List.length_nil] at this ⊢; omega
      · show (cs.take (tw k ks) ++ [C] ++ cs.drop (tw k ks + 1)).flatMap (flat n) = _
        simp [List.flatMap_append]
    · rename_i hq
      obtain ⟨p1, p2, p3⟩ := part_wf i1 (s := nk n C / 2) (by omega) (by omega)
      have q1 := wf_mono p1 (a' := least) (b' := most) (by have := wf_size p1; omega) (by have := wf_size p1; omega)
      have q2 := wf_mono p2 (a' := least) (b' := most) (by have := wf_size p2; omega) (by have := wf_size p2; omega)
      refine ⟨⟨ha, ?_, ?_, with_ch hL (show Ch _ m [_] [_, _] m' from ⟨q1, q2⟩) hR⟩, ?_⟩
      · show a ≤ (ks.take (tw k ks) ++ [_] ++ ks.drop (tw k ks)).length; rw [hlen]; have := hb; simp only [List.length_cons, List.length_nil] at this ⊢; omega
      · show (ks.take (tw k ks) ++ [_] ++ ks.drop (tw k ks)).length ≤ most + 1
        rw [hlen]; have := hc; simp only [List.length_cons, List.length_nil] at this ⊢; omega
      · show (cs.take (tw k ks) ++ [_, _] ++ cs.drop (tw k ks + 1)).flatMap (flat n) = _
        rw [← p3]
        simp [List.flatMap_append]

/-! ### Cutting -/
/-- Two kids, one of which has a key too few, made right: the keys and the kids in their place. -/
def mergeT (least n : Nat) (l : Tr β n) (k : Key) (r : Tr β n) (lft : Bool) : List Key × List (Tr β n) :=
  if nk n l + nk n r < 2 * least then ([], [joinT n l k r])
  else
    let s := if lft then nk n l + 1 else nk n l - 1
    ([(part n s (joinT n l k r)).2.1], [(part n s (joinT n l k r)).1, (part n s (joinT n l k r)).2.2])
theorem merge_wf (hm : 1 ≤ least) (hmm : 2 * least ≤ most) {n a b a' b' : Nat} {lo hi : Option Key} {k : Key} {l r : Tr β n} {lft : Bool} (hl : Wf least most n a b lo (some k) l) (hr : Wf least most n a' b' (some k) hi r)
    (hs : if lft then nk n l + 1 = least ∧ least ≤ nk n r ∧ nk n r ≤ most else nk n r + 1 = least ∧ least ≤ nk n l ∧ nk n l ≤ most) :
    Ch (Wf least most n least most) lo (mergeT least n l k r lft).1 (mergeT least n l k r lft).2 hi ∧ (mergeT least n l k r lft).2.flatMap (flat n) = flat n l ++ flat n r := by
  obtain ⟨j1, j2⟩ := join_wf hl hr
  have jz := wf_size j1
  have hn1 : min n 1 ≤ 1 := Nat.min_le_right _ _
  unfold mergeT
  split
  · rename_i hq
    refine ⟨show Ch _ lo [] [_] hi from wf_mono j1 ?_ ?_, by simpa using j2⟩
    · cases lft <;> simp at hs <;> omega
    · cases lft <;> simp at hs <;> omega
  · rename_i hq
    cases lft with
    | true =>
      simp only [if_true] at hs ⊢
      obtain ⟨p1, p2, p3⟩ := part_wf j1 (s := nk n l + 1) (by omega) (by omega)
      have q1 := wf_mono p1 (a' := least) (b' := most) (by have := wf_size p1; omega) (by have := wf_size p1; omega)
      have q2 := wf_mono p2 (a' := least) (b' := most) (by have := wf_size p2; omega) (by have := wf_size p2; omega)
      exact ⟨show Ch _ lo [_] [_, _] hi from ⟨q1, q2⟩, by simpa [j2] using p3⟩
    | false =>
      simp only [Bool.false_eq_true, if_false] at hs ⊢
      obtain ⟨p1, p2, p3⟩ := part_wf j1 (s := nk n l - 1) (by omega) (by omega)
      have q1 := wf_mono p1 (a' := least) (b' := most) (by have := wf_size p1; omega) (by have := wf_size p1; omega)
      have q2 := wf_mono p2 (a' := least) (b' := most) (by have := wf_size p2; omega) (by have := wf_size p2; omega)
      exact ⟨show Ch _ lo [_] [_, _] hi from ⟨q1, q2⟩, by simpa [j2] using p3⟩
def fillT {n : Nat} (least : Nat) (t : Tr β (n + 1)) (i : Nat) : Tr β (n + 1) :=
  let m := mergeT least n (t.2.getD (i - 1) (nilT n)) (t.1.getD (i - 1) []) (t.2.getD (i - 1 + 1) (nilT n)) (decide (i = i - 1))
  withT t (i - 1) (i - 1 + 2) m.1 m.2
def cutT (least : Nat) : (n : Nat) → Tr β n → Key → Tr β n
  | 0, l, k => delA k (show List (Key × β) from l)
  | n + 1, t, k =>
    let c := cutT least n (t.2.getD (tw k t.1) (nilT n)) k
    if least ≤ nk n c then withT t (tw k t.1) (tw k t.1 + 1) [] [c]
    else fillT least (withT t (tw k t.1) (tw k t.1 + 1) [] [c]) (tw k t.1)
end Trees
section Cutting
variable {β : Type} {least most : Nat}
theorem lc_last {α : Type} {P : Option Key → Option Key → α → Prop} : ∀ {K1 : List Key} {C1 : List α} {lo m : Option Key} {k : Key} {c : α}, C1.length = K1.length → Lc P lo (K1 ++ [k]) (C1 ++ [c]) m → m = some k ∧ ∃ m1, Lc P lo K1 C1 m1 ∧ P m1 (some k) c
  | [], [], lo, m, k, c, _, h => by
    obtain ⟨h1, h2⟩ := h
    cases h2
    exact ⟨rfl, lo, rfl, h1⟩
  | x :: K1, y :: C1, lo, m, k, c, hl, h => by
    obtain ⟨h1, h2⟩ := h
    obtain ⟨e, m1, a, b⟩ := lc_last (show C1.length = K1.length by simpa using hl) h2
    exact ⟨e, m1, ⟨h1, a⟩, b⟩
  | [], _ :: _, _, _, _, _, hl, _ => by simp at hl
  | _ :: _, [], _, _, _, _, hl, _ => by simp at hl
theorem getD_mid {α : Type} (X Y : List α) (x d : α) (i : Nat) (h : i = X.length) : (X ++ x :: Y).getD i d = x := by subst h; simp [List.getD]
theorem withT_mid {n : Nat} (K1 K2 M bt : List Key) (C1 C2 D kids : List (Tr β n)) (i j : Nat) (h1 : i = K1.length) (h2 : C1.length = K1.length) (h3 : j = K1.length + M.length + 1) (h4 : D.length = M.length + 1) :
    withT (n := n) ((K1 ++ M ++ K2, C1 ++ D ++ C2) : Tr β (n + 1)) i j bt kids = ((K1 ++ bt ++ K2, C1 ++ kids ++ C2) : Tr β (n + 1)) := by
  subst h1; subst h3
  unfold withT
  have e1 : (K1 ++ M ++ K2).take K1.length = K1 := by rw [List.append_assoc, List.take_left']; rfl
  have e2 : (K1 ++ M ++ K2).drop (K1.length + M.length + 1 - 1) = K2 := by rw [List.drop_left']; simp
  have e3 : (C1 ++ D ++ C2).take K1.length = C1 := by rw [List.append_assoc, List.take_left' h2]
  have e4 : (C1 ++ D ++ C2).drop (K1.length + M.length + 1) = C2 := by rw [List.drop_left']; simp; omega
  show (List.take _ (K1 ++ M ++ K2) ++ bt ++ List.drop _ (K1 ++ M ++ K2), List.take _ (C1 ++ D ++ C2) ++ kids ++ List.drop _ (C1 ++ D ++ C2)) = _
  rw [e1, e2, e3, e4]
theorem merge_keys {n : Nat} (l : Tr β n) (k : Key) (r : Tr β n) (lft : Bool) : (mergeT least n l k r lft).1.length ≤ 1 := by unfold mergeT; split <;> simp
/-- A node one of whose kids has a key too few, made right. -/
theorem fill_wf (hm : 1 ≤ least) (hmm : 2 * least ≤ most) {n : Nat} {lo hi m m' : Option Key} {K1 K2 : List Key} {C1 C2 : List (Tr β n)} {c : Tr β n} (h1 : Lc (Wf least most n least most) lo K1 C1 m) (h2 : Wf least most n (least - 1) most m m' c) (hc : nk n c + 1 = least) (h3 : Rc (Wf least most n least most) m' K2 C2 hi) (hk : K1 ++ K2 ≠ []) :
    ∃ ks cs, fillT (n := n) least ((K1 ++ K2, C1 ++ [c] ++ C2) : Tr β (n + 1)) K1.length = (ks, cs) ∧ Ch (Wf least most n least most) lo ks cs hi ∧ (K1 ++ K2).length ≤ ks.length + 1 ∧ ks.length ≤ (K1 ++ K2).length ∧ cs.flatMap (flat n) = C1.flatMap (flat n) ++ (flat n c ++ C2.flatMap (flat n)) := by
  have hl1 := lc_len h1
  rcases List.eq_nil_or_concat K1 with rfl | ⟨K1', k1, rfl⟩
  · obtain rfl : C1 = [] := List.length_eq_zero_iff.1 (by simpa using hl1)
    rcases h3 with ⟨rfl, rfl, _⟩ | ⟨k0, K', rfl, rfl, h3⟩
    · simp at hk
    have hl2 := ch_len h3
    obtain ⟨c2, C2', rfl⟩ : ∃ c2 C2', C2 = c2 :: C2' := by
      cases C2 with
      | nil => simp at hl2
      | cons c2 C2' => exact ⟨_, _, rfl⟩
    obtain ⟨m2, h4, h5⟩ := (ch_right (M := []) (K2 := K') (D := [c2]) (C2 := C2') rfl).1 h3
    replace h4 : Wf least most n least most (some k0) m2 c2 := h4
    cases h1
    have hz := wf_size h4
    obtain ⟨g1, g2⟩ := merge_wf (lft := true) hm hmm h2 h4 ⟨hc, hz⟩
    have hml := merge_keys (least := least) c k0 c2 true
    refine ⟨[] ++ (mergeT least n c k0 c2 true).1 ++ K', [] ++ (mergeT least n c k0 c2 true).2 ++ C2', ?_, ?_, ?_, ?_, ?_⟩
    · show withT (n := n) (([] ++ k0 :: K', [] ++ [c] ++ c2 :: C2') : Tr β (n + 1)) 0 2 (mergeT least n c k0 c2 true).1 (mergeT least n c k0 c2 true).2 = _
      exact withT_mid [] K' [k0] _ [] C2' [c, c2] _ 0 2 rfl rfl rfl rfl
    · exact with_ch (K1 := []) (C1 := []) (m := lo) rfl g1 h5
    · simp
    · simp; omega
    · simp [List.flatMap_append, g2]
  · obtain ⟨C1', c1, rfl⟩ : ∃ C1' c1, C1 = C1' ++ [c1] := by
      rcases List.eq_nil_or_concat C1 with rfl | ⟨C1', c1, rfl⟩
      · simp at hl1
      · exact ⟨C1', c1, by simp⟩
    rw [List.concat_eq_append] at h1 hl1 hk ⊢
    have hl : C1'.length = K1'.length := by simpa using hl1
    obtain ⟨rfl, m1, h4, h5⟩ := lc_last hl h1
    have hz := wf_size h5
    obtain ⟨g1, g2⟩ := merge_wf (lft := false) hm hmm h5 h2 ⟨hc, hz⟩
    have hml := merge_keys (least := least) c1 k1 c false
    refine ⟨K1' ++ (mergeT least n c1 k1 c false).1 ++ K2, C1' ++ (mergeT least n c1 k1 c false).2 ++ C2, ?_, ?_, ?_, ?_, ?_⟩
    · have e0 : (K1' ++ [k1]).length = K1'.length + 1 := by simp
      rw [e0]
      have ec : C1' ++ [c1] ++ [c] ++ C2 = C1' ++ c1 :: (c :: C2) := by simp
      have ec2 : C1' ++ [c1] ++ [c] ++ C2 = (C1' ++ [c1]) ++ c :: C2 := by simp
      have ek : K1' ++ [k1] ++ K2 = K1' ++ k1 :: K2 := by simp
      unfold fillT
      show withT (n := n) ((K1' ++ [k1] ++ K2, C1' ++ [c1] ++ [c] ++ C2) : Tr β (n + 1)) (K1'.length + 1 - 1) (K1'.length + 1 - 1 + 2)
        (mergeT least n ((C1' ++ [c1] ++ [c] ++ C2).getD (K1'.length + 1 - 1) (nilT n)) ((K1' ++ [k1] ++ K2).getD (K1'.length + 1 - 1) []) ((C1' ++ [c1] ++ [c] ++ C2).getD (K1'.length + 1 - 1 + 1) (nilT n)) (decide (K1'.length + 1 = K1'.length + 1 - 1))).1
        (mergeT least n ((C1' ++ [c1] ++ [c] ++ C2).getD (K1'.length + 1 - 1) (nilT n)) ((K1' ++ [k1] ++ K2).getD (K1'.length + 1 - 1) []) ((C1' ++ [c1] ++ [c] ++ C2).getD (K1'.length + 1 - 1 + 1) (nilT n)) (decide (K1'.length + 1 = K1'.length + 1 - 1))).2 = _
      have d1 : (C1' ++ [c1] ++ [c] ++ C2).getD (K1'.length + 1 - 1) (nilT n) = c1 := by rw [ec]; exact getD_mid _ _ _ _ _ (by omega)
      have d2 : (C1' ++ [c1] ++ [c] ++ C2).getD (K1'.length + 1 - 1 + 1) (nilT n) = c := by rw [ec2]; exact getD_mid _ _ _ _ _ (by simp; omega)
      have d3 : (K1' ++ [k1] ++ K2).getD (K1'.length + 1 - 1) [] = k1 := by rw [ek]; exact getD_mid _ _ _ _ _ (by omega)
      have d4 : decide (K1'.length + 1 = K1'.length + 1 - 1) = false := by simp
      rw [d1, d2, d3, d4]
      have e5 : C1' ++ [c1] ++ [c] ++ C2 = C1' ++ [c1, c] ++ C2 := by simp
      rw [e5]
      exact withT_mid K1' K2 [k1] _ C1' C2 [c1, c] _ _ _ (by omega) hl (by simp) rfl
    · exact with_ch h4 g1 h3
    · simp; omega
    · simp; omega
    · simp [List.flatMap_append, g2]
theorem cut_wf (hm : 1 ≤ least) (hmm : 2 * least ≤ most) {k : Key} : ∀ {n a : Nat} {lo hi : Option Key} {t : Tr β n}, Wf least most n a most lo hi t → (n ≠ 0 → 1 ≤ a) → geO lo k → ltO k hi →
    Wf least most n (a - 1) most lo hi (cutT least n t k) ∧ flat n (cutT least n t k) = delA k (flat n t)
  | 0, a, lo, hi, t, h, _, h1, h2 => by
    obtain ⟨l, rfl⟩ : ∃ l : List (Key × β), l = t := ⟨t, rfl⟩
    obtain ⟨ha, hb, hc, hd, he⟩ := h
    have hb' : a ≤ l.length := hb
    have hc' : l.length ≤ most := hc
    have h3 := delA_len (k := k) l
    have h4 := (delA_sub k l).length_le
    refine ⟨⟨ha, ?_, ?_, delA_asc hd, fun x hx => he x ((delA_sub k l).subset hx)⟩, rfl⟩
    · show a - 1 ≤ (delA k l).length; omega
    · show (delA k l).length ≤ most; omega
  | n + 1, a, lo, hi, (ks, cs), h, h0, h1, h2 => by
    obtain ⟨ha, hb, hc, hd⟩ := h
    replace hd : Ch (Wf least most n least most) lo ks cs hi := hd
    replace hb : a ≤ ks.length := hb
    replace hc : ks.length ≤ most := hc
    have ha1 := h0 (by omega)
    obtain ⟨c, m, m', e, hL, hc', hR, g1, g2⟩ := ch_toward hd h1 h2
    obtain ⟨i1, i2⟩ := cut_wf hm hmm (k := k) hc' (fun _ => hm) g1 g2
    have hbelow := (lc_below (fun _ _ _ hc => wf_kids hc) hL g1).2
    have habove := rc_above (fun _ _ _ hc => wf_kids hc) hR g2
    have htw := tw_le k ks
    obtain ⟨C, hC⟩ : ∃ C, cutT least n c k = C := ⟨_, rfl⟩
    rw [hC] at i1 i2
    have hz := wf_size i1
    have hct : cutT least (n + 1) ((ks, cs) : Tr β (n + 1)) k = if least ≤ nk n C then withT (n := n) (ks, cs) (tw k ks) (tw k ks + 1) [] [C] else fillT least (withT (n := n) (ks, cs) (tw k ks) (tw k ks + 1) [] [C]) (tw k ks) := by
      show (if least ≤ nk n (cutT least n (cs.getD (tw k ks) (nilT n)) k) then _ else _) = _
      rw [getD_some e, hC]
    have hw : withT (n := n) (ks, cs) (tw k ks) (tw k ks + 1) [] [C] = ((ks.take (tw k ks) ++ ks.drop (tw k ks), cs.take (tw k ks) ++ [C] ++ cs.drop (tw k ks + 1)) : Tr β (n + 1)) := by
      show (ks.take (tw k ks) ++ [] ++ ks.drop (tw k ks), _) = _
      rw [List.append_nil]
    have hflat : cs.flatMap (flat n) = (cs.take (tw k ks)).flatMap (flat n) ++ (flat n c ++ (cs.drop (tw k ks + 1)).flatMap (flat n)) := by
      conv => lhs; rw [split_at e]
      simp [List.flatMap_append]
    have hdel : delA k (cs.flatMap (flat n)) = (cs.take (tw k ks)).flatMap (flat n) ++ (flat n C ++ (cs.drop (tw k ks + 1)).flatMap (flat n)) := by
      rw [hflat, delA_left hbelow, delA_right habove, i2]
    show Wf _ _ _ _ _ _ _ (cutT least (n + 1) ((ks, cs) : Tr β (n + 1)) k) ∧ flat (n + 1) (cutT least (n + 1) ((ks, cs) : Tr β (n + 1)) k) = delA k (cs.flatMap (flat n))
    rw [hdel]
    have hlk : (ks.take (tw k ks) ++ ks.drop (tw k ks)).length = ks.length := by rw [List.take_append_drop]
    by_cases hq : least ≤ nk n C
    · rw [if_pos hq, hw] at hct
      rw [hct]
      have hW := wf_mono i1 hq hz.2
      have hch := with_ch (bt := []) (D := [C]) hL (show Ch (Wf least most n least most) m [] [C] m' from hW) hR
      rw [List.append_nil] at hch
      refine ⟨⟨ha, ?_, ?_, hch⟩, ?_⟩
      · show a - 1 ≤ (ks.take (tw k ks) ++ ks.drop (tw k ks)).length; omega
      · show (ks.take (tw k ks) ++ ks.drop (tw k ks)).length ≤ most; omega
      · show (cs.take (tw k ks) ++ [C] ++ cs.drop (tw k ks + 1)).flatMap (flat n) = _
        simp [List.flatMap_append]
    · rw [if_neg hq, hw] at hct
      rw [hct]
      have hkt : (ks.take (tw k ks)).length = tw k ks := by simp; omega
      obtain ⟨ks', cs', e1, e2, e3, e4, e5⟩ := fill_wf hm hmm hL i1 (by omega) hR (by rw [List.take_append_drop]; intro e; rw [e] at hb; simp at hb; omega)
      rw [hkt] at e1
      rw [e1]
      rw [hlk] at e3 e4
      refine ⟨⟨ha, ?_, ?_, e2⟩, e5⟩
      · show a - 1 ≤ ks'.length; omega
      · show ks'.length ≤ most; omega
end Cutting
end Go.Proofs.Ytneebnankghhgab

/- Rows of values as bytes, plainly: numbers in eight bytes, a code that goes value by value and is read back value by value, the order of bytes. Nothing of any program here: lemmas on lists. Conditions: each lemma names its own. -/
namespace Go.Proofs.Ytneebnankghhgab
open Go.RowKit

/-! ### Numbers, the highest byte first -/
def encBE : Nat → Nat → List UInt8
  | 0, _ => []
  | j + 1, u => encBE j (u / 256) ++ [UInt8.ofNat u]
def decBE (l : List UInt8) : Nat := l.foldl (fun u b => 256 * u + b.toNat) 0

theorem u8_ofNat (u : Nat) : (UInt8.ofNat u).toNat = u % 256 := by simp
theorem encBE_len : ∀ j u, (encBE j u).length = j
  | 0, _ => rfl
  | j + 1, u => by simp [encBE, encBE_len j]
theorem decBE_snoc (l : List UInt8) (b : UInt8) : decBE (l ++ [b]) = 256 * decBE l + b.toNat := by simp [decBE]
theorem pow256 (j : Nat) : 256 ^ (j + 1) = 256 * 256 ^ j := by rw [Nat.pow_succ, Nat.mul_comm]
theorem decBE_encBE : ∀ j u, u < 256 ^ j → decBE (encBE j u) = u
  | 0, u, h => by simp at h; subst h; rfl
  | j + 1, u, h => by
    rw [pow256] at h
    rw [encBE, decBE_snoc, decBE_encBE j (u / 256) (by omega), u8_ofNat]; omega
theorem decBE_lt (l : List UInt8) : decBE l < 256 ^ l.length := by
  have H : ∀ (l : List UInt8) (u n : Nat), u < 256 ^ n → l.foldl (fun u b => 256 * u + b.toNat) u < 256 ^ (n + l.length) := by
    intro l
    induction l with
    | nil => intro u n h; exact h
    | cons b l ih =>
      intro u n h
      have hb := b.toNat_lt
      have := ih (256 * u + b.toNat) (n + 1) (by rw [pow256]; omega)
      rw [List.length_cons, show n + (l.length + 1) = n + 1 + l.length by omega]
      exact this
  have := H l 0 0 (by simp)
  simpa [decBE] using this
theorem encBE_decBE_of (l : List UInt8) : ∀ j, l.length = j → encBE j (decBE l) = l := by
  have H : ∀ r : List UInt8, encBE r.length (decBE r.reverse) = r.reverse := by
    intro r
    induction r with
    | nil => rfl
    | cons b r ih =>
      have hb := b.toNat_lt
      rw [List.reverse_cons, decBE_snoc, List.length_cons, encBE, show (256 * decBE r.reverse + b.toNat) / 256 = decBE r.reverse by omega, ih]
      congr 2
      exact UInt8.toNat_inj.1 (by rw [u8_ofNat]; omega)
  intro j h
  subst h
  have := H l.reverse
  rwa [List.reverse_reverse, List.length_reverse] at this

theorem u8_lt {a b : UInt8} : a < b ↔ a.toNat < b.toNat := UInt8.lt_iff_toNat_lt
theorem bytes_cons (a b : UInt8) (x y : List UInt8) : Lib.compareBytes (a :: x) (b :: y) = if a.toNat < b.toNat then -1 else if b.toNat < a.toNat then 1 else Lib.compareBytes x y := by
  rw [Lib.compareBytes]
  simp only [u8_lt]
theorem bytes_cons_same (a : UInt8) (x y : List UInt8) : Lib.compareBytes (a :: x) (a :: y) = Lib.compareBytes x y := by
  rw [bytes_cons, if_neg (by omega), if_neg (by omega)]
theorem bytes_BE : ∀ j u v r r', u < 256 ^ j → v < 256 ^ j → Lib.compareBytes (encBE j u ++ r) (encBE j v ++ r') = if u < v then -1 else if v < u then 1 else Lib.compareBytes r r'
  | 0, u, v, r, r', h, h' => by
    simp at h h'; subst h h'; rfl
  | j + 1, u, v, r, r', h, h' => by
    rw [pow256] at h h'
    rw [encBE, encBE, List.append_assoc, List.append_assoc, bytes_BE j (u / 256) (v / 256) _ _ (by omega) (by omega), List.singleton_append, List.singleton_append, bytes_cons, u8_ofNat, u8_ofNat]
    repeat' split
    all_goals first | rfl | omega

def un64 (n : Int) : Nat := (n % 18446744073709551616).toNat
def sn64 (u : Nat) : Int := if u < 9223372036854775808 then u else (u : Int) - 18446744073709551616
theorem un64_lt (n : Int) : un64 n < 256 ^ 8 := by unfold un64; omega
theorem sn64_un64 {n : Int} (h1 : -9223372036854775808 ≤ n) (h2 : n ≤ 9223372036854775807) : sn64 (un64 n) = n := by unfold sn64 un64; split <;> omega
theorem un64_sn64 {u : Nat} (h : u < 256 ^ 8) : un64 (sn64 u) = u := by unfold sn64 un64; split <;> omega
theorem sn64_in {u : Nat} (h : u < 256 ^ 8) : -9223372036854775808 ≤ sn64 u ∧ sn64 u ≤ 9223372036854775807 := by unfold sn64; split <;> omega

/-! ### A code value by value -/
/-- A value that may be, whose number is an int. -/
def okV (v : Val) : Prop := chk v.k v.n v.s = 0 ∧ inI v
def noV : Val := ⟨0, 0, ⟨#[]⟩⟩

structure Coded (enc : Val → List UInt8) (dec : List UInt8 → Option (Val × Nat)) : Prop where
  there : ∀ v, okV v → ∀ r, dec (enc v ++ r) = some (v, (enc v).length)
  back : ∀ s v m, dec s = some (v, m) → okV v ∧ s = enc v ++ s.drop m ∧ m = (enc v).length
  pos : ∀ v, 0 < (enc v).length

def encL (enc : Val → List UInt8) (l : List Val) : List UInt8 := l.flatMap enc
def decL (dec : List UInt8 → Option (Val × Nat)) : Nat → List UInt8 → Option (List Val)
  | _, [] => some []
  | 0, _ :: _ => none
  | n + 1, c :: s => match dec (c :: s) with
    | none => none
    | some (v, m) => (decL dec n ((c :: s).drop m)).map (v :: ·)

theorem encL_nil (enc : Val → List UInt8) : encL enc [] = [] := rfl
theorem encL_cons (enc : Val → List UInt8) (v : Val) (l : List Val) : encL enc (v :: l) = enc v ++ encL enc l := by simp [encL]
theorem encL_append (enc : Val → List UInt8) (a b : List Val) : encL enc (a ++ b) = encL enc a ++ encL enc b := by simp [encL]
theorem decL_nil (dec : List UInt8 → Option (Val × Nat)) (n : Nat) : decL dec n [] = some [] := by cases n <;> rfl
theorem decL_full {dec : List UInt8 → Option (Val × Nat)} {s : List UInt8} (h : s ≠ []) : decL dec 0 s = none := by
  cases s with
  | nil => exact absurd rfl h
  | cons c s => rfl
theorem decL_stop {dec : List UInt8 → Option (Val × Nat)} {n : Nat} {s : List UInt8} (h : s ≠ []) (hd : dec s = none) : decL dec n s = none := by
  cases s with
  | nil => exact absurd rfl h
  | cons c s => cases n with
    | zero => rfl
    | succ n => simp [decL, hd]
theorem decL_go {dec : List UInt8 → Option (Val × Nat)} {n : Nat} {s : List UInt8} {v : Val} {m : Nat} (h : s ≠ []) (hd : dec s = some (v, m)) : decL dec (n + 1) s = (decL dec n (s.drop m)).map (v :: ·) := by
  cases s with
  | nil => exact absurd rfl h
  | cons c s => simp [decL, hd]

section
variable {enc : Val → List UInt8} {dec : List UInt8 → Option (Val × Nat)} (C : Coded enc dec)
include C

theorem Coded.ne (v : Val) (r : List UInt8) : enc v ++ r ≠ [] := fun h => by
  have := C.pos v
  rw [(List.append_eq_nil_iff.1 h).1] at this
  exact absurd this (by simp)
theorem Coded.decL_encL : ∀ (l : List Val) (n : Nat), (∀ v ∈ l, okV v) → l.length ≤ n → decL dec n (encL enc l) = some l
  | [], n, _, _ => by rw [encL_nil, decL_nil]
  | v :: l, 0, _, h => by simp at h
  | v :: l, n + 1, hv, h => by
    rw [encL_cons, decL_go (C.ne v _) (C.there v (hv v (by simp)) _), List.drop_left, Coded.decL_encL l n (fun x hx => hv x (by simp [hx])) (by simp at h; omega)]
    rfl
theorem Coded.encL_decL : ∀ (n : Nat) (s : List UInt8) (l : List Val), decL dec n s = some l → (∀ v ∈ l, okV v) ∧ l.length ≤ n ∧ encL enc l = s
  | n, [], l, h => by
    rw [decL_nil] at h
    obtain rfl := Option.some.inj h
    exact ⟨fun v hv => absurd hv (by simp), Nat.zero_le _, rfl⟩
  | 0, c :: s, l, h => by cases h
  | n + 1, c :: s, l, h => by
    cases hd : dec (c :: s) with
    | none => rw [decL_stop (by simp) hd] at h; cases h
    | some x =>
      obtain ⟨v, m⟩ := x
      rw [decL_go (by simp) hd] at h
      obtain ⟨l', hl', rfl⟩ := Option.map_eq_some_iff.1 h
      obtain ⟨ok, e, _⟩ := C.back _ _ _ hd
      obtain ⟨h1, h2, h3⟩ := Coded.encL_decL n _ l' hl'
      refine ⟨fun x hx => ?_, by simp; omega, by rw [encL_cons, h3, ← e]⟩
      rcases List.mem_cons.1 hx with rfl | hx
      · exact ok
      · exact h1 x hx
theorem Coded.inj {a b : List Val} (ha : ∀ v ∈ a, okV v) (hb : ∀ v ∈ b, okV v) (h : encL enc a = encL enc b) : a = b := by
  have h1 := Coded.decL_encL C a (max a.length b.length) ha (by omega)
  have h2 := Coded.decL_encL C b (max a.length b.length) hb (by omega)
  rw [h, h2] at h1
  exact (Option.some.inj h1).symm
theorem Coded.begins : ∀ (a b : List Val) (r : List UInt8), (∀ v ∈ a, okV v) → (∀ v ∈ b, okV v) → encL enc b = encL enc a ++ r → ∃ c, b = a ++ c
  | [], b, _, _, _, _ => ⟨b, rfl⟩
  | x :: a, [], r, _, _, h => absurd (by rw [encL_nil, encL_cons, List.append_assoc] at h; exact h.symm) (C.ne x _)
  | x :: a, y :: b, r, ha, hb, h => by
    rw [encL_cons, encL_cons, List.append_assoc] at h
    have h1 := C.there x (ha x (by simp)) (encL enc a ++ r)
    have h2 := C.there y (hb y (by simp)) (encL enc b)
    rw [h, h1] at h2
    obtain rfl : x = y := congrArg Prod.fst (Option.some.inj h2)
    obtain ⟨c, rfl⟩ := Coded.begins a b r (fun v hv => ha v (by simp [hv])) (fun v hv => hb v (by simp [hv])) (List.append_cancel_left h)
    exact ⟨c, rfl⟩
end
end Go.Proofs.Ytneebnankghhgab

/- The two codes of a row, plainly: as it stands in a page, and as a key; each is read back as it was written; keys stand to one another as their rows do. Nothing of any program here. Conditions: each lemma names its own. -/
namespace Go.Proofs.Ytneebnankghhgab
open Go.RowKit

def txt (l : List UInt8) : ByteArray := ⟨l.toArray⟩
theorem txt_list (l : List UInt8) : (txt l).data.toList = l := rfl
theorem txt_get (l : List UInt8) (k : Nat) (h : k < (txt l).size) (h' : k < l.length) : (txt l)[k]'h = l[k] := rfl
theorem txt_add (a b : List UInt8) : txt a ++ txt b = txt (a ++ b) := WideShapes.bytes_inj (by simp [txt])
theorem txt_cut (l : List UInt8) (a b : Nat) : (txt l).extract a b = txt ((l.drop a).take (b - a)) := WideShapes.bytes_inj (by
  show ((txt l).extract a b).data.toList = _
  rw [ByteArray.data_extract, txt_list]
  simp [txt])
theorem txt_of (s : ByteArray) : txt s.data.toList = s := WideShapes.bytes_inj rfl
theorem txt_size (l : List UInt8) : (txt l).size = l.length := by simp [txt, ByteArray.size]
theorem size_list (s : ByteArray) : s.data.toList.length = s.size := Array.length_toList

theorem okV_cases {v : Val} (h : okV v) : v = noV ∨ (∃ n, v = ⟨1, n, txt []⟩ ∧ -9223372036854775808 ≤ n ∧ n ≤ 9223372036854775807) ∨ (∃ n, v = ⟨2, n, txt []⟩ ∧ (n = 0 ∨ n = 1)) ∨ ∃ l : List UInt8, v = ⟨3, 0, txt l⟩ ∧ l.length ≤ 64 := by
  obtain ⟨k, n, s⟩ := v
  obtain ⟨h, h1, h2, _⟩ := h
  simp only at h h1 h2
  have hs : s.toList = [] → s = txt [] := fun e => WideShapes.bytes_inj (by rw [ByteArray.toList_eq] at e; rw [e]; rfl)
  unfold chk at h
  by_cases k0 : k = 0
  · rw [if_pos k0] at h
    split at h
    · rename_i g; left; rw [k0, g.1, hs g.2]; rfl
    · cases h
  rw [if_neg k0] at h
  by_cases k1 : k = 1
  · rw [if_pos k1] at h
    split at h
    · rename_i g; right; left; exact ⟨n, by rw [k1, hs g], h1, h2⟩
    · cases h
  rw [if_neg k1] at h
  by_cases k2 : k = 2
  · rw [if_pos k2] at h
    split at h
    · rename_i g; right; right; left; exact ⟨n, by rw [k2, hs g.1], g.2⟩
    · cases h
  rw [if_neg k2] at h
  by_cases k3 : k = 3
  · rw [if_pos k3] at h
    split at h
    · split at h
      · rename_i g g2; right; right; right; exact ⟨s.data.toList, by rw [k3, g, txt_of], by rw [size_list]; exact g2⟩
      · cases h
    · cases h
  rw [if_neg k3] at h; cases h
theorem ok_none : okV noV := ⟨by simp [chk, noV, ByteArray.toList_eq], by decide, by decide, by show (0 : Nat) ≤ maxLen; exact Nat.zero_le _⟩
theorem ok_int {n : Int} (h1 : -9223372036854775808 ≤ n) (h2 : n ≤ 9223372036854775807) : okV ⟨1, n, txt []⟩ := ⟨by simp [chk, txt, ByteArray.toList_eq], h1, h2, by show (0 : Nat) ≤ maxLen; exact Nat.zero_le _⟩
theorem ok_bool {n : Int} (h : n = 0 ∨ n = 1) : okV ⟨2, n, txt []⟩ := ⟨by simp [chk, txt, ByteArray.toList_eq, h], by show -9223372036854775808 ≤ n; omega, by show n ≤ 9223372036854775807; omega, by show (0 : Nat) ≤ maxLen; exact Nat.zero_le _⟩
theorem ok_text {l : List UInt8} (h : l.length ≤ 64) : okV ⟨3, 0, txt l⟩ := ⟨by simp [chk, txt_size, h], by show (-9223372036854775808 : Int) ≤ 0; omega, by show (0 : Int) ≤ 9223372036854775807; omega, by show (txt l).size ≤ maxLen; rw [txt_size]; unfold maxLen; omega⟩

/-! ### As it stands in a page -/
def rowB (v : Val) : List UInt8 :=
  if v.k = 1 then 1 :: encBE 8 (un64 v.n) else if v.k = 2 then [2, UInt8.ofNat v.n.toNat] else if v.k = 3 then 3 :: UInt8.ofNat v.s.size :: v.s.data.toList else [0]
def rowD : List UInt8 → Option (Val × Nat)
  | [] => none
  | b :: r =>
    if b = 0 then some (noV, 1)
    else if b = 1 then (if 8 ≤ r.length then some (⟨1, sn64 (decBE (r.take 8)), txt []⟩, 9) else none)
    else if b = 2 then (match r with | [] => none | c :: _ => if c.toNat ≤ 1 then some (⟨2, c.toNat, txt []⟩, 2) else none)
    else if b = 3 then (match r with | [] => none | c :: t => if c.toNat ≤ 64 ∧ c.toNat ≤ t.length then some (⟨3, 0, txt (t.take c.toNat)⟩, 2 + c.toNat) else none)
    else none

theorem rowB_none : rowB noV = [0] := rfl
theorem rowB_int (n : Int) : rowB ⟨1, n, txt []⟩ = 1 :: encBE 8 (un64 n) := rfl
theorem rowB_bool (n : Int) : rowB ⟨2, n, txt []⟩ = [2, UInt8.ofNat n.toNat] := rfl
theorem rowB_text (l : List UInt8) : rowB ⟨3, 0, txt l⟩ = 3 :: UInt8.ofNat l.length :: l := by simp [rowB, txt, ByteArray.size]

theorem rowD_none (r : List UInt8) : rowD (0 :: r) = some (noV, 1) := rfl
theorem rowD_int (r : List UInt8) : rowD (1 :: r) = if 8 ≤ r.length then some (⟨1, sn64 (decBE (r.take 8)), txt []⟩, 9) else none := rfl
theorem rowD_bool (c : UInt8) (r : List UInt8) : rowD (2 :: c :: r) = if c.toNat ≤ 1 then some (⟨2, c.toNat, txt []⟩, 2) else none := rfl
theorem rowD_text (c : UInt8) (r : List UInt8) : rowD (3 :: c :: r) = if c.toNat ≤ 64 ∧ c.toNat ≤ r.length then some (⟨3, 0, txt (r.take c.toNat)⟩, 2 + c.toNat) else none := rfl
theorem rowD_else {b : UInt8} (r : List UInt8) (h0 : b ≠ 0) (h1 : b ≠ 1) (h2 : b ≠ 2) (h3 : b ≠ 3) : rowD (b :: r) = none := by
  simp [rowD, h0, h1, h2, h3]
theorem rowB_len {v : Val} (h : okV v) : (rowB v).length ≤ 66 := by
  rcases okV_cases h with rfl | ⟨n, rfl, _⟩ | ⟨n, rfl, _⟩ | ⟨l, rfl, hl⟩
  · rw [rowB_none]; simp
  · rw [rowB_int, List.length_cons, encBE_len]; omega
  · rw [rowB_bool]; simp
  · rw [rowB_text]; simp; omega

theorem pow8 : 256 ^ 8 = 18446744073709551616 := by decide
theorem rowCoded : Coded rowB rowD := {
  there := fun v h r => by
    rcases okV_cases h with rfl | ⟨n, rfl, h1, h2⟩ | ⟨n, rfl, hn⟩ | ⟨l, rfl, hl⟩
    · rfl
    · rw [rowB_int, List.cons_append, rowD_int, if_pos (by rw [List.length_append, encBE_len]; omega), List.take_left' (encBE_len 8 _), decBE_encBE 8 _ (un64_lt n), sn64_un64 h1 h2, List.length_cons, encBE_len]
    · rw [rowB_bool]
      rcases hn with rfl | rfl <;> rfl
    · have e : (UInt8.ofNat l.length).toNat = l.length := by rw [u8_ofNat]; omega
      rw [rowB_text, List.cons_append, List.cons_append, rowD_text, e, if_pos ⟨hl, by simp⟩, List.take_left' rfl]
      simp; omega
  back := fun s v m h => by
    cases s with
    | nil => cases h
    | cons b r =>
      by_cases b0 : b = 0
      · subst b0
        rw [rowD_none] at h
        obtain ⟨rfl, rfl⟩ := Prod.mk.inj (Option.some.inj h)
        exact ⟨ok_none, rfl, rfl⟩
      by_cases b1 : b = 1
      · subst b1
        rw [rowD_int] at h
        split at h
        · rename_i h8
          obtain ⟨rfl, rfl⟩ := Prod.mk.inj (Option.some.inj h)
          have hl : (r.take 8).length = 8 := by rw [List.length_take]; omega
          have hlt := decBE_lt (r.take 8)
          rw [hl] at hlt
          have hs := sn64_in hlt
          refine ⟨ok_int hs.1 hs.2, ?_, by rw [rowB_int, List.length_cons, encBE_len]⟩
          rw [rowB_int, un64_sn64 hlt, encBE_decBE_of _ 8 hl, List.cons_append, List.drop_succ_cons, List.take_append_drop]
        · cases h
      by_cases b2 : b = 2
      · subst b2
        cases r with
        | nil => cases h
        | cons c r =>
          rw [rowD_bool] at h
          split at h
          · rename_i hc
            obtain ⟨rfl, rfl⟩ := Prod.mk.inj (Option.some.inj h)
            refine ⟨ok_bool (by omega), ?_, rfl⟩
            rw [rowB_bool]
            show 2 :: c :: r = 2 :: UInt8.ofNat _ :: r
            rw [Int.toNat_natCast, UInt8.ofNat_toNat]
          · cases h
      by_cases b3 : b = 3
      · subst b3
        cases r with
        | nil => cases h
        | cons c r =>
          rw [rowD_text] at h
          split at h
          · rename_i hc
            obtain ⟨rfl, rfl⟩ := Prod.mk.inj (Option.some.inj h)
            have hl : (r.take c.toNat).length = c.toNat := by rw [List.length_take]; omega
            refine ⟨ok_text (by rw [hl]; exact hc.1), ?_, by rw [rowB_text, List.length_cons, List.length_cons, hl]; omega⟩
            rw [rowB_text, hl, UInt8.ofNat_toNat, show 2 + c.toNat = c.toNat + 1 + 1 by omega, List.drop_succ_cons, List.drop_succ_cons, List.cons_append, List.cons_append, List.take_append_drop]
          · cases h
      rw [rowD_else r b0 b1 b2 b3] at h; cases h
  pos := fun v => by
    unfold rowB
    repeat' split
    all_goals simp }
end Go.Proofs.Ytneebnankghhgab

/- Slices that lie in memory, each element so many cells: what is cut out of one, what a row that was appended to reads as; nodes of a tree that lie in memory. Nothing of any program here. Conditions: each lemma names its own. -/
namespace Go.Proofs.Ytneebnankghhgab
open Go.RowKit

section Cells
variable {β : Type} {k : Nat} {ec : β → List Value}
theorem flat_at (hk : ∀ x, (ec x).length = k) : ∀ {l : List β} {i j : Nat} {x : β} {u : Value}, l[i]? = some x → (ec x)[j]? = some u → (l.flatMap ec)[i * k + j]? = some u
  | [], _, _, _, _, h, _ => by simp at h
  | y :: l, 0, j, x, u, h, g => by
    obtain rfl : y = x := by simpa using h
    rw [Nat.zero_mul, Nat.zero_add, List.flatMap_cons, List.getElem?_append_left (List.getElem?_eq_some_iff.1 g).1]
    exact g
  | y :: l, i + 1, j, x, u, h, g => by
    have ih := flat_at hk (l := l) (i := i) (j := j) (by simpa using h) g
    rw [List.flatMap_cons, List.getElem?_append_right (by rw [hk, Nat.succ_mul]; omega), hk, show (i + 1) * k + j - k = i * k + j by rw [Nat.succ_mul]; omega]
    exact ih
theorem flat_of (hk : ∀ x, (ec x).length = k) : ∀ {l : List β} {q : Nat} {u : Value}, (l.flatMap ec)[q]? = some u → ∃ i x j, l[i]? = some x ∧ (ec x)[j]? = some u ∧ q = i * k + j
  | [], _, _, h => by simp at h
  | y :: l, q, u, h => by
    rw [List.flatMap_cons] at h
    by_cases hq : q < k
    · rw [List.getElem?_append_left (by rw [hk]; exact hq)] at h
      exact ⟨0, y, q, rfl, h, by omega⟩
    · rw [List.getElem?_append_right (by rw [hk]; omega), hk] at h
      obtain ⟨i, x, j, h1, h2, h3⟩ := flat_of hk h
      exact ⟨i + 1, x, j, by simpa using h1, h2, by rw [Nat.succ_mul]; omega⟩
theorem flat_len (hk : ∀ x, (ec x).length = k) : ∀ l : List β, (l.flatMap ec).length = l.length * k
  | [] => by simp
  | y :: l => by rw [List.flatMap_cons, List.length_append, hk, flat_len hk l, List.length_cons, Nat.succ_mul]; omega

/-- A slice reads so: each element k cells, in blocks that P lets by. -/
structure Sl (k : Nat) (ec : β → List Value) (P : Nat → Prop) (w : World) (v : Value) (l : List β) : Prop where
  out : ∃ a c, v = .slice a l.length c ∧ l.length ≤ c ∧ (l ≠ [] → ∃ b o, a = some ⟨b, o, none⟩ ∧ P b ∧ ∀ i x, l[i]? = some x → ∀ j u, (ec x)[j]? = some u → w.cell? ⟨b, o + i * k + j, none⟩ = some u)
variable {P Q : Nat → Prop} {w w' : World} {v : Value} {l : List β}
theorem Sl.nil : Sl k ec P w (.slice none 0 0) ([] : List β) := ⟨none, 0, rfl, Nat.le_refl _, fun h => absurd rfl h⟩
theorem Sl.later (h : Sl k ec P w v l) (hb : Below w.heap.size w w') : Sl k ec P w' v l := by
  obtain ⟨a, c, e, hc, h⟩ := h
  refine ⟨a, c, e, hc, fun hn => ?_⟩
  obtain ⟨b, o, e, hp, h⟩ := h hn
  exact ⟨b, o, e, hp, fun i x hx j u hu => cell_later hb (h i x hx j u hu)⟩
theorem Sl.weak (h : Sl k ec P w v l) (hPQ : ∀ b, P b → b < w.heap.size → Q b) (hk : ∀ x, ec x ≠ []) : Sl k ec Q w v l := by
  obtain ⟨a, c, e, hc, h⟩ := h
  refine ⟨a, c, e, hc, fun hn => ?_⟩
  obtain ⟨b, o, e, hp, h⟩ := h hn
  refine ⟨b, o, e, hPQ b hp ?_, h⟩
  obtain ⟨x, l, rfl⟩ := List.exists_cons_of_ne_nil hn
  obtain ⟨u, r, hu⟩ := List.exists_cons_of_ne_nil (hk x)
  exact World.block_lt_of_cell? _ _ (h 0 x rfl 0 u (by rw [hu]; rfl))
/-- What lies in P's blocks lies where these lie. -/
theorem Sl.keep (h : Sl k ec P w v l) (hk : ∀ b o u, P b → w.cell? ⟨b, o, none⟩ = some u → w'.cell? ⟨b, o, none⟩ = some u) : Sl k ec P w' v l := by
  obtain ⟨a, c, e, hc, h⟩ := h
  refine ⟨a, c, e, hc, fun hn => ?_⟩
  obtain ⟨b, o, e, hp, h⟩ := h hn
  exact ⟨b, o, e, hp, fun i x hx j u hu => hk _ _ _ hp (h i x hx j u hu)⟩
theorem Sl.one {e1 : β → Value} {a : Option Addr} {n c : Nat} (h : Sl 1 (fun x => [e1 x]) P w (.slice a n c) l) {i : Nat} {x : β} (hx : l[i]? = some x) : ∃ b o, a = some ⟨b, o, none⟩ ∧ P b ∧ w.cell? ⟨b, o + i, none⟩ = some (e1 x) := by
  obtain ⟨a', c', e, _, h⟩ := h
  cases e
  obtain ⟨b, o, e, hp, h⟩ := h (by rintro rfl; simp at hx)
  have := h i x hx 0 (e1 x) rfl
  rw [Nat.mul_one, Nat.add_zero] at this
  exact ⟨b, o, e, hp, this⟩
theorem Sl.len {a : Option Addr} {n c : Nat} (h : Sl k ec P w (.slice a n c) l) : n = l.length ∧ n ≤ c := by
  obtain ⟨a', c', e, hc, _⟩ := h.out
  cases e; exact ⟨rfl, hc⟩
theorem Sl.news (hk : ∀ x, (ec x).length = k) {ad : Addr} {n c : Nat} (h : Sl k ec P w (.slice (some ad) n c) l) : ∀ j u, (l.flatMap ec)[j]? = some u → w.cell? (ad.add j) = some u := by
  intro q u hq
  obtain ⟨i, x, j, h1, h2, rfl⟩ := flat_of hk hq
  obtain ⟨a', c', e, hc, h⟩ := h
  cases e
  obtain ⟨b, o, e, hp, hh⟩ := h (by rintro rfl; simp at h1)
  cases e
  rw [WideShapes.add_plain, ← Nat.add_assoc]
  exact hh i x h1 j u h2
/-- A row that was appended to reads so. -/
theorem Sl.of_own (hk : ∀ x, (ec x).length = k) {base n : Nat} {e : TypeId} (h : w.ownsRow base e k v n (l.flatMap ec)) (hn : n = l.length) : Sl k ec (fun b => base ≤ b) w v l := by
  subst hn
  rcases h.2 with ⟨rfl, h0⟩ | ⟨g, cap, cur, rfl, hb, hg, h1, h2, h3, h4⟩
  · obtain rfl : l = [] := List.length_eq_zero_iff.1 h0
    exact Sl.nil
  · refine ⟨_, _, rfl, h1, fun _ => ⟨g, 0, rfl, hb, fun i x hx j u hu => ?_⟩⟩
    have hq := flat_at hk hx hu
    rw [← h4] at hq
    have hi := (List.getElem?_eq_some_iff.1 hq).1
    rw [List.getElem?_take_of_lt (by have := hi; rw [List.length_take] at this; omega)] at hq
    simp only [World.cell?, hg, Nat.zero_add]
    simpa using hq

section Cutting
variable {Pg : Program} {T : TypeId}
theorem Sl.low (ht : Pg.underlying T = some (.slice (Pg.elem T))) (hs : ∀ W, (Go.sizeOf (Pg.elem T)).run Pg W = .ok k W) (h : Sl k ec P w v l) (i : Nat) (hi : i ≤ l.length) :
    ∃ a c, (∀ W, (Instr.slice T v none (some (.int .i64 (i : Int))) none).run Pg W = .ok (.slice a i c) W) ∧ Sl k ec P w (.slice a i c) (l.take i) := by
  obtain ⟨a, c, rfl, hc, h⟩ := h
  have hlen : (l.take i).length = i := by simp; omega
  refine ⟨if c = 0 then a else a.map (·.add 0), c, fun W => ?_, ⟨_, c, by rw [hlen], by rw [hlen]; omega, fun hn => ?_⟩⟩
  · rw [run_slice_h W T a l.length c ht .i64 i (by omega) (by omega), hs]
    simp [Result.andThen, sliced]
  · obtain ⟨b, o, rfl, hp, h⟩ := h (by rintro rfl; simp at hn)
    refine ⟨b, o, by split <;> simp [WideShapes.add_plain], hp, fun i' x hx j u hu => h i' x ?_ j u hu⟩
    have hlt := (List.getElem?_eq_some_iff.1 hx).1
    rwa [List.getElem?_take_of_lt (by rw [hlen] at hlt; exact hlt)] at hx
theorem Sl.high (ht : Pg.underlying T = some (.slice (Pg.elem T))) (hs : ∀ W, (Go.sizeOf (Pg.elem T)).run Pg W = .ok k W) (h : Sl k ec P w v l) (i : Nat) (hi : i ≤ l.length) :
    ∃ a c, (∀ W, (Instr.slice T v (some (.int .i64 (i : Int))) none none).run Pg W = .ok (.slice a (l.length - i) c) W) ∧ Sl k ec P w (.slice a (l.length - i) c) (l.drop i) := by
  obtain ⟨a, c, rfl, hc, h⟩ := h
  have hlen : (l.drop i).length = l.length - i := by simp
  refine ⟨if c = i then a else a.map (·.add (i * k)), c - i, fun W => ?_, ⟨_, c - i, by rw [hlen], by rw [hlen]; omega, fun hn => ?_⟩⟩
  · rw [run_slice_l W T a l.length c ht .i64 i (by omega) (by omega), hs]
    simp [Result.andThen, sliced]
  · have hlt : i < l.length := by
      rcases Nat.lt_or_ge i l.length with g | g
      · exact g
      · exact absurd (List.drop_eq_nil_of_le g) hn
    obtain ⟨b, o, rfl, hp, h⟩ := h (by rintro rfl; simp at hlt)
    refine ⟨b, o + i * k, by rw [if_neg (by omega)]; simp [WideShapes.add_plain], hp, fun i' x hx j u hu => ?_⟩
    rw [List.getElem?_drop] at hx
    have := h (i + i') x hx j u hu
    rwa [Nat.add_mul, ← Nat.add_assoc] at this
end Cutting
end Cells

/-! ### Slices in a block that was laid for a call -/
structure ArgsAt (w : World) (B : Nat) (vs : List Value) : Prop where
  out : ∀ j v, vs[j]? = some v → w.cell? ⟨B, j, none⟩ = some v
theorem ArgsAt.later {w w' : World} {B : Nat} {vs : List Value} (h : ArgsAt w B vs) (hb : Below w.heap.size w w') : ArgsAt w' B vs := ⟨fun j v hj => cell_later hb (h.out j v hj)⟩
theorem ArgsAt.new (w : World) (vs : List Value) (t : TypeId) : ArgsAt (w.alloc (.cells vs.toArray t)) w.heap.size vs := ⟨fun j v hj => by
  have hlt : j < vs.toArray.size := by simpa using (List.getElem?_eq_some_iff.1 hj).1
  rw [World.cell?_alloc_at _ _ _ _ rfl]
  simpa using hj⟩
theorem ArgsAt.alloc {w : World} {B : Nat} {vs : List Value} (h : ArgsAt w B vs) (o : Obj) : ArgsAt (w.alloc o) B vs := h.later ((Below.refl _ _).alloc (Nat.le_refl _) _)
theorem ArgsAt.drew {w : World} {B : Nat} {vs : List Value} (h : ArgsAt w B vs) : ArgsAt w.drew B vs := ⟨fun j v hj => by rw [World.cell?_drew]; exact h.out j v hj⟩
theorem ArgsAt.fresh (w : World) (B : Nat) (vs : List Value) (t : TypeId) (hB : w.heap.size = B) : ArgsAt (w.alloc (.cells vs.toArray t)) B vs := by subst hB; exact ArgsAt.new w vs t
/-! What a region keeps: some cells, and all below a height -/
theorem hold1_drew {w0 w : World} {p0 : Addr} {v0 : Value} (h : w.cell? p0 = some v0 ∧ Below w0.heap.size w0 w) : w.drew.cell? p0 = some v0 ∧ Below w0.heap.size w0 w.drew := ⟨h.1, Below.drew h.2⟩
theorem hold1_call {w0 w w' : World} {p0 : Addr} {v0 : Value} (hb : Below w.heap.size w w') (h : w.cell? p0 = some v0 ∧ Below w0.heap.size w0 w) : w'.cell? p0 = some v0 ∧ Below w0.heap.size w0 w' := ⟨cell_later hb h.1, below_through hb h.2.size h.2⟩
theorem hold2_drew {w0 w : World} {p0 p1 : Addr} {v0 v1 : Value} (h : w.cell? p0 = some v0 ∧ w.cell? p1 = some v1 ∧ Below w0.heap.size w0 w) : w.drew.cell? p0 = some v0 ∧ w.drew.cell? p1 = some v1 ∧ Below w0.heap.size w0 w.drew := ⟨h.1, h.2.1, Below.drew h.2.2⟩
theorem hold2_call {w0 w w' : World} {p0 p1 : Addr} {v0 v1 : Value} (hb : Below w.heap.size w w') (h : w.cell? p0 = some v0 ∧ w.cell? p1 = some v1 ∧ Below w0.heap.size w0 w) : w'.cell? p0 = some v0 ∧ w'.cell? p1 = some v1 ∧ Below w0.heap.size w0 w' := ⟨cell_later hb h.1, cell_later hb h.2.1, below_through hb h.2.2.size h.2.2⟩
theorem hold2_alloc {w0 w : World} {o : Obj} {p0 p1 : Addr} {v0 v1 : Value} (h : w.cell? p0 = some v0 ∧ w.cell? p1 = some v1 ∧ Below w0.heap.size w0 w) : (w.alloc o).cell? p0 = some v0 ∧ (w.alloc o).cell? p1 = some v1 ∧ Below w0.heap.size w0 (w.alloc o) := hold2_call ((Below.refl _ _).alloc (Nat.le_refl _) _) h
theorem hold4_drew7 {w0 w : World} {p0 p1 p2 p3 : Addr} {v0 v1 v2 v3 : Value} (h : w.cell? p0 = some v0 ∧ w.cell? p1 = some v1 ∧ w.cell? p2 = some v2 ∧ w.cell? p3 = some v3 ∧ Below w0.heap.size w0 w) : w.drew.cell? p0 = some v0 ∧ w.drew.cell? p1 = some v1 ∧ w.drew.cell? p2 = some v2 ∧ w.drew.cell? p3 = some v3 ∧ Below w0.heap.size w0 w.drew := ⟨h.1, h.2.1, h.2.2.1, h.2.2.2.1, Below.drew h.2.2.2.2⟩
theorem hold4_call7 {w0 w w' : World} {p0 p1 p2 p3 : Addr} {v0 v1 v2 v3 : Value} (hb : Below w.heap.size w w') (h : w.cell? p0 = some v0 ∧ w.cell? p1 = some v1 ∧ w.cell? p2 = some v2 ∧ w.cell? p3 = some v3 ∧ Below w0.heap.size w0 w) : w'.cell? p0 = some v0 ∧ w'.cell? p1 = some v1 ∧ w'.cell? p2 = some v2 ∧ w'.cell? p3 = some v3 ∧ Below w0.heap.size w0 w' := ⟨cell_later hb h.1, cell_later hb h.2.1, cell_later hb h.2.2.1, cell_later hb h.2.2.2.1, below_through hb h.2.2.2.2.size h.2.2.2.2⟩
theorem hold4_alloc7 {w0 w : World} {o : Obj} {p0 p1 p2 p3 : Addr} {v0 v1 v2 v3 : Value} (h : w.cell? p0 = some v0 ∧ w.cell? p1 = some v1 ∧ w.cell? p2 = some v2 ∧ w.cell? p3 = some v3 ∧ Below w0.heap.size w0 w) : (w.alloc o).cell? p0 = some v0 ∧ (w.alloc o).cell? p1 = some v1 ∧ (w.alloc o).cell? p2 = some v2 ∧ (w.alloc o).cell? p3 = some v3 ∧ Below w0.heap.size w0 (w.alloc o) := hold4_call7 ((Below.refl _ _).alloc (Nat.le_refl _) _) h
/-- Slices made of a block that was laid for them. -/
theorem Sl.fresh {β : Type} {e1 : β → Value} {P : Nat → Prop} {w : World} {B : Nat} {l : List β} (h : ArgsAt w B (l.map e1)) (hP : P B) (n c : Nat) (hn : n = l.length) (hc : n ≤ c) : Sl 1 (fun x => [e1 x]) P w (.slice (some ⟨B, 0, none⟩) n c) l := by
  subst hn
  refine ⟨_, c, rfl, hc, fun _ => ⟨B, 0, rfl, hP, fun i x hx j u hu => ?_⟩⟩
  cases j with
  | zero =>
    cases hu
    have := h.out i (e1 x) (by simp [hx])
    rwa [Nat.mul_one, Nat.zero_add, Nat.add_zero]
  | succ j => simp at hu

/-! ### Nodes -/
def sk (x : Key) : List Value := [.string (txt x)]
def pk (b : Nat) : List Value := [.pointer (some ⟨b, 0, none⟩)]
theorem sk_len (x : Key) : (sk x).length = 1 := rfl
theorem pk_len (x : Nat) : (pk x).length = 1 := rfl
def Kids {α : Type} (R : Nat → α → Prop) : List Nat → List α → Prop
  | [], [] => True
  | b :: bs, c :: cs => R b c ∧ Kids R bs cs
  | _, _ => False
section Kids
variable {α : Type} {R S : Nat → α → Prop}
theorem Kids.len : ∀ {bs : List Nat} {cs : List α}, Kids R bs cs → bs.length = cs.length
  | [], [], _ => rfl
  | _ :: _, _ :: _, h => by simp [Kids.len h.2]
  | [], _ :: _, h => h.elim
  | _ :: _, [], h => h.elim
theorem Kids.mono (f : ∀ b c, R b c → S b c) : ∀ {bs : List Nat} {cs : List α}, Kids R bs cs → Kids S bs cs
  | [], [], _ => trivial
  | _ :: _, _ :: _, h => ⟨f _ _ h.1, Kids.mono f h.2⟩
  | [], _ :: _, h => h.elim
  | _ :: _, [], h => h.elim
theorem Kids.append : ∀ {bs bs' : List Nat} {cs cs' : List α}, Kids R bs cs → Kids R bs' cs' → Kids R (bs ++ bs') (cs ++ cs')
  | [], _, [], _, _, g => g
  | _ :: _, _, _ :: _, _, h, g => ⟨h.1, Kids.append h.2 g⟩
  | [], _, _ :: _, _, h, _ => h.elim
  | _ :: _, _, [], _, h, _ => h.elim
theorem Kids.take : ∀ {bs : List Nat} {cs : List α} (i : Nat), Kids R bs cs → Kids R (bs.take i) (cs.take i)
  | _, _, 0, _ => by simp [Kids]
  | [], [], _ + 1, _ => trivial
  | _ :: _, _ :: _, i + 1, h => ⟨h.1, Kids.take i h.2⟩
  | [], _ :: _, _ + 1, h => h.elim
  | _ :: _, [], _ + 1, h => h.elim
theorem Kids.drop : ∀ {bs : List Nat} {cs : List α} (i : Nat), Kids R bs cs → Kids R (bs.drop i) (cs.drop i)
  | _, _, 0, h => h
  | [], [], _ + 1, _ => trivial
  | _ :: _, _ :: _, i + 1, h => Kids.drop i h.2
  | [], _ :: _, _ + 1, h => h.elim
  | _ :: _, [], _ + 1, h => h.elim
theorem Kids.get : ∀ {bs : List Nat} {cs : List α} {i : Nat} {c : α}, Kids R bs cs → cs[i]? = some c → ∃ b, bs[i]? = some b ∧ R b c
  | b :: _, c' :: _, 0, c, h, e => by obtain rfl : c' = c := by simpa using e
                                      exact ⟨b, rfl, h.1⟩
  | _ :: _, _ :: _, i + 1, _, h, e => by
    obtain ⟨b, h1, h2⟩ := Kids.get h.2 (by simpa using e)
    exact ⟨b, by simpa using h1, h2⟩
  | [], [], _, _, _, e => by simp at e
  | [], _ :: _, _, _, h, _ => h.elim
  | _ :: _, [], _, _, h, _ => h.elim
end Kids

section Nodes
variable {β : Type} (kv : Nat) (ec : β → List Value)
/-- A tree lies at a block: all its memory in blocks that P lets by. -/
def NodeAt (P : Nat → Prop) (w : World) : (n : Nat) → Nat → Tr β n → Prop
  | 0, b, l => P b ∧ ∃ vk vv, w.cell? ⟨b, 0, none⟩ = some vk ∧ w.cell? ⟨b, 1, none⟩ = some vv ∧ w.cell? ⟨b, 2, none⟩ = some (.slice none 0 0) ∧
      Sl 1 sk P w vk (List.map (·.1) (show List (Key × β) from l)) ∧ Sl kv ec P w vv (List.map (·.2) (show List (Key × β) from l))
  | n + 1, b, t => P b ∧ ∃ vk vc bs, w.cell? ⟨b, 0, none⟩ = some vk ∧ w.cell? ⟨b, 2, none⟩ = some vc ∧ Sl 1 sk P w vk t.1 ∧ Sl 1 pk P w vc bs ∧ Kids (fun b' c => NodeAt P w n b' c) bs t.2
variable {kv : Nat} {ec : β → List Value} {P Q : Nat → Prop} {w w' : World}
theorem NodeAt.later (hb : Below w.heap.size w w') : ∀ {n b : Nat} {t : Tr β n}, NodeAt kv ec P w n b t → NodeAt kv ec P w' n b t
  | 0, _, _, ⟨h, vk, vv, h0, h1, h2, h3, h4⟩ => ⟨h, vk, vv, cell_later hb h0, cell_later hb h1, cell_later hb h2, h3.later hb, h4.later hb⟩
  | _ + 1, _, _, ⟨h, vk, vc, bs, h0, h1, h2, h3, h4⟩ => ⟨h, vk, vc, bs, cell_later hb h0, cell_later hb h1, h2.later hb, h3.later hb, h4.mono fun _ _ g => NodeAt.later hb g⟩
theorem NodeAt.keep (hk : ∀ b o u, P b → w.cell? ⟨b, o, none⟩ = some u → w'.cell? ⟨b, o, none⟩ = some u) : ∀ {n b : Nat} {t : Tr β n}, NodeAt kv ec P w n b t → NodeAt kv ec P w' n b t
  | 0, _, _, ⟨h, vk, vv, h0, h1, h2, h3, h4⟩ => ⟨h, vk, vv, hk _ _ _ h h0, hk _ _ _ h h1, hk _ _ _ h h2, h3.keep hk, h4.keep hk⟩
  | _ + 1, _, _, ⟨h, vk, vc, bs, h0, h1, h2, h3, h4⟩ => ⟨h, vk, vc, bs, hk _ _ _ h h0, hk _ _ _ h h1, h2.keep hk, h3.keep hk, h4.mono fun _ _ g => NodeAt.keep hk g⟩
theorem NodeAt.weak (hPQ : ∀ b, P b → b < w.heap.size → Q b) (hk : ∀ x, ec x ≠ []) : ∀ {n b : Nat} {t : Tr β n}, NodeAt kv ec P w n b t → NodeAt kv ec Q w n b t
  | 0, b, _, ⟨h, vk, vv, h0, h1, h2, h3, h4⟩ => ⟨hPQ b h (World.block_lt_of_cell? _ _ h0), vk, vv, h0, h1, h2, h3.weak hPQ (fun _ => by simp [sk]), h4.weak hPQ hk⟩
  | _ + 1, b, _, ⟨h, vk, vc, bs, h0, h1, h2, h3, h4⟩ => ⟨hPQ b h (World.block_lt_of_cell? _ _ h0), vk, vc, bs, h0, h1, h2.weak hPQ (fun _ => by simp [sk]), h3.weak hPQ (fun _ => by simp [pk]), h4.mono fun _ _ g => NodeAt.weak hPQ hk g⟩
theorem NodeAt.lt : ∀ {n b : Nat} {t : Tr β n}, NodeAt kv ec P w n b t → b < w.heap.size
  | 0, _, _, ⟨_, _, _, h0, _⟩ => World.block_lt_of_cell? _ _ h0
  | _ + 1, _, _, ⟨_, _, _, _, h0, _⟩ => World.block_lt_of_cell? _ _ h0
theorem NodeAt.leaf {b : Nat} {l : List (Key × β)} : NodeAt kv ec P w 0 b l ↔ (P b ∧ ∃ vk vv, w.cell? ⟨b, 0, none⟩ = some vk ∧ w.cell? ⟨b, 1, none⟩ = some vv ∧ w.cell? ⟨b, 2, none⟩ = some (.slice none 0 0) ∧ Sl 1 sk P w vk (l.map (·.1)) ∧ Sl kv ec P w vv (l.map (·.2))) := Iff.rfl
theorem keys_leaf (l : List (Key × β)) : keysT 0 (show Tr β 0 from l) = l.map (·.1) := rfl
theorem nk_leaf (l : List (Key × β)) : nk 0 (show Tr β 0 from l) = l.length := by unfold nk; rw [keys_leaf, List.length_map]
/-- The keys of a node, and where they lie. -/
theorem NodeAt.keys : ∀ {n b : Nat} {t : Tr β n}, NodeAt kv ec P w n b t → ∃ a c, w.cell? ⟨b, 0, none⟩ = some (.slice a (nk n t) c) ∧ Sl 1 sk P w (.slice a (nk n t) c) (keysT n t)
  | 0, b, t, ⟨_, vk, _, h0, _, _, h3, _⟩ => by
    obtain ⟨a, c, e, _⟩ := h3.out
    subst e
    exact ⟨a, c, h0, h3⟩
  | n + 1, b, t, ⟨_, vk, _, _, h0, _, h3, _, _⟩ => by
    obtain ⟨a, c, e, _⟩ := h3.out
    subst e
    exact ⟨a, c, h0, h3⟩
theorem NodeAt.open_leaf {b : Nat} {l : List (Key × β)} (h : NodeAt kv ec P w 0 b l) : ∃ ak ck av cv, w.cell? ⟨b, 0, none⟩ = some (.slice ak l.length ck) ∧ w.cell? ⟨b, 1, none⟩ = some (.slice av l.length cv) ∧ w.cell? ⟨b, 2, none⟩ = some (.slice none 0 0) ∧
    Sl 1 sk P w (.slice ak l.length ck) (l.map (·.1)) ∧ Sl kv ec P w (.slice av l.length cv) (l.map (·.2)) := by
  obtain ⟨_, vk, vv, h0, h1, h2, h3, h4⟩ := NodeAt.leaf.1 h
  obtain ⟨ak, ck, rfl, _⟩ := id h3.out
  obtain ⟨av, cv, rfl, _⟩ := id h4.out
  rw [List.length_map] at h0 h1 h3 h4
  exact ⟨ak, ck, av, cv, h0, h1, h2, h3, h4⟩
theorem NodeAt.open_node {n b : Nat} {t : Tr β (n + 1)} (h : NodeAt kv ec P w (n + 1) b t) : ∃ ak ck ac cc bs, w.cell? ⟨b, 0, none⟩ = some (.slice ak t.1.length ck) ∧ w.cell? ⟨b, 2, none⟩ = some (.slice ac t.2.length cc) ∧
    Sl 1 sk P w (.slice ak t.1.length ck) t.1 ∧ Sl 1 pk P w (.slice ac t.2.length cc) bs ∧ bs.length = t.2.length ∧ Kids (fun b' c => NodeAt kv ec P w n b' c) bs t.2 := by
  obtain ⟨_, vk, vc, bs, h0, h1, h2, h3, h4⟩ := h
  obtain ⟨ak, ck, rfl, _⟩ := id h2.out
  obtain ⟨ac, cc, rfl, _⟩ := id h3.out
  have hl := h4.len
  rw [hl] at h1 h3
  exact ⟨ak, ck, ac, cc, bs, h0, h1, h2, h3, hl, h4⟩
/-- A new leaf. -/
theorem NodeAt.mk_leaf {b : Nat} {l : List (Key × β)} {vk vv : Value} {lk : List Key} {lv : List β} (hP : P b) (h0 : w.cell? ⟨b, 0, none⟩ = some vk) (h1 : w.cell? ⟨b, 1, none⟩ = some vv) (h2 : w.cell? ⟨b, 2, none⟩ = some (.slice none 0 0)) (h3 : Sl 1 sk P w vk lk) (h4 : Sl kv ec P w vv lv) (e1 : lk = l.map (·.1)) (e2 : lv = l.map (·.2)) : NodeAt kv ec P w 0 b l := by
  subst e1; subst e2
  exact NodeAt.leaf.2 ⟨hP, vk, vv, h0, h1, h2, h3, h4⟩
theorem NodeAt.mk_node {n b : Nat} {t : Tr β (n + 1)} {vk vc : Value} {lk : List Key} {lc : List Nat} (hP : P b) (h0 : w.cell? ⟨b, 0, none⟩ = some vk) (h1 : w.cell? ⟨b, 2, none⟩ = some vc) (h3 : Sl 1 sk P w vk lk) (h4 : Sl 1 pk P w vc lc) (e1 : lk = t.1) (e2 : Kids (fun b' c => NodeAt kv ec P w n b' c) lc t.2) : NodeAt kv ec P w (n + 1) b t := by
  subst e1
  exact ⟨hP, vk, vc, lc, h0, h1, h3, h4, e2⟩
end Nodes

theorem args2 {β : Type} {k : Nat} {ec : β → List Value} {P : Nat → Prop} {w : World} {v0 v1 : Value} {l0 l1 : List β} (h0 : Sl k ec P w v0 l0) (h1 : Sl k ec P w v1 l1) : ∀ (j : Nat) (v : Value) (l : List β), [v0, v1][j]? = some v → [l0, l1][j]? = some l → Sl k ec P w v l := by
  intro j v l hv hl
  match j, hv, hl with
  | 0, hv, hl => simp at hv hl; subst hv; subst hl; exact h0
  | 1, hv, hl => simp at hv hl; subst hv; subst hl; exact h1
  | _ + 2, hv, _ => simp at hv
theorem args3 {β : Type} {k : Nat} {ec : β → List Value} {P : Nat → Prop} {w : World} {v0 v1 v2 : Value} {l0 l1 l2 : List β} (h0 : Sl k ec P w v0 l0) (h1 : Sl k ec P w v1 l1) (h2 : Sl k ec P w v2 l2) : ∀ (j : Nat) (v : Value) (l : List β), [v0, v1, v2][j]? = some v → [l0, l1, l2][j]? = some l → Sl k ec P w v l := by
  intro j v l hv hl
  match j, hv, hl with
  | 0, hv, hl => simp at hv hl; subst hv; subst hl; exact h0
  | 1, hv, hl => simp at hv hl; subst hv; subst hl; exact h1
  | 2, hv, hl => simp at hv hl; subst hv; subst hl; exact h2
  | _ + 3, hv, _ => simp at hv
theorem Sl.alloc {β : Type} {k : Nat} {ec : β → List Value} {P : Nat → Prop} {w : World} {v : Value} {l : List β} (h : Sl k ec P w v l) (o : Obj) : Sl k ec P (w.alloc o) v l := h.later ((Below.refl _ _).alloc (Nat.le_refl _) _)
theorem Sl.drew {β : Type} {k : Nat} {ec : β → List Value} {P : Nat → Prop} {w : World} {v : Value} {l : List β} (h : Sl k ec P w v l) : Sl k ec P w.drew v l := h.keep fun b o u _ hc => by rw [World.cell?_drew]; exact hc
theorem Sl.shape {β : Type} {k : Nat} {ec : β → List Value} {P : Nat → Prop} {w : World} {v : Value} {l : List β} (h : Sl k ec P w v l) : ∃ a n c, v = .slice a n c := by obtain ⟨a, c, e, _⟩ := h.out; exact ⟨a, _, c, e⟩
theorem Sl.key {P : Nat → Prop} {w : World} {B : Nat} {x : Key} (h : ArgsAt w B [.string (txt x)]) (hP : P B) : Sl 1 sk P w (.slice (some ⟨B, 0, none⟩) 1 1) [x] := Sl.fresh (e1 := fun y => .string (txt y)) (l := [x]) h hP 1 1 rfl (Nat.le_refl _)
theorem Sl.ptr1 {P : Nat → Prop} {w : World} {B b : Nat} (h : ArgsAt w B [.pointer (some ⟨b, 0, none⟩)]) (hP : P B) : Sl 1 pk P w (.slice (some ⟨B, 0, none⟩) 1 1) [b] := Sl.fresh (e1 := fun y => .pointer (some ⟨y, 0, none⟩)) (l := [b]) h hP 1 1 rfl (Nat.le_refl _)
theorem Sl.ptr2 {P : Nat → Prop} {w : World} {B b c : Nat} (h : ArgsAt w B [.pointer (some ⟨b, 0, none⟩), .pointer (some ⟨c, 0, none⟩)]) (hP : P B) : Sl 1 pk P w (.slice (some ⟨B, 0, none⟩) 2 2) [b, c] := Sl.fresh (e1 := fun y => .pointer (some ⟨y, 0, none⟩)) (l := [b, c]) h hP 2 2 rfl (Nat.le_refl _)
end Go.Proofs.Ytneebnankghhgab
