/- Rows of values as bytes, plainly: numbers in eight bytes, a code that goes value by value and is read back value by value, the order of bytes. Nothing of any program here: lemmas on lists. Conditions: each lemma names its own. -/
import Derived.Test.YtabpfibncipfjaaMv
namespace Go.Proofs.Ytabpfibncipfjaa
open Go.RowKit

/-! ### Numbers, the highest byte first -/
def encBE : Nat → Nat → List UInt8
  | 0, _ => []
  | j + 1, u => encBE j (u / 256) ++ [UInt8.ofNat u]
def decBE (l : List UInt8) : Nat := l.foldl (fun u b => 256 * u + b.toNat) 0

theorem u8_ofNat (u : Nat) : (UInt8.ofNat u).toNat = u % 256 := by simp
theorem encBE_len : ∀ j u, (encBE j u).length = j
  | 0, _ => rfl
  | j + 1, u => by simp [encBE, encBE_len j]
theorem decBE_snoc (l : List UInt8) (b : UInt8) : decBE (l ++ [b]) = 256 * decBE l + b.toNat := by simp [decBE]
theorem pow256 (j : Nat) : 256 ^ (j + 1) = 256 * 256 ^ j := by rw [Nat.pow_succ, Nat.mul_comm]
theorem decBE_encBE : ∀ j u, u < 256 ^ j → decBE (encBE j u) = u
  | 0, u, h => by simp at h; subst h; rfl
  | j + 1, u, h => by
    rw [pow256] at h
    rw [encBE, decBE_snoc, decBE_encBE j (u / 256) (by omega), u8_ofNat]; omega
theorem decBE_lt (l : List UInt8) : decBE l < 256 ^ l.length := by
  have H : ∀ (l : List UInt8) (u n : Nat), u < 256 ^ n → l.foldl (fun u b => 256 * u + b.toNat) u < 256 ^ (n + l.length) := by
    intro l
    induction l with
    | nil => intro u n h; exact h
    | cons b l ih =>
      intro u n h
      have hb := b.toNat_lt
      have := ih (256 * u + b.toNat) (n + 1) (by rw [pow256]; omega)
      rw [List.length_cons, show n + (l.length + 1) = n + 1 + l.length by omega]
      exact this
  have := H l 0 0 (by simp)
  simpa [decBE] using this
theorem encBE_decBE_of (l : List UInt8) : ∀ j, l.length = j → encBE j (decBE l) = l := by
  have H : ∀ r : List UInt8, encBE r.length (decBE r.reverse) = r.reverse := by
    intro r
    induction r with
    | nil => rfl
    | cons b r ih =>
      have hb := b.toNat_lt
      rw [List.reverse_cons, decBE_snoc, List.length_cons, encBE, show (256 * decBE r.reverse + b.toNat) / 256 = decBE r.reverse by omega, ih]
      congr 2
      exact UInt8.toNat_inj.1 (by rw [u8_ofNat]; omega)
  intro j h
  subst h
  have := H l.reverse
  rwa [List.reverse_reverse, List.length_reverse] at this

theorem u8_lt {a b : UInt8} : a < b ↔ a.toNat < b.toNat := UInt8.lt_iff_toNat_lt
theorem bytes_cons (a b : UInt8) (x y : List UInt8) : Lib.compareBytes (a :: x) (b :: y) = if a.toNat < b.toNat then -1 else if b.toNat < a.toNat then 1 else Lib.compareBytes x y := by
  rw [Lib.compareBytes]
  simp only [u8_lt]
theorem bytes_cons_same (a : UInt8) (x y : List UInt8) : Lib.compareBytes (a :: x) (a :: y) = Lib.compareBytes x y := by
  rw [bytes_cons, if_neg (by omega), if_neg (by omega)]
theorem bytes_BE : ∀ j u v r r', u < 256 ^ j → v < 256 ^ j → Lib.compareBytes (encBE j u ++ r) (encBE j v ++ r') = if u < v then -1 else if v < u then 1 else Lib.compareBytes r r'
  | 0, u, v, r, r', h, h' => by
    simp at h h'; subst h h'; rfl
  | j + 1, u, v, r, r', h, h' => by
    rw [pow256] at h h'
    rw [encBE, encBE, List.append_assoc, List.append_assoc, bytes_BE j (u / 256) (v / 256) _ _ (by omega) (by omega), List.singleton_append, List.singleton_append, bytes_cons, u8_ofNat, u8_ofNat]
    repeat' split
    all_goals first | rfl | omega

def un64 (n : Int) : Nat := (n % 18446744073709551616).toNat
def sn64 (u : Nat) : Int := if u < 9223372036854775808 then u else (u : Int) - 18446744073709551616
theorem un64_lt (n : Int) : un64 n < 256 ^ 8 := by unfold un64; omega
theorem sn64_un64 {n : Int} (h1 : -9223372036854775808 ≤ n) (h2 : n ≤ 9223372036854775807) : sn64 (un64 n) = n := by unfold sn64 un64; split <;> omega
theorem un64_sn64 {u : Nat} (h : u < 256 ^ 8) : un64 (sn64 u) = u := by unfold sn64 un64; split <;> omega
theorem sn64_in {u : Nat} (h : u < 256 ^ 8) : -9223372036854775808 ≤ sn64 u ∧ sn64 u ≤ 9223372036854775807 := by unfold sn64; split <;> omega

/-! ### A code value by value -/
/-- A value that may be, whose number is an int. -/
def okV (v : Val) : Prop := chk v.k v.n v.s = 0 ∧ inI v
def noV : Val := ⟨0, 0, ⟨#[]⟩⟩

structure Coded (enc : Val → List UInt8) (dec : List UInt8 → Option (Val × Nat)) : Prop where
  there : ∀ v, okV v → ∀ r, dec (enc v ++ r) = some (v, (enc v).length)
  back : ∀ s v m, dec s = some (v, m) → okV v ∧ s = enc v ++ s.drop m ∧ m = (enc v).length
  pos : ∀ v, 0 < (enc v).length

def encL (enc : Val → List UInt8) (l : List Val) : List UInt8 := l.flatMap enc
def decL (dec : List UInt8 → Option (Val × Nat)) : Nat → List UInt8 → Option (List Val)
  | _, [] => some []
  | 0, _ :: _ => none
  | n + 1, c :: s => match dec (c :: s) with
    | none => none
    | some (v, m) => (decL dec n ((c :: s).drop m)).map (v :: ·)

theorem encL_nil (enc : Val → List UInt8) : encL enc [] = [] := rfl
theorem encL_cons (enc : Val → List UInt8) (v : Val) (l : List Val) : encL enc (v :: l) = enc v ++ encL enc l := by simp [encL]
theorem encL_append (enc : Val → List UInt8) (a b : List Val) : encL enc (a ++ b) = encL enc a ++ encL enc b := by simp [encL]
theorem decL_nil (dec : List UInt8 → Option (Val × Nat)) (n : Nat) : decL dec n [] = some [] := by cases n <;> rfl
theorem decL_full {dec : List UInt8 → Option (Val × Nat)} {s : List UInt8} (h : s ≠ []) : decL dec 0 s = none := by
  cases s with
  | nil => exact absurd rfl h
  | cons c s => rfl
theorem decL_stop {dec : List UInt8 → Option (Val × Nat)} {n : Nat} {s : List UInt8} (h : s ≠ []) (hd : dec s = none) : decL dec n s = none := by
  cases s with
  | nil => exact absurd rfl h
  | cons c s => cases n with
    | zero => rfl
    | succ n => simp [decL, hd]
theorem decL_go {dec : List UInt8 → Option (Val × Nat)} {n : Nat} {s : List UInt8} {v : Val} {m : Nat} (h : s ≠ []) (hd : dec s = some (v, m)) : decL dec (n + 1) s = (decL dec n (s.drop m)).map (v :: ·) := by
  cases s with
  | nil => exact absurd rfl h
  | cons c s => simp [decL, hd]

section
variable {enc : Val → List UInt8} {dec : List UInt8 → Option (Val × Nat)} (C : Coded enc dec)
include C

theorem Coded.ne (v : Val) (r : List UInt8) : enc v ++ r ≠ [] := fun h => by
  have := C.pos v
  rw [(List.append_eq_nil_iff.1 h).1] at this
  exact absurd this (by simp)
theorem Coded.decL_encL : ∀ (l : List Val) (n : Nat), (∀ v ∈ l, okV v) → l.length ≤ n → decL dec n (encL enc l) = some l
  | [], n, _, _ => by rw [encL_nil, decL_nil]
  | v :: l, 0, _, h => by simp at h
  | v :: l, n + 1, hv, h => by
    rw [encL_cons, decL_go (C.ne v _) (C.there v (hv v (by simp)) _), List.drop_left, Coded.decL_encL l n (fun x hx => hv x (by simp [hx])) (by simp at h; omega)]
    rfl
theorem Coded.encL_decL : ∀ (n : Nat) (s : List UInt8) (l : List Val), decL dec n s = some l → (∀ v ∈ l, okV v) ∧ l.length ≤ n ∧ encL enc l = s
  | n, [], l, h => by
    rw [decL_nil] at h
    obtain rfl := Option.some.inj h
    exact ⟨fun v hv => absurd hv (by simp), Nat.zero_le _, rfl⟩
  | 0, c :: s, l, h => by cases h
  | n + 1, c :: s, l, h => by
    cases hd : dec (c :: s) with
    | none => rw [decL_stop (by simp) hd] at h; cases h
    | some x =>
      obtain ⟨v, m⟩ := x
      rw [decL_go (by simp) hd] at h
      obtain ⟨l', hl', rfl⟩ := Option.map_eq_some_iff.1 h
      obtain ⟨ok, e, _⟩ := C.back _ _ _ hd
      obtain ⟨h1, h2, h3⟩ := Coded.encL_decL n _ l' hl'
      refine ⟨fun x hx => ?_, by simp; omega, by rw [encL_cons, h3, ← e]⟩
      rcases List.mem_cons.1 hx with rfl | hx
      · exact ok
      · exact h1 x hx
theorem Coded.inj {a b : List Val} (ha : ∀ v ∈ a, okV v) (hb : ∀ v ∈ b, okV v) (h : encL enc a = encL enc b) : a = b := by
  have h1 := Coded.decL_encL C a (max a.length b.length) ha (by omega)
  have h2 := Coded.decL_encL C b (max a.length b.length) hb (by omega)
  rw [h, h2] at h1
  exact (Option.some.inj h1).symm
theorem Coded.begins : ∀ (a b : List Val) (r : List UInt8), (∀ v ∈ a, okV v) → (∀ v ∈ b, okV v) → encL enc b = encL enc a ++ r → ∃ c, b = a ++ c
  | [], b, _, _, _, _ => ⟨b, rfl⟩
  | x :: a, [], r, _, _, h => absurd (by rw [encL_nil, encL_cons, List.append_assoc] at h; exact h.symm) (C.ne x _)
  | x :: a, y :: b, r, ha, hb, h => by
    rw [encL_cons, encL_cons, List.append_assoc] at h
    have h1 := C.there x (ha x (by simp)) (encL enc a ++ r)
    have h2 := C.there y (hb y (by simp)) (encL enc b)
    rw [h, h1] at h2
    obtain rfl : x = y := congrArg Prod.fst (Option.some.inj h2)
    obtain ⟨c, rfl⟩ := Coded.begins a b r (fun v hv => ha v (by simp [hv])) (fun v hv => hb v (by simp [hv])) (List.append_cancel_left h)
    exact ⟨c, rfl⟩
end
end Go.Proofs.Ytabpfibncipfjaa
