/- Several of my texts laid together, each as it was: Wa, Mo, Mv, La, Za, Rc0, Wo, Ta, Tb, Tc, Wm, Wb, Wc, Wd. Conditions: each names its own. -/
import Derived.Test.YtadidikegfiedaaRows
import Derived.WalkKit
import Derived.WalkSpells
import Derived.WalkLawsBesides
import Derived.Handy
import Derived.BigQuiet
import Derived.Deep.QuietTactic
import Derived.Lib.Bytealg
import Derived.ProofKit
import Derived.OpenShut
import Derived.SizedLaws
import Derived.Handed
import Derived.Deep.Slices
import Derived.Deep.Strs
import Derived.Lib.SmallJoins
import Derived.ChangeMaps5
import Derived.Test.YtadidikegfiedaaShelf
import Derived.Deep.RegionHeld3
import Derived.RowKit
import Derived.Laws.Bits64
import Derived.Laws.Externs
import Derived.Deep.RegionWith
/- What the two checks of a value answer, said once for both: contracts of the calls, in whatever memory. -/
namespace Go.Proofs.Ytadidikegfiedaa
open Go.RowKit

theorem below_cells {W w1 : World} (hb : Below W.heap.size W w1) : (∀ b o, b < W.heap.size → w1.cell? ⟨b, o, none⟩ = W.cell? ⟨b, o, none⟩) ∧ (∀ b o, b < W.heap.size → w1.frozen? ⟨b, o, none⟩ = W.frozen? ⟨b, o, none⟩) :=
  ⟨fun b o h => hb.cell (p := ⟨b, o, none⟩) h, fun b o h => hb.frozen (p := ⟨b, o, none⟩) h⟩

theorem below_through {n : Nat} {W w1 w2 : World} (hb : Below w1.heap.size w1 w2) (hn : n ≤ w1.heap.size) (h : Below n W w1) : Below n W w2 := h.trans (hb.mono hn)

theorem hid0 {p : Prop} (h : p) : Hid p := h

theorem isEmpty_dec (l : List UInt8) : l.isEmpty = decide (l = []) := by cases l <;> simp

def chk (k n : Int) (s : ByteArray) : Int :=
  if k = 0 then (if n = 0 ∧ s.toList = [] then 0 else 1)
  else if k = 1 then (if s.toList = [] then 0 else 1)
  else if k = 2 then (if s.toList = [] ∧ (n = 0 ∨ n = 1) then 0 else 1)
  else if k = 3 then (if n = 0 then (if s.size ≤ 64 then 0 else 3) else 1)
  else 1

def mayB (k n : Int) (s : ByteArray) : Bool := decide (chk k n s = 0)

theorem ret_i64 {a b : Int} (h : a = b) : Ending.returned (.int .i64 a) = .returned (.int .i64 b) := by rw [h]
theorem ret_bool {a b : Bool} (h : a = b) : Ending.returned (.bool a) = .returned (.bool b) := by rw [h]

end Go.Proofs.Ytadidikegfiedaa

/- How any two values stand to each other, as one plain function, and that it is one order. Nothing of any program here. Conditions: none. -/
namespace Go.Proofs.Ytadidikegfiedaa
open Go.RowKit

theorem u8_tri (a b : UInt8) : a < b ∨ b < a ∨ a = b := by
  rcases Nat.lt_trichotomy a.toNat b.toNat with h | h | h
  · exact .inl (UInt8.lt_iff_toNat_lt.2 h)
  · exact .inr (.inr (UInt8.toNat_inj.1 h))
  · exact .inr (.inl (UInt8.lt_iff_toNat_lt.2 h))
theorem u8_asym {a b : UInt8} (h : a < b) : ¬ b < a := fun g => by
  have := UInt8.lt_iff_toNat_lt.1 h; have := UInt8.lt_iff_toNat_lt.1 g; omega
theorem u8_irrefl (a : UInt8) : ¬ a < a := fun g => by
  have := UInt8.lt_iff_toNat_lt.1 g; omega
theorem u8_ne {a b : UInt8} (h : a < b) : ¬ a = b := fun e => u8_irrefl a (by rw [e] at h; exact absurd h (u8_irrefl b))

theorem bytes_less : ∀ (x y : List UInt8), Op.bytesLess x y = true → Lib.compareBytes x y = -1
  | [], [], h => by simp [Op.bytesLess] at h
  | [], _ :: _, _ => rfl
  | _ :: _, [], h => by simp [Op.bytesLess] at h
  | a :: x, b :: y, h => by
    simp only [Op.bytesLess, Bool.or_eq_true, Bool.and_eq_true, decide_eq_true_eq, beq_iff_eq] at h
    unfold Lib.compareBytes
    rcases h with h | ⟨rfl, h⟩
    · rw [if_pos h]
    · rw [if_neg (u8_irrefl a), if_neg (u8_irrefl a)]
      exact bytes_less x y h
theorem bytes_more : ∀ (x y : List UInt8), Op.bytesLess x y = false → x ≠ y → Lib.compareBytes x y = 1
  | [], [], _, h => absurd rfl h
  | [], _ :: _, h, _ => by simp [Op.bytesLess] at h
  | _ :: _, [], _, _ => rfl
  | a :: x, b :: y, h, hn => by
    simp only [Op.bytesLess, Bool.or_eq_false_iff, decide_eq_false_iff_not] at h
    unfold Lib.compareBytes
    rw [if_neg h.1]
    by_cases hba : b < a
    · rw [if_pos hba]
    · rw [if_neg hba]
      have e : a = b := by rcases u8_tri a b with g | g | g; exact absurd g h.1; exact absurd g hba; exact g
      subst e
      exact bytes_more x y (by simpa using h.2) (fun e => hn (by rw [e]))
theorem bytes_same (x : List UInt8) : Lib.compareBytes x x = 0 := by
  induction x with
  | nil => rfl
  | cons a x ih => unfold Lib.compareBytes; rw [if_neg (u8_irrefl a), if_neg (u8_irrefl a), ih]

theorem bytes_zero : ∀ (x y : List UInt8), Lib.compareBytes x y = 0 → x = y
  | [], [], _ => rfl
  | [], _ :: _, h => by simp [Lib.compareBytes] at h
  | _ :: _, [], h => by simp [Lib.compareBytes] at h
  | a :: x, b :: y, h => by
    unfold Lib.compareBytes at h
    by_cases h1 : a < b
    · rw [if_pos h1] at h; exact absurd h (by decide)
    · rw [if_neg h1] at h
      by_cases h2 : b < a
      · rw [if_pos h2] at h; exact absurd h (by decide)
      · rw [if_neg h2] at h
        have e : a = b := by rcases u8_tri a b with g | g | g; exact absurd g h1; exact absurd g h2; exact g
        rw [e, bytes_zero x y h]
theorem bytes_flip : ∀ (x y : List UInt8), Lib.compareBytes x y = -Lib.compareBytes y x
  | [], [] => rfl
  | [], _ :: _ => rfl
  | _ :: _, [] => rfl
  | a :: x, b :: y => by
    unfold Lib.compareBytes
    by_cases h1 : a < b
    · rw [if_pos h1, if_neg (u8_asym h1), if_pos h1]
    · rw [if_neg h1]
      by_cases h2 : b < a
      · rw [if_pos h2, if_pos h2]; decide
      · rw [if_neg h2, if_neg h2, if_neg h1]
        exact bytes_flip x y
theorem bytes_trans : ∀ (x y z : List UInt8), Lib.compareBytes x y ≤ 0 → Lib.compareBytes y z ≤ 0 → Lib.compareBytes x z ≤ 0
  | [], _, [], _, _ => by simp [Lib.compareBytes]
  | [], _, _ :: _, _, _ => by simp [Lib.compareBytes]
  | _ :: _, [], _, h, _ => by simp [Lib.compareBytes] at h
  | _ :: _, _ :: _, [], _, h => by simp [Lib.compareBytes] at h
  | a :: x, b :: y, c :: z, h1, h2 => by
    unfold Lib.compareBytes at h1 h2 ⊢
    by_cases ab : a < b
    · by_cases bc : b < c
      · have : a < c := UInt8.lt_iff_toNat_lt.2 (Nat.lt_trans (UInt8.lt_iff_toNat_lt.1 ab) (UInt8.lt_iff_toNat_lt.1 bc))
        rw [if_pos this]; decide
      · rw [if_neg bc] at h2
        by_cases cb : c < b
        · rw [if_pos cb] at h2; exact absurd h2 (by decide)
        · have e : b = c := by rcases u8_tri b c with g | g | g; exact absurd g bc; exact absurd g cb; exact g
          subst e
          rw [if_pos ab]; decide
    · rw [if_neg ab] at h1
      by_cases ba : b < a
      · rw [if_pos ba] at h1; exact absurd h1 (by decide)
      · have e : a = b := by rcases u8_tri a b with g | g | g; exact absurd g ab; exact absurd g ba; exact g
        subst e
        rw [if_neg ba] at h1
        by_cases ac : a < c
        · rw [if_pos ac]; decide
        · rw [if_neg ac] at h2 ⊢
          by_cases ca : c < a
          · rw [if_pos ca] at h2; exact absurd h2 (by decide)
          · rw [if_neg ca] at h2 ⊢
            exact bytes_trans x y z h1 h2

def cmpV (k n : Int) (s : ByteArray) (k' n' : Int) (s' : ByteArray) : Int :=
  if k < k' then -1 else if k' < k then 1 else if n < n' then -1 else if n' < n then 1 else Lib.compareBytes s.data.toList s'.data.toList

theorem cmpV_flip (k n : Int) (s : ByteArray) (k' n' : Int) (s' : ByteArray) : cmpV k n s k' n' s' = -cmpV k' n' s' k n s := by
  unfold cmpV
  have := bytes_flip s.data.toList s'.data.toList
  repeat' split
  all_goals omega
theorem cmpV_trans (k n : Int) (s : ByteArray) (k' n' : Int) (s' : ByteArray) (k'' n'' : Int) (s'' : ByteArray) (h1 : cmpV k n s k' n' s' ≤ 0) (h2 : cmpV k' n' s' k'' n'' s'' ≤ 0) : cmpV k n s k'' n'' s'' ≤ 0 := by
  have := bytes_trans s.data.toList s'.data.toList s''.data.toList
  revert h1 h2
  unfold cmpV
  repeat' split
  all_goals omega
theorem cmpV_zero (k n : Int) (s : ByteArray) (k' n' : Int) (s' : ByteArray) : cmpV k n s k' n' s' = 0 ↔ k = k' ∧ n = n' ∧ s = s' := by
  constructor
  · intro h
    have hz := bytes_zero s.data.toList s'.data.toList
    unfold cmpV at h
    by_cases a1 : k < k'
    · rw [if_pos a1] at h; omega
    rw [if_neg a1] at h
    by_cases a2 : k' < k
    · rw [if_pos a2] at h; omega
    rw [if_neg a2] at h
    by_cases a3 : n < n'
    · rw [if_pos a3] at h; omega
    rw [if_neg a3] at h
    by_cases a4 : n' < n
    · rw [if_pos a4] at h; omega
    rw [if_neg a4] at h
    exact ⟨by omega, by omega, WideShapes.bytes_inj (hz h)⟩
  · rintro ⟨rfl, rfl, rfl⟩
    simp [cmpV, bytes_same]
theorem cmpV_bd (k n : Int) (s : ByteArray) (k' n' : Int) (s' : ByteArray) : -1 ≤ cmpV k n s k' n' s' ∧ cmpV k n s k' n' s' ≤ 1 := by
  have h : -1 ≤ Lib.compareBytes s.data.toList s'.data.toList ∧ Lib.compareBytes s.data.toList s'.data.toList ≤ 1 := by
    cases h : Op.bytesLess s.data.toList s'.data.toList with
    | true => rw [bytes_less _ _ h]; decide
    | false =>
      by_cases e : s.data.toList = s'.data.toList
      · rw [e, bytes_same]; decide
      · rw [bytes_more _ _ h e]; decide
  unfold cmpV
  repeat' split
  all_goals omega

end Go.Proofs.Ytadidikegfiedaa

/- Rows of values, plainly: how two rows stand to each other, and that it is one order. Nothing of any program here. Conditions: none. -/
namespace Go.Proofs.Ytadidikegfiedaa
open Go.RowKit

structure Val where
  k : Int
  n : Int
  s : ByteArray

/-- Its number is an int, its text a string. -/
def inI (v : Val) : Prop := -9223372036854775808 ≤ v.n ∧ v.n ≤ 9223372036854775807 ∧ v.s.size ≤ maxLen

def cmpT (a b : Val) : Int := cmpV a.k a.n a.s b.k b.n b.s
def rowsV : List Val → List Val → Int
  | [], [] => 0
  | [], _ :: _ => -1
  | _ :: _, [] => 1
  | a :: xs, b :: ys => if cmpT a b = 0 then rowsV xs ys else cmpT a b

theorem cmpT_zero (a b : Val) : cmpT a b = 0 ↔ a = b := by
  obtain ⟨k, n, s⟩ := a
  obtain ⟨k', n', s'⟩ := b
  simp only [cmpT, cmpV_zero, Val.mk.injEq]
theorem cmpT_flip (a b : Val) : cmpT a b = -cmpT b a := cmpV_flip ..
theorem cmpT_trans (a b c : Val) (h1 : cmpT a b ≤ 0) (h2 : cmpT b c ≤ 0) : cmpT a c ≤ 0 := cmpV_trans _ _ _ _ _ _ _ _ _ h1 h2
theorem rowsV_bd : ∀ (l1 l2 : List Val), -1 ≤ rowsV l1 l2 ∧ rowsV l1 l2 ≤ 1
  | [], [] => by simp [rowsV]
  | [], _ :: _ => by simp [rowsV]
  | _ :: _, [] => by simp [rowsV]
  | a :: xs, b :: ys => by
    unfold rowsV
    split
    · exact rowsV_bd xs ys
    · exact cmpV_bd ..
theorem rowsV_flip : ∀ (l1 l2 : List Val), rowsV l1 l2 = -rowsV l2 l1
  | [], [] => by simp [rowsV]
  | [], _ :: _ => by simp [rowsV]
  | _ :: _, [] => by simp [rowsV]
  | a :: xs, b :: ys => by
    unfold rowsV
    have h := cmpT_flip a b
    by_cases h0 : cmpT a b = 0
    · rw [if_pos h0, if_pos (by omega)]
      exact rowsV_flip xs ys
    · rw [if_neg h0, if_neg (by omega)]
      exact h
theorem rowsV_trans : ∀ (l1 l2 l3 : List Val), rowsV l1 l2 ≤ 0 → rowsV l2 l3 ≤ 0 → rowsV l1 l3 ≤ 0
  | [], _, [], _, _ => by simp [rowsV]
  | [], _, _ :: _, _, _ => by simp [rowsV]
  | _ :: _, [], _, h, _ => by simp [rowsV] at h
  | _ :: _, _ :: _, [], _, h => by simp [rowsV] at h
  | a :: xs, b :: ys, c :: zs, h1, h2 => by
    unfold rowsV at h1 h2 ⊢
    by_cases ab : cmpT a b = 0
    · rw [if_pos ab] at h1
      obtain rfl := (cmpT_zero a b).1 ab
      by_cases ac : cmpT a c = 0
      · rw [if_pos ac] at h2 ⊢
        exact rowsV_trans xs ys zs h1 h2
      · rw [if_neg ac] at h2 ⊢
        exact h2
    · rw [if_neg ab] at h1
      by_cases bc : cmpT b c = 0
      · obtain rfl := (cmpT_zero b c).1 bc
        rw [if_neg ab]
        exact h1
      · rw [if_neg bc] at h2
        have ac : cmpT a c ≠ 0 := by
          intro e
          obtain rfl := (cmpT_zero a c).1 e
          have := cmpT_flip a b
          omega
        rw [if_neg ac]
        exact cmpT_trans a b c h1 h2
end Go.Proofs.Ytadidikegfiedaa

/- Lists that lie in memory: a list of ints, a row of values: their cells are known. Nothing of any program here. Conditions: each lemma names its own. -/
namespace Go.Proofs.Ytadidikegfiedaa
open Go.RowKit

/-- The cells of a list of ints. -/
def IntsAt (w : World) (a : Option Addr) (l : List Int) : Prop :=
  l ≠ [] → ∃ b off, a = some ⟨b, off, none⟩ ∧ ∀ i (h : i < l.length), w.cell? ⟨b, off + i, none⟩ = some (.int .i64 l[i])
theorem IntsAt.later {w w' : World} {a : Option Addr} {l : List Int} (h : IntsAt w a l) (hb : Below w.heap.size w w') : IntsAt w' a l := fun hn => by
  obtain ⟨b, off, e, hc⟩ := h hn
  exact ⟨b, off, e, fun i hi => cell_later hb (hc i hi)⟩

/-- Of two numbers in a block of its own. -/
theorem pair_at (b : Nat) (x y : Int) (w : World) (h0 : w.cell? ⟨b, 0, none⟩ = some (.int .i64 x)) (h1 : w.cell? ⟨b, 1, none⟩ = some (.int .i64 y)) : IntsAt w (some ⟨b, 0, none⟩) [x, y] := fun _ =>
  ⟨b, 0, rfl, fun i hi => by
    match i, hi with
    | 0, _ => exact h0
    | 1, _ => exact h1
    | i + 2, hi => exact absurd hi (by simp)⟩
/-- The cells of a row's elements. -/
def RowAt (w : World) (a : Option Addr) (l : List Val) : Prop :=
  l ≠ [] → ∃ b off, a = some ⟨b, off, none⟩ ∧ ∀ i (h : i < l.length), w.cell? ⟨b, off + i * 3, none⟩ = some (.int .i64 (l[i]).k) ∧ w.cell? ⟨b, off + i * 3 + 1, none⟩ = some (.int .i64 (l[i]).n) ∧ w.cell? ⟨b, off + i * 3 + 2, none⟩ = some (.string (l[i]).s)

theorem RowAt.later {w w' : World} {a : Option Addr} {l : List Val} (h : RowAt w a l) (hb : Below w.heap.size w w') : RowAt w' a l := fun hn => by
  obtain ⟨b, off, e, hc⟩ := h hn
  exact ⟨b, off, e, fun i hi => ⟨cell_later hb (hc i hi).1, cell_later hb (hc i hi).2.1, cell_later hb (hc i hi).2.2⟩⟩

end Go.Proofs.Ytadidikegfiedaa

/- What the rows of a seat without listed variables share: a value of three fields, and a list of ints, opened and shut. -/
namespace Go.Proofs.Ytadidikegfiedaa
open Go.ChangeShapes Go.WideShapes Go.ChangeAt Go.RowKit Go.Joins Go.Deep

set_option maxRecDepth 1000000 in
theorem own : ownKnob Try.prog.godebug = none := by kernel_rfl
set_option maxRecDepth 1000000 in
theorem laidOut : laidOutB Try.prog = true := by kernel_rfl
set_option maxRecDepth 1000000 in
theorem cells23 : Try.prog.cellsOf 62 = 3 := by kernel_rfl
set_option maxRecDepth 1000000 in
theorem cells3 : Try.prog.cellsOf 3 = 1 := by kernel_rfl
set_option maxRecDepth 1000000 in
theorem bytes23 : Try.prog.bytesOf 62 = 32 := by kernel_rfl
set_option maxRecDepth 1000000 in
theorem bytes3 : Try.prog.bytesOf 3 = 8 := by kernel_rfl

set_option maxRecDepth 1000000 in
theorem three_of {α : Type} : ∀ {l : List α}, l.length = 3 → ∃ a b c, l = [a, b, c]
  | [a, b, c], _ => ⟨a, b, c, rfl⟩
set_option maxRecDepth 1000000 in
theorem list_of_each {α : Type} {P : Nat → α → Prop} : ∀ (n : Nat), (∀ i, i < n → ∃ x, P i x) → ∃ l : List α, l.length = n ∧ ∀ i (h : i < l.length), P i l[i]
  | 0, _ => ⟨[], rfl, fun i h => absurd h (by simp)⟩
  | n + 1, H => by
    obtain ⟨l, hl, hp⟩ := list_of_each n (fun i hi => H i (by omega))
    obtain ⟨x, hx⟩ := H n (by omega)
    refine ⟨l ++ [x], by simp [hl], fun i hi => ?_⟩
    by_cases h : i < l.length
    · rw [List.getElem_append_left h]; exact hp i h
    · have e : i = l.length := by simp at hi; omega
      subst e
      rw [List.getElem_append_right (Nat.le_refl _)]
      simpa [hl] using hx

section
variable {H : Type} {enc : TypeId × Value → H} {w : World} {base : Nat} {sp : Nat → Bool} {held : Bool}

set_option maxRecDepth 1000000 in
/-- A value that came in: its kind, its number, its text. -/
theorem open_value {r : Reach} {b0 : Nat} {v : Value} {d : DataW H} {p : List MemPlace} (hv : Value.okWide Try.prog w r b0 62 v) (h : DataW.Trod enc Try.prog w base sp held 62 v d p) :
    ∃ (k n : Int) (s : ByteArray), v = .agg #[.int .i64 k, .int .i64 n, .string s] ∧ d = .agg [.lit (.int .i64 k), .lit (.int .i64 n), .lit (.string s.data.toList)] ∧ p = [] ∧
      (Lit.int .i64 k).wf = true ∧ (Lit.int .i64 n).wf = true ∧ s.size ≤ maxLen := by
  obtain ⟨c0, c1, c2, y0, y1, y2, fu, rfl, rfl, rfl, hy0, hy1, hy2⟩ := open_agg3 Try.underlying62 (by kernel_rfl) cells23 hv h
  obtain ⟨k, e0, rfl, wk⟩ := DataW.trod_int Try.underlying3 hy0
  obtain ⟨n, e1, rfl, wn⟩ := DataW.trod_int Try.underlying3 hy1
  obtain ⟨s, e2, rfl, ws⟩ := DataW.trod_string Try.underlying9 hy2
  simp at e0 e1 e2
  subst e0 e1 e2
  exact ⟨k, n, s, rfl, rfl, rfl, wk, wn, ws⟩

set_option maxRecDepth 1000000 in
theorem shut_value {k n : Int} {s : ByteArray} (wk : (Lit.int .i64 k).wf = true) (wn : (Lit.int .i64 n).wf = true) (ws : s.size ≤ maxLen) :
    DataW.Trod enc Try.prog w base sp held 62 (.agg #[.int .i64 k, .int .i64 n, .string s]) (.agg [.lit (.int .i64 k), .lit (.int .i64 n), .lit (.string s.data.toList)]) [] :=
  shut_agg3 (y0 := (.lit (.int .i64 k), [])) (y1 := (.lit (.int .i64 n), [])) (y2 := (.lit (.string s.data.toList), [])) Try.underlying62 (by kernel_rfl) cells23
    ⟨1, by simp [DataW.trod, Try.underlying3, wk]⟩ ⟨1, by simp [DataW.trod, Try.underlying3, wn]⟩ ⟨1, by simp [DataW.trod, Try.underlying9, ws]⟩

set_option maxRecDepth 1000000 in
/-- A list of ints that came in: its elements' cells. -/
theorem open_list {r : Reach} {b0 : Nat} {v : Value} {d : DataW H} {p : List MemPlace} (hv : Value.okWide Try.prog w r b0 39 v) (h : DataW.Trod enc Try.prog w base sp held 39 v d p) :
    ∃ (a : Option Addr) (l : List Int) (c : Nat), v = .slice a l.length c ∧ l.length ≤ maxLen ∧ l.length ≤ c ∧ IntsAt w a l ∧ (l ≠ [] → ∃ es sp', d = .slice es sp' ∧ l.length ≤ es.length) ∧ (a = none → l = [] ∧ c = 0) := by
  obtain ⟨a0, len, cap, rfl⟩ := okWide_slice Try.underlying39 hv
  obtain ⟨fuel, hf⟩ := h
  rcases open_ints Try.underlying39 Try.underlying3 cells3 hf with ⟨hcs, hx⟩ | ⟨a, len', cap', zs, hcs, hcap, hl, hm, hz, hx, hcell, hwz⟩
  · simp [Value.cells] at hcs
    obtain ⟨rfl, rfl, rfl⟩ := hcs
    exact ⟨none, [], 0, rfl, by unfold maxLen; simp, Nat.le_refl _, fun h => absurd rfl h, fun h => absurd rfl h, fun _ => ⟨rfl, rfl⟩⟩
  · simp [Value.cells] at hcs
    obtain ⟨rfl, rfl, rfl⟩ := hcs
    simp only [Prod.mk.injEq] at hx
    obtain ⟨rfl, rfl⟩ := hx
    have hlm : len ≤ zs.length := by rw [hz]; split <;> omega
    have hll : (zs.take len).length = len := by rw [List.length_take]; omega
    refine ⟨some a, zs.take len, cap, by rw [hll], by omega, by omega, fun hne => ?_, fun _ => ⟨_, _, rfl, by simp [lits]⟩, fun h => by cases h⟩
    have hpos : 0 < len := by
      rcases Nat.eq_zero_or_pos len with h | h
      · subst h; exact absurd (by simp) hne
      · exact h
    obtain ⟨b, off, spot⟩ := a
    have hspot : spot = none := by simpa [Addr.add] using World.cell?_spot (hcell 0 (by omega))
    subst hspot
    refine ⟨b, off, rfl, fun i hi => ?_⟩
    have := hcell i (by omega)
    rw [add_plain] at this
    rw [this]
    have : i < zs.length := by omega
    simp [this]

set_option maxRecDepth 1000000 in
/-- A row of values that came in: its elements' cells. -/
theorem open_row {r : Reach} {b0 : Nat} {v : Value} {d : DataW H} {p : List MemPlace} (hv : Value.okWide Try.prog w r b0 44 v) (h : DataW.Trod enc Try.prog w base sp held 44 v d p) :
    ∃ (a : Option Addr) (l : List Val) (c : Nat), v = .slice a l.length c ∧ l.length ≤ maxLen ∧ l.length ≤ c ∧ RowAt w a l ∧ (∀ x ∈ l, inI x) ∧ (l ≠ [] → ∃ es sp', d = .slice es sp' ∧ l.length ≤ es.length) := by
  obtain ⟨a0, len, cap, rfl⟩ := okWide_slice Try.underlying44 hv
  obtain ⟨fuel, hf⟩ := h
  rcases open_slice Try.underlying44 hf with ⟨hcs, _⟩ | ⟨a, len', cap', m, n, D, Pl, hcs, _, hl, hm, hmm, hdx, hi⟩
  · simp [Value.cells] at hcs
    obtain ⟨rfl, rfl, rfl⟩ := hcs
    exact ⟨none, [], 0, rfl, by unfold maxLen; simp, Nat.le_refl _, fun h => absurd rfl h, fun x hx => absurd hx (by simp), fun h => absurd rfl h⟩
  · simp [Value.cells] at hcs
    obtain ⟨rfl, rfl, rfl⟩ := hcs
    have hlm : len ≤ m := by rw [hmm]; split <;> omega
    have each : ∀ i, i < len → ∃ x : Val, (w.cell? (a.add (i * 3)) = some (.int .i64 x.k) ∧ w.cell? (a.add (i * 3 + 1)) = some (.int .i64 x.n) ∧ w.cell? (a.add (i * 3 + 2)) = some (.string x.s)) ∧ inI x := by
      intro i hil
      obtain ⟨cs', hc, ht⟩ := hi i (by omega)
      rw [cells23] at hc
      obtain ⟨y0, y1, y2, n', _, hlen, g0, g1, g2⟩ := trod_struct3 Try.underlying62 ht
      obtain ⟨_, hcl, hat⟩ := World.cells?_some hc
      obtain ⟨x0, x1, x2, rfl⟩ := three_of hcl
      have c3 : Try.prog.cellsOf 3 = 1 := by kernel_rfl
      have c9 : Try.prog.cellsOf 9 = 1 := by kernel_rfl
      simp only [c3, c9] at g0 g1 g2
      obtain ⟨k, e0, _, _⟩ := DataW.trod_int Try.underlying3 g0
      obtain ⟨nn, e1, _, wn⟩ := DataW.trod_int Try.underlying3 g1
      obtain ⟨s, e2, _, ws⟩ := DataW.trod_string Try.underlying9 g2
      simp at e0 e1 e2
      subst e0 e1 e2
      have h0 := hat 0 (by omega)
      have h1 := hat 1 (by omega)
      have h2 := hat 2 (by omega)
      rw [add_add] at h0 h1 h2
      exact ⟨⟨k, nn, s⟩, ⟨by simpa using h0, by simpa using h1, by simpa using h2⟩, (bounds_i64 wn).1, (bounds_i64 wn).2, ws⟩
    obtain ⟨l, hll, hp⟩ := list_of_each len each
    subst hll
    refine ⟨some a, l, cap, rfl, by omega, by omega, fun hne => ?_, fun x hx => ?_, fun _ => ?_⟩
    rotate_left
    · obtain ⟨i, hi', rfl⟩ := List.mem_iff_getElem.1 hx
      exact (hp i hi').2
    · exact ⟨_, _, congrArg Prod.fst hdx, by simp⟩
    have hpos : 0 < l.length := by
      cases l with
      | nil => exact absurd rfl hne
      | cons _ _ => simp
    obtain ⟨b, off, spot⟩ := a
    have hspot : spot = none := by simpa [Addr.add] using World.cell?_spot (hp 0 hpos).1.1
    subst hspot
    refine ⟨b, off, rfl, fun i hi' => ?_⟩
    have := (hp i hi').1
    simp only [Go.WideShapes.add_plain] at this
    refine ⟨this.1, ?_, ?_⟩
    · rw [Nat.add_assoc]; exact this.2.1
    · rw [Nat.add_assoc]; exact this.2.2
end
end Go.Proofs.Ytadidikegfiedaa

/- What the reference's Cmp answers: a contract of the call, in whatever memory. Conditions: none. -/
namespace Go.Proofs.Ytadidikegfiedaa
open Go.RowKit

set_option maxHeartbeats 400000 in
theorem refCmp_any (k n k' n' : Int) (s s' : ByteArray) (w : World) :
    Calls Try.prog 46 #[.agg #[.int .i64 k, .int .i64 n, .string s], .agg #[.int .i64 k', .int .i64 n', .string s']] w
      fun e w' => e = .returned (.int .i64 (cmpV k n s k' n' s')) ∧ Below w.heap.size w w' := by
  have B1 := hid0 (bytes_less s.data.toList s'.data.toList)
  have B2 := hid0 (bytes_more s.data.toList s'.data.toList)
  go_enter Try.func46, Try.ntmps46
  go_wp2
  · go_ret; exact ⟨ret_i64 (by unfold cmpV; rw [if_pos ‹_›]), by go_grown⟩
  · go_ret; exact ⟨ret_i64 (by unfold cmpV; rw [if_neg (by omega), if_pos ‹_›]), by go_grown⟩
  · go_ret; exact ⟨ret_i64 (by unfold cmpV; rw [if_neg (by omega), if_neg (by omega), if_pos ‹_›]), by go_grown⟩
  · go_ret; exact ⟨ret_i64 (by unfold cmpV; rw [if_neg (by omega), if_neg (by omega), if_neg (by omega), if_pos ‹_›]), by go_grown⟩
  · go_ret; exact ⟨ret_i64 (by unfold cmpV; rw [if_neg (by omega), if_neg (by omega), if_neg (by omega), if_neg (by omega), B1.out (by simpa only [ByteArray.toList_eq] using ‹Op.bytesLess s.toList s'.toList = true›)]), by go_grown⟩
  · go_ret; exact ⟨ret_i64 (by unfold cmpV; rw [if_neg (by omega), if_neg (by omega), if_neg (by omega), if_neg (by omega), B2.out (by simpa only [ByteArray.toList_eq] using ‹Op.bytesLess s.toList s'.toList = false›) (fun e => by have h := ‹(!s.toList == s'.toList) = true›; rw [ByteArray.toList_eq, ByteArray.toList_eq, e] at h; simp at h)]), by go_grown⟩
  · go_ret; exact ⟨ret_i64 (by
      have h := ‹(!s.toList == s'.toList) = false›
      rw [ByteArray.toList_eq, ByteArray.toList_eq] at h
      have e : s.data.toList = s'.data.toList := by simpa using h
      unfold cmpV; rw [if_neg (by omega), if_neg (by omega), if_neg (by omega), if_neg (by omega), e, bytes_same]), by go_grown⟩
end Go.Proofs.Ytadidikegfiedaa

/- What the project's Cmp answers: a contract of the call, in whatever memory. Conditions: none. -/
namespace Go.Proofs.Ytadidikegfiedaa
open Go.RowKit

theorem cmp_kind {k n k' n' : Int} {s s' : ByteArray} (h : (Lib.compareInt k k' != 0) = true) : Lib.compareInt k k' = cmpV k n s k' n' s' := by
  unfold Lib.compareInt at h ⊢; unfold cmpV
  repeat' split
  all_goals first | rfl | omega | (simp_all; done) | (simp_all; omega)
theorem cmp_num {k n k' n' : Int} {s s' : ByteArray} (h0 : (Lib.compareInt k k' != 0) = false) (h : (Lib.compareInt n n' != 0) = true) : Lib.compareInt n n' = cmpV k n s k' n' s' := by
  unfold Lib.compareInt at h0 h ⊢; unfold cmpV
  repeat' split
  all_goals first | rfl | omega | (simp_all; done) | (simp_all; omega)
theorem cmp_text {k n k' n' : Int} {s s' : ByteArray} (h0 : (Lib.compareInt k k' != 0) = false) (h : (Lib.compareInt n n' != 0) = false) : Lib.compareBytes s.data.toList s'.data.toList = cmpV k n s k' n' s' := by
  unfold Lib.compareInt at h0 h; unfold cmpV
  repeat' split
  all_goals first | rfl | omega | (simp_all; done) | (simp_all; omega)

set_option maxHeartbeats 400000 in
theorem cmp_any (k n k' n' : Int) (s s' : ByteArray) (w : World) :
    Calls Try.prog 50 #[.agg #[.int .i64 k, .int .i64 n, .string s], .agg #[.int .i64 k', .int .i64 n', .string s']] w
      fun e w' => e = .returned (.int .i64 (cmpV k n s k' n' s')) ∧ Below w.heap.size w w' := by
  go_enter Try.func50, Try.ntmps50
  go_wp2_with (first
    | (go_at_call 48; refine (Try.cmp_Compare_int _ _ _).mono ?_; rintro e w' ⟨rfl, rfl⟩)
    | (go_at_call 53; refine (Try.strings_Compare _ _ _).mono ?_; rintro e w' ⟨rfl, rfl⟩))
  · go_ret
    exact ⟨ret_i64 (cmp_kind ‹_›), by go_grown⟩
  · go_ret
    exact ⟨ret_i64 (cmp_num ‹_› ‹_›), by go_grown⟩
  · go_ret
    exact ⟨ret_i64 (cmp_text ‹_› ‹_›), by go_grown⟩

end Go.Proofs.Ytadidikegfiedaa

/- Layer 2's plain parts: what Turn, Other, Not, And and Or, and the reference's, answer, as plain functions: contracts of the calls, in whatever memory. Conditions: a list's cells are known (what came in reads so). -/
namespace Go.Proofs.Ytadidikegfiedaa
open Go.RowKit

def tv (b : Bool) : Int := if b then 2 else 0
def knownV (t : Int) : Int := if t = 0 ∨ t = 2 then t else 1
def notV (t : Int) : Int := 2 - knownV t
def turnV (op : Int) : Int := if op = 1 ∨ op = 2 then op else if op = 3 then 5 else if op = 4 then 6 else if op = 5 then 3 else if op = 6 then 4 else 0
def otherV (op : Int) : Int := if op = 1 then 2 else if op = 2 then 1 else if op = 3 then 6 else if op = 4 then 5 else if op = 5 then 4 else if op = 6 then 3 else 0

theorem knownV_cases (t : Int) : knownV t = 0 ∨ knownV t = 1 ∨ knownV t = 2 := by unfold knownV; split <;> omega
theorem notV_cases (t : Int) : notV t = 0 ∨ notV t = 1 ∨ notV t = 2 := by have := knownV_cases t; unfold notV; omega
theorem known_known (t : Int) : knownV (knownV t) = knownV t := by
  rcases knownV_cases t with h | h | h <;> rw [h] <;> rfl
theorem known_not (t : Int) : knownV (notV t) = notV t := by
  rcases notV_cases t with h | h | h <;> rw [h] <;> rfl
theorem not_eq (t : Int) : notV t = 2 - knownV t := rfl

end Go.Proofs.Ytadidikegfiedaa

/- And and Or, and the reference's: contracts of the calls, in whatever memory. Conditions: a list's cells are known (what came in reads so, and what a call has made itself). -/
namespace Go.Proofs.Ytadidikegfiedaa
open Go.RowKit

def andV (l : List Int) : Int := l.foldl (fun m t => min m (knownV t)) 2
def orV (l : List Int) : Int := l.foldl (fun m t => max m (knownV t)) 0

theorem andV_snoc (l : List Int) (t : Int) : andV (l ++ [t]) = min (andV l) (knownV t) := by simp [andV]
theorem orV_snoc (l : List Int) (t : Int) : orV (l ++ [t]) = max (orV l) (knownV t) := by simp [orV]
theorem take_snoc (l : List Int) (k : Nat) (h : k < l.length) : l.take (k + 1) = l.take k ++ [l[k]] := by rw [List.take_succ_eq_append_getElem h]
theorem andV_next (l : List Int) (k : Nat) (h : k < l.length) : andV (l.take (k + 1)) = min (andV (l.take k)) (knownV l[k]) := by rw [take_snoc l k h, andV_snoc]
theorem orV_next (l : List Int) (k : Nat) (h : k < l.length) : orV (l.take (k + 1)) = max (orV (l.take k)) (knownV l[k]) := by rw [take_snoc l k h, orV_snoc]
theorem andV_all (l : List Int) (k : Nat) (h1 : k ≤ l.length) (h : ¬ (k : Int) < l.length) : andV (l.take k) = andV l := by rw [List.take_of_length_le (by omega)]
theorem orV_all (l : List Int) (k : Nat) (h1 : k ≤ l.length) (h : ¬ (k : Int) < l.length) : orV (l.take k) = orV l := by rw [List.take_of_length_le (by omega)]
theorem andV_cases (l : List Int) : andV l = 0 ∨ andV l = 1 ∨ andV l = 2 := by
  have h : ∀ (l : List Int) (m : Int), (m = 0 ∨ m = 1 ∨ m = 2) → (l.foldl (fun m t => min m (knownV t)) m = 0 ∨ l.foldl (fun m t => min m (knownV t)) m = 1 ∨ l.foldl (fun m t => min m (knownV t)) m = 2) := by
    intro l
    induction l with
    | nil => intro m h; exact h
    | cons t l ih => intro m h; have := knownV_cases t; exact ih _ (by dsimp only; omega)
  exact h l 2 (by omega)
theorem orV_cases (l : List Int) : orV l = 0 ∨ orV l = 1 ∨ orV l = 2 := by
  have h : ∀ (l : List Int) (m : Int), (m = 0 ∨ m = 1 ∨ m = 2) → (l.foldl (fun m t => max m (knownV t)) m = 0 ∨ l.foldl (fun m t => max m (knownV t)) m = 1 ∨ l.foldl (fun m t => max m (knownV t)) m = 2) := by
    intro l
    induction l with
    | nil => intro m h; exact h
    | cons t l ih => intro m h; have := knownV_cases t; exact ih _ (by dsimp only; omega)
  exact h l 0 (by omega)
theorem andV_nil : andV [] = 2 := rfl
theorem orV_nil : orV [] = 0 := rfl

end Go.Proofs.Ytadidikegfiedaa

/- How any two values stand to each other by a comparison: what Compare and the reference's Compare answer, as one plain function; that the document's example, which every law of the layer asks first, is true. Conditions: none. -/
namespace Go.Proofs.Ytadidikegfiedaa
open Go.RowKit

def opV (op c : Int) : Int :=
  if op = 1 then tv (c == 0) else if op = 2 then tv (c != 0) else if op = 3 then tv (decide (c < 0)) else if op = 4 then tv (decide (c ≤ 0)) else if op = 5 then tv (decide (0 < c)) else if op = 6 then tv (decide (0 ≤ c)) else 1
def cmpO (op k n : Int) (s : ByteArray) (k' n' : Int) (s' : ByteArray) : Int := if k = 0 ∨ k' = 0 ∨ k ≠ k' then 1 else opV op (cmpV k n s k' n' s')

end Go.Proofs.Ytadidikegfiedaa

/- Plain arithmetic of a whole number in two words of 64 bits, and what a sum, a difference or a product comes to. Conditions: each lemma names its own. -/
namespace Go.Proofs.Ytadidikegfiedaa
open Go.RowKit

def wH (x : Int) : Nat := (x % 340282366920938463463374607431768211456).toNat / 18446744073709551616
def wL (x : Int) : Nat := (x % 340282366920938463463374607431768211456).toNat % 18446744073709551616

theorem wH_widen (n : Int) (h1 : -9223372036854775808 ≤ n) (h2 : n ≤ 9223372036854775807) : IntKind.u64.wrap (n / 9223372036854775808) = ((wH n : Nat) : Int) := by
  rw [IntKind.wrap_u64]; unfold wH; omega
theorem wL_widen (n : Int) : IntKind.u64.wrap n = ((wL n : Nat) : Int) := by
  rw [IntKind.wrap_u64]; unfold wL; omega
theorem wL_lt (x : Int) : wL x < 18446744073709551616 := by unfold wL; omega
theorem wH_lt (x : Int) : wH x < 18446744073709551616 := by unfold wH; omega
theorem wH_zero : wH 0 = 0 := rfl
theorem wL_zero : wL 0 = 0 := rfl
theorem wL_add (x y : Int) : (wL x + wL y + 0) % 18446744073709551616 = wL (x + y) := by unfold wL; omega
theorem wH_add (x y : Int) : (wH x + wH y + (wL x + wL y + 0) / 18446744073709551616) % 18446744073709551616 = wH (x + y) := by unfold wL wH; omega
theorem wL_sub (x y : Int) : (wL x + 18446744073709551616 - wL y - 0) % 18446744073709551616 = wL (x - y) := by unfold wL; omega
theorem wH_sub (x y : Int) : (wH x + 18446744073709551616 - wH y - (if wL x < wL y + 0 then 1 else 0)) % 18446744073709551616 = wH (x - y) := by
  unfold wL wH
  split <;> omega
theorem wL_mul (a b : Nat) (ha : a < 18446744073709551616) (hb : b < 18446744073709551616) : a * b % 18446744073709551616 = wL ((a * b : Nat) : Int) := by
  have h : a * b ≤ 18446744073709551615 * 18446744073709551615 := Nat.mul_le_mul (by omega) (by omega)
  unfold wL; omega
theorem wH_mul (a b : Nat) (ha : a < 18446744073709551616) (hb : b < 18446744073709551616) : a * b / 18446744073709551616 = wH ((a * b : Nat) : Int) := by
  have h : a * b ≤ 18446744073709551615 * 18446744073709551615 := Nat.mul_le_mul (by omega) (by omega)
  unfold wH; omega

def inR (x : Int) : Bool := decide (-9223372036854775808 ≤ x ∧ x ≤ 9223372036854775807)
def small (x : Int) : Prop := -85070591730234615865843651857942052864 ≤ x ∧ x ≤ 85070591730234615865843651857942052864
theorem inR_of (x : Int) (h1 : -9223372036854775808 ≤ x) (h2 : x ≤ 9223372036854775807) : inR x = true := by simp [inR, h1, h2]
theorem inR_bd {x : Int} (h : inR x = true) : -9223372036854775808 ≤ x ∧ x ≤ 9223372036854775807 := by simpa [inR] using h

theorem sign_word (l : Nat) (h : l < 18446744073709551616) : (wrap64 (l : Int) / 9223372036854775808) % 18446744073709551616 = if l < 9223372036854775808 then 0 else 18446744073709551615 := by
  unfold wrap64
  split <;> omega
theorem narrow_test (x : Int) (h : small x) : (((wH x : Nat) : Int) != IntKind.u64.wrap (wrap64 ((wL x : Nat) : Int) / 9223372036854775808)) = !inR x := by
  obtain ⟨h1, h2⟩ := h
  rw [IntKind.wrap_u64, sign_word _ (wL_lt x)]
  by_cases hr : -9223372036854775808 ≤ x ∧ x ≤ 9223372036854775807
  · have e : ((wH x : Nat) : Int) = if wL x < 9223372036854775808 then 0 else 18446744073709551615 := by unfold wH wL; split <;> omega
    rw [inR, decide_eq_true hr, e]; simp
  · have e : ((wH x : Nat) : Int) ≠ if wL x < 9223372036854775808 then 0 else 18446744073709551615 := by unfold wH wL; split <;> omega
    rw [inR, decide_eq_false hr]; simpa using e
theorem narrow_value (x : Int) (h : inR x = true) : wrap64 ((wL x : Nat) : Int) = x := by
  have := inR_bd h
  unfold wL wrap64; omega

theorem size_neg (n : Int) (h1 : -9223372036854775808 ≤ n) (h : n < 0) : IntKind.u64.wrap (-IntKind.u64.wrap n) = ((n.natAbs : Nat) : Int) := by
  rw [IntKind.wrap_u64, IntKind.wrap_u64]; omega
theorem size_pos (n : Int) (h : 0 ≤ n) : n = ((n.natAbs : Nat) : Int) := by omega
theorem size_lt (n : Int) (h1 : -9223372036854775808 ≤ n) (h2 : n ≤ 9223372036854775807) : n.natAbs < 18446744073709551616 := by omega
theorem size_le (n : Int) (h1 : -9223372036854775808 ≤ n) (h2 : n ≤ 9223372036854775807) : n.natAbs ≤ 9223372036854775808 := by omega

theorem natAbs_mul' (a b : Int) : (a.natAbs : Int) * (b.natAbs : Int) = ((a * b).natAbs : Int) := by rw [Int.natAbs_mul, Int.natCast_mul]
theorem prod_unlike (a b : Int) (h : (!decide (a < 0) == decide (b < 0)) = true) : -((a.natAbs : Int) * (b.natAbs : Int)) = a * b := by
  rw [natAbs_mul']
  by_cases ha : a < 0 <;> by_cases hb : b < 0 <;> simp [ha, hb] at h
  · have := Int.mul_nonpos_of_nonpos_of_nonneg (a := a) (b := b) (by omega) (by omega); omega
  · have := Int.mul_nonpos_of_nonneg_of_nonpos (a := a) (b := b) (by omega) (by omega); omega
theorem prod_alike (a b : Int) (h : (!decide (a < 0) == decide (b < 0)) = false) : (a.natAbs : Int) * (b.natAbs : Int) = a * b := by
  rw [natAbs_mul']
  by_cases ha : a < 0 <;> by_cases hb : b < 0 <;> simp [ha, hb] at h
  · have := Int.mul_nonneg_of_nonpos_of_nonpos (a := a) (b := b) (by omega) (by omega); omega
  · have := Int.mul_nonneg (a := a) (b := b) (by omega) (by omega); omega

def exact3 (op a b : Int) : Int := if op = 3 then a + b else if op = 4 then a - b else a * b
theorem exact3_add {op : Int} (a b : Int) (h : (op == 3) = true) : exact3 op a b = a + b := by simp at h; simp [exact3, h]
theorem exact3_sub {op : Int} (a b : Int) (h : (op == 4) = true) : exact3 op a b = a - b := by simp at h; simp [exact3, h]
theorem exact3_mul {op : Int} (a b : Int) (h : (op == 3) = false) (g : (op == 4) = false) : exact3 op a b = a * b := by simp at h g; simp [exact3, h, g]
theorem small_exact (op a b : Int) (ha1 : -9223372036854775808 ≤ a) (ha2 : a ≤ 9223372036854775807) (hb1 : -9223372036854775808 ≤ b) (hb2 : b ≤ 9223372036854775807) : small (exact3 op a b) := by
  have h : a.natAbs * b.natAbs ≤ 9223372036854775808 * 9223372036854775808 := Nat.mul_le_mul (by omega) (by omega)
  rw [← Int.natAbs_mul] at h
  unfold exact3 small
  split
  · omega
  · split <;> omega

def rk (k : Int) : Bool := decide (k = 1 ∨ k = 0)

/-- What a reckoning of two values comes to: the kind, the number, the error. -/
def calc3 (op ka na kb nb : Int) : Int × Int × Int :=
  if op = 3 ∨ op = 4 ∨ op = 5 then
    (if (ka = 1 ∨ ka = 0) ∧ (kb = 1 ∨ kb = 0) then
      (if ka = 0 ∨ kb = 0 then (0, 0, 0) else if inR (exact3 op na nb) then (1, exact3 op na nb, 0) else (0, 0, 12))
     else (0, 0, 8))
  else (0, 0, 1)
def cK (op ka na kb nb : Int) : Int := (calc3 op ka na kb nb).1
def cN (op ka na kb nb : Int) : Int := (calc3 op ka na kb nb).2.1
def cE (op ka na kb nb : Int) : Int := (calc3 op ka na kb nb).2.2
def opB (op : Int) : Bool := decide (op = 3 ∨ op = 4 ∨ op = 5)
theorem calc_op {op ka na kb nb : Int} (h : opB op = false) : calc3 op ka na kb nb = (0, 0, 1) := by simp [opB] at h; simp [calc3, h]
theorem calc_kind {op ka na kb nb : Int} (h : opB op = true) (g : (rk ka && rk kb) = false) : calc3 op ka na kb nb = (0, 0, 8) := by
  simp [opB] at h
  have g' : ¬((ka = 1 ∨ ka = 0) ∧ (kb = 1 ∨ kb = 0)) := by
    intro hh; simp [rk, hh] at g
  simp only [calc3, if_pos h, if_neg g']
theorem calc_none {op ka na kb nb : Int} (h : opB op = true) (g1 : rk ka = true) (g2 : rk kb = true) (hz : ka = 0 ∨ kb = 0) : calc3 op ka na kb nb = (0, 0, 0) := by
  simp [opB] at h; simp [rk] at g1 g2
  simp only [calc3, if_pos h, if_pos (And.intro g1 g2), if_pos hz]
theorem calc_in {op na nb : Int} (h : opB op = true) (hr : inR (exact3 op na nb) = true) : calc3 op 1 na 1 nb = (1, exact3 op na nb, 0) := by
  simp [opB] at h
  simp [calc3, h, hr]
theorem calc_out {op na nb : Int} (h : opB op = true) (hr : inR (exact3 op na nb) = false) : calc3 op 1 na 1 nb = (0, 0, 12) := by
  simp [opB] at h
  simp [calc3, h, hr]
theorem calc_A {op ka na kb nb : Int} (h : opB op = true) (a : (!rk kb) = true) : calc3 op ka na kb nb = (0, 0, 8) := calc_kind h (by simp at a; simp [a])
theorem calc_E {op ka na kb nb : Int} (h : opB op = true) (a : ¬rk ka = true) : calc3 op ka na kb nb = (0, 0, 8) := calc_kind h (by simp at a; simp [a])
theorem calc_B {op ka na kb nb : Int} (h : opB op = true) (a : rk ka = true) (b : (!rk kb) = false) (c : ka = 0) : calc3 op ka na kb nb = (0, 0, 0) := calc_none h a (by simpa using b) (.inl c)
theorem calc_C {op ka na kb nb : Int} (h : opB op = true) (a : rk ka = true) (b : (!rk kb) = false) (c : (ka == 0) = true ∨ (kb == 0) = true) : calc3 op ka na kb nb = (0, 0, 0) := calc_none h a (by simpa using b) (by simpa using c)
theorem calc_D1 {op ka na kb nb : Int} (h : opB op = true) (a : rk ka = true) (b : (!rk kb) = false) (c : (ka == 0) = false ∧ (kb == 0) = false) (d : inR (exact3 op na nb) = true) : calc3 op ka na kb nb = (1, exact3 op na nb, 0) := by
  simp [rk] at a b c
  have e1 : ka = 1 := by omega
  have e2 : kb = 1 := by omega
  rw [e1, e2]; exact calc_in h d
theorem calc_D2 {op ka na kb nb : Int} (h : opB op = true) (a : rk ka = true) (b : (!rk kb) = false) (c : (ka == 0) = false ∧ (kb == 0) = false) (d : inR (exact3 op na nb) = false) : calc3 op ka na kb nb = (0, 0, 12) := by
  simp [rk] at a b c
  have e1 : ka = 1 := by omega
  have e2 : kb = 1 := by omega
  rw [e1, e2]; exact calc_out h d
end Go.Proofs.Ytadidikegfiedaa

/- Contracts of the project's numbers in two words: widen, plus, less, product, narrow, reckon, and of the reference's size, in whatever memory. Conditions: the numbers lie within 64 bits. -/
namespace Go.Proofs.Ytadidikegfiedaa
open Go.RowKit

theorem ret_agg2 {a b c d : Int} (h : a = c) (g : b = d) : Ending.returned (.agg #[.int .u64 a, .int .u64 b]) = .returned (.agg #[.int .u64 c, .int .u64 d]) := by rw [h, g]
theorem ret_u64 {a b : Int} (h : a = b) : Ending.returned (.int .u64 a) = .returned (.int .u64 b) := by rw [h]
theorem ret_nb {a c : Int} {b d : Bool} (h : a = c) (g : b = d) : Ending.returned (.tuple #[.int .i64 a, .bool b]) = .returned (.tuple #[.int .i64 c, .bool d]) := by rw [h, g]

def carry (x y : Int) : Nat := (wL x + wL y + 0) / 18446744073709551616
def borrow (x y : Int) : Nat := if wL x < wL y + 0 then 1 else 0

end Go.Proofs.Ytadidikegfiedaa

/- Contracts of the project's Calc and Neg, of the reference's Calc and Neg, and of what they call, in whatever memory. Conditions: the numbers lie within 64 bits. -/
namespace Go.Proofs.Ytadidikegfiedaa
open Go.RowKit

end Go.Proofs.Ytadidikegfiedaa

/- Contracts of the project's Calc and Neg and of the reference's, in whatever memory. Conditions: the numbers lie within 64 bits. -/
namespace Go.Proofs.Ytadidikegfiedaa
open Go.RowKit

theorem calcRet {a b c : Int} {op ka na kb nb : Int} (h : calc3 op ka na kb nb = (a, b, c)) : Ending.returned (.tuple #[.agg #[.int .i64 a, .int .i64 b, .string ⟨#[]⟩], .int .i64 c]) = .returned (.tuple #[.agg #[.int .i64 (cK op ka na kb nb), .int .i64 (cN op ka na kb nb), .string ⟨#[]⟩], .int .i64 (cE op ka na kb nb)]) := by
  rw [cK, cN, cE, h]

end Go.Proofs.Ytadidikegfiedaa
