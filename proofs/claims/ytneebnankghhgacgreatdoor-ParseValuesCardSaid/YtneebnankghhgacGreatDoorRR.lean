/- Several of my texts laid together, each as it was: Rc0, Rr, Ba, Bb. Conditions: each names its own. -/
import Derived.Test.YtneebnankghhgacGreatDoorPA
import Derived.Deep.RegionHeld3
/- What the reference's Cmp answers: a contract of the call, in whatever memory. Conditions: none. -/
namespace Go.Proofs.YtneebnankghhgacGreatDoor
open Go.RowKit

set_option maxHeartbeats 400000 in
theorem refCmp_any (k n k' n' : Int) (s s' : ByteArray) (w : World) :
    Calls Tryz.prog 29 #[.agg #[.int .i64 k, .int .i64 n, .string s], .agg #[.int .i64 k', .int .i64 n', .string s']] w
      fun e w' => e = .returned (.int .i64 (cmpV k n s k' n' s')) ∧ Below w.heap.size w w' := by
  have B1 := hid0 (bytes_less s.data.toList s'.data.toList)
  have B2 := hid0 (bytes_more s.data.toList s'.data.toList)
  go_enter Tryz.func29, Tryz.ntmps29
  go_wp2
  · go_ret; exact ⟨ret_i64 (by unfold cmpV; rw [if_pos ‹_›]), by go_grown⟩
  · go_ret; exact ⟨ret_i64 (by unfold cmpV; rw [if_neg (by omega), if_pos ‹_›]), by go_grown⟩
  · go_ret; exact ⟨ret_i64 (by unfold cmpV; rw [if_neg (by omega), if_neg (by omega), if_pos ‹_›]), by go_grown⟩
  · go_ret; exact ⟨ret_i64 (by unfold cmpV; rw [if_neg (by omega), if_neg (by omega), if_neg (by omega), if_pos ‹_›]), by go_grown⟩
  · go_ret; exact ⟨ret_i64 (by unfold cmpV; rw [if_neg (by omega), if_neg (by omega), if_neg (by omega), if_neg (by omega), B1.out (by simpa only [ByteArray.toList_eq] using ‹Op.bytesLess s.toList s'.toList = true›)]), by go_grown⟩
  · go_ret; exact ⟨ret_i64 (by unfold cmpV; rw [if_neg (by omega), if_neg (by omega), if_neg (by omega), if_neg (by omega), B2.out (by simpa only [ByteArray.toList_eq] using ‹Op.bytesLess s.toList s'.toList = false›) (fun e => by have h := ‹(!s.toList == s'.toList) = true›; rw [ByteArray.toList_eq, ByteArray.toList_eq, e] at h; simp at h)]), by go_grown⟩
  · go_ret; exact ⟨ret_i64 (by
      have h := ‹(!s.toList == s'.toList) = false›
      rw [ByteArray.toList_eq, ByteArray.toList_eq] at h
      have e : s.data.toList = s'.data.toList := by simpa using h
      unfold cmpV; rw [if_neg (by omega), if_neg (by omega), if_neg (by omega), if_neg (by omega), e, bytes_same]), by go_grown⟩
end Go.Proofs.YtneebnankghhgacGreatDoor

/- How any two rows stand to each other: what the reference's Rows answers, in whatever memory. Conditions: each row is a slice whose elements' cells are known (what came in reads so). -/
namespace Go.Proofs.YtneebnankghhgacGreatDoor
open Go.RowKit

theorem rows_here (l1 l2 : List Val) (k : Nat) (h1 : k < l1.length) (h2 : k < l2.length) : rowsV (l1.drop k) (l2.drop k) = if cmpT l1[k] l2[k] = 0 then rowsV (l1.drop (k + 1)) (l2.drop (k + 1)) else cmpT l1[k] l2[k] := by
  rw [List.drop_eq_getElem_cons h1, List.drop_eq_getElem_cons h2, rowsV]
theorem rows_more (l1 l2 : List Val) (k : Nat) (h1 : k < l1.length) (h2 : l2.length ≤ k) : rowsV (l1.drop k) (l2.drop k) = 1 := by
  rw [List.drop_eq_getElem_cons h1, List.drop_eq_nil_of_le h2, rowsV]
theorem rows_less (l1 l2 : List Val) (k : Nat) (h1 : l1.length ≤ k) (h2 : k < l2.length) : rowsV (l1.drop k) (l2.drop k) = -1 := by
  rw [List.drop_eq_nil_of_le h1, List.drop_eq_getElem_cons h2, rowsV]
theorem rows_end (l1 l2 : List Val) (k : Nat) (h1 : l1.length ≤ k) (h2 : l2.length ≤ k) : rowsV (l1.drop k) (l2.drop k) = 0 := by
  rw [List.drop_eq_nil_of_le h1, List.drop_eq_nil_of_le h2, rowsV]
theorem rows_go {l1 l2 : List Val} {k : Nat} (h1 : k < l1.length) (h2 : k < l2.length) (h : (cmpV l1[k].k l1[k].n l1[k].s l2[k].k l2[k].n l2[k].s != 0) = false) (hR : rowsV l1 l2 = rowsV (l1.drop k) (l2.drop k)) : rowsV l1 l2 = rowsV (l1.drop (k + 1)) (l2.drop (k + 1)) := by
  rw [hR, rows_here l1 l2 k h1 h2, if_pos (by simpa [cmpT] using h)]
theorem rows_stop {l1 l2 : List Val} {k : Nat} (h1 : k < l1.length) (h2 : k < l2.length) (h : (cmpV l1[k].k l1[k].n l1[k].s l2[k].k l2[k].n l2[k].s != 0) = true) (hR : rowsV l1 l2 = rowsV (l1.drop k) (l2.drop k)) : cmpV l1[k].k l1[k].n l1[k].s l2[k].k l2[k].n l2[k].s = rowsV l1 l2 := by
  rw [hR, rows_here l1 l2 k h1 h2, if_neg (by simpa [cmpT] using h)]; rfl

set_option maxHeartbeats 1000000 in
theorem refRows_any (a1 a2 : Option Addr) (c1 c2 : Nat) (l1 l2 : List Val) (w : World) (h1 : RowAt w a1 l1) (h2 : RowAt w a2 l2) (m1 : l1.length ≤ maxLen) :
    Calls Tryz.prog 13 #[.slice a1 l1.length c1, .slice a2 l2.length c2] w fun e w' => e = .returned (.int .i64 (rowsV l1 l2)) ∧ Below w.heap.size w w' := by
  unfold maxLen at m1
  have R1 := hid0 h1
  have R2 := hid0 h2
  clear h1 h2
  go_enter Tryz.func13, Tryz.ntmps13
  go_wp2
  go_loopw [5] (fun i wr => ∃ k : Nat, k ≤ l1.length ∧ k ≤ l2.length ∧ i = .int .i64 k ∧ Below w.heap.size w wr ∧ Hid (rowsV l1 l2 = rowsV (l1.drop k) (l2.drop k))) (fun i _ => l1.length - (intOf i).toNat)
  case atStart => exact ⟨0, Nat.zero_le _, Nat.zero_le _, rfl, Below.refl _ _, rfl⟩
  case round =>
    obtain ⟨k, hk1, hk2, rfl, hB, hR⟩ := hrel
    have hsz := hB.size
    by_cases hlt : k < l1.length
    · by_cases hlt2 : k < l2.length
      · obtain ⟨b1, o1, rfl, hc1⟩ := (R1.out.later hB) (by intro e; rw [e] at hlt; exact absurd hlt (by simp))
        obtain ⟨b2, o2, rfl, hc2⟩ := (R2.out.later hB) (by intro e; rw [e] at hlt2; exact absurd hlt2 (by simp))
        obtain ⟨p0, p1, p2⟩ := hc1 k hlt
        obtain ⟨q0, q1, q2⟩ := hc2 k hlt2
        have k0 : (0 : Int) ≤ (k : Int) := Int.natCast_nonneg _
        have k1 : (k : Int) < (l1.length : Int) := by omega
        have k2 : (k : Int) < (l2.length : Int) := by omega
        clear hc1 hc2
        go_wp2_with fail
        go_region_held3 (fun w' => w'.cell? ⟨b1, o1 + k * 3, none⟩ = some (.int .i64 (l1[k]).k) ∧ w'.cell? ⟨b1, o1 + k * 3 + 1, none⟩ = some (.int .i64 (l1[k]).n) ∧ w'.cell? ⟨b1, o1 + k * 3 + 2, none⟩ = some (.string (l1[k]).s) ∧
            w'.cell? ⟨b2, o2 + k * 3, none⟩ = some (.int .i64 (l2[k]).k) ∧ w'.cell? ⟨b2, o2 + k * 3 + 1, none⟩ = some (.int .i64 (l2[k]).n) ∧ w'.cell? ⟨b2, o2 + k * 3 + 2, none⟩ = some (.string (l2[k]).s) ∧ Below w.heap.size w w')
          ((go_split_ands; (try dsimp only); (repeat' apply And.intro); all_goals (first
            | assumption
            | exact cell_later hbn ‹_›
            | exact below_through hbn (Below.size ‹Below w.heap.size w _›) ‹_›
            | exact Below.drew hB
            | go_keep)))
          (first
            | (go_at_call 29; refine (refCmp_any _ _ _ _ _ _ _).mono ?_; rintro e wn ⟨rfl, hbn⟩))
        obtain ⟨_, _, _, _, _, _, hBn⟩ := ‹wn.cell? ⟨b1, o1 + k * 3, none⟩ = some (.int .i64 (l1[k]).k) ∧ _›
        go_wp2
        · go_ret
          exact ⟨ret_i64 (rows_stop hlt hlt2 ‹_› hR), hBn⟩
        · exact ⟨⟨k + 1, by omega, by omega, by go_num, hBn, rows_go hlt hlt2 ‹_› hR⟩, by simp [intOf]; omega⟩
      · go_wp2
        go_ret
        exact ⟨ret_i64 (by rw [show rowsV l1 l2 = _ from hR, rows_more l1 l2 k hlt (by omega)]), hB⟩
    · go_wp2
      · go_ret
        exact ⟨ret_i64 (by rw [show rowsV l1 l2 = _ from hR, rows_less l1 l2 k (by omega) (by omega)]), hB⟩
      · go_ret
        exact ⟨ret_i64 (by rw [show rowsV l1 l2 = _ from hR, rows_end l1 l2 k (by omega) (by omega)]), hB⟩

end Go.Proofs.YtneebnankghhgacGreatDoor

/- Bags of rows, plainly: the one list of rows that rise, each with the sum of its numbers; that merging two gives the one of both; the rows of a bag, each as often as it is there. Nothing of any program here. Conditions: each lemma names its own. -/
namespace Go.Proofs.YtneebnankghhgacGreatDoor
open Go.RowKit

abbrev Pair := List Val × Int

theorem rowsV_is : ∀ (a b : List Val), rowsV a b = 0 ↔ a = b
  | [], [] => by simp [rowsV]
  | [], _ :: _ => by simp [rowsV]
  | _ :: _, [] => by simp [rowsV]
  | x :: a, y :: b => by
    unfold rowsV
    by_cases h : cmpT x y = 0
    · rw [if_pos h, rowsV_is a b]
      obtain rfl := (cmpT_zero x y).1 h
      simp
    · rw [if_neg h]
      constructor
      · intro e; exact absurd e h
      · intro e
        obtain ⟨rfl, _⟩ := List.cons.inj e
        exact absurd ((cmpT_zero x x).2 rfl) h
theorem rowsV_self (a : List Val) : rowsV a a = 0 := (rowsV_is a a).2 rfl
theorem rowsV_lt_trans {a b c : List Val} (h1 : rowsV a b < 0) (h2 : rowsV b c < 0) : rowsV a c < 0 := by
  have h := rowsV_trans a b c (by omega) (by omega)
  have h0 : rowsV a c ≠ 0 := fun e => by
    obtain rfl := (rowsV_is a c).1 e
    have := rowsV_flip a b
    omega
  omega

/-- The sum of a row's numbers. -/
def sumOf (r : List Val) : List Pair → Int
  | [] => 0
  | x :: L => (if rowsV x.1 r = 0 then x.2 else 0) + sumOf r L
theorem sumOf_append (r : List Val) : ∀ (A B : List Pair), sumOf r (A ++ B) = sumOf r A + sumOf r B
  | [], B => by simp [sumOf]
  | x :: A, B => by rw [List.cons_append, sumOf, sumOf_append r A B, sumOf]; omega

/-- Rows that rise, no number 0. -/
def Rises : List Pair → Prop
  | [] => True
  | x :: L => x.2 ≠ 0 ∧ (∀ y ∈ L, rowsV x.1 y.1 < 0) ∧ Rises L
theorem sumOf_below {r : List Val} : ∀ {L : List Pair}, (∀ y ∈ L, rowsV r y.1 < 0) → sumOf r L = 0
  | [], _ => rfl
  | y :: L, h => by
    have h1 := h y (by simp)
    have h2 := rowsV_flip r y.1
    rw [sumOf, if_neg (by omega), sumOf_below (fun z hz => h z (by simp [hz]))]; rfl
theorem rises_unique : ∀ {A B : List Pair}, Rises A → Rises B → (∀ r, sumOf r A = sumOf r B) → A = B
  | [], [], _, _, _ => rfl
  | [], y :: B, _, hB, h => by
    have e := h y.1
    rw [sumOf, sumOf, if_pos (rowsV_self _), sumOf_below hB.2.1] at e
    exact absurd (by omega) hB.1
  | x :: A, [], hA, _, h => by
    have e := h x.1
    rw [sumOf, sumOf, if_pos (rowsV_self _), sumOf_below hA.2.1] at e
    exact absurd (by omega) hA.1
  | x :: A, y :: B, hA, hB, h => by
    by_cases h1 : rowsV x.1 y.1 < 0
    · have e := h x.1
      rw [sumOf, if_pos (rowsV_self _), sumOf_below hA.2.1, sumOf_below (L := y :: B) (fun z hz => by
        rcases List.mem_cons.1 hz with rfl | hz
        · exact h1
        · exact rowsV_lt_trans h1 (hB.2.1 z hz))] at e
      exact absurd (by omega) hA.1
    by_cases h2 : rowsV y.1 x.1 < 0
    · have e := h y.1
      have eA : sumOf y.1 (x :: A) = 0 := sumOf_below (fun z hz => by
        rcases List.mem_cons.1 hz with rfl | hz
        · exact h2
        · exact rowsV_lt_trans h2 (hA.2.1 z hz))
      have eB : sumOf y.1 (y :: B) = y.2 := by rw [sumOf, if_pos (rowsV_self _), sumOf_below hB.2.1]; omega
      exact absurd (by omega) hB.1
    have h3 := rowsV_flip x.1 y.1
    have e1 : x.1 = y.1 := (rowsV_is _ _).1 (by omega)
    have e2 : x.2 = y.2 := by
      have e := h x.1
      rw [sumOf, sumOf, if_pos (rowsV_self _), sumOf_below hA.2.1, ← e1, if_pos (rowsV_self _), sumOf_below (r := x.1) (fun z hz => by rw [e1]; exact hB.2.1 z hz)] at e
      omega
    have e : x = y := Prod.ext e1 e2
    subst e
    rw [rises_unique hA.2.2 hB.2.2 (fun r => by have := h r; rw [sumOf, sumOf] at this; omega)]

/-! ### The bag of rows, each so often -/
def insB (x : Pair) : List Pair → List Pair
  | [] => if x.2 = 0 then [] else [x]
  | y :: B =>
    if rowsV x.1 y.1 < 0 then (if x.2 = 0 then y :: B else x :: y :: B)
    else if rowsV x.1 y.1 = 0 then (if x.2 + y.2 = 0 then B else (y.1, x.2 + y.2) :: B)
    else y :: insB x B
def ofB (L : List Pair) : List Pair := L.foldr insB []

theorem sumOf_ins (r : List Val) (x : Pair) : ∀ B : List Pair, sumOf r (insB x B) = (if rowsV x.1 r = 0 then x.2 else 0) + sumOf r B
  | [] => by
    unfold insB
    by_cases h : x.2 = 0
    · rw [if_pos h, h]; simp [sumOf]
    · rw [if_neg h]; simp [sumOf]
  | y :: B => by
    unfold insB
    by_cases h1 : rowsV x.1 y.1 < 0
    · rw [if_pos h1]
      by_cases h : x.2 = 0
      · rw [if_pos h, h]; simp
      · rw [if_neg h]; rw [sumOf]
    · rw [if_neg h1]
      by_cases h2 : rowsV x.1 y.1 = 0
      · rw [if_pos h2]
        have e := (rowsV_is _ _).1 h2
        rw [sumOf, ← e]
        by_cases h3 : x.2 + y.2 = 0
        · rw [if_pos h3]; split <;> omega
        · rw [if_neg h3, sumOf]; dsimp only; split <;> omega
      · rw [if_neg h2, sumOf, sumOf_ins r x B, sumOf]; omega
theorem ins_mem {x : Pair} : ∀ {B : List Pair} {z : Pair}, z ∈ insB x B → (z.1 = x.1 ∨ ∃ y ∈ B, z.1 = y.1)
  | [], z, h => by
    unfold insB at h
    split at h
    · simp at h
    · left; simp at h; rw [h]
  | y :: B, z, h => by
    unfold insB at h
    split at h
    · split at h
      · exact .inr ⟨z, h, rfl⟩
      · rcases List.mem_cons.1 h with rfl | h
        · exact .inl rfl
        · exact .inr ⟨z, h, rfl⟩
    · split at h
      · split at h
        · exact .inr ⟨z, by simp [h], rfl⟩
        · rcases List.mem_cons.1 h with rfl | h
          · exact .inr ⟨y, by simp, rfl⟩
          · exact .inr ⟨z, by simp [h], rfl⟩
      · rcases List.mem_cons.1 h with rfl | h
        · exact .inr ⟨z, by simp, rfl⟩
        · rcases ins_mem h with h | ⟨y', hy, h⟩
          · exact .inl h
          · exact .inr ⟨y', by simp [hy], h⟩
theorem rises_ins (x : Pair) : ∀ {B : List Pair}, Rises B → Rises (insB x B)
  | [], _ => by
    unfold insB
    split
    · exact trivial
    · rename_i h; exact ⟨h, by simp, trivial⟩
  | y :: B, hB => by
    unfold insB
    by_cases h1 : rowsV x.1 y.1 < 0
    · rw [if_pos h1]
      split
      · exact hB
      · rename_i h
        refine ⟨h, fun z hz => ?_, hB⟩
        rcases List.mem_cons.1 hz with rfl | hz
        · exact h1
        · exact rowsV_lt_trans h1 (hB.2.1 z hz)
    · rw [if_neg h1]
      by_cases h2 : rowsV x.1 y.1 = 0
      · rw [if_pos h2]
        split
        · exact hB.2.2
        · rename_i h; exact ⟨h, hB.2.1, hB.2.2⟩
      · rw [if_neg h2]
        refine ⟨hB.1, fun z hz => ?_, rises_ins x hB.2.2⟩
        rcases ins_mem hz with e | ⟨y', hy, e⟩
        · rw [e]
          have := rowsV_flip x.1 y.1
          omega
        · rw [e]; exact hB.2.1 y' hy
theorem rises_ofB : ∀ L : List Pair, Rises (ofB L)
  | [] => trivial
  | x :: L => rises_ins x (rises_ofB L)
theorem sumOf_ofB (r : List Val) : ∀ L : List Pair, sumOf r (ofB L) = sumOf r L
  | [] => rfl
  | x :: L => by
    show sumOf r (insB x (ofB L)) = _
    rw [sumOf_ins, sumOf_ofB r L, sumOf]
/-- What rises and has the sums is the bag. -/
theorem ofB_is {B L : List Pair} (h1 : Rises B) (h2 : ∀ r, sumOf r B = sumOf r L) : B = ofB L :=
  rises_unique h1 (rises_ofB L) (fun r => by rw [h2, sumOf_ofB])

/-! ### Two bags merged -/
def joinB : List Pair → List Pair → List Pair
  | [], B => B
  | A, [] => A
  | x :: A, y :: B =>
    if rowsV x.1 y.1 < 0 then x :: joinB A (y :: B)
    else if rowsV x.1 y.1 = 0 then (if x.2 + y.2 = 0 then joinB A B else (x.1, x.2 + y.2) :: joinB A B)
    else y :: joinB (x :: A) B
termination_by A B => A.length + B.length
theorem joinB_nil (A : List Pair) : joinB A [] = A := by cases A <;> rw [joinB]; simp
theorem nil_joinB (B : List Pair) : joinB [] B = B := by rw [joinB]
theorem joinB_less {x y : Pair} (A B : List Pair) (h : rowsV x.1 y.1 < 0) : joinB (x :: A) (y :: B) = x :: joinB A (y :: B) := by rw [joinB, if_pos h]
theorem joinB_more {x y : Pair} (A B : List Pair) (h : 0 < rowsV x.1 y.1) : joinB (x :: A) (y :: B) = y :: joinB (x :: A) B := by rw [joinB, if_neg (by omega), if_neg (by omega)]
theorem joinB_none {x y : Pair} (A B : List Pair) (h : rowsV x.1 y.1 = 0) (h0 : x.2 + y.2 = 0) : joinB (x :: A) (y :: B) = joinB A B := by rw [joinB, if_neg (by omega), if_pos h, if_pos h0]
theorem joinB_both {x y : Pair} (A B : List Pair) (h : rowsV x.1 y.1 = 0) (h0 : x.2 + y.2 ≠ 0) : joinB (x :: A) (y :: B) = (x.1, x.2 + y.2) :: joinB A B := by rw [joinB, if_neg (by omega), if_pos h, if_neg h0]
theorem joinB_sum (r : List Val) : ∀ (n : Nat) (A B : List Pair), A.length + B.length ≤ n → sumOf r (joinB A B) = sumOf r A + sumOf r B := by
  intro n
  induction n with
  | zero =>
    intro A B h
    obtain rfl : A = [] := List.length_eq_zero_iff.1 (by omega)
    rw [nil_joinB]; simp [sumOf]
  | succ n ih =>
    intro A B h
    cases A with
    | nil => rw [nil_joinB]; simp [sumOf]
    | cons x A =>
      cases B with
      | nil => rw [joinB_nil]; simp [sumOf]
      | cons y B =>
        simp only [List.length_cons] at h
        by_cases h1 : rowsV x.1 y.1 < 0
        · rw [joinB_less A B h1, sumOf, ih A (y :: B) (by simp; omega)]
          have e : sumOf r (x :: A) = (if rowsV x.1 r = 0 then x.2 else 0) + sumOf r A := rfl
          omega
        by_cases h2 : rowsV x.1 y.1 = 0
        · have e := (rowsV_is _ _).1 h2
          by_cases h3 : x.2 + y.2 = 0
          · rw [joinB_none A B h2 h3, ih A B (by omega), sumOf, sumOf, ← e]; split <;> omega
          · rw [joinB_both A B h2 h3, sumOf, ih A B (by omega), sumOf, sumOf, ← e]; dsimp only; split <;> omega
        · rw [joinB_more A B (by omega), sumOf, ih (x :: A) B (by simp; omega)]
          have e : sumOf r (y :: B) = (if rowsV y.1 r = 0 then y.2 else 0) + sumOf r B := rfl
          omega
theorem joinB_mem : ∀ (n : Nat) (A B : List Pair), A.length + B.length ≤ n → ∀ z ∈ joinB A B, (∃ x ∈ A, z.1 = x.1) ∨ ∃ y ∈ B, z.1 = y.1 := by
  intro n
  induction n with
  | zero =>
    intro A B h z hz
    obtain rfl : A = [] := List.length_eq_zero_iff.1 (by omega)
    rw [nil_joinB] at hz
    exact .inr ⟨z, hz, rfl⟩
  | succ n ih =>
    intro A B h z hz
    cases A with
    | nil => rw [nil_joinB] at hz; exact .inr ⟨z, hz, rfl⟩
    | cons x A =>
      cases B with
      | nil => rw [joinB_nil] at hz; exact .inl ⟨z, hz, rfl⟩
      | cons y B =>
        simp only [List.length_cons] at h
        by_cases h1 : rowsV x.1 y.1 < 0
        · rw [joinB_less A B h1] at hz
          rcases List.mem_cons.1 hz with rfl | hz
          · exact .inl ⟨z, by simp, rfl⟩
          · rcases ih A (y :: B) (by simp; omega) z hz with ⟨w, hw, e⟩ | h'
            · exact .inl ⟨w, by simp [hw], e⟩
            · exact .inr h'
        by_cases h2 : rowsV x.1 y.1 = 0
        · by_cases h3 : x.2 + y.2 = 0
          · rw [joinB_none A B h2 h3] at hz
            rcases ih A B (by omega) z hz with ⟨w, hw, e⟩ | ⟨w, hw, e⟩
            · exact .inl ⟨w, by simp [hw], e⟩
            · exact .inr ⟨w, by simp [hw], e⟩
          · rw [joinB_both A B h2 h3] at hz
            rcases List.mem_cons.1 hz with rfl | hz
            · exact .inl ⟨x, by simp, rfl⟩
            · rcases ih A B (by omega) z hz with ⟨w, hw, e⟩ | ⟨w, hw, e⟩
              · exact .inl ⟨w, by simp [hw], e⟩
              · exact .inr ⟨w, by simp [hw], e⟩
        · rw [joinB_more A B (by omega)] at hz
          rcases List.mem_cons.1 hz with rfl | hz
          · exact .inr ⟨z, by simp, rfl⟩
          · rcases ih (x :: A) B (by simp; omega) z hz with h' | ⟨w, hw, e⟩
            · exact .inl h'
            · exact .inr ⟨w, by simp [hw], e⟩
theorem rises_join : ∀ (n : Nat) (A B : List Pair), A.length + B.length ≤ n → Rises A → Rises B → Rises (joinB A B) := by
  intro n
  induction n with
  | zero =>
    intro A B h _ hB
    obtain rfl : A = [] := List.length_eq_zero_iff.1 (by omega)
    rw [nil_joinB]; exact hB
  | succ n ih =>
    intro A B h hA hB
    cases A with
    | nil => rw [nil_joinB]; exact hB
    | cons x A =>
      cases B with
      | nil => rw [joinB_nil]; exact hA
      | cons y B =>
        simp only [List.length_cons] at h
        by_cases h1 : rowsV x.1 y.1 < 0
        · rw [joinB_less A B h1]
          refine ⟨hA.1, fun z hz => ?_, ih A (y :: B) (by simp; omega) hA.2.2 hB⟩
          rcases joinB_mem _ A (y :: B) (Nat.le_refl _) z hz with ⟨w, hw, e⟩ | ⟨w, hw, e⟩
          · rw [e]; exact hA.2.1 w hw
          · rw [e]
            rcases List.mem_cons.1 hw with rfl | hw
            · exact h1
            · exact rowsV_lt_trans h1 (hB.2.1 w hw)
        by_cases h2 : rowsV x.1 y.1 = 0
        · have e0 := (rowsV_is _ _).1 h2
          by_cases h3 : x.2 + y.2 = 0
          · rw [joinB_none A B h2 h3]; exact ih A B (by omega) hA.2.2 hB.2.2
          · rw [joinB_both A B h2 h3]
            refine ⟨h3, fun z hz => ?_, ih A B (by omega) hA.2.2 hB.2.2⟩
            rcases joinB_mem _ A B (Nat.le_refl _) z hz with ⟨w, hw, e⟩ | ⟨w, hw, e⟩
            · rw [e]; exact hA.2.1 w hw
            · rw [e]; show rowsV x.1 w.1 < 0; rw [e0]; exact hB.2.1 w hw
        · rw [joinB_more A B (by omega)]
          have h4 : rowsV y.1 x.1 < 0 := by have := rowsV_flip x.1 y.1; omega
          refine ⟨hB.1, fun z hz => ?_, ih (x :: A) B (by simp; omega) hA hB.2.2⟩
          rcases joinB_mem _ (x :: A) B (Nat.le_refl _) z hz with ⟨w, hw, e⟩ | ⟨w, hw, e⟩
          · rw [e]
            rcases List.mem_cons.1 hw with rfl | hw
            · exact h4
            · exact rowsV_lt_trans h4 (hA.2.1 w hw)
          · rw [e]; exact hB.2.1 w hw
theorem joinB_ofB (A B : List Pair) : joinB (ofB A) (ofB B) = ofB (A ++ B) :=
  ofB_is (rises_join _ _ _ (Nat.le_refl _) (rises_ofB A) (rises_ofB B)) (fun r => by rw [joinB_sum r _ _ _ (Nat.le_refl _), sumOf_ofB, sumOf_ofB, sumOf_append])
theorem ofB_one (x : Pair) : ofB [x] = if x.2 = 0 then [] else [x] := rfl

/-! ### Sums that are small enough -/
def absS : List Pair → Int
  | [] => 0
  | x :: L => (if x.2 < 0 then -x.2 else x.2) + absS L
theorem absS_nonneg : ∀ L, 0 ≤ absS L
  | [] => Int.le_refl _
  | x :: L => by have := absS_nonneg L; unfold absS; split <;> omega
theorem absS_append : ∀ A B, absS (A ++ B) = absS A + absS B
  | [], B => by simp [absS]
  | x :: A, B => by rw [List.cons_append, absS, absS_append A B, absS]; omega
theorem absS_mem : ∀ {L : List Pair} {x : Pair}, x ∈ L → -absS L ≤ x.2 ∧ x.2 ≤ absS L
  | y :: L, x, h => by
    have h0 := absS_nonneg L
    unfold absS
    rcases List.mem_cons.1 h with rfl | h
    · split <;> omega
    · have := absS_mem h
      split <;> omega
theorem absS_ins (x : Pair) : ∀ B, absS (insB x B) ≤ (if x.2 < 0 then -x.2 else x.2) + absS B
  | [] => by
    unfold insB
    split
    · simp only [absS]; split <;> omega
    · simp [absS]
  | y :: B => by
    unfold insB
    have h0 := absS_nonneg B
    have hx : 0 ≤ (if x.2 < 0 then -x.2 else x.2) := by split <;> omega
    split
    · split
      · omega
      · simp [absS]
    · split
      · split
        · simp only [absS]
          have hy : 0 ≤ (if y.2 < 0 then -y.2 else y.2) := by split <;> omega
          omega
        · simp only [absS]
          split <;> split <;> split <;> omega
      · have := absS_ins x B
        simp only [absS]
        omega
theorem absS_ofB : ∀ L, absS (ofB L) ≤ absS L
  | [] => Int.le_refl _
  | x :: L => by
    have h1 := absS_ins x (ofB L)
    have h2 := absS_ofB L
    show absS (insB x (ofB L)) ≤ (if x.2 < 0 then -x.2 else x.2) + absS L
    omega
theorem len_ins (x : Pair) : ∀ B, (insB x B).length ≤ B.length + 1
  | [] => by unfold insB; split <;> simp
  | y :: B => by
    have := len_ins x B
    unfold insB
    repeat' split
    all_goals simp
    all_goals omega
theorem len_ofB : ∀ L, (ofB L).length ≤ L.length
  | [] => Nat.le_refl _
  | x :: L => by
    have h1 := len_ins x (ofB L)
    have h2 := len_ofB L
    show (insB x (ofB L)).length ≤ _
    rw [List.length_cons]; omega

/-! ### Rows, each once; the rows of a bag -/
def onesB (L : List (List Val)) : List Pair := L.map fun r => (r, 1)
def rowsB : List Pair → List (List Val)
  | [] => []
  | x :: B => List.replicate x.2.toNat x.1 ++ rowsB B
def countB : List Pair → Int
  | [] => 0
  | x :: B => (if 0 < x.2 then x.2 else 0) + countB B
def sumAll : List Pair → Int
  | [] => 0
  | x :: B => x.2 + sumAll B
theorem absS_ones : ∀ L, absS (onesB L) = L.length
  | [] => rfl
  | r :: L => by
    have := absS_ones L
    show (if (1 : Int) < 0 then -1 else 1) + absS (onesB L) = _
    rw [this, if_neg (by omega), List.length_cons]; omega
theorem len_ones (L : List (List Val)) : (onesB L).length = L.length := List.length_map _
theorem sumAll_ins (x : Pair) : ∀ B, sumAll (insB x B) = x.2 + sumAll B
  | [] => by unfold insB; split <;> simp [sumAll]; omega
  | y :: B => by
    have := sumAll_ins x B
    unfold insB
    repeat' split
    all_goals simp only [sumAll]
    all_goals omega
theorem sumAll_ofB : ∀ L, sumAll (ofB L) = sumAll L
  | [] => rfl
  | x :: L => by
    show sumAll (insB x (ofB L)) = _
    rw [sumAll_ins, sumAll_ofB L, sumAll]
theorem sumAll_ones : ∀ L, sumAll (onesB L) = L.length
  | [] => rfl
  | r :: L => by
    have := sumAll_ones L
    show 1 + sumAll (onesB L) = _
    rw [this, List.length_cons]; omega
theorem pos_ins {x : Pair} (hx : 0 ≤ x.2) : ∀ {B : List Pair}, (∀ y ∈ B, 0 < y.2) → ∀ y ∈ insB x B, 0 < y.2
  | [], _, z, hz => by
    unfold insB at hz
    split at hz
    · simp at hz
    · simp at hz; subst hz; omega
  | y :: B, h, z, hz => by
    have hy := h y (by simp)
    unfold insB at hz
    split at hz
    · split at hz
      · exact h z hz
      · rcases List.mem_cons.1 hz with rfl | hz
        · omega
        · exact h z hz
    · split at hz
      · split at hz
        · exact h z (by simp [hz])
        · rcases List.mem_cons.1 hz with rfl | hz
          · show 0 < x.2 + y.2; omega
          · exact h z (by simp [hz])
      · rcases List.mem_cons.1 hz with rfl | hz
        · exact hy
        · exact pos_ins hx (fun w hw => h w (by simp [hw])) z hz
theorem pos_ofB : ∀ {L : List Pair}, (∀ x ∈ L, 0 ≤ x.2) → ∀ y ∈ ofB L, 0 < y.2
  | [], _, y, hy => by simp [ofB] at hy
  | x :: L, h, y, hy => pos_ins (h x (by simp)) (pos_ofB (fun z hz => h z (by simp [hz]))) y hy
theorem pos_ones (L : List (List Val)) : ∀ y ∈ ofB (onesB L), 0 < y.2 := pos_ofB (fun x hx => by
  obtain ⟨r, _, rfl⟩ := List.mem_map.1 hx
  show (0 : Int) ≤ 1; decide)
theorem rowsB_len : ∀ {B : List Pair}, (∀ y ∈ B, 0 < y.2) → ((rowsB B).length : Int) = sumAll B
  | [], _ => rfl
  | x :: B, h => by
    have h1 := h x (by simp)
    have h2 := rowsB_len (B := B) (fun y hy => h y (by simp [hy]))
    rw [rowsB, List.length_append, List.length_replicate, sumAll]; omega
theorem countB_is : ∀ {B : List Pair}, (∀ y ∈ B, 0 < y.2) → countB B = sumAll B
  | [], _ => rfl
  | x :: B, h => by
    rw [countB, if_pos (h x (by simp)), countB_is (B := B) (fun y hy => h y (by simp [hy])), sumAll]
theorem sumOf_ones_rep (r x : List Val) : ∀ (n : Nat) (L : List (List Val)), sumOf r (onesB (List.replicate n x ++ L)) = (if rowsV x r = 0 then (n : Int) else 0) + sumOf r (onesB L)
  | 0, L => by simp
  | n + 1, L => by
    have := sumOf_ones_rep r x n L
    rw [List.replicate_succ, List.cons_append]
    show (if rowsV x r = 0 then (1 : Int) else 0) + sumOf r (onesB (List.replicate n x ++ L)) = _
    rw [this]; split <;> omega
theorem sumOf_rowsB (r : List Val) : ∀ {B : List Pair}, (∀ y ∈ B, 0 < y.2) → sumOf r (onesB (rowsB B)) = sumOf r B
  | [], _ => rfl
  | x :: B, h => by
    have h1 := h x (by simp)
    rw [rowsB, sumOf_ones_rep, sumOf_rowsB r (B := B) (fun y hy => h y (by simp [hy])), sumOf]
    split <;> omega
/-- The bag of a bag's rows is the bag. -/
theorem bag_back (L : List (List Val)) : ofB (onesB (rowsB (ofB (onesB L)))) = ofB (onesB L) :=
  (ofB_is (rises_ofB _) (fun r => by rw [sumOf_rowsB r (pos_ones L)])).symm
theorem bagRows_len (L : List (List Val)) : (rowsB (ofB (onesB L))).length = L.length := by
  have := rowsB_len (pos_ones L)
  rw [sumAll_ofB, sumAll_ones] at this
  omega
theorem count_len (L : List (List Val)) : countB (ofB (onesB L)) = L.length := by
  rw [countB_is (pos_ones L), sumAll_ofB, sumAll_ones]
theorem small_ones (L : List (List Val)) : ∀ y ∈ ofB (onesB L), y.2 ≤ L.length := fun y hy => by
  have h1 := (absS_mem hy).2
  have h2 := absS_ofB (onesB L)
  rw [absS_ones] at h2
  omega
end Go.Proofs.YtneebnankghhgacGreatDoor

/- Bags and lists of rows in memory: their cells are known; lists that a call builds. Nothing of any program here but the types of a bag's elements. Conditions: each lemma names its own. -/
namespace Go.Proofs.YtneebnankghhgacGreatDoor
open Go.RowKit

/-- An element of a bag as it lies in memory: where its row is, its capacity, the row, how often it is there. -/
structure Elem where
  a : Option Addr
  c : Nat
  r : List Val
  n : Int
def pr (e : Elem) : Pair := (e.r, e.n)
def cellsOne (e : Elem) : List Value := [.slice e.a e.r.length e.c, .int .i64 e.n]
def cellsE (E : List Elem) : List Value := E.flatMap cellsOne
/-- A row that a slice can hold. -/
def rowOK (r : List Val) : Prop := r.length * 32 ≤ 140737488351232
def RowsIn (w : World) (E : List Elem) : Prop := ∀ e ∈ E, RowAt w e.a e.r ∧ rowOK e.r
def CellsAt (w : World) (a : Option Addr) (E : List Elem) : Prop :=
  E ≠ [] → ∃ b off, a = some ⟨b, off, none⟩ ∧ ∀ i (h : i < E.length), w.cell? ⟨b, off + i * 2, none⟩ = some (.slice (E[i]).a (E[i]).r.length (E[i]).c) ∧ w.cell? ⟨b, off + i * 2 + 1, none⟩ = some (.int .i64 (E[i]).n)
theorem CellsAt.later {w w' : World} {a : Option Addr} {E : List Elem} (h : CellsAt w a E) (hb : Below w.heap.size w w') : CellsAt w' a E := fun hn => by
  obtain ⟨b, off, e, hc⟩ := h hn
  exact ⟨b, off, e, fun i hi => ⟨cell_later hb (hc i hi).1, cell_later hb (hc i hi).2⟩⟩
theorem RowsIn.later {w w' : World} {E : List Elem} (h : RowsIn w E) (hb : Below w.heap.size w w') : RowsIn w' E := fun e he => ⟨(h e he).1.later hb, (h e he).2⟩
def ElemsAt (w : World) (a : Option Addr) (E : List Elem) : Prop := CellsAt w a E ∧ RowsIn w E
theorem ElemsAt.later {w w' : World} {a : Option Addr} {E : List Elem} (h : ElemsAt w a E) (hb : Below w.heap.size w w') : ElemsAt w' a E := ⟨h.1.later hb, h.2.later hb⟩
theorem ElemsAt.nil (w : World) (a : Option Addr) : ElemsAt w a [] := ⟨fun h => absurd rfl h, fun e he => absurd he (by simp)⟩
theorem ElemsAt.take {w : World} {a : Option Addr} {E : List Elem} (h : ElemsAt w a E) (k : Nat) : ElemsAt w a (E.take k) := by
  refine ⟨fun hn => ?_, fun e he => h.2 e (List.mem_of_mem_take he)⟩
  obtain ⟨b, off, e, hc⟩ := h.1 (fun e => hn (by rw [e]; simp))
  refine ⟨b, off, e, fun i hi => ?_⟩
  have hi' : i < E.length := by rw [List.length_take] at hi; omega
  rw [List.getElem_take]
  exact hc i hi'
theorem ElemsAt.drop {w : World} {b off : Nat} {E : List Elem} (h : ElemsAt w (some ⟨b, off, none⟩) E) (k : Nat) : ElemsAt w (some ⟨b, off + k * 2, none⟩) (E.drop k) := by
  refine ⟨fun hn => ?_, fun e he => h.2 e (List.mem_of_mem_drop he)⟩
  obtain ⟨b', off', e, hc⟩ := h.1 (fun e => hn (by rw [e]; simp))
  obtain ⟨rfl, rfl⟩ : b = b' ∧ off = off' := by simpa using e
  refine ⟨b, off + k * 2, rfl, fun i hi => ?_⟩
  have hi' : k + i < E.length := by rw [List.length_drop] at hi; omega
  rw [List.getElem_drop]
  have := hc (k + i) hi'
  rw [show off + (k + i) * 2 = off + k * 2 + i * 2 by omega] at this
  exact this

theorem cellsE_snoc (E : List Elem) (e : Elem) : cellsE (E ++ [e]) = cellsE E ++ [.slice e.a e.r.length e.c, .int .i64 e.n] := by simp [cellsE, cellsOne]
theorem cellsE_len : ∀ E, (cellsE E).length = E.length * 2
  | [] => rfl
  | e :: E => by
    have := cellsE_len E
    show (cellsE E).length + 2 = _
    rw [this, List.length_cons]; omega
theorem cellsE_at : ∀ (E : List Elem) (i : Nat) (h : i < E.length), (cellsE E)[i * 2]? = some (.slice (E[i]).a (E[i]).r.length (E[i]).c) ∧ (cellsE E)[i * 2 + 1]? = some (.int .i64 (E[i]).n)
  | e :: E, 0, _ => ⟨rfl, rfl⟩
  | e :: E, i + 1, h => by
    have := cellsE_at E i (by simpa using h)
    have e : cellsE (e :: E) = [.slice e.a e.r.length e.c, .int .i64 e.n] ++ cellsE E := rfl
    have g : ∀ d, (cellsE (_ :: E))[(i + 1) * 2 + d]? = (cellsE E)[i * 2 + d]? := fun d => by
      rw [e, List.getElem?_append_right (by simp; omega)]
      congr 1
      simp; omega
    exact ⟨(g 0).trans this.1, (g 1).trans this.2⟩
theorem elems_owned {base B : Nat} {w : World} {v : Value} {E : List Elem} (h : w.ownsRow base B 2 v E.length (cellsE E)) : ∃ a c, v = .slice a E.length c ∧ E.length ≤ c ∧ c ≤ maxLen ∧ CellsAt w a E := by
  have h0 := h
  obtain ⟨_, hcase⟩ := h
  rcases hcase with ⟨rfl, hl⟩ | ⟨g, cap', cur, rfl, hg, hh, hn, hcap, hsz, htake⟩
  · exact ⟨none, 0, by rw [hl], by omega, by unfold maxLen; omega, fun hne => absurd (List.length_eq_zero_iff.1 hl) hne⟩
  · refine ⟨some ⟨g, 0, none⟩, cap', rfl, hn, hcap, fun _ => ⟨g, 0, rfl, fun i hi => ?_⟩⟩
    obtain ⟨h1, h2⟩ := cellsE_at E i hi
    rw [Nat.zero_add]
    exact ⟨(h0.cellAt _ (by omega)).trans h1, (h0.cellAt _ (by omega)).trans h2⟩

/-! ### Lists of rows -/
structure Line where
  a : Option Addr
  c : Nat
  r : List Val
def cellsL (E : List Line) : List Value := E.map fun e => .slice e.a e.r.length e.c
def LinesIn (w : World) (E : List Line) : Prop := ∀ e ∈ E, RowAt w e.a e.r ∧ rowOK e.r
def LineCells (w : World) (a : Option Addr) (E : List Line) : Prop :=
  E ≠ [] → ∃ b off, a = some ⟨b, off, none⟩ ∧ ∀ i (h : i < E.length), w.cell? ⟨b, off + i, none⟩ = some (.slice (E[i]).a (E[i]).r.length (E[i]).c)
theorem LineCells.later {w w' : World} {a : Option Addr} {E : List Line} (h : LineCells w a E) (hb : Below w.heap.size w w') : LineCells w' a E := fun hn => by
  obtain ⟨b, off, e, hc⟩ := h hn
  exact ⟨b, off, e, fun i hi => cell_later hb (hc i hi)⟩
theorem LinesIn.later {w w' : World} {E : List Line} (h : LinesIn w E) (hb : Below w.heap.size w w') : LinesIn w' E := fun e he => ⟨(h e he).1.later hb, (h e he).2⟩
def LinesAt (w : World) (a : Option Addr) (E : List Line) : Prop := LineCells w a E ∧ LinesIn w E
theorem LinesAt.later {w w' : World} {a : Option Addr} {E : List Line} (h : LinesAt w a E) (hb : Below w.heap.size w w') : LinesAt w' a E := ⟨h.1.later hb, h.2.later hb⟩
theorem cellsL_snoc (E : List Line) (e : Line) : cellsL (E ++ [e]) = cellsL E ++ [.slice e.a e.r.length e.c] := by simp [cellsL]
theorem cellsL_len (E : List Line) : (cellsL E).length = E.length := List.length_map _
theorem lines_owned {base B : Nat} {w : World} {v : Value} {E : List Line} (h : w.ownsRow base B 1 v E.length (cellsL E)) : ∃ a c, v = .slice a E.length c ∧ E.length ≤ c ∧ c ≤ maxLen ∧ LineCells w a E := by
  have h0 := h
  obtain ⟨_, hcase⟩ := h
  rcases hcase with ⟨rfl, hl⟩ | ⟨g, cap', cur, rfl, hg, hh, hn, hcap, hsz, htake⟩
  · exact ⟨none, 0, by rw [hl], by omega, by unfold maxLen; omega, fun hne => absurd (List.length_eq_zero_iff.1 hl) hne⟩
  · refine ⟨some ⟨g, 0, none⟩, cap', rfl, hn, hcap, fun _ => ⟨g, 0, rfl, fun i hi => ?_⟩⟩
    rw [Nat.zero_add, h0.cellAt _ (by omega)]
    simp [cellsL, hi]

/-! ### Blocks that an append leaves -/
/-- Below base all is as it was, and each block of another type than e. -/
structure KeptT (e : TypeId) (base : Nat) (w w' : World) : Prop where
  below : Below base w w'
  other : ∀ (B : Nat) cs fz (t : TypeId), t ≠ e → w.heap[B]? = some (Obj.cells cs t fz) → w'.heap[B]? = some (Obj.cells cs t fz)
theorem keptT_grown {e : TypeId} {size n : Nat} {xs : List Value} {w w' : World} {base : Nat} {v : Value} (h : w.ownsRow base e size v n xs) (hb : base ≤ w.heap.size) (hg : w.grownBy w' v.ownBlock) : KeptT e base w w' := by
  refine ⟨(Below.refl _ _).grown hg hb (fun k hk => (h.lt k hk).1), fun B cs fz t ht hB => ?_⟩
  rw [hg.block B (Array.getElem?_eq_some_iff.1 hB).1 (fun hB' => ?_)]; exact hB
  rcases h.2 with ⟨rfl, _⟩ | ⟨g, cap, cur, rfl, _, hh, _⟩
  · cases hB'
  · have hB' : B = g := Option.some.inj hB'
    subst hB'
    rw [hh] at hB
    obtain ⟨-, h2, -⟩ := Obj.cells.inj (Option.some.inj hB)
    exact ht h2.symm
end Go.Proofs.YtneebnankghhgacGreatDoor
