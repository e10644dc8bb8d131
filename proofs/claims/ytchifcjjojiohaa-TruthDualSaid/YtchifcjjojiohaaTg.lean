/- What the walk of TruthDual needs: And and Or of lists in parts, and of the nots; what a slice that a call built itself holds; a list's beginning and its end. Conditions: each names its own. -/
import Derived.Test.YtchifcjjojiohaaTd
import Derived.WalkKit
import Derived.OwnWalk
namespace Go.Proofs.Ytchifcjjojiohaa
open Go.RowKit

theorem info3 : (Try.prog.info? 3).map (fun i => (i.zero, i.size, i.bytes)) = some (some (.int .i64 0), 1, 8) := by kernel_rfl

theorem andV_from (l : List Int) : ∀ m : Int, m ≤ 2 → l.foldl (fun m t => min m (knownV t)) m = min m (andV l) := by
  induction l with
  | nil => intro m h; simp [andV]; omega
  | cons t l ih =>
    intro m h
    have hk := knownV_cases t
    have e1 := ih (min m (knownV t)) (by omega)
    have e2 := ih (min 2 (knownV t)) (by omega)
    show l.foldl _ (min m (knownV t)) = min m (l.foldl _ (min 2 (knownV t)))
    rw [e1, e2]; omega
theorem orV_from (l : List Int) : ∀ m : Int, 0 ≤ m → l.foldl (fun m t => max m (knownV t)) m = max m (orV l) := by
  induction l with
  | nil => intro m h; simp [orV]; omega
  | cons t l ih =>
    intro m h
    have hk := knownV_cases t
    have e1 := ih (max m (knownV t)) (by omega)
    have e2 := ih (max 0 (knownV t)) (by omega)
    show l.foldl _ (max m (knownV t)) = max m (l.foldl _ (max 0 (knownV t)))
    rw [e1, e2]; omega
theorem andV_cons (t : Int) (l : List Int) : andV (t :: l) = min (knownV t) (andV l) := by
  have := knownV_cases t
  show l.foldl _ (min 2 (knownV t)) = _
  rw [andV_from l _ (by omega)]
  omega
theorem orV_cons (t : Int) (l : List Int) : orV (t :: l) = max (knownV t) (orV l) := by
  have := knownV_cases t
  show l.foldl _ (max 0 (knownV t)) = _
  rw [orV_from l _ (by omega)]
  omega
theorem andV_append (x y : List Int) : andV (x ++ y) = min (andV x) (andV y) := by
  induction x with
  | nil => have := andV_cases y; simp only [List.nil_append, andV_nil]; omega
  | cons t x ih => rw [List.cons_append, andV_cons, andV_cons, ih]; omega
theorem orV_append (x y : List Int) : orV (x ++ y) = max (orV x) (orV y) := by
  induction x with
  | nil => have := orV_cases y; simp only [List.nil_append, orV_nil]; omega
  | cons t x ih => rw [List.cons_append, orV_cons, orV_cons, ih]; omega
theorem known_and (l : List Int) : knownV (andV l) = andV l := by rcases andV_cases l with h | h | h <;> rw [h] <;> rfl
theorem known_or (l : List Int) : knownV (orV l) = orV l := by rcases orV_cases l with h | h | h <;> rw [h] <;> rfl
theorem and_parts (l : List Int) (k : Nat) : andV [andV (l.take k), andV (l.drop k)] = andV l := by
  have e := andV_append (l.take k) (l.drop k)
  rw [List.take_append_drop] at e
  have h1 := andV_cases (l.drop k)
  rw [andV_cons, andV_cons, andV_nil, known_and, known_and, e]; omega
theorem or_parts (l : List Int) (k : Nat) : orV [orV (l.take k), orV (l.drop k)] = orV l := by
  have e := orV_append (l.take k) (l.drop k)
  rw [List.take_append_drop] at e
  have h1 := orV_cases (l.drop k)
  rw [orV_cons, orV_cons, orV_nil, known_or, known_or, e]; omega
theorem not_and (l : List Int) : notV (andV l) = orV (l.map notV) := by
  rw [not_eq, known_and]
  induction l with
  | nil => rfl
  | cons t l ih => rw [List.map_cons, andV_cons, orV_cons, ← ih, known_not, not_eq]; omega
theorem not_or (l : List Int) : notV (orV l) = andV (l.map notV) := by
  rw [not_eq, known_or]
  induction l with
  | nil => rfl
  | cons t l ih => rw [List.map_cons, orV_cons, andV_cons, ← ih, known_not, not_eq]; omega

/-- The nots of the first k. -/
def nots (l : List Int) (k : Nat) : List Value := ((l.take k).map notV).map (Value.int .i64)
theorem nots_next (l : List Int) (k : Nat) (h : k < l.length) : nots l (k + 1) = nots l k ++ [.int .i64 (notV l[k])] := by
  unfold nots; rw [take_snoc l k h, List.map_append, List.map_append]; rfl
theorem nots_len (l : List Int) (k : Nat) (h : k ≤ l.length) : (nots l k).length = k := by simp [nots]; omega

theorem rel_next {l : List Int} {k : Nat} {w wr w1 : World} {v v' : Value} {o : Obj} (hk : k < l.length) (hown : wr.ownsRow w.heap.size 3 1 v k (nots l k)) (hnx : Below w.heap.size w wr)
    (hown' : w1.ownsRow w.heap.size 3 1 v' (k + 1) (nots l k ++ [.int .i64 (notV l[k])])) (hgrow : (wr.alloc o).grownBy w1 v.ownBlock) :
    w1.ownsRow w.heap.size 3 1 v' (k + 1) (nots l (k + 1)) ∧ Below w.heap.size w w1 := by
  refine ⟨by rw [nots_next l k hk]; exact hown', (hnx.alloc hnx.size o).grown hgrow (by have := hnx.size; simp; omega) (fun j hj => by have := (hown.lt j hj).1; omega)⟩

theorem owned_at {B : Nat} {w : World} {v : Value} {l : List Int} (h : w.ownsRow B 3 1 v l.length (nots l l.length)) : ∃ a c, v = .slice a (l.map notV).length c ∧ IntsAt w a (l.map notV) := by
  have h0 := h
  obtain ⟨_, hcase⟩ := h
  rcases hcase with ⟨rfl, hl⟩ | ⟨g, cap', cur, rfl, hg, hh, hn, hcap, hsz, htake⟩
  · exact ⟨none, 0, by simp [hl], fun hne => absurd (by simpa using hl) hne⟩
  · refine ⟨some ⟨g, 0, none⟩, cap', by simp, fun _ => ⟨g, 0, rfl, fun i hi => ?_⟩⟩
    have hi' : i < l.length := by simpa using hi
    have := h0.cellAt i (by omega)
    rw [Nat.zero_add]
    rw [this]
    simp [nots, hi']

/-- A list's beginning, and its end, as the slice expressions tell them. -/
theorem head_at {w : World} {a : Option Addr} {l : List Int} (k : Nat) (h : IntsAt w a l) : IntsAt w a (l.take k) := fun hne => by
  obtain ⟨b, off, e, hc⟩ := h (fun e => hne (by simp [e]))
  exact ⟨b, off, e, fun i hi => by
    have hi' : i < l.length := by rw [List.length_take] at hi; omega
    rw [hc i hi', List.getElem_take]⟩
theorem tail_at {w : World} {a : Option Addr} {l : List Int} (k : Nat) (h : IntsAt w a l) : IntsAt w (a.map (·.add (k * 1))) (l.drop k) := fun hne => by
  obtain ⟨b, off, rfl, hc⟩ := h (fun e => hne (by simp [e]))
  refine ⟨b, off + k, by simp [WideShapes.add_plain], fun i hi => ?_⟩
  have hi' : k + i < l.length := by rw [List.length_drop] at hi; omega
  rw [Nat.add_assoc, hc (k + i) hi', List.getElem_drop]
theorem tail_here {w : World} {a : Option Addr} {l : List Int} (k : Nat) (h : l.length ≤ k) : IntsAt w a (l.drop k) := fun hne => absurd (List.drop_eq_nil_of_le h) hne

theorem slice_head (a : Option Addr) (l : List Int) (c k : Nat) (hk : k ≤ l.length) (hc : l.length ≤ c) :
    ∃ a1 k1, (l.take k).length = k1 ∧ (∀ W : World, (Instr.slice 28 (.slice a l.length c) none (some (.int .i64 k)) none).run Try.prog W = .ok (.slice a1 k1 c) W) ∧ ∀ W, IntsAt W a l → IntsAt W a1 (l.take k) := by
  refine ⟨a, _, rfl, fun W => ?_, fun W h => head_at k h⟩
  rw [run_slice_h W 28 a l.length c Try.underlying28 .i64 k (by omega) (by omega)]
  rw [List.length_take, Nat.min_eq_left hk]
  simp [go_sem, Result.andThen, sliced]
theorem slice_tail (a : Option Addr) (l : List Int) (c k : Nat) (hk : k ≤ l.length) (hc : l.length ≤ c) :
    ∃ a1 c1 k1, (l.drop k).length = k1 ∧ (∀ W : World, (Instr.slice 28 (.slice a l.length c) (some (.int .i64 k)) none none).run Try.prog W = .ok (.slice a1 k1 c1) W) ∧ ∀ W, IntsAt W a l → IntsAt W a1 (l.drop k) := by
  refine ⟨if c = k then a else a.map (·.add (k * 1)), c - k, _, rfl, fun W => ?_, fun W h => ?_⟩
  · rw [run_slice_l W 28 a l.length c Try.underlying28 .i64 k (by omega) (by omega)]
    simp [go_sem, Result.andThen, sliced]
  · split
    · exact tail_here k (by omega)
    · exact tail_at k h
theorem and_part (a : Option Addr) (n c : Nat) (l : List Int) (w : World) (h : IntsAt w a l) (hn : l.length = n) (m : l.length ≤ maxLen) :
    Calls Try.prog 16 #[.slice a n c] w fun e w' => e = .returned (.int .i64 (andV l)) ∧ w = w' := by subst hn; exact and_any a c l w h m
theorem or_part (a : Option Addr) (n c : Nat) (l : List Int) (w : World) (h : IntsAt w a l) (hn : l.length = n) (m : l.length ≤ maxLen) :
    Calls Try.prog 18 #[.slice a n c] w fun e w' => e = .returned (.int .i64 (orV l)) ∧ w = w' := by subst hn; exact or_any a c l w h m
end Go.Proofs.Ytchifcjjojiohaa
