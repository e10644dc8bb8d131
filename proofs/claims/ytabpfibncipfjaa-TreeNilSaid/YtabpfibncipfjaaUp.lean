/- A nil tree: what its calls answer; a new tree of texts: contracts of the calls, in whatever memory. Conditions: none. -/
import Derived.Test.YtabpfibncipfjaaScanI
import Derived.RangeFuncNested
import Derived.RangeFuncBox
namespace Go.Proofs.Ytabpfibncipfjaa
open Go.RowKit

theorem nilMissing (w : World) : Calls Try.prog 37 #[.pointer none] w fun e w' => e = .returned (.bool true) ∧ w = w' := by
  go_enter Try.func37, Try.ntmps37
  go_wp2
  go_ret
  exact ⟨rfl, rfl⟩
theorem nilGet (k : ByteArray) (w : World) : Calls Try.prog 24 #[.pointer none, .string k] w fun e w' => e = .returned (.tuple #[.int .i64 0, .bool false]) ∧ w = w' := by
  go_enter Try.func24, Try.ntmps24
  go_wp2_with fail
  refine (nilMissing _).mono ?_
  rintro e w' ⟨rfl, rfl⟩
  go_wp2_with fail
  go_ret2
  exact ⟨rfl, rfl⟩
theorem nilPut (k : ByteArray) (n : Int) (w : World) : Calls Try.prog 29 #[.pointer none, .string k, .int .i64 n] w fun e w' => e = .returned (.tuple #[.int .i64 0, .bool false]) ∧ w = w' := by
  go_enter Try.func29, Try.ntmps29
  go_wp2_with fail
  refine (nilGet _ _).mono ?_
  rintro e w' ⟨rfl, rfl⟩
  go_wp2_with fail
  refine (nilMissing _).mono ?_
  rintro e w' ⟨rfl, rfl⟩
  go_wp2_with fail
  go_ret2
  exact ⟨rfl, rfl⟩
theorem nilCut (k : ByteArray) (w : World) : Calls Try.prog 30 #[.pointer none, .string k] w fun e w' => e = .returned (.tuple #[.int .i64 0, .bool false]) ∧ w = w' := by
  go_enter Try.func30, Try.ntmps30
  go_wp2_with fail
  refine (nilGet _ _).mono ?_
  rintro e w' ⟨rfl, rfl⟩
  go_wp2_with fail
  go_ret2
  exact ⟨rfl, rfl⟩
theorem nilLen (w : World) : Calls Try.prog 17 #[.pointer none] w fun e w' => e = .returned (.int .i64 0) ∧ w = w' := by
  go_enter Try.func17, Try.ntmps17
  go_wp2_with fail
  refine (nilMissing _).mono ?_
  rintro e w' ⟨rfl, rfl⟩
  go_wp2_with fail
  go_ret
  exact ⟨rfl, rfl⟩
theorem nilDepth (w : World) : Calls Try.prog 16 #[.pointer none] w fun e w' => e = .returned (.int .i64 0) ∧ w = w' := by
  go_enter Try.func16, Try.ntmps16
  go_wp2_with fail
  refine (nilMissing _).mono ?_
  rintro e w' ⟨rfl, rfl⟩
  go_wp2_with fail
  go_ret
  exact ⟨rfl, rfl⟩
theorem nilScan (frm to : ByteArray) (w : World) : Calls Try.prog 14 #[.pointer none, .string frm, .string to] w fun e w' => e = .returned (.func (.func 38) #[] #[]) ∧ Below w.heap.size w w' := by
  go_enter Try.func14, Try.ntmps14
  go_wp2_with fail
  refine (nilMissing _).mono ?_
  rintro e w' ⟨rfl, rfl⟩
  go_wp2_with fail
  go_ret
  exact ⟨rfl, ((Below.refl _ _).alloc (Nat.le_refl _) _).alloc (by simp) _⟩
theorem newS_any (o : Int) (w : World) : Calls Try.prog 31 #[.int .i64 o] w fun e w' => (∃ v, e = .returned (.tuple #[v, .int .i64 (if o < 3 ∨ 64 < o then 1 else 0)])) ∧ Below w.heap.size w w' := by
  by_cases h1 : o < 3
  · rw [if_pos (.inl h1)]
    go_enter Try.func31, Try.ntmps31
    go_wp2
    go_ret2
    exact ⟨⟨_, rfl⟩, Below.refl _ _⟩
  · by_cases h2 : 64 < o
    · rw [if_pos (.inr h2)]
      go_enter Try.func31, Try.ntmps31
      go_wp2
      go_ret2
      exact ⟨⟨_, rfl⟩, Below.refl _ _⟩
    · rw [if_neg (by omega)]
      go_enter Try.func31, Try.ntmps31
      go_wp2
      go_ret2
      exact ⟨⟨_, rfl⟩, by go_grown⟩
attribute [local go_sem] Oper.semAt_some
theorem nilSeq {n : Nat} {Kp : World → World → Prop} {w : World} : SeqStopsK Fence.wide n Try.prog 38 #[] (fun x : Key × Int => #[.string (txt x.1), vI x.2]) Kp (fun ys => ys = []) (fun _ => False) 0 w := by
  intro l J Jx W _ _ _ _ hJ
  refine callsIn_of_wp_marks Try.func38 rfl trivial ?_ rfl
  gi_wp2
  first
    | exact ⟨_, by go_ret, ⟨_, rfl⟩, hJ⟩
    | exact ⟨.tuple #[], by simp [results, Try.results38, go_sem], ⟨_, rfl⟩, hJ⟩
    | exact ⟨_, rfl, ⟨_, rfl⟩, hJ⟩
set_option maxRecDepth 1000000 in
set_option maxHeartbeats 8000000 in
theorem nilKeys (frm to : ByteArray) (w : World) :
    Calls Try.prog 12 #[.pointer none, .string frm, .string to] w fun e w' => e = .returned (.slice none 0 0) ∧ Below w.heap.size w w' := by
  have b7 := Boxed.new w 29 (.slice none 0 0)
  have hB0 : Below w.heap.size w (w.alloc (.cells #[.slice none 0 0] 29)) := (Below.refl _ w).alloc (Nat.le_refl _) _
  have hsz : (w.alloc (.cells #[.slice none 0 0] 29)).heap.size = w.heap.size + 1 := by simp
  have CA := nilScan frm to (w.alloc (.cells #[.slice none 0 0] 29))
  refine (callsIn_wide (n := 3)).1 ?_
  refine callsIn_of_wp_marks Try.func12 rfl trivial ?_ rfl
  simp only [Try.ntmps12, List.size_toArray, List.length_cons, List.length_nil, Nat.reduceAdd, Nat.reduceSub, Array.replicate_succ, Array.replicate_zero, List.push_toArray, List.append_toArray, List.nil_append, List.cons_append]
  gi_wp2_with fail
  refine ⟨trivial, (callsIn_wide.2 CA).mono ?_⟩
  rintro e w1 ⟨rfl, hb⟩
  have hs1 := hb.size
  rw [hsz] at hs1
  have hB1 := hB0.trans (hb.mono hB0.size)
  have p7 : Boxed w1 w.heap.size 29 (.slice none 0 0) := (hb.block _ b7.lt).trans b7
  clear hb b7 hB0 hsz CA
  have eg : ∀ args W, (callFunc 38 args).run Try.prog W = .ok (.enter 38 args) W := enters_of Try.func38 (by kernel_rfl) rfl
  gi_wp2_with fail
  refine wpIn_rangeFunc_ownH rfl (by omega) (gf := 38) (lb := #[]) rfl trivial eg (nilSeq (Kp := KeepB (fun q => q < w1.heap.size ∧ q ≠ w.heap.size)) (w := w1)) (fun h k => h.trans k) (fun W l o o' h1 _ _ _ => KeepB.put (fun hk => by have := hk.1; omega)) (Below.refl _ _) (fun _ => rfl)
    (fun pre W => Boxed W w.heap.size 29 (.slice none 0 0) ∧ (Below w.heap.size w W ∧ w1.heap.size ≤ W.heap.size))
    (fun _ _ _ => False)
    ?own
    (fun _ _ _ _ _ hs _ _ => hs)
    ⟨p7, hB1, Nat.le_refl _⟩
    (fun x a' W => True)
    (fun x a' _ X Y row hs hg hr => hs)
    ?assign ?body ?done ?stop
  case own => exact OwnFrom.and (Own.from (boxed_own w.heap.size 29 (fun _ => Value.slice none 0 0)) _) (OwnFrom.and (ownFrom_below (Nat.le_refl _) hB1.size) (fun _ _ _ _ hs hg _ => Nat.le_trans hs hg.size))
  case assign =>
    rintro l pre x W K ⟨p1, hB, hs⟩ hK
    gi_wp2
    exact hK _ _ ((KeepsOthers.refl _).from _) (KeepB.refl _ _) ⟨p1, hB, hs⟩ trivial
  case body =>
    rintro l pre x a' W hl _ _ _ hlt
    exact absurd hlt (Nat.not_lt_zero _)
  case done =>
    rintro D ys W hD rfl ⟨p1, hB, hs⟩ hK
    have c1 := p1.cell
    gi_wp2
    refine ⟨by simp, .inl ⟨_, _, rfl, run_takeDeferred hK, ?_⟩⟩
    refine ⟨_, results_tmp rfl _ _ _, rfl, ?_⟩
    exact hB.trans ((Below.refl w.heap.size W).grown (grownBy_putObj' W D (.deferred none)) hB.size (fun k e => by cases e; have := hB1.size; omega))
  case stop =>
    rintro D c pre W _ _ h _
    exact h.elim
end Go.Proofs.Ytabpfibncipfjaa
