/- TreeNil: a nil tree has nothing, and orders that may not be make none: a contract of the call, in whatever memory. Conditions: none. -/
import Derived.Test.YtabpfibncipfjaaUh
import Derived.Test.YtabpfibncipfjaaUp
namespace Go.Proofs.Ytabpfibncipfjaa
open Go.RowKit

attribute [local go_sem] Oper.semAt_some
set_option maxRecDepth 1000000 in
set_option maxHeartbeats 8000000 in
theorem lawTreeNil (o : Int) (k : ByteArray) (n : Int) (w : World) :
    Calls Try.prog 7 #[.int .i64 o, .string k, .int .i64 n] w fun e w' => e = .returned (.bool true) ∧ Below w.heap.size w w' := by
  refine (callsIn_wide (n := 3)).1 ?_
  refine callsIn_of_wp_marks Try.func7 rfl trivial ?_ rfl
  simp only [Try.ntmps7, List.size_toArray, List.length_cons, List.length_nil, Nat.reduceAdd, Nat.reduceSub, Array.replicate_succ, Array.replicate_zero, List.push_toArray, List.append_toArray, List.nil_append, List.cons_append]
  gi_wp2_with fail
  refine ⟨trivial, (callsIn_wide.2 (awakeT_any _)).mono ?_⟩
  rintro e w1 ⟨rfl, hb1⟩
  gi_wp2_with fail
  refine ⟨trivial, (callsIn_wide.2 (nilGet _ _)).mono ?_⟩
  rintro e w' ⟨rfl, rfl⟩
  gi_wp2_with fail
  refine ⟨trivial, (callsIn_wide.2 (nilPut _ _ _)).mono ?_⟩
  rintro e w' ⟨rfl, rfl⟩
  gi_wp2_with fail
  refine ⟨trivial, (callsIn_wide.2 (nilCut _ _)).mono ?_⟩
  rintro e w' ⟨rfl, rfl⟩
  gi_wp2_with fail
  refine ⟨trivial, (callsIn_wide.2 (newS_any _ _)).mono ?_⟩
  rintro e w2 ⟨⟨nv, rfl⟩, hb2⟩
  obtain ⟨ev, hev⟩ : ∃ ev : Int, (if o < 3 ∨ 64 < o then (1 : Int) else 0) = ev := ⟨_, rfl⟩
  rw [hev]
  gi_wp2_with fail
  have b7 := Boxed.new w2 3 (.int .i64 0)
  have hB0 : Below w.heap.size w (w2.alloc (.cells #[.int .i64 0] 3)) := (hb1.trans (hb2.mono hb1.size)).alloc (Nat.le_trans hb1.size hb2.size) _
  have hsz : (w2.alloc (.cells #[.int .i64 0] 3)).heap.size = w2.heap.size + 1 := by simp
  refine ⟨trivial, (callsIn_wide.2 (nilScan _ _ _)).mono ?_⟩
  rintro e w3 ⟨rfl, hb⟩
  have hs1 := hb.size
  rw [hsz] at hs1
  have h02 : w.heap.size ≤ w2.heap.size := Nat.le_trans hb1.size hb2.size
  have hB1 := hB0.trans (hb.mono hB0.size)
  have p7 : Boxed w3 w2.heap.size 3 (.int .i64 0) := (hb.block _ b7.lt).trans b7
  clear hb b7 hB0 hsz hb1 hb2
  have eg : ∀ args W, (callFunc 38 args).run Try.prog W = .ok (.enter 38 args) W := enters_of Try.func38 (by kernel_rfl) rfl
  gi_wp2_with fail
  refine wpIn_rangeFunc_ownH rfl (by omega) (gf := 38) (lb := #[]) rfl trivial eg (nilSeq (Kp := KeepB (fun q => q < w3.heap.size ∧ q ≠ w2.heap.size)) (w := w3)) (fun h k => h.trans k) (fun W l o o' h1 _ _ _ => KeepB.put (fun hk => by have := hk.1; omega)) (Below.refl _ _) (fun _ => rfl)
    (fun pre W => Boxed W w2.heap.size 3 (.int .i64 0) ∧ (Below w.heap.size w W ∧ w3.heap.size ≤ W.heap.size))
    (fun _ _ _ => False)
    ?own
    (fun _ _ _ _ _ hs _ _ => hs)
    ⟨p7, hB1, Nat.le_refl _⟩
    (fun x a' W => True)
    (fun x a' _ X Y row hs hg hr => hs)
    ?assign ?body ?done ?stop
  case own => exact OwnFrom.and (Own.from (boxed_own w2.heap.size 3 (fun _ => Value.int .i64 0)) _) (OwnFrom.and (ownFrom_below (Nat.le_refl _) hB1.size) (fun _ _ _ _ hs hg _ => Nat.le_trans hs hg.size))
  case assign =>
    rintro l pre x W K ⟨p1, hB, hs⟩ hK
    gi_wp2
    exact hK _ _ ((KeepsOthers.refl _).from _) (KeepB.refl _ _) ⟨p1, hB, hs⟩ trivial
  case body =>
    rintro l pre x a' W hl _ _ _ hlt
    exact absurd hlt (Nat.not_lt_zero _)
  case done =>
    rintro D ys W hD rfl ⟨p1, hB, hs⟩ hK
    have c1 := p1.cell
    have hDl : D < W.heap.size := by rcases Nat.lt_or_ge D W.heap.size with h | h; exact h; rw [Array.getElem?_eq_none h] at hK; cases hK
    gi_wp2_with fail
    refine ⟨trivial, (callsIn_wide.2 (awakeT_any _)).mono ?_⟩
    rintro e w4 ⟨rfl, hb4⟩
    have c4 := cell_later hb4 c1
    have hK4 : w4.heap[D]? = some (.deferred (some [])) := (hb4.block _ hDl).trans hK
    have hB4 := hB.trans (hb4.mono hB.size)
    have hs4 := hb4.size
    clear hb4
    gi_wp2_with fail
    refine ⟨trivial, (callsIn_wide.2 (nilLen _)).mono ?_⟩
    rintro e w' ⟨rfl, rfl⟩
    gi_wp2_with fail
    refine ⟨trivial, (callsIn_wide.2 (nilDepth _)).mono ?_⟩
    rintro e w' ⟨rfl, rfl⟩
    gi_wp2_with fail
    refine ⟨trivial, (callsIn_wide.2 (nilKeys _ _ _)).mono ?_⟩
    rintro e w5 ⟨rfl, hb5⟩
    have c5 := cell_later hb5 c4
    have hK5 : w5.heap[D]? = some (.deferred (some [])) := (hb5.block _ (by omega)).trans hK4
    have hB5 := hB4.trans (hb5.mono hB4.size)
    have hs5 := hb5.size
    clear hb5 hK4 hK c1 c4
    have hEnd : Below w.heap.size w (w5.putObj D (.deferred none)) := hB5.trans ((Below.refl w.heap.size w5).grown (grownBy_putObj' w5 D (.deferred none)) hB5.size (fun k e => by cases e; omega))
    by_cases ho : o < 3 ∨ 64 < o
    · rw [if_pos ho] at hev
      subst hev
      rcases ho with ho | ho
      · have ho1 : ¬ 3 ≤ o := by omega
        gi_wp2_with fail
        refine ⟨by simp, .inl ⟨_, _, rfl, run_takeDeferred hK5, ?_⟩⟩
        exact ⟨_, results_tmp rfl _ _ _, by first | rfl | (show Ending.returned (Value.bool !decide (o ≤ 64)) = Ending.returned (Value.bool true); simp [ho2]), hEnd⟩
      · have ho1 : 3 ≤ o := by omega
        have ho2 : ¬ o ≤ 64 := by omega
        gi_wp2_with fail
        refine ⟨by simp, .inl ⟨_, _, rfl, run_takeDeferred hK5, ?_⟩⟩
        exact ⟨_, results_tmp rfl _ _ _, by first | rfl | (show Ending.returned (Value.bool !decide (o ≤ 64)) = Ending.returned (Value.bool true); simp [ho2]), hEnd⟩
    · rw [if_neg ho] at hev
      subst hev
      have ho1 : 3 ≤ o := by omega
      have ho2 : o ≤ 64 := by omega
      gi_wp2_with fail
      refine ⟨by simp, .inl ⟨_, _, rfl, run_takeDeferred hK5, ?_⟩⟩
      exact ⟨_, results_tmp rfl _ _ _, by first | rfl | (show Ending.returned (Value.bool !decide (o ≤ 64)) = Ending.returned (Value.bool true); simp [ho2]), hEnd⟩
  case stop =>
    rintro D c pre W _ _ h _
    exact h.elim
end Go.Proofs.Ytabpfibncipfjaa
