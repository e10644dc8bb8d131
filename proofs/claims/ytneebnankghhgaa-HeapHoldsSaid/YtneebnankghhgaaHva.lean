/- Several of my texts laid together, each as it was: Hva. Conditions: each names its own. -/
import Derived.Test.YtneebnankghhgaaHt
import Derived.Deep.RegionHeld3
/- A region that draws its order, in the body of a loop over a function: it goes as it goes elsewhere; what List answers, as cells. Conditions: it defers nothing. -/
namespace Go.Proofs.Ytneebnankghhgaa
open Go.RowKit Go.Shelf

attribute [local go_sem] Oper.semAt_some

section
variable {P : Program} {ops : Array Oper} {Q : Exit → Act → World → Prop} {md : Region.Mode} {S : World → Prop}
theorem rows_round {n l : Nat} {row : String} {args : Array Value} {w : World} {R : Value → World → Prop} (h : Rows P row args w R) : RowsIn (Fence.wide.inRound l) n P row args w R := fun c cs _ => by
  obtain ⟨v, w'', r, s⟩ := h c cs
  exact ⟨v, w'', r, (stepsIn_wide.2 s : StepsIn (Machine.fenced P Fence.wide) P _ _)⟩
theorem upon_round {n l : Nat} {o : Oper} {a : Act} {K : Act → World → Prop} {r : Result Next} (h : o.upon P a K Q r) : o.uponIn (Fence.wide.inRound l) n P a K Q r := by
  cases r with
  | ok x w' =>
    cases x <;> first
      | exact h
      | exact ⟨fun h => (by cases h), CallsIn.mono (CallsIn.inRound l (callsIn_wide.2 h)) (fun e w'' he => by cases e <;> exact he)⟩
      | exact ⟨fun h => (by cases h), rows_round h⟩
      | exact (h : False).elim
  | halt x w' => cases x <;> exact h
/-- It defers nothing. -/
def calmB (ops : Array Oper) : Bool := ops.all fun o => match o.op with | .defer _ => false | _ => true
theorem calm_at (h : calmB ops = true) {i : Nat} {o : Oper} (ho : ops[i]? = some o) : ∀ c, o.op ≠ .defer c := by
  intro c e
  obtain ⟨hlt, rfl⟩ := Array.getElem?_eq_some_iff.1 ho
  have h1 := (Array.all_eq_true.1 h) i hlt
  rw [e] at h1
  cases h1
theorem op_round {n l i : Nat} {K : Act → World → Prop} {a : Act} {w : World} (hc : calmB ops = true) (hq : ¬ LetsOut Q) (h : wpOp P ops Q i K a w) : wpOpIn (Fence.wide.inRound l) n P ops Q i K a w := by
  unfold wpOp at h
  unfold wpOpIn
  cases ho : ops[i]? with
  | none => rw [ho] at h; exact h
  | some o =>
    rw [ho] at h
    dsimp only at h ⊢
    by_cases hw : Region.wanted o (yielded ops a.tmps) = true
    · rw [if_pos hw] at h ⊢
      rcases h with h | h
      · refine ⟨fun f _ => trivial, ?_⟩
        rw [Oper.semAt_eq _ _ _ (calm_at hc ho)]
        exact upon_round h
      · exact absurd h.2 hq
    · rw [if_neg hw] at h ⊢
      exact ⟨fun f _ => trivial, h⟩
theorem any_round {n l : Nat} (hc : calmB ops = true) (hq : ¬ LetsOut Q) : ∀ (fuel : Nat) (listed : Array Bool) (a : Act) (w : World), wpAny P md ops Q fuel listed a w → wpAnyIn (Fence.wide.inRound l) n P md ops Q fuel listed a w
  | 0, _, _, _, h => h
  | fuel + 1, _, _, _, h => ⟨h.1, fun i hi => wpOpIn_mono (fun a' w' h' => any_round hc hq fuel _ a' w' h') (op_round hc hq (h.2 i hi))⟩
/-- A region that draws its order, in a round: with what it keeps. -/
theorem region_round {n l id : Nat} {a : Act} {w : World} (hm : P.follows .mixedOrders = true) (hc : calmB ops = true) (hq : ¬ LetsOut Q) (hS : S w.drew)
    (h : S w.drew → wpAnyH P .any ops Q S ops.size (Array.replicate ops.size false) a w.drew) : (Code.region id ops true).wpIn (Fence.wide.inRound l) n P Q a w :=
  wpIn_region_any hm (any_round hc hq _ _ _ _ (wpAny_of_held _ _ _ _ (h hS)))
end

/-! ### What List answers, as cells -/
structure IdsAt (w : World) (a : Option Addr) (L : List At) : Prop where
  out : L ≠ [] → ∃ b, a = some ⟨b, 0, none⟩ ∧ ∀ i (h : i < L.length), w.cell? ⟨b, i * 2, none⟩ = some (.int .i64 (L[i].1 : Int)) ∧ w.cell? ⟨b, i * 2 + 1, none⟩ = some (.int .i64 (L[i].2.1 : Int))
structure StrsAt (w : World) (a : Option Addr) (L : List At) : Prop where
  out : L ≠ [] → ∃ b, a = some ⟨b, 0, none⟩ ∧ ∀ i (h : i < L.length), w.cell? ⟨b, i, none⟩ = some (.string (txt L[i].2.2))
theorem IdsAt.later {w w' : World} {a : Option Addr} {L : List At} (h : IdsAt w a L) (hb : Below w.heap.size w w') : IdsAt w' a L := ⟨fun hn => by
  obtain ⟨b, e, hc⟩ := h.out hn
  exact ⟨b, e, fun i hi => ⟨cell_later hb (hc i hi).1, cell_later hb (hc i hi).2⟩⟩⟩
theorem StrsAt.later {w w' : World} {a : Option Addr} {L : List At} (h : StrsAt w a L) (hb : Below w.heap.size w w') : StrsAt w' a L := ⟨fun hn => by
  obtain ⟨b, e, hc⟩ := h.out hn
  exact ⟨b, e, fun i hi => cell_later hb (hc i hi)⟩⟩
theorem idCells_at : ∀ (L : List At) (i : Nat) (h : i < L.length), (idCells L)[i * 2]? = some (.int .i64 (L[i].1 : Int)) ∧ (idCells L)[i * 2 + 1]? = some (.int .i64 (L[i].2.1 : Int))
  | t :: L, 0, _ => ⟨rfl, rfl⟩
  | t :: L, i + 1, h => by
    have ih := idCells_at L i (by simpa using h)
    have e : idCells (t :: L) = [.int .i64 (t.1 : Int), .int .i64 (t.2.1 : Int)] ++ idCells L := rfl
    have g : ∀ d, (idCells (t :: L))[(i + 1) * 2 + d]? = (idCells L)[i * 2 + d]? := fun d => by
      rw [e, List.getElem?_append_right (by simp; omega)]
      congr 1
      simp; omega
    exact ⟨(g 0).trans ih.1, (g 1).trans ih.2⟩
theorem ids_owned {w : World} {base : Nat} {v : Value} {L : List At} (h : w.ownsRow base 29 2 v L.length (idCells L)) : ∃ a c, v = .slice a L.length c ∧ IdsAt w a L ∧ (∀ b, a = some ⟨b, 0, none⟩ → base ≤ b) := by
  rcases h.2 with ⟨rfl, hl⟩ | ⟨g, cap', cur, rfl, hg, hh, hn, hcap, hsz, htake⟩
  · exact ⟨none, 0, by rw [hl], ⟨fun hne => absurd (List.length_eq_zero_iff.1 hl) hne⟩, fun b e => by cases e⟩
  · refine ⟨some ⟨g, 0, none⟩, cap', rfl, ⟨fun _ => ⟨g, rfl, fun i hi => ?_⟩⟩, fun b e => by
      obtain rfl : g = b := by simpa using e
      exact hg⟩
    obtain ⟨h1, h2⟩ := idCells_at L i hi
    exact ⟨(h.cellAt _ (by omega)).trans h1, (h.cellAt _ (by omega)).trans h2⟩
theorem strs_owned {w : World} {base : Nat} {v : Value} {L : List At} (h : w.ownsRow base 9 1 v L.length (strCells L)) : ∃ a c, v = .slice a L.length c ∧ StrsAt w a L ∧ (∀ b, a = some ⟨b, 0, none⟩ → base ≤ b) := by
  rcases h.2 with ⟨rfl, hl⟩ | ⟨g, cap', cur, rfl, hg, hh, hn, hcap, hsz, htake⟩
  · exact ⟨none, 0, by rw [hl], ⟨fun hne => absurd (List.length_eq_zero_iff.1 hl) hne⟩, fun b e => by cases e⟩
  · refine ⟨some ⟨g, 0, none⟩, cap', rfl, ⟨fun _ => ⟨g, rfl, fun i hi => ?_⟩⟩, fun b e => by
      obtain rfl : g = b := by simpa using e
      exact hg⟩
    exact (h.cellAt _ (by omega)).trans (by simp [strCells, hi])
end Go.Proofs.Ytneebnankghhgaa
