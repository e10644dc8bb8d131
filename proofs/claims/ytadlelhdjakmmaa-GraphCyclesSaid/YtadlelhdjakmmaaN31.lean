/- GraphCycles: names that stand in a row so that each reads only earlier ones may stand together; with the first one reading the last one they may not: the row. Conditions: none. -/
import Derived.Test.YtadlelhdjakmmaaZa
import Derived.Test.YtadlelhdjakmmaaN25
import Derived.Test.YtadlelhdjakmmaaN30
namespace Go.Proofs.Ytadlelhdjakmmaa
open Go.ChangeShapes Go.WideShapes Go.ChangeAt Go.RowKit Go.Joins Go.Deep

set_option maxRecDepth 1000000 in
theorem cellsU16 : Try.prog.cellsOf 39 = 1 := by kernel_rfl
section
variable {H : Type} {enc : TypeId × Value → H} {w : World} {base : Nat} {sp : Nat → Bool} {held : Bool}
theorem open_u16s {r : Reach} {b0 : Nat} {v : Value} {d : DataW H} {p : List MemPlace} (hv : Value.okWide Try.prog w r b0 37 v) (h : DataW.Trod enc Try.prog w base sp held 37 v d p) :
    ∃ (a : Option Addr) (l : List Int) (c : Nat), v = .slice a l.length c ∧ RowC w 1 a (l.map fun x => [Value.int .u16 x]) ∧ (∀ x ∈ l, 0 ≤ x ∧ x ≤ 65535) ∧ l.length ≤ 9223372036854775807 := by
  obtain ⟨a0, len0, cap0, rfl⟩ := okWide_slice Try.underlying37 hv
  obtain ⟨fuel, hf⟩ := h
  rcases open_slice Try.underlying37 hf with ⟨hcs, _⟩ | ⟨a, len, cap, mm, n3, D, Pl, hcs, _, hl, hmx, hmm, hdx, hi⟩
  · simp [Value.cells] at hcs
    obtain ⟨rfl, rfl, rfl⟩ := hcs
    exact ⟨none, [], 0, rfl, ⟨fun i hi => absurd hi (by simp)⟩, fun x hx => absurd hx (by simp), by simp⟩
  · simp [Value.cells] at hcs
    obtain ⟨rfl, rfl, rfl⟩ := hcs
    have hlm : len0 ≤ mm := by rw [hmm]; split <;> omega
    have eachx : ∀ i, i < len0 → ∃ y : Int, (∀ j v, ([Value.int .u16 y])[j]? = some v → w.cell? ((a.add (i * 1)).add j) = some v) ∧ (0 ≤ y ∧ y ≤ 65535) := by
      intro i hil
      obtain ⟨cs', hc', ht'⟩ := hi i (by omega)
      rw [cellsU16] at hc'
      obtain ⟨y, e, _, ws⟩ := DataW.trod_int Try.underlying39 ht'
      subst e
      obtain ⟨_, hcl', hat⟩ := World.cells?_some hc'
      refine ⟨y, fun j v hv => ?_, ?_⟩
      · have hj : j < [Value.int .u16 y].length := (List.getElem?_eq_some_iff.1 hv).1
        rw [hat j (by rw [← hcl']; exact hj)]
        exact hv
      · exact bounds_u16 ws
    obtain ⟨l, hll, hp⟩ := list_of_each len0 eachx
    subst hll
    refine ⟨some a, l, cap0, rfl, rowc_of (by omega) (fun x hx => ?_) (fun i hi j v hv => ?_), fun y hy => ?_, ?_⟩
    · obtain ⟨c, _, rfl⟩ := List.mem_map.1 hx; rfl
    · have hi' : i < l.length := by simpa using hi
      exact (hp i hi').1 j v (by simpa using hv)
    · obtain ⟨i, hi', rfl⟩ := List.mem_iff_getElem.1 hy
      exact (hp i hi').2
    · have : cap0 ≤ maxLen := hmx
      unfold maxLen at this
      omega
end
set_option maxRecDepth 100000 in
theorem cycles_lifted (os : Os) (started : os.Started) (H : Type) (enc : TypeId × Value → H) :
    ReturnsInHanded {} Try.checked os 6 .any (Rows.graphCyclesSpec.pre6 enc Try.prog Try.f6 Rows.graphCyclesRow.domain false) (Rows.graphCyclesSpec.post enc Try.prog Try.f6 false true false false) := by
  refine returnsInHanded_of_change_sized (C := Try.checked) own started (by kernel_rfl) Try.func6
    (ChangeSpec.witness6 (enc := enc) (C := Try.checked) false ⟨#[], #[.slice none 0 0, .int .u8 0], []⟩ 8 (by kernel_rfl) (by kernel_rfl) (by kernel_rfl) (by kernel_rfl)) ?_
  intro W base args ds gs before hval0 hW _ hsz0 _
  have hval : ∀ (j : Nat) t v, Try.f6.params[j]? = some t → args[j]? = some v → Value.okWide Try.prog W .any base t v := hval0
  clear hsz0
  have hW' := hW
  obtain ⟨p, q, hA0, hV, rfl, _, _⟩ := hW
  have hA : DataW.TrodAll enc Try.prog W 0 (fun _ => true) true Try.f6.params.toList args.toList ds p := hA0
  rw [Try.params6] at hA hval
  obtain ⟨v0, v1, d0, d1, p0, p1, rfl, rfl, rfl, h0, h1⟩ := trodAll_two hA
  obtain ⟨rfl, rfl⟩ := trodVars_none hV
  have hlt : ∀ x ∈ p0 ++ p1, x.block < W.heap.size := fun x hx => hW'.lt x (by simpa using hx)
  have h0k := h0
  obtain ⟨a0, l0, c0, rfl, hr0, hx0, hm0⟩ := open_u16s (hval 0 37 v0 rfl rfl) h0
  obtain ⟨n1, rfl, rfl, rfl, wn1⟩ := open_int Try.underlying5 (hval 1 5 v1 rfl rfl) h1
  have hn1 : 0 ≤ n1 := (bounds_u8 wn1).1
  refine (lawGraphCycles a0 c0 l0 n1 W hr0 hm0 hx0 hn1).mono fun e W' ⟨he, hb⟩ => ?_
  subst he
  have sh : ∀ {v : Value} {d : DataW H} {ps : List MemPlace}, DataW.Trod enc Try.prog W 0 (fun _ => true) true 37 v d ps → (∀ x ∈ ps, x.block < W.heap.size) → DataW.Trod enc Try.prog W' 0 (fun b => decide (b < W.heap.size)) true 37 v d ps :=
    fun h hl => Below.trod laidOut (by kernel_rfl) (of_decide_eq_true (by kernel_rfl)) h hb hl
  exact ⟨_, rfl, _, _, _, [], _, [], hW', trodAll_mk1 (shut_bool Try.underlying4 true), trodAll_mk2 (sh h0k (fun x hx => hlt x (by simp [hx]))) (shut_int Try.underlying5 wn1), rfl, hb.frame _, fun h => by cases h⟩

theorem cycles_row : Rows.GraphCyclesSaid :=
  OpenClaim.holds_of_wide 6 Try.f6 rfl rfl rfl rfl rfl rfl rfl ⟨rfl, rfl, rfl, rfl, rfl⟩ rfl rfl rfl rfl rfl (by kernel_rfl) Try.func6 (by kernel_rfl)
    (of_decide_eq_true (by kernel_rfl)) (by unfold Func.isWrapper; first | (rw [if_pos (by decide +kernel)]; kernel_rfl) | (rw [if_neg (by decide +kernel)]; exact ⟨rfl, rfl⟩))
    (fun os started H enc _ => cycles_lifted os started H enc)
end Go.Proofs.Ytadlelhdjakmmaa
