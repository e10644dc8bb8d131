/- Several of my texts laid together, each as it was: Zo. Conditions: each names its own. -/
import Derived.Test.YtneebnankghhgabZq
import Derived.Test.YtneebnankghhgabUe
/- A list of steps of layer 7 that came in, opened: their cells, how great it may be. Nothing of any program here but the types. Conditions: none. -/
namespace Go.Proofs.Ytneebnankghhgab
open Go.ChangeShapes Go.WideShapes Go.ChangeAt Go.RowKit Go.Joins Go.Deep

theorem cellsOp7 : Try.prog.cellsOf 39 = 3 := by kernel_rfl
theorem bytesOp7 : Try.prog.bytesOf 39 = 32 := by kernel_rfl
theorem three_in7 {α : Type} : ∀ {l : List α}, l.length = 3 → ∃ a b c, l = [a, b, c]
  | [a, b, c], _ => ⟨a, b, c, rfl⟩
section
variable {H : Type} {enc : TypeId × Value → H} {w : World} {base : Nat} {sp : Nat → Bool} {held : Bool}
set_option maxRecDepth 100000 in
theorem open_ops7 {r : Reach} {b0 : Nat} {v : Value} {d : DataW H} {p : List MemPlace} (hv : Value.okWide Try.prog w r b0 22 v) (h : DataW.Trod enc Try.prog w base sp held 22 v d p) (hw : ∀ n ∈ d.weights Try.prog 22, n ≤ reachBytes) :
    ∃ (a : Option Addr) (c : Nat) (L : List OpR), v = .slice a L.length c ∧ OpsAt7 w a L := by
  obtain ⟨a0, len, cap, rfl⟩ := okWide_slice Try.underlying22 hv
  obtain ⟨fuel, hf⟩ := h
  rcases open_slice Try.underlying22 hf with ⟨hcs, _⟩ | ⟨a, len', cap', m, n, D, Pl, hcs, _, hl, hm, hmm, hdx, hi⟩
  · simp [Value.cells] at hcs
    obtain ⟨rfl, rfl, rfl⟩ := hcs
    exact ⟨none, 0, [], rfl, fun h => absurd rfl h, by simp⟩
  · simp [Value.cells] at hcs
    obtain ⟨rfl, rfl, rfl⟩ := hcs
    have hlm : len ≤ m := by rw [hmm]; split <;> omega
    have hd : d = .slice ((List.range len).map D) ((List.range (m - len)).map fun j => D (len + j)) := congrArg Prod.fst hdx
    rw [hd] at hw
    simp only [DataW.weights, Try.underlying22] at hw
    have hbytes : len * 32 ≤ 140737488351232 := by
      have h := hw _ List.mem_cons_self
      rw [bytesOp7] at h
      simp [reachBytes] at h
      omega
    have each : ∀ i, i < len → ∃ x : OpR, (w.cell? (a.add (i * 3)) = some (.int .i64 x.k) ∧ w.cell? (a.add (i * 3 + 1)) = some (.string (txt x.key)) ∧ w.cell? (a.add (i * 3 + 2)) = some (.int .i64 x.n)) := by
      intro i hil
      obtain ⟨cs', hc, ht⟩ := hi i (by omega)
      rw [cellsOp7] at hc
      obtain ⟨z0, z1, z2, n1, hx, _, g0, g1, g2⟩ := trod_struct3 Try.underlying39 ht
      obtain ⟨_, hcl, hat⟩ := World.cells?_some hc
      obtain ⟨x0, x1, x2, rfl⟩ := three_in7 hcl
      have k3 : Try.prog.cellsOf 3 = 1 := by kernel_rfl
      have k9 : Try.prog.cellsOf 9 = 1 := by kernel_rfl
      simp only [k3, k9] at g0 g1 g2
      obtain ⟨k, e0, _, wk⟩ := DataW.trod_int Try.underlying3 g0
      obtain ⟨s, e1, hs, ws⟩ := DataW.trod_string Try.underlying9 g1
      obtain ⟨y, e2, _, wy⟩ := DataW.trod_int Try.underlying3 g2
      simp at e0 e1 e2
      subst e0 e1 e2
      have h0 := hat 0 (by omega)
      have h1 := hat 1 (by omega)
      have h2 := hat 2 (by omega)
      rw [add_add] at h0 h1 h2
      refine ⟨⟨k, s.data.toList, y⟩, by simpa using h0, ?_, by simpa using h2⟩
      show _ = some (Value.string (txt s.data.toList))
      rw [txt_of]; simpa using h1
    obtain ⟨l, hll, hp⟩ := list_of_each len each
    subst hll
    refine ⟨some a, cap, l, rfl, fun hne => ?_, hbytes⟩
    have hpos : 0 < l.length := by
      cases l with
      | nil => exact absurd rfl hne
      | cons _ _ => simp
    obtain ⟨b, off, spot⟩ := a
    have hspot : spot = none := by simpa [Addr.add] using World.cell?_spot (hp 0 hpos).1
    subst hspot
    refine ⟨b, off, rfl, fun i hi' => ?_⟩
    have := (hp i hi')
    simp only [Go.WideShapes.add_plain] at this
    refine ⟨this.1, ?_, ?_⟩
    · rw [Nat.add_assoc]; exact this.2.1
    · rw [Nat.add_assoc]; exact this.2.2
end
end Go.Proofs.Ytneebnankghhgab
