/- Several of my texts laid together, each as it was: Zc. Conditions: each names its own. -/
import Derived.Test.YtneebnankghhgaaZp
/- A call, and a list of steps, that came in, opened: their cells, how great they may be. Nothing of any program here but the types. Conditions: none. -/
namespace Go.Proofs.Ytneebnankghhgaa
open Go.ChangeShapes Go.WideShapes Go.ChangeAt Go.RowKit Go.Joins Go.Deep

theorem cells46 : Try.prog.cellsOf 31 = 4 := by kernel_rfl
theorem bytes46 : Try.prog.bytesOf 31 = 40 := by kernel_rfl
theorem array4 {α : Type} {a : Array α} (h : a.size = 4) : ∃ x y z u, a = #[x, y, z, u] := by
  obtain ⟨l⟩ := a
  match l, h with
  | [x, y, z, u], _ => exact ⟨x, y, z, u, rfl⟩
theorem four_in {α : Type} : ∀ {l : List α}, l.length = 4 → ∃ a b c d, l = [a, b, c, d]
  | [a, b, c, d], _ => ⟨a, b, c, d, rfl⟩
theorem mem_weights_all {H : Type} {P : Program} {e : TypeId} : ∀ {l : List (DataW H)} {d : DataW H}, d ∈ l → ∀ n ∈ d.weights P e, n ∈ DataW.weightsAll P e l
  | d0 :: l, d, hd, n, hn => by
    simp only [DataW.weightsAll, List.mem_append]
    rcases List.mem_cons.1 hd with rfl | hd
    · exact .inl hn
    · exact .inr (mem_weights_all hd n hn)
/-- A step: what to do, where, the row. -/
structure OpT where
  k : Int
  x : Int
  y : Int
  d : List UInt8
/-- The numbers are ints, the row isn't too long. -/
structure opIn (t : OpT) : Prop where
  k1 : -9223372036854775808 ≤ t.k
  k2 : t.k ≤ 9223372036854775807
  x1 : -9223372036854775808 ≤ t.x
  x2 : t.x ≤ 9223372036854775807
  y1 : -9223372036854775808 ≤ t.y
  y2 : t.y ≤ 9223372036854775807
  d : t.d.length ≤ 140737488351232
/-- Steps whose cells are known. -/
structure OpsAt (w : World) (a : Option Addr) (L : List OpT) : Prop where
  cells : L ≠ [] → ∃ b off, a = some ⟨b, off, none⟩ ∧ ∀ i (h : i < L.length), w.cell? ⟨b, off + i * 4, none⟩ = some (.int .i64 L[i].k) ∧ w.cell? ⟨b, off + i * 4 + 1, none⟩ = some (.int .i64 L[i].x) ∧ w.cell? ⟨b, off + i * 4 + 2, none⟩ = some (.int .i64 L[i].y) ∧ w.cell? ⟨b, off + i * 4 + 3, none⟩ = some (.string (txt L[i].d))
  inn : ∀ t ∈ L, opIn t
  len : L.length * 40 ≤ 140737488351232
theorem OpsAt.later {w w' : World} {a : Option Addr} {L : List OpT} (h : OpsAt w a L) (hb : Below w.heap.size w w') : OpsAt w' a L := by
  refine ⟨fun hn => ?_, h.inn, h.len⟩
  obtain ⟨b, off, e, hc⟩ := h.cells hn
  exact ⟨b, off, e, fun i hi => ⟨cell_later hb (hc i hi).1, cell_later hb (hc i hi).2.1, cell_later hb (hc i hi).2.2.1, cell_later hb (hc i hi).2.2.2⟩⟩

section
variable {H : Type} {enc : TypeId × Value → H} {w : World} {base : Nat} {sp : Nat → Bool} {held : Bool}

theorem open_ops {r : Reach} {b0 : Nat} {v : Value} {d : DataW H} {p : List MemPlace} (hv : Value.okWide Try.prog w r b0 22 v) (h : DataW.Trod enc Try.prog w base sp held 22 v d p) (hw : ∀ n ∈ d.weights Try.prog 22, n ≤ reachBytes) :
    ∃ (a : Option Addr) (c : Nat) (L : List OpT), v = .slice a L.length c ∧ OpsAt w a L := by
  obtain ⟨a0, len, cap, rfl⟩ := okWide_slice Try.underlying22 hv
  obtain ⟨fuel, hf⟩ := h
  rcases open_slice Try.underlying22 hf with ⟨hcs, _⟩ | ⟨a, len', cap', m, n, D, Pl, hcs, _, hl, hm, hmm, hdx, hi⟩
  · simp [Value.cells] at hcs
    obtain ⟨rfl, rfl, rfl⟩ := hcs
    exact ⟨none, 0, [], rfl, fun h => absurd rfl h, fun t ht => absurd ht (by simp), by simp⟩
  · simp [Value.cells] at hcs
    obtain ⟨rfl, rfl, rfl⟩ := hcs
    have hlm : len ≤ m := by rw [hmm]; split <;> omega
    have hd : d = .slice ((List.range len).map D) ((List.range (m - len)).map fun j => D (len + j)) := congrArg Prod.fst hdx
    rw [hd] at hw
    simp only [DataW.weights, Try.underlying22] at hw
    have hbytes : len * 40 ≤ 140737488351232 := by
      have h := hw _ List.mem_cons_self
      rw [bytes46] at h
      simp [reachBytes] at h
      omega
    have each : ∀ i, i < len → ∃ x : OpT, (w.cell? (a.add (i * 4)) = some (.int .i64 x.k) ∧ w.cell? (a.add (i * 4 + 1)) = some (.int .i64 x.x) ∧ w.cell? (a.add (i * 4 + 2)) = some (.int .i64 x.y) ∧ w.cell? (a.add (i * 4 + 3)) = some (.string (txt x.d))) ∧ opIn x := by
      intro i hil
      obtain ⟨cs', hc, ht⟩ := hi i (by omega)
      rw [cells46] at hc
      have hwi : ∀ n ∈ (D i).weights Try.prog 31, n ≤ reachBytes := fun n hn => hw n (List.mem_cons_of_mem _ (List.mem_append.2 (.inl (mem_weights_all (List.mem_map.2 ⟨i, List.mem_range.2 hil, rfl⟩) n hn))))
      obtain ⟨z0, z1, z2, n1, hx, _, g0, g1, g2⟩ := trod_struct3 Try.underlying31 ht
      obtain ⟨_, hcl, hat⟩ := World.cells?_some hc
      obtain ⟨x0, x1, x2, x3, rfl⟩ := four_in hcl
      have k3 : Try.prog.cellsOf 3 = 1 := by kernel_rfl
      have k9 : Try.prog.cellsOf 9 = 1 := by kernel_rfl
      have k26 : Try.prog.cellsOf 29 = 2 := by kernel_rfl
      simp only [k3, k9, k26] at g0 g1 g2
      obtain ⟨u0, u1, n2, _, _, i0, i1⟩ := trod_struct2 Try.underlying29 g1
      simp only [k3] at i0 i1
      obtain ⟨k, e0, _, wk⟩ := DataW.trod_int Try.underlying3 g0
      obtain ⟨x, e1, _, wx⟩ := DataW.trod_int Try.underlying3 i0
      obtain ⟨y, e2, _, wy⟩ := DataW.trod_int Try.underlying3 i1
      obtain ⟨s, e3, hs, ws⟩ := DataW.trod_string Try.underlying9 g2
      simp at e0 e1 e2 e3
      subst e0 e1 e2 e3
      simp only [Prod.mk.injEq] at hx
      have hsl : s.data.toList.length ≤ 140737488351232 := by
        have h1 := hwi s.data.toList.length (by
          rw [hx.1]
          simp only [DataW.weights, Try.underlying31]
          refine DataW.weights_mem_each (j := 2) (t := 9) (d := z2.1) rfl rfl _ ?_
          rw [hs]; simp [DataW.weights])
        simpa [reachBytes] using h1
      have h0 := hat 0 (by omega)
      have h1 := hat 1 (by omega)
      have h2 := hat 2 (by omega)
      have h3 := hat 3 (by omega)
      rw [add_add] at h0 h1 h2 h3
      refine ⟨⟨k, x, y, s.data.toList⟩, ⟨by simpa using h0, by simpa using h1, by simpa using h2, ?_⟩, (bounds_i64 wk).1, (bounds_i64 wk).2, (bounds_i64 wx).1, (bounds_i64 wx).2, (bounds_i64 wy).1, (bounds_i64 wy).2, hsl⟩
      show _ = some (Value.string (txt s.data.toList))
      rw [txt_of]; simpa using h3
    obtain ⟨l, hll, hp⟩ := list_of_each len each
    subst hll
    refine ⟨some a, cap, l, rfl, fun hne => ?_, fun t ht => ?_, hbytes⟩
    · have hpos : 0 < l.length := by
        cases l with
        | nil => exact absurd rfl hne
        | cons _ _ => simp
      obtain ⟨b, off, spot⟩ := a
      have hspot : spot = none := by simpa [Addr.add] using World.cell?_spot (hp 0 hpos).1.1
      subst hspot
      refine ⟨b, off, rfl, fun i hi' => ?_⟩
      have := (hp i hi').1
      simp only [Go.WideShapes.add_plain] at this
      refine ⟨this.1, ?_, ?_, ?_⟩
      · rw [Nat.add_assoc]; exact this.2.1
      · rw [Nat.add_assoc]; exact this.2.2.1
      · rw [Nat.add_assoc]; exact this.2.2.2
    · obtain ⟨i, hi', rfl⟩ := List.mem_iff_getElem.1 ht
      exact (hp i hi').2
end
end Go.Proofs.Ytneebnankghhgaa
