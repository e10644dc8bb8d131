/- A list of turns that came in, opened: its elements' cells. Nothing of any program here but the types. Conditions: none. -/
import Derived.Test.YtpcjfhoppcmenaaZp
import Derived.Test.YtpcjfhoppcmenaaQz
namespace Go.Proofs.Ytpcjfhoppcmenaa
open Go.ChangeShapes Go.WideShapes Go.ChangeAt Go.RowKit Go.Joins Go.Deep

theorem cells48 : Try.prog.cellsOf 48 = 2 := by kernel_rfl
theorem bytes48 : Try.prog.bytesOf 48 = 16 := by kernel_rfl
section
variable {H : Type} {enc : TypeId × Value → H} {w : World} {base : Nat} {sp : Nat → Bool} {held : Bool}

theorem open_turns {r : Reach} {b0 : Nat} {v : Value} {d : DataW H} {p : List MemPlace} (hv : Value.okWide Try.prog w r b0 45 v) (h : DataW.Trod enc Try.prog w base sp held 45 v d p) (hw : ∀ n ∈ d.weights Try.prog 45, n ≤ reachBytes) :
    ∃ (a : Option Addr) (c : Nat) (T : List (Int × UInt8)), v = .slice a T.length c ∧ TurnsAt w a T ∧ T.length ≤ 140737488351232 := by
  obtain ⟨a0, len, cap, rfl⟩ := okWide_slice Try.underlying45 hv
  obtain ⟨fuel, hf⟩ := h
  rcases open_slice Try.underlying45 hf with ⟨hcs, _⟩ | ⟨a, len', cap', m, n, D, Pl, hcs, _, hl, hm, hmm, hdx, hi⟩
  · simp [Value.cells] at hcs
    obtain ⟨rfl, rfl, rfl⟩ := hcs
    exact ⟨none, 0, [], rfl, fun h => absurd rfl h, by simp⟩
  · simp [Value.cells] at hcs
    obtain ⟨rfl, rfl, rfl⟩ := hcs
    have hlm : len ≤ m := by rw [hmm]; split <;> omega
    have hd : d = .slice ((List.range len).map D) ((List.range (m - len)).map fun j => D (len + j)) := congrArg Prod.fst hdx
    have hbytes : len * 16 ≤ 140737488351232 := by
      have h := hw ((((List.range len).map D).length + ((List.range (m - len)).map fun j => D (len + j)).length) * Try.prog.bytesOf 48) (by rw [hd]; simp only [DataW.weights, Try.underlying45]; exact List.mem_cons_self)
      rw [bytes48] at h
      simp [reachBytes] at h
      omega
    have each : ∀ i, i < len → ∃ x : Int × UInt8, w.cell? (a.add (i * 2)) = some (.int .i64 x.1) ∧ w.cell? (a.add (i * 2 + 1)) = some (.int .u8 (x.2.toNat : Int)) := by
      intro i hil
      obtain ⟨cs', hc, ht⟩ := hi i (by omega)
      rw [cells48] at hc
      obtain ⟨z0, z1, n2, _, hlen, g0, g1⟩ := trod_struct2 Try.underlying48 ht
      obtain ⟨_, hcl, hat⟩ := World.cells?_some hc
      obtain ⟨x0, x1, rfl⟩ := two_of hcl
      have c3 : Try.prog.cellsOf 3 = 1 := by kernel_rfl
      have c5 : Try.prog.cellsOf 5 = 1 := by kernel_rfl
      simp only [c3, c5] at g0 g1
      obtain ⟨k, e0, _, _⟩ := DataW.trod_int Try.underlying3 g0
      obtain ⟨u, e1, _, wu⟩ := DataW.trod_int Try.underlying5 g1
      simp at e0 e1
      subst e0 e1
      have h0 := hat 0 (by omega)
      have h1 := hat 1 (by omega)
      rw [add_add] at h0 h1
      obtain ⟨u1, u2⟩ := bounds_u8 wu
      refine ⟨⟨k, UInt8.ofNat u.toNat⟩, by simpa using h0, ?_⟩
      have e : ((UInt8.ofNat u.toNat).toNat : Int) = u := by rw [u8_ofNat]; omega
      show _ = some (Value.int .u8 ((UInt8.ofNat u.toNat).toNat : Int))
      rw [e]; simpa using h1
    obtain ⟨l, hll, hp⟩ := list_of_each len each
    subst hll
    refine ⟨some a, cap, l, rfl, fun hne => ?_, by omega⟩
    have hpos : 0 < l.length := by
      cases l with
      | nil => exact absurd rfl hne
      | cons _ _ => simp
    obtain ⟨b, off, spot⟩ := a
    have hspot : spot = none := by simpa [Addr.add] using World.cell?_spot (hp 0 hpos).1
    subst hspot
    refine ⟨b, off, rfl, fun i hi' => ?_⟩
    have := hp i hi'
    simp only [Go.WideShapes.add_plain] at this
    refine ⟨this.1, ?_⟩
    rw [Nat.add_assoc]; exact this.2
end
end Go.Proofs.Ytpcjfhoppcmenaa
