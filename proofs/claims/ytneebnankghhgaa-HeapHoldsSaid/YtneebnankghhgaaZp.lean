/- Several of my texts laid together, each as it was: Zp. Conditions: each names its own. -/
import Derived.Test.YtneebnankghhgaaZa
import Derived.Test.YtneebnankghhgaaGD
/- A page that came in, opened: its slots' cells; how great it may be. Nothing of any program here but the types. Conditions: none. -/
namespace Go.Proofs.Ytneebnankghhgaa
open Go.ChangeShapes Go.WideShapes Go.ChangeAt Go.RowKit Go.Joins Go.Deep

theorem cells24 : Try.prog.cellsOf 55 = 1 := by kernel_rfl
theorem cells22 : Try.prog.cellsOf 53 = 1 := by kernel_rfl
theorem cells52 : Try.prog.cellsOf 74 = 2 := by kernel_rfl
theorem bytes52 : Try.prog.bytesOf 74 = 24 := by kernel_rfl
theorem array1 {α : Type} {a : Array α} (h : a.size = 1) : ∃ x, a = #[x] := by
  obtain ⟨l⟩ := a
  match l, h with
  | [x], _ => exact ⟨x, rfl⟩
theorem two_of {α : Type} : ∀ {l : List α}, l.length = 2 → ∃ a b, l = [a, b]
  | [a, b], _ => ⟨a, b, rfl⟩

section
variable {H : Type} {enc : TypeId × Value → H} {w : World} {base : Nat} {sp : Nat → Bool} {held : Bool}

/-- A page that came in: its slots' cells. -/
theorem open_page {r : Reach} {b0 : Nat} {v : Value} {d : DataW H} {p : List MemPlace} (hv : Value.okWide Try.prog w r b0 55 v) (h : DataW.Trod enc Try.prog w base sp held 55 v d p) (hw : ∀ n ∈ d.weights Try.prog 55, n ≤ reachBytes) :
    ∃ (a : Option Addr) (c : Nat) (q : Pg), v = .agg #[.slice a q.length c] ∧ PgAt w a c q := by
  obtain ⟨cs, rfl, hsz⟩ := okWide_struct Try.underlying55 hv
  obtain ⟨c0, rfl⟩ := array1 (hsz.trans cells24)
  obtain ⟨fuel, hf⟩ := h
  obtain ⟨y0, n', hx, _, h0⟩ := trod_struct1 Try.underlying55 hf
  have h0' : DataW.trod enc Try.prog w base sp held n' 53 [c0] = some y0 := by simpa [Value.cells, cells22] using h0
  simp only [Prod.mk.injEq] at hx
  obtain ⟨rfl, _⟩ := hx
  rcases open_slice Try.underlying53 h0' with ⟨hcs, _⟩ | ⟨a, len, cap, m, n, D, Pl, hcs, hcap, hl, hm, hmm, hdx, hi⟩
  · obtain rfl : c0 = .slice none 0 0 := by simpa using hcs
    exact ⟨none, 0, [], rfl, ⟨fun h => absurd rfl h, Nat.le_refl _, by simp, fun s hs => absurd hs (by simp)⟩⟩
  · obtain rfl : c0 = .slice (some a) len cap := by simpa using hcs
    have hlm : len ≤ m := by rw [hmm]; split <;> omega
    have hd : y0.1 = .slice ((List.range len).map D) ((List.range (m - len)).map fun j => D (len + j)) := congrArg Prod.fst hdx
    have hbytes : len * 24 ≤ 140737488351232 := by
      have h := hw ((((List.range len).map D).length + ((List.range (m - len)).map fun j => D (len + j)).length) * Try.prog.bytesOf 74) (by
        rw [hd]
        simp only [DataW.weights, Try.underlying55]
        exact DataW.weights_mem_each (j := 0) (t := 53) rfl rfl _ (by simp only [DataW.weights, Try.underlying53]; exact List.mem_cons_self))
      rw [bytes52] at h
      simp [reachBytes] at h
      omega
    have each : ∀ i, i < len → ∃ x : Slot, (w.cell? (a.add (i * 2)) = some (.bool x.1) ∧ w.cell? (a.add (i * 2 + 1)) = some (.string (txt x.2))) ∧ x.2.length ≤ maxLen := by
      intro i hil
      obtain ⟨cs', hc, ht⟩ := hi i (by omega)
      rw [cells52] at hc
      obtain ⟨z0, z1, n2, _, hlen, g0, g1⟩ := trod_struct2 Try.underlying74 ht
      obtain ⟨_, hcl, hat⟩ := World.cells?_some hc
      obtain ⟨x0, x1, rfl⟩ := two_of hcl
      have c4 : Try.prog.cellsOf 4 = 1 := by kernel_rfl
      have c9 : Try.prog.cellsOf 9 = 1 := by kernel_rfl
      simp only [c4, c9] at g0 g1
      obtain ⟨k, e0, _⟩ := DataW.trod_bool Try.underlying4 g0
      obtain ⟨s, e1, _, ws⟩ := DataW.trod_string Try.underlying9 g1
      simp at e0 e1
      subst e0 e1
      have h0 := hat 0 (by omega)
      have h1 := hat 1 (by omega)
      rw [add_add] at h0 h1
      refine ⟨⟨k, s.data.toList⟩, ⟨by simpa using h0, ?_⟩, ?_⟩
      · show _ = some (Value.string (txt s.data.toList))
        rw [txt_of]; simpa using h1
      · show s.data.toList.length ≤ maxLen
        have e : s.data.toList.length = s.size := Array.length_toList
        omega
    obtain ⟨l, hll, hp⟩ := list_of_each len each
    subst hll
    refine ⟨some a, cap, l, rfl, ⟨fun hne => ?_, by omega, hbytes, fun x hx => ?_⟩⟩
    · have hpos : 0 < l.length := by
        cases l with
        | nil => exact absurd rfl hne
        | cons _ _ => simp
      obtain ⟨b, off, spot⟩ := a
      have hspot : spot = none := by simpa [Addr.add] using World.cell?_spot (hp 0 hpos).1.1
      subst hspot
      refine ⟨b, off, rfl, fun i hi' => ?_⟩
      have := (hp i hi').1
      simp only [Go.WideShapes.add_plain] at this
      refine ⟨this.1, ?_⟩
      rw [Nat.add_assoc]; exact this.2
    · obtain ⟨i, hi', rfl⟩ := List.mem_iff_getElem.1 hx
      exact (hp i hi').2
end
end Go.Proofs.Ytneebnankghhgaa
