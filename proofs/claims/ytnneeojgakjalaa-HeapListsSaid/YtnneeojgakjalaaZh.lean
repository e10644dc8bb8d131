/- A heap that came in, opened: its pages' cells; a call and a list of steps that came in, opened: their cells, how great they may be. Nothing of any program here but the types. Conditions: none. -/
import Derived.Test.YtnneeojgakjalaaZp
import Derived.Test.YtnneeojgakjalaaHc
namespace Go.Proofs.Ytnneeojgakjalaa
open Go.ChangeShapes Go.WideShapes Go.ChangeAt Go.RowKit Go.Joins Go.Deep

theorem cells24h : Try.prog.cellsOf 24 = 1 := by kernel_rfl
theorem cells22h : Try.prog.cellsOf 22 = 1 := by kernel_rfl
theorem cells62 : Try.prog.cellsOf 62 = 1 := by kernel_rfl
theorem bytes62 : Try.prog.bytesOf 62 = 24 := by kernel_rfl
theorem one_of {α : Type} : ∀ {l : List α}, l.length = 1 → ∃ a, l = [a]
  | [a], _ => ⟨a, rfl⟩
theorem four_of {α : Type} : ∀ {l : List α}, l.length = 4 → ∃ a b c d, l = [a, b, c, d]
  | [a, b, c, d], _ => ⟨a, b, c, d, rfl⟩

section
variable {H : Type} {enc : TypeId × Value → H} {w : World} {base : Nat} {sp : Nat → Bool} {held : Bool}

theorem weights_mem_all {P : Program} {e : TypeId} : ∀ {l : List (DataW H)} {d : DataW H}, d ∈ l → ∀ n ∈ d.weights P e, n ∈ DataW.weightsAll P e l
  | d0 :: l, d, hd, n, hn => by
    simp only [DataW.weightsAll, List.mem_append]
    rcases List.mem_cons.1 hd with rfl | hd
    · exact .inl hn
    · exact .inr (weights_mem_all hd n hn)
theorem slots_of {n' : Nat} {c0 : Value} {y0 : DataW H × List MemPlace} (h0 : DataW.trod enc Try.prog w base sp held n' 60 [c0] = some y0) (hw : ∀ n ∈ y0.1.weights Try.prog 60, n ≤ reachBytes) :
    ∃ (a : Option Addr) (c : Nat) (q : Pg), c0 = .slice a q.length c ∧ PgAt w a c q := by
  rcases open_slice Try.underlying60 h0 with ⟨hcs, _⟩ | ⟨a, len, cap, m, n, D, Pl, hcs, hcap, hl, hm, hmm, hdx, hi⟩
  · obtain rfl : c0 = .slice none 0 0 := by simpa using hcs
    exact ⟨none, 0, [], rfl, ⟨fun h => absurd rfl h, Nat.le_refl _, by simp, fun s hs => absurd hs (by simp)⟩⟩
  · obtain rfl : c0 = .slice (some a) len cap := by simpa using hcs
    have hlm : len ≤ m := by rw [hmm]; split <;> omega
    have hd : y0.1 = .slice ((List.range len).map D) ((List.range (m - len)).map fun j => D (len + j)) := congrArg Prod.fst hdx
    have hbytes : len * 24 ≤ 140737488351232 := by
      have h := hw ((((List.range len).map D).length + ((List.range (m - len)).map fun j => D (len + j)).length) * Try.prog.bytesOf 77) (by
        rw [hd]
        simp only [DataW.weights, Try.underlying60]; exact List.mem_cons_self)
      rw [bytes52] at h
      simp [reachBytes] at h
      omega
    have each : ∀ i, i < len → ∃ x : Slot, (w.cell? (a.add (i * 2)) = some (.bool x.1) ∧ w.cell? (a.add (i * 2 + 1)) = some (.string (txt x.2))) ∧ x.2.length ≤ maxLen := by
      intro i hil
      obtain ⟨cs', hc, ht⟩ := hi i (by omega)
      rw [cells52] at hc
      obtain ⟨z0, z1, n2, _, hlen, g0, g1⟩ := trod_struct2 Try.underlying77 ht
      obtain ⟨_, hcl, hat⟩ := World.cells?_some hc
      obtain ⟨x0, x1, rfl⟩ := two_of hcl
      have c4 : Try.prog.cellsOf 4 = 1 := by kernel_rfl
      have c9 : Try.prog.cellsOf 9 = 1 := by kernel_rfl
      simp only [c4, c9] at g0 g1
      obtain ⟨k, e0, _⟩ := DataW.trod_bool Try.underlying4 g0
      obtain ⟨s, e1, _, ws⟩ := DataW.trod_string Try.underlying9 g1
      simp at e0 e1
      subst e0 e1
      have h0 := hat 0 (by omega)
      have h1 := hat 1 (by omega)
      rw [add_add] at h0 h1
      refine ⟨⟨k, s.data.toList⟩, ⟨by simpa using h0, ?_⟩, ?_⟩
      · show _ = some (Value.string (txt s.data.toList))
        rw [txt_of]; simpa using h1
      · show s.data.toList.length ≤ maxLen
        have e : s.data.toList.length = s.size := Array.length_toList
        omega
    obtain ⟨l, hll, hp⟩ := list_of_each len each
    subst hll
    refine ⟨some a, cap, l, rfl, ⟨fun hne => ?_, by omega, hbytes, fun x hx => ?_⟩⟩
    · have hpos : 0 < l.length := by
        cases l with
        | nil => exact absurd rfl hne
        | cons _ _ => simp
      obtain ⟨b, off, spot⟩ := a
      have hspot : spot = none := by simpa [Addr.add] using World.cell?_spot (hp 0 hpos).1.1
      subst hspot
      refine ⟨b, off, rfl, fun i hi' => ?_⟩
      have := (hp i hi').1
      simp only [Go.WideShapes.add_plain] at this
      refine ⟨this.1, ?_⟩
      rw [Nat.add_assoc]; exact this.2
    · obtain ⟨i, hi', rfl⟩ := List.mem_iff_getElem.1 hx
      exact (hp i hi').2
/-- A heap that came in: its pages' cells. -/
theorem open_heap {r : Reach} {b0 : Nat} {v : Value} {d : DataW H} {p : List MemPlace} (hv : Value.okWide Try.prog w r b0 24 v) (h : DataW.Trod enc Try.prog w base sp held 24 v d p) (hw : ∀ n ∈ d.weights Try.prog 24, n ≤ reachBytes) :
    ∃ (a : Option Addr) (c : Nat) (E : List PgE), v = .agg #[.slice a E.length c] ∧ HpAt w a c E := by
  obtain ⟨cs, rfl, hsz⟩ := okWide_struct Try.underlying24 hv
  obtain ⟨c0, rfl⟩ := array1 (hsz.trans cells24h)
  obtain ⟨fuel, hf⟩ := h
  obtain ⟨y0, n', hx, _, h0⟩ := trod_struct1 Try.underlying24 hf
  have h0' : DataW.trod enc Try.prog w base sp held n' 22 [c0] = some y0 := by simpa [Value.cells, cells22h] using h0
  simp only [Prod.mk.injEq] at hx
  obtain ⟨rfl, _⟩ := hx
  have hw0 : ∀ n ∈ y0.1.weights Try.prog 22, n ≤ reachBytes := fun n hn => hw n (by
    simp only [DataW.weights, Try.underlying24]
    exact DataW.weights_mem_each (j := 0) (t := 22) rfl rfl _ hn)
  rcases open_slice Try.underlying22 h0' with ⟨hcs, _⟩ | ⟨a, len, cap, m, n, D, Pl, hcs, hcap, hl, hm, hmm, hdx, hi⟩
  · obtain rfl : c0 = .slice none 0 0 := by simpa using hcs
    exact ⟨none, 0, [], rfl, ⟨fun h => absurd rfl h, fun e he => absurd he (by simp), Nat.le_refl _, by simp⟩⟩
  · obtain rfl : c0 = .slice (some a) len cap := by simpa using hcs
    have hlm : len ≤ m := by rw [hmm]; split <;> omega
    have hd : y0.1 = .slice ((List.range len).map D) ((List.range (m - len)).map fun j => D (len + j)) := congrArg Prod.fst hdx
    rw [hd] at hw0
    simp only [DataW.weights, Try.underlying22] at hw0
    have hbytes : len * 24 ≤ 140737488351232 := by
      have h := hw0 _ List.mem_cons_self
      rw [bytes62] at h
      simp [reachBytes] at h
      omega
    have each : ∀ i, i < len → ∃ x : PgE, w.cell? (a.add i) = some (.slice x.a x.p.length x.c) ∧ PgAt w x.a x.c x.p := by
      intro i hil
      obtain ⟨cs', hc, ht⟩ := hi i (by omega)
      rw [cells62] at hc
      have hwi : ∀ n ∈ (D i).weights Try.prog 62, n ≤ reachBytes := fun n hn => hw0 n (List.mem_cons_of_mem _ (List.mem_append.2 (.inl (weights_mem_all (List.mem_map.2 ⟨i, List.mem_range.2 hil, rfl⟩) n hn))))
      obtain ⟨z0, n2, hz, _, g0⟩ := trod_struct1 Try.underlying62 ht
      obtain ⟨_, hcl, hat⟩ := World.cells?_some hc
      obtain ⟨x0, rfl⟩ := one_of hcl
      have g0' : DataW.trod enc Try.prog w base sp held n2 60 [x0] = some z0 := by simpa [cells22] using g0
      simp only [Prod.mk.injEq] at hz
      rw [hz.1] at hwi
      obtain ⟨a2, c2, q, rfl, hP⟩ := slots_of g0' (fun n hn => hwi n (by
        simp only [DataW.weights, Try.underlying62]
        exact DataW.weights_mem_each (j := 0) (t := 60) rfl rfl _ hn))
      have h0 := hat 0 (by omega)
      rw [add_add] at h0
      exact ⟨⟨a2, c2, q⟩, by simpa using h0, hP⟩
    obtain ⟨l, hll, hp⟩ := list_of_each len each
    subst hll
    refine ⟨some a, cap, l, rfl, ⟨fun hne => ?_, fun x hx => ?_, by omega, hbytes⟩⟩
    · have hpos : 0 < l.length := by
        cases l with
        | nil => exact absurd rfl hne
        | cons _ _ => simp
      obtain ⟨b, off, spot⟩ := a
      have hspot : spot = none := by simpa [Addr.add] using World.cell?_spot (hp 0 hpos).1
      subst hspot
      refine ⟨b, off, rfl, fun i hi' => ?_⟩
      have := (hp i hi').1
      simpa only [Go.WideShapes.add_plain] using this
    · obtain ⟨i, hi', rfl⟩ := List.mem_iff_getElem.1 hx
      exact (hp i hi').2
end
end Go.Proofs.Ytnneeojgakjalaa
