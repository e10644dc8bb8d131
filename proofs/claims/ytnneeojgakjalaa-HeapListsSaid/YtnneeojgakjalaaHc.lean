/- Heaps in memory: their pages' cells are known; the reference of layer 6: whether it may be: a contract of the call, in whatever memory. Conditions: the pages' cells are known. -/
import Derived.Test.YtnneeojgakjalaaHb
import Derived.Test.YtnneeojgakjalaaQq
namespace Go.Proofs.Ytnneeojgakjalaa
open Go.RowKit

/-- A page as it lies in memory: where its slots are, their capacity, the page. -/
structure PgE where
  a : Option Addr
  c : Nat
  p : Pg
def hp (E : List PgE) : Hp := E.map (·.p)
/-- A heap whose pages' cells are known. (A structure: nothing parts it.) -/
structure HpAt (w : World) (a : Option Addr) (c : Nat) (E : List PgE) : Prop where
  cells : E ≠ [] → ∃ b off, a = some ⟨b, off, none⟩ ∧ ∀ i (h : i < E.length), w.cell? ⟨b, off + i, none⟩ = some (.slice (E[i]).a (E[i]).p.length (E[i]).c)
  pages : ∀ e ∈ E, PgAt w e.a e.c e.p
  cap : E.length ≤ c
  len : E.length * 24 ≤ 140737488351232
theorem HpAt.later {w w' : World} {a : Option Addr} {c : Nat} {E : List PgE} (h : HpAt w a c E) (hb : Below w.heap.size w w') : HpAt w' a c E := by
  refine ⟨fun hn => ?_, fun e he => (h.pages e he).later hb, h.cap, h.len⟩
  obtain ⟨b, off, e, hc⟩ := h.cells hn
  exact ⟨b, off, e, fun i hi => cell_later hb (hc i hi)⟩
theorem HpAt.alloc {w : World} {a : Option Addr} {c : Nat} {E : List PgE} (h : HpAt w a c E) (o : Obj) : HpAt (w.alloc o) a c E := h.later ((Below.refl _ _).alloc (Nat.le_refl _) _)
theorem hp_len (E : List PgE) : (hp E).length = E.length := List.length_map _
theorem hp_at {E : List PgE} {i : Nat} (h : i < E.length) : (hp E)[i]'(by rw [hp_len]; exact h) = E[i].p := by simp [hp]
theorem rightH_bad {h : Hp} {i : Nat} (hi : i < h.length) (hb : rightB h[i] = false) : rightH h = false := by
  have e : h.all rightB = false := by
    rw [List.all_eq_false]
    exact ⟨h[i], List.getElem_mem hi, by simp [hb]⟩
  unfold rightH
  rw [e]; simp
theorem allH_next {h : Hp} {i : Nat} (ha : (h.take i).all rightB = true) (hi : i < h.length) (hb : rightB h[i] = true) : (h.take (i + 1)).all rightB = true := by
  rw [List.take_succ_eq_append_getElem hi, List.all_append, ha]; simp [hb]
theorem lastFull_at {h : Hp} (hl : 0 < h.length) : lastFull h = !(h[h.length - 1]).isEmpty := by
  rcases hsnoc_cases h with rfl | ⟨g, p, rfl⟩
  · simp at hl
  · rw [lastFull_snoc]; simp

set_option maxHeartbeats 2000000 in
set_option maxRecDepth 1000000 in
theorem refHRight_any (a : Option Addr) (c : Nat) (E : List PgE) (w : World) (h : HpAt w a c E) :
    Calls Try.prog 19 #[.agg #[.slice a E.length c]] w fun e w' => e = .returned (.bool (rightH (hp E))) ∧ Below w.heap.size w w' := by
  have A := hid0 h
  have hlb : E.length ≤ 5864062014805 := by have := h.len; omega
  clear h
  by_cases h4096 : E.length ≤ 4096
  · have v0 := (VarAt.new w (.slice a E.length c) 24).cell
    have hB0 : Below w.heap.size w (w.alloc (Obj.cells #[.slice a E.length c] 24)) := (Below.refl _ _).alloc (Nat.le_refl _) _
    go_enter Try.func19, Try.ntmps19
    go_wp2_with fail
    go_loopw [3] (fun iv wr => ∃ i : Nat, i ≤ E.length ∧ iv = .int .i64 i ∧ Hid (((hp E).take i).all rightB = true) ∧ wr.cell? ⟨w.heap.size, 0, none⟩ = some (.slice a E.length c) ∧ Below w.heap.size w wr) (fun iv _ => E.length - (intOf iv).toNat)
    case atStart => exact ⟨0, Nat.zero_le _, rfl, hid0 rfl, v0, hB0⟩
    case round =>
      clear v0 hB0
      obtain ⟨i, hi, rfl, hO, q, hB⟩ := hrel
      have hsz := hB.size
      by_cases hlt : i < E.length
      · have hne : E ≠ [] := by intro e; rw [e] at hlt; exact absurd hlt (by simp)
        obtain ⟨b, o, rfl, hc⟩ := (A.out.later hB).cells hne
        have q0 := hc i hlt
        clear hc
        have hP := (A.out.pages _ (List.getElem_mem hlt)).later hB
        have hlt' : i < (hp E).length := by rw [hp_len]; exact hlt
        have C := refRight_any E[i].a E[i].c E[i].p wr hP.out (by have := hP.len; unfold maxLen; omega) hP.small
        have hbad := hid0 (fun hb => rightH_bad (h := hp E) hlt' hb)
        have hnext := hid0 (fun hb => allH_next hO.out hlt' hb)
        rw [hp_at hlt] at hbad hnext
        obtain ⟨rb, hrb⟩ : ∃ rb, rightB E[i].p = rb := ⟨_, rfl⟩
        rw [hrb] at C hbad hnext
        clear hrb hP
        cases rb with
        | false =>
          go_wp2_with (go_at_call 42; go_must (refine C.mono ?_; rintro e w1 ⟨rfl, hb⟩))
          go_ret
          exact ⟨ret_bool (hbad.out (by trivial)).symm, below_through hb hsz hB⟩
        | true =>
          go_wp2_with (go_at_call 42; go_must (refine C.mono ?_; rintro e w1 ⟨rfl, hb⟩))
          exact ⟨⟨i + 1, by omega, by go_num, hid0 (hnext.out (by trivial)), cell_later hb q, below_through hb hsz hB⟩, by simp [intOf]; omega⟩
      · have hie : ¬ (i : Int) < E.length := by omega
        rw [List.take_of_length_le (by rw [hp_len]; omega)] at hO
        by_cases h0 : E.length = 0
        · obtain rfl := List.length_eq_zero_iff.1 h0
          have q' : wr.cell? ⟨w.heap.size, 0, none⟩ = some (.slice a 0 c) := q
          clear q
          go_wp2
          go_ret
          exact ⟨rfl, hB⟩
        · obtain ⟨m, hm⟩ : ∃ m, E.length - 1 = m := ⟨_, rfl⟩
          have hml : m < E.length := by omega
          have hr : rightH (hp E) = !(E[m].p).isEmpty := by
            have h1 := lastFull_at (h := hp E) (by rw [hp_len]; omega)
            have h2 : (hp E)[(hp E).length - 1]'(by rw [hp_len]; omega) = E[m].p := by
              have : (hp E).length - 1 = m := by rw [hp_len]; exact hm
              simp only [this]; exact hp_at hml
            rw [h2] at h1
            unfold rightH
            rw [hO.out, h1, hp_len]; simp [h4096]
          have HR := hid0 hr
          have hsub : IntKind.i64.wrap ((E.length : Int) - 1) = (m : Int) := by rw [IntWalk.i64_in _ (by omega)]; omega
          have hne0 : ¬ (E.length : Int) = 0 := by omega
          have hmi : (m : Int) < (E.length : Int) := by omega
          have hEne : E ≠ [] := by intro e; rw [e] at hml; exact absurd hml (by simp)
          obtain ⟨b, o, rfl, hc⟩ := (A.out.later hB).cells hEne
          have q0 := hc m hml
          clear hc hr hm hEne h0
          by_cases hp0 : E[m].p = []
          · have hz : E[m].p.length = 0 := by rw [hp0]; rfl
            rw [hz] at q0
            have HE := hid0 (show (E[m].p).isEmpty = true by rw [hp0]; rfl)
            clear hp0 hz
            go_wp2
            all_goals first
              | (go_ret; exact ⟨ret_bool (by rw [HR.out, HE.out]; simp_all), hB⟩)
              | (exfalso; simp_all; done)
          · have hz : (0 : Int) < (E[m].p.length : Int) := by
              have : E[m].p.length ≠ 0 := fun h => hp0 (List.length_eq_zero_iff.1 h)
              omega
            have HE := hid0 (show (E[m].p).isEmpty = false by cases h : E[m].p with | nil => exact absurd h hp0 | cons _ _ => rfl)
            clear hp0
            go_wp2
            all_goals first
              | (go_ret; exact ⟨ret_bool (by rw [HR.out, HE.out]; simp_all), hB⟩)
              | (exfalso; simp_all; done)
  · have hr : rightH (hp E) = false := by unfold rightH; rw [hp_len]; simp [h4096]
    rw [hr]
    have hgt : (4096 : Int) < E.length := by omega
    go_enter Try.func19, Try.ntmps19
    go_wp2
    go_ret
    exact ⟨rfl, by go_grown⟩
end Go.Proofs.Ytnneeojgakjalaa
