/- Several of my texts laid together, each as it was: Hpa. Conditions: each names its own. -/
import Derived.Test.YtneebnankghhgaaGF
/- The project's heap: whether a page is wrong, whether one of them is, the pages but those at the end that have no slot: contracts of the calls, in whatever memory. Conditions: the pages' cells are known. -/
namespace Go.Proofs.Ytneebnankghhgaa
open Go.RowKit

set_option maxHeartbeats 1000000 in
theorem hpWrong_any (a : Option Addr) (c : Nat) (p : Pg) (w : World) (h : PgAt w a c p) :
    Calls Try.prog 25 #[.agg #[.slice a p.length c]] w fun e w' => e = .returned (.bool (!rightB p)) ∧ Below w.heap.size w w' := by
  have hB0 : Below w.heap.size w (w.alloc (Obj.cells #[.slice a p.length c] 55)) := (Below.refl _ _).alloc (Nat.le_refl _) _
  have C := pgRight_any a c p _ (h.out.later hB0) h.cap h.len h.small
  have q : (w.alloc (Obj.cells #[.slice a p.length c] 55)).cell? ⟨w.heap.size, 0, none⟩ = some (.slice a p.length c) := by go_cell
  obtain ⟨rb, hrb⟩ : ∃ rb, rightB p = rb := ⟨_, rfl⟩
  rw [hrb] at C ⊢
  clear h hrb
  go_enter Try.func25, Try.ntmps25
  go_wp2_with (go_at_call 28; go_must (refine C.mono ?_; rintro e w1 ⟨rfl, hb⟩))
  go_ret
  exact ⟨rfl, below_through hb hB0.size hB0⟩

/-- Where the first page is that may not be; -1: none is. -/
def WrongPg (E : List PgE) (w : World) (e : Ending) (w' : World) : Prop :=
  ∃ r : Int, e = .returned (.int .i64 r) ∧ decide (0 ≤ r) = !(hp E).all rightB ∧ Below w.heap.size w w'
theorem allH_bad {h : Hp} {i : Nat} (hi : i < h.length) (hb : rightB h[i] = false) : h.all rightB = false := by
  rw [List.all_eq_false]
  exact ⟨h[i], List.getElem_mem hi, by simp [hb]⟩
set_option maxHeartbeats 1000000 in
theorem hpIndex_any (a : Option Addr) (c : Nat) (E : List PgE) (w : World) (h : HpAt w a c E) :
    Calls Try.prog 35 #[.slice a E.length c, .func (.func 25) #[] #[]] w (WrongPg E w) := by
  have A := hid0 h
  have hlb : E.length ≤ 5864062014805 := by have := h.len; omega
  clear h
  go_enter Try.func35, Try.ntmps35
  go_wp2
  go_loopw [8] (fun iv wr => ∃ i : Nat, i ≤ E.length ∧ iv = .int .i64 i ∧ Hid (((hp E).take i).all rightB = true) ∧ Below w.heap.size w wr) (fun iv _ => E.length - (intOf iv).toNat)
  case atStart => exact ⟨0, Nat.zero_le _, rfl, hid0 rfl, Below.refl _ _⟩
  case round =>
    obtain ⟨i, hi, rfl, hO, hB⟩ := hrel
    have hsz := hB.size
    by_cases hlt : i < E.length
    · have hne : E ≠ [] := by intro e; rw [e] at hlt; exact absurd hlt (by simp)
      obtain ⟨b, o, rfl, hc⟩ := (A.out.later hB).cells hne
      have q0 := hc i hlt
      clear hc
      have hP := (A.out.pages _ (List.getElem_mem hlt)).later hB
      have hlt' : i < (hp E).length := by rw [hp_len]; exact hlt
      have CW := hpWrong_any E[i].a E[i].c E[i].p wr hP
      have hbad := hid0 (fun hb => allH_bad (h := hp E) hlt' hb)
      have hnext := hid0 (fun hb => allH_next hO.out hlt' hb)
      rw [hp_at hlt] at hbad hnext
      obtain ⟨rb, hrb⟩ : ∃ rb, rightB E[i].p = rb := ⟨_, rfl⟩
      rw [hrb] at CW hbad hnext
      clear hrb hP
      cases rb with
      | true =>
        go_wp2_with (go_at_call 25; go_must (refine CW.mono ?_; rintro e wn ⟨rfl, hbn⟩))
        exact ⟨⟨i + 1, by omega, by go_num, hid0 (hnext.out (by trivial)), below_through hbn hsz hB⟩, by simp [intOf]; omega⟩
      | false =>
        go_wp2_with (go_at_call 25; go_must (refine CW.mono ?_; rintro e wn ⟨rfl, hbn⟩))
        go_ret
        exact ⟨i, rfl, by rw [hbad.out (by trivial)]; simp, below_through hbn hsz hB⟩
    · have hie : ¬ (i : Int) < E.length := by omega
      rw [List.take_of_length_le (by rw [hp_len]; omega)] at hO
      go_wp2
      go_ret
      exact ⟨-1, rfl, by rw [hO.out]; rfl, hB⟩
set_option maxHeartbeats 400000 in
theorem hpContains_any (a : Option Addr) (c : Nat) (E : List PgE) (w : World) (h : HpAt w a c E) :
    Calls Try.prog 24 #[.slice a E.length c, .func (.func 25) #[] #[]] w fun e w' => e = .returned (.bool (!(hp E).all rightB)) ∧ Below w.heap.size w w' := by
  have H := hid0 (hpIndex_any a c E w h)
  clear h
  go_enter Try.func24, Try.ntmps24
  go_wp2_with (go_at_call 35; refine H.out.mono ?_; rintro e w1 ⟨r, rfl, hr, hb⟩; have HR := hid0 hr; clear hr)
  go_ret
  exact ⟨ret_bool HR.out, hb⟩

/-! ### The pages but those at the end that have no slot -/
set_option maxHeartbeats 2000000 in
theorem hpTrimmed_any (a : Option Addr) (c : Nat) (E : List PgE) (w : World) (h : HCells w a E) (hc : E.length ≤ c) (hl : E.length * 24 ≤ 140737488351232) :
    Calls Try.prog 19 #[.slice a E.length c] w fun e w' => e = .returned (.slice a (trimH (hp E)).length c) ∧ Below w.heap.size w w' := by
  have A := hid0 h
  obtain ⟨len, hlen⟩ : ∃ len, E.length = len := ⟨_, rfl⟩
  have HL := hid0 (And.intro hlen (And.intro hl hc))
  rw [hlen] at hl ⊢
  clear h hc hlen
  go_enter Try.func19, Try.ntmps19
  go_wp2
  go_loopw [3] (fun nv wr => ∃ n : Nat, n ≤ len ∧ nv = .int .i64 n ∧ Hid (∀ i (h : i < E.length), n ≤ i → E[i].p = []) ∧ wr = w) (fun nv _ => (intOf nv).toNat)
  case atStart => exact ⟨len, Nat.le_refl _, rfl, hid0 (fun i h hn => by have := HL.out.1; omega), rfl⟩
  case round =>
    obtain ⟨n, hn, rfl, hU, rfl⟩ := hrel
    have hsl : ∀ W : World, (Instr.slice 23 (.slice a len c) none (some (.int .i64 n)) none).run Try.prog W = .ok (.slice a n c) W := by
      intro W
      have hc := HL.out.2.2
      have h1 := HL.out.1
      rw [run_slice_h W 23 a len c Try.underlying23 .i64 n (by omega) (by omega)]
      simp [go_sem, Result.andThen, sliced]
    have hfin : ∀ (hu : n = 0 ∨ ∃ h : n - 1 < E.length, 0 < n ∧ E[n - 1].p ≠ []), (trimH (hp E)).length = n := fun hu => by
      have h1 := HL.out.1
      rw [trimH_at (n := n) (fun j hj hle => by rw [hp_at (by rw [← hp_len]; exact hj)]; exact hU.out j (by rw [← hp_len]; exact hj) hle) (hu.imp id (fun ⟨h1, h2, h3⟩ => ⟨by rw [hp_len]; exact h1, h2, by rw [hp_at h1]; exact h3⟩)), List.length_take, hp_len]
      omega
    have HFIN := hid0 hfin
    clear hfin
    by_cases h0 : n = 0
    · have hni : ¬ (0 : Int) < (n : Int) := by omega
      have HE := hid0 (HFIN.out (.inl h0))
      clear h0
      go_wp2
      go_ret
      exact ⟨ret_slice HE.out.symm, Below.refl _ _⟩
    · obtain ⟨m, hm⟩ : ∃ m, n - 1 = m := ⟨_, rfl⟩
      have hml : m < E.length := by have := HL.out.1; omega
      have hni : (0 : Int) < (n : Int) := by omega
      have hwm : IntKind.i64.wrap ((n : Int) - 1) = (m : Int) := by rw [IntWalk.i64_in _ (by omega)]; omega
      have hmi : (m : Int) < (len : Int) := by omega
      obtain ⟨b', o', rfl, hcl⟩ := A.out (by intro e; rw [e] at hml; exact absurd hml (by simp))
      have q0 := hcl m hml
      clear hcl
      by_cases hu : E[m].p = []
      · have hz : E[m].p.length = 0 := by rw [hu]; rfl
        rw [hz] at q0
        have hUn := hid0 (show ∀ i (h : i < E.length), m ≤ i → E[i].p = [] from fun i h hi => by
          by_cases e : i = m
          · subst e; exact hu
          · exact hU.out i h (by omega))
        clear hu HFIN hz
        go_wp2
        exact ⟨⟨m, by omega, by go_num, hUn, trivial⟩, by simp [intOf]; omega⟩
      · have hz : (0 : Int) < (E[m].p.length : Int) := by
          have : E[m].p.length ≠ 0 := fun h => hu (List.length_eq_zero_iff.1 h)
          omega
        obtain ⟨z, hzz⟩ : ∃ z, E[m].p.length = z := ⟨_, rfl⟩
        rw [hzz] at hz q0
        have hz0 : ((z : Int) == 0) = false := by simp; omega
        have HE := hid0 (HFIN.out (.inr ⟨by rw [hm]; exact hml, by omega, by simp only [hm]; exact hu⟩))
        clear hu HFIN hzz
        go_wp2
        go_ret
        exact ⟨ret_slice HE.out.symm, Below.refl _ _⟩
end Go.Proofs.Ytneebnankghhgaa
