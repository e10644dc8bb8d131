/- Pages in memory: their slots' cells are known; the reference of layer 5: how full, whether it may be, where a row would stand, whether one fits: contracts of the calls, in whatever memory. Conditions: the slots' cells are known. -/
import Derived.Test.YtnneeojgakjalaaQb
import Derived.Test.YtnneeojgakjalaaWa
import Derived.OwnWalk
namespace Go.Proofs.Ytnneeojgakjalaa
open Go.RowKit

/-- The cells of a page's slots. -/
def SlotsAt (w : World) (a : Option Addr) (p : Pg) : Prop :=
  p ≠ [] → ∃ b off, a = some ⟨b, off, none⟩ ∧ ∀ i (h : i < p.length), w.cell? ⟨b, off + i * 2, none⟩ = some (.bool (p[i]).1) ∧ w.cell? ⟨b, off + i * 2 + 1, none⟩ = some (.string (txt (p[i]).2))
theorem SlotsAt.later {w w' : World} {a : Option Addr} {p : Pg} (h : SlotsAt w a p) (hb : Below w.heap.size w w') : SlotsAt w' a p := fun hn => by
  obtain ⟨b, off, e, hc⟩ := h hn
  exact ⟨b, off, e, fun i hi => ⟨cell_later hb (hc i hi).1, cell_later hb (hc i hi).2⟩⟩
/-- Each slot's bytes are a string's. -/
def slotsIn (p : Pg) : Prop := ∀ s ∈ p, s.2.length ≤ maxLen
/-- An int, wrapped round. -/
def sizeW (p : Pg) : Int := IntKind.i64.wrap (sizeP p : Int)
theorem sizeP_take {p : Pg} {i : Nat} (h : i < p.length) : sizeP (p.take (i + 1)) = sizeP (p.take i) + 4 + (p[i]).2.length := by
  rw [List.take_succ_eq_append_getElem h]
  have := sizeP_append (p.take i) [p[i]]
  simp only [sizeP] at this; omega

set_option maxHeartbeats 1000000 in
theorem refSize_any (a : Option Addr) (c : Nat) (p : Pg) (w : World) (h : SlotsAt w a p) (hl : p.length ≤ maxLen) (hs : slotsIn p) :
    Calls Try.prog 46 #[.agg #[.slice a p.length c]] w fun e w' => e = .returned (.int .i64 (sizeW p)) ∧ Below w.heap.size w w' := by
  have A := hid0 h
  have HS := hid0 hs
  unfold maxLen at hl
  clear h hs
  go_enter Try.func46, Try.ntmps46
  go_wp2
  have hB0 : Below w.heap.size w (w.alloc (Obj.cells #[.slice a p.length c] 62)) := (Below.refl _ _).alloc (Nat.le_refl _) _
  have q : (w.alloc (Obj.cells #[.slice a p.length c] 62)).cell? ⟨w.heap.size, 0, none⟩ = some (.slice a p.length c) := by go_cell
  generalize (w.alloc (Obj.cells #[.slice a p.length c] 62)) = W0 at hB0 q ⊢
  go_loopw [3, 4] (fun nv iv wr => ∃ i : Nat, i ≤ p.length ∧ iv = .int .i64 i ∧ nv = .int .i64 (sizeW (p.take i)) ∧ wr = W0) (fun _ iv _ => p.length - (intOf iv).toNat)
  case atStart => exact ⟨0, Nat.zero_le _, rfl, rfl, rfl⟩
  case round =>
    obtain ⟨i, hi, rfl, rfl, rfl⟩ := hrel
    by_cases hlt : i < p.length
    · obtain ⟨b, o, rfl, hc⟩ := (A.out.later hB0) (by intro e; rw [e] at hlt; exact absurd hlt (by simp))
      obtain ⟨q0, q1⟩ := hc i hlt
      clear hc
      have hz : (txt (p[i]).2).size = (p[i]).2.length := txt_size _
      have hss := HS.out _ (List.getElem_mem hlt)
      have hnx := hid0 (sizeP_take hlt)
      go_wp2
      refine ⟨⟨i + 1, by omega, by go_num, congrArg _ ?_, trivial⟩, by simp [intOf]; omega⟩
      unfold sizeW
      rw [hnx.out, IntKind.wrap_i64, IntKind.wrap_i64]
      unfold wrap64
      omega
    · have hie : ¬ (i : Int) < p.length := by omega
      go_wp2
      go_ret
      rw [List.take_of_length_le (by omega)]
      exact ⟨rfl, hB0⟩

def okS (s : Slot) : Bool := (s.1 || s.2.isEmpty) && decide (s.2.length ≤ 1024)
theorem rightB_all (p : Pg) : rightB p = (decide (p.length ≤ 256) && p.all okS && decide (sizeP p ≤ 1024) && lastUsed p) := rfl
theorem rightB_bad {p : Pg} {i : Nat} (h : i < p.length) (hb : okS p[i] = false) : rightB p = false := by
  have e : p.all okS = false := by
    rw [List.all_eq_false]
    exact ⟨p[i], List.getElem_mem h, by simp [hb]⟩
  rw [rightB_all, e]; simp
theorem all_next {p : Pg} {i : Nat} (h : (p.take i).all okS = true) (hi : i < p.length) (hb : okS p[i] = true) : (p.take (i + 1)).all okS = true := by
  rw [List.take_succ_eq_append_getElem hi, List.all_append, h]; simp [hb]
theorem all_size : ∀ {p : Pg}, p.all okS = true → sizeP p ≤ 4 + 1028 * p.length
  | [], _ => by simp [sizeP]
  | s :: p, h => by
    rw [List.all_cons, Bool.and_eq_true] at h
    have h1 := all_size h.2
    have h2 := h.1
    unfold okS at h2
    simp at h2
    rw [sizeP, List.length_cons]; omega
theorem sizeW_small {p : Pg} (h : p.all okS = true) (hl : p.length ≤ 256) : sizeW p = sizeP p := by
  have := all_size h
  unfold sizeW
  exact IntWalk.i64_in _ (by omega)
theorem lastUsed_at {p : Pg} (h : 0 < p.length) : lastUsed p = (p[p.length - 1]).1 := by
  rcases snoc_cases p with rfl | ⟨q, s, rfl⟩
  · simp at h
  · rw [last_snoc]; simp
theorem txt_empty (l : List UInt8) : (txt l).toList.isEmpty = l.isEmpty := by rw [ByteArray.toList_eq]; cases l <;> rfl

set_option maxHeartbeats 2000000 in
theorem refRight_any (a : Option Addr) (c : Nat) (p : Pg) (w : World) (h : SlotsAt w a p) (hl : p.length ≤ maxLen) (hs : slotsIn p) :
    Calls Try.prog 42 #[.agg #[.slice a p.length c]] w fun e w' => e = .returned (.bool (rightB p)) ∧ Below w.heap.size w w' := by
  have A := hid0 h
  have HS := hid0 hs
  have HL := hid0 hl
  unfold maxLen at hl
  clear h hs
  by_cases h256 : p.length ≤ 256
  · go_enter Try.func42, Try.ntmps42
    go_wp2
    have hB0 : Below w.heap.size w (w.alloc (Obj.cells #[.slice a p.length c] 62)) := (Below.refl _ _).alloc (Nat.le_refl _) _
    have q : (w.alloc (Obj.cells #[.slice a p.length c] 62)).cell? ⟨w.heap.size, 0, none⟩ = some (.slice a p.length c) := by go_cell
    have hlt0 : w.heap.size < (w.alloc (Obj.cells #[.slice a p.length c] 62)).heap.size := by simp
    generalize (w.alloc (Obj.cells #[.slice a p.length c] 62)) = W0 at hB0 q hlt0 ⊢
    go_loopw [3] (fun iv wr => ∃ i : Nat, i ≤ p.length ∧ iv = .int .i64 i ∧ Hid ((p.take i).all okS = true) ∧ wr = W0) (fun iv _ => p.length - (intOf iv).toNat)
    case atStart => exact ⟨0, Nat.zero_le _, rfl, hid0 rfl, rfl⟩
    case round =>
      obtain ⟨i, hi, rfl, hO, rfl⟩ := hrel
      by_cases hlt : i < p.length
      · obtain ⟨b, o, rfl, hc⟩ := (A.out.later hB0) (by intro e; rw [e] at hlt; exact absurd hlt (by simp))
        obtain ⟨q0, q1⟩ := hc i hlt
        clear hc
        have hbad := hid0 (fun hb => rightB_bad (p := p) hlt hb)
        have hnext := hid0 (fun hb => all_next hO.out hlt hb)
        obtain ⟨⟨u, d⟩, hsi⟩ : ∃ s, p[i] = s := ⟨_, rfl⟩
        rw [hsi] at q0 q1 hbad hnext
        clear hsi
        have hz : (txt d).size = d.length := txt_size _
        cases u with
        | false =>
          cases d with
          | nil =>
            have he : (txt []).toList.isEmpty = true := txt_empty []
            have hz0 : (txt []).size = 0 := rfl
            clear hz
            go_wp2
            exact ⟨⟨i + 1, by omega, by go_num, hid0 (hnext.out rfl), trivial⟩, by simp [intOf]; omega⟩
          | cons x r =>
            have he : (txt (x :: r)).toList.isEmpty = false := txt_empty (x :: r)
            go_wp2
            go_ret
            exact ⟨ret_bool (hbad.out (by simp [okS])).symm, hB0⟩
        | true =>
          by_cases hd : d.length ≤ 1024
          · have hdi : (d.length : Int) ≤ 1024 := by omega
            go_wp2
            exact ⟨⟨i + 1, by omega, by go_num, hid0 (hnext.out (by simp [okS, hd])), trivial⟩, by simp [intOf]; omega⟩
          · have hdi : (1024 : Int) < d.length := by omega
            go_wp2
            go_ret
            exact ⟨ret_bool (hbad.out (by simp [okS, hd])).symm, hB0⟩
      · have hie : ¬ (i : Int) < p.length := by omega
        rw [List.take_of_length_le (by omega)] at hO
        have hsw := sizeW_small hO.out h256
        have hall := hO.out
        have C22 := refSize_any a c p wr (A.out.later hB0) HL.out HS.out
        rw [hsw] at C22
        have HC := hid0 C22
        clear C22 hsw
        by_cases hs : sizeP p ≤ 1024
        · have hsi : (sizeP p : Int) ≤ 1024 := by omega
          by_cases hp : p.length = 0
          · obtain rfl := List.length_eq_zero_iff.1 hp
            have HC0 : Calls Try.prog 46 #[.agg #[.slice a 0 c]] wr fun e w' => e = .returned (.int .i64 4) ∧ Below wr.heap.size wr w' := HC.out
            have q' : wr.cell? ⟨w.heap.size, 0, none⟩ = some (.slice a 0 c) := q
            clear HC q
            go_wp2_with (go_at_call 46; refine HC0.mono ?_; rintro e w1 ⟨rfl, hb⟩; have q1 := cell_later hb q')
            go_ret
            exact ⟨rfl, hB0.trans (hb.mono hB0.size)⟩
          · obtain ⟨m, hm⟩ : ∃ m, p.length - 1 = m := ⟨_, rfl⟩
            have hml : m < p.length := by omega
            have hr : rightB p = (p[m]).1 := by
              rw [rightB_all, hall, lastUsed_at (by omega)]; simp [h256, hs, hm]
            have HR := hid0 hr
            have hsub : (p.length : Int) - 1 = (m : Int) := by omega
            have hp0 : ¬ (p.length : Int) = 0 := by omega
            have hAw := A.out.later hB0
            obtain ⟨b, o, rfl, hc⟩ := hAw (by intro e; rw [e] at hml; exact absurd hml (by simp))
            have q0 := (hc m hml).1
            clear hr hm hc hAw hp
            go_wp2_with (go_at_call 46; refine HC.out.mono ?_; rintro e w1 ⟨rfl, hb⟩; have q1 := cell_later hb q; have q2 := cell_later hb q0)
            · exfalso
              have : p.length = 0 := by rw [‹p = []›]; rfl
              omega
            · go_ret
              exact ⟨ret_bool (by rw [HR.out, beq_false_of_ne hp0]; simp), hB0.trans (hb.mono hB0.size)⟩
        · have hr : rightB p = false := by rw [rightB_all]; simp [hs]
          have HR := hid0 hr
          have hsi : ¬ (sizeP p : Int) ≤ 1024 := by omega
          clear hr
          go_wp2_with (go_at_call 46; refine HC.out.mono ?_; rintro e w1 ⟨rfl, hb⟩)
          go_ret
          exact ⟨ret_bool HR.out.symm, hB0.trans (hb.mono hB0.size)⟩
  · have hr : rightB p = false := by rw [rightB_all]; simp [h256]
    rw [hr]
    have hgt : (256 : Int) < p.length := by omega
    go_enter Try.func42, Try.ntmps42
    go_wp2
    go_ret
    exact ⟨rfl, by go_grown⟩

theorem place_stop {p : Pg} {i : Nat} (h : i + placeP (p.drop i) = placeP p) (hi : i < p.length) (hu : (p[i]).1 = false) : placeP p = i := by
  rw [List.drop_eq_getElem_cons hi] at h
  have e : placeP (p[i] :: p.drop (i + 1)) = 0 := by simp [placeP, hu]
  rw [e] at h; omega
theorem place_go {p : Pg} {i : Nat} (h : i + placeP (p.drop i) = placeP p) (hi : i < p.length) (hu : (p[i]).1 = true) : (i + 1) + placeP (p.drop (i + 1)) = placeP p := by
  rw [List.drop_eq_getElem_cons hi] at h
  have e : placeP (p[i] :: p.drop (i + 1)) = placeP (p.drop (i + 1)) + 1 := by simp [placeP, hu]
  rw [e] at h; omega

set_option maxHeartbeats 2000000 in
theorem refPlace_any (a : Option Addr) (c : Nat) (p : Pg) (w : World) (h : SlotsAt w a p) (hl : p.length ≤ maxLen) :
    Calls Try.prog 45 #[.agg #[.slice a p.length c]] w fun e w' => e = .returned (.int .i64 (placeP p : Nat)) ∧ Below w.heap.size w w' := by
  have A := hid0 h
  unfold maxLen at hl
  clear h
  go_enter Try.func45, Try.ntmps45
  go_wp2
  have hB0 : Below w.heap.size w (w.alloc (Obj.cells #[.slice a p.length c] 62)) := (Below.refl _ _).alloc (Nat.le_refl _) _
  have q : (w.alloc (Obj.cells #[.slice a p.length c] 62)).cell? ⟨w.heap.size, 0, none⟩ = some (.slice a p.length c) := by go_cell
  generalize (w.alloc (Obj.cells #[.slice a p.length c] 62)) = W0 at hB0 q ⊢
  go_loopw [3] (fun iv wr => ∃ i : Nat, i ≤ p.length ∧ iv = .int .i64 i ∧ Hid (i + placeP (p.drop i) = placeP p) ∧ wr = W0) (fun iv _ => p.length - (intOf iv).toNat)
  case atStart => exact ⟨0, Nat.zero_le _, rfl, hid0 (by simp), rfl⟩
  case round =>
    obtain ⟨i, hi, rfl, hP, rfl⟩ := hrel
    by_cases hlt : i < p.length
    · obtain ⟨b, o, rfl, hc⟩ := (A.out.later hB0) (by intro e; rw [e] at hlt; exact absurd hlt (by simp))
      have q0 := (hc i hlt).1
      clear hc
      cases hu : (p[i]).1 with
      | false =>
        rw [hu] at q0
        have HP := hid0 (place_stop hP.out hlt hu)
        clear hu
        go_wp2
        go_ret
        exact ⟨ret_i64 (by rw [HP.out]), hB0⟩
      | true =>
        rw [hu] at q0
        have HP := hid0 (place_go hP.out hlt hu)
        clear hu
        go_wp2
        exact ⟨⟨i + 1, by omega, by go_num, HP, trivial⟩, by simp [intOf]; omega⟩
    · have hie : ¬ (i : Int) < p.length := by omega
      have HP : placeP p = p.length := by
        have h := hP.out
        rw [List.drop_eq_nil_of_le (by omega)] at h
        simp only [placeP] at h
        omega
      have HP' := hid0 HP
      clear HP
      go_wp2
      go_ret
      exact ⟨ret_i64 (by rw [HP'.out]), hB0⟩
end Go.Proofs.Ytnneeojgakjalaa
