/- Several of my texts laid together, each as it was: Qpa. Conditions: each names its own. -/
import Derived.Test.YtneebnankghhgaaGB
import Derived.BigQuiet
/- The project's page: how full, whether a slot may be, whether all may, the slots but those at the end that aren't used, the first free slot, whether the page may be: contracts of the calls, in whatever memory. Conditions: the slots' cells are known. -/
namespace Go.Proofs.Ytneebnankghhgaa
open Go.RowKit

theorem ret_slice {a : Option Addr} {m n c : Nat} (h : m = n) : Ending.returned (.slice a m c) = .returned (.slice a n c) := by rw [h]
theorem wrap_more (x y z : Int) (h : x + y = z) : wrap64 (wrap64 x + y) = IntKind.i64.wrap z := by
  subst h
  rw [IntKind.wrap_i64]
  unfold wrap64
  omega
theorem dataLen_take {p : Pg} {i : Nat} (h : i < p.length) : (dataP (p.take (i + 1))).length = (dataP (p.take i)).length + (p[i]).2.length := by
  rw [List.take_succ_eq_append_getElem h, dataP_append]
  simp [dataP]; omega

set_option maxHeartbeats 1000000 in
theorem pgSize_any (a : Option Addr) (c : Nat) (p : Pg) (w : World) (h : SlotsAt w a p) (hl : p.length * 24 ≤ 140737488351232) (hs : slotsIn p) :
    Calls Try.prog 32 #[.agg #[.slice a p.length c]] w fun e w' => e = .returned (.int .i64 (sizeW p)) ∧ Below w.heap.size w w' := by
  have A := hid0 h
  have HS := hid0 hs
  clear h hs
  go_enter Try.func32, Try.ntmps32
  go_wp2
  have hB0 : Below w.heap.size w (w.alloc (Obj.cells #[.slice a p.length c] 55)) := (Below.refl _ _).alloc (Nat.le_refl _) _
  generalize (w.alloc (Obj.cells #[.slice a p.length c] 55)) = W0 at hB0 ⊢
  go_loopw [3, 14] (fun nv iv wr => ∃ i : Nat, i ≤ p.length ∧ iv = .int .i64 i ∧ nv = .int .i64 (IntKind.i64.wrap (4 + 4 * (p.length : Int) + ((dataP (p.take i)).length : Nat))) ∧ Below w.heap.size w wr) (fun _ iv _ => p.length - (intOf iv).toNat)
  case atStart => exact ⟨0, Nat.zero_le _, rfl, congrArg _ (by rw [IntWalk.i64_in _ (by simp [dataP]; omega)]; simp [dataP]), hB0⟩
  case round =>
    obtain ⟨i, hi, rfl, rfl, hB⟩ := hrel
    have hsz := hB.size
    by_cases hlt : i < p.length
    · obtain ⟨b, o, rfl, hc⟩ := (A.out.later hB) (by intro e; rw [e] at hlt; exact absurd hlt (by simp))
      obtain ⟨q0, q1⟩ := hc i hlt
      clear hc
      have hz : (txt (p[i]).2).size = (p[i]).2.length := txt_size _
      have hss := HS.out _ (List.getElem_mem hlt)
      have hnx := hid0 (dataLen_take hlt)
      have hBA := hB.alloc hsz (Obj.cells #[.bool (p[i]).1, .string (txt (p[i]).2)] 74)
      go_wp2
      refine ⟨⟨i + 1, by omega, by go_num, congrArg _ ?_, hBA⟩, by simp [intOf]; omega⟩
      rw [hnx.out]
      exact wrap_more _ _ _ (by omega)
    · have hie : ¬ (i : Int) < p.length := by omega
      go_wp2
      go_ret
      refine ⟨ret_i64 ?_, hB⟩
      rw [List.take_of_length_le (by omega)]
      unfold sizeW
      rw [sizeP_data]
      congr 1

/-! ### Whether a slot is wrong; whether one of them is -/
set_option maxHeartbeats 1000000 in
theorem pgWrong_any (u : Bool) (d : List UInt8) (w : World) (hd : d.length ≤ maxLen) :
    Calls Try.prog 37 #[.agg #[.bool u, .string (txt d)]] w fun e w' => e = .returned (.bool (!okS (u, d))) ∧ Below w.heap.size w w' := by
  unfold maxLen at hd
  have hz : (txt d).size = d.length := txt_size _
  by_cases h1 : d.length ≤ 1024
  · have h1i : ¬ (1024 : Int) < d.length := by omega
    cases u with
    | true =>
      have hok : okS (true, d) = true := by simp [okS, h1]
      have HO := hid0 hok
      clear hok
      go_enter Try.func37, Try.ntmps37
      go_wp2
      go_ret
      exact ⟨ret_bool (by rw [HO.out]; rfl), by go_grown⟩
    | false =>
      cases d with
      | nil =>
        have hz0 : (txt []).size = 0 := rfl
        clear hz
        go_enter Try.func37, Try.ntmps37
        go_wp2
        go_ret
        exact ⟨rfl, by go_grown⟩
      | cons x r =>
        have hok : okS (false, x :: r) = false := by simp [okS]
        have HO := hid0 hok
        obtain ⟨n, hn⟩ : ∃ n, (x :: r).length = n := ⟨_, rfl⟩
        rw [hn] at hz h1i hd
        have hpos : (0 : Int) < n := by simp at hn; omega
        clear hok hn h1
        go_enter Try.func37, Try.ntmps37
        go_wp2
        go_ret
        exact ⟨ret_bool (by rw [HO.out]; simp; omega), by go_grown⟩
  · have h1i : (1024 : Int) < d.length := by omega
    have hok : okS (u, d) = false := by simp [okS]; intro _; omega
    have HO := hid0 hok
    clear hok h1
    go_enter Try.func37, Try.ntmps37
    go_wp2
    go_ret
    exact ⟨ret_bool (by rw [HO.out]; rfl), by go_grown⟩

/-- Where the first wrong slot is; -1: none is. -/
def WrongAt (p : Pg) (w : World) (e : Ending) (w' : World) : Prop :=
  ∃ r : Int, e = .returned (.int .i64 r) ∧ decide (0 ≤ r) = !p.all okS ∧ Below w.heap.size w w'
theorem all_bad {p : Pg} {i : Nat} (h : i < p.length) (hb : okS p[i] = false) : p.all okS = false := by
  rw [List.all_eq_false]
  exact ⟨p[i], List.getElem_mem h, by simp [hb]⟩
set_option maxHeartbeats 1000000 in
theorem pgIndex_any (a : Option Addr) (c : Nat) (p : Pg) (w : World) (h : SlotsAt w a p) (hl : p.length * 24 ≤ 140737488351232) (hs : slotsIn p) :
    Calls Try.prog 38 #[.slice a p.length c, .func (.func 37) #[] #[]] w (WrongAt p w) := by
  have A := hid0 h
  have HS := hid0 hs
  clear h hs
  go_enter Try.func38, Try.ntmps38
  go_wp2
  go_loopw [8] (fun iv wr => ∃ i : Nat, i ≤ p.length ∧ iv = .int .i64 i ∧ Hid ((p.take i).all okS = true) ∧ Below w.heap.size w wr) (fun iv _ => p.length - (intOf iv).toNat)
  case atStart => exact ⟨0, Nat.zero_le _, rfl, hid0 rfl, Below.refl _ _⟩
  case round =>
    obtain ⟨i, hi, rfl, hO, hB⟩ := hrel
    have hsz := hB.size
    by_cases hlt : i < p.length
    · obtain ⟨b1, o1, rfl, hc1⟩ := (A.out.later hB) (by intro e; rw [e] at hlt; exact absurd hlt (by simp))
      obtain ⟨q0, q1⟩ := hc1 i hlt
      clear hc1
      have hss := HS.out _ (List.getElem_mem hlt)
      have CW := fun W => pgWrong_any (p[i]).1 (p[i]).2 W hss
      cases hok : okS p[i] with
      | true =>
        have HN := hid0 (all_next hO.out hlt hok)
        rw [show ((p[i]).1, (p[i]).2) = p[i] from rfl, hok] at CW
        clear hok
        go_wp2_with (go_at_call 37; refine (CW _).mono ?_; rintro e wn ⟨rfl, hbn⟩)
        exact ⟨⟨i + 1, by omega, by go_num, HN, below_through hbn hsz hB⟩, by simp [intOf]; omega⟩
      | false =>
        have HN := hid0 (all_bad hlt hok)
        rw [show ((p[i]).1, (p[i]).2) = p[i] from rfl, hok] at CW
        clear hok
        go_wp2_with (go_at_call 37; refine (CW _).mono ?_; rintro e wn ⟨rfl, hbn⟩)
        go_ret
        exact ⟨i, rfl, by rw [HN.out]; simp, below_through hbn hsz hB⟩
    · have hie : ¬ (i : Int) < p.length := by omega
      rw [List.take_of_length_le (by omega)] at hO
      go_wp2
      go_ret
      exact ⟨-1, rfl, by rw [hO.out]; rfl, hB⟩
set_option maxHeartbeats 400000 in
theorem pgContains_any (a : Option Addr) (c : Nat) (p : Pg) (w : World) (h : SlotsAt w a p) (hl : p.length * 24 ≤ 140737488351232) (hs : slotsIn p) :
    Calls Try.prog 36 #[.slice a p.length c, .func (.func 37) #[] #[]] w fun e w' => e = .returned (.bool (!p.all okS)) ∧ Below w.heap.size w w' := by
  have H := hid0 (pgIndex_any a c p w h hl hs)
  clear h hl hs
  go_enter Try.func36, Try.ntmps36
  go_wp2_with (go_at_call 38; refine H.out.mono ?_; rintro e w1 ⟨r, rfl, hr, hb⟩; have HR := hid0 hr; clear hr)
  go_ret
  exact ⟨ret_bool HR.out, hb⟩

/-! ### The slots but those at the end that aren't used -/
set_option maxHeartbeats 2000000 in
theorem pgTrimmed_any (a : Option Addr) (c : Nat) (p : Pg) (w : World) (h : SlotsAt w a p) (hc : p.length ≤ c) (hl : p.length * 24 ≤ 140737488351232) :
    Calls Try.prog 31 #[.slice a p.length c] w fun e w' => e = .returned (.slice a (trimP p).length c) ∧ Below w.heap.size w w' := by
  have A := hid0 h
  obtain ⟨len, hlen⟩ : ∃ len, p.length = len := ⟨_, rfl⟩
  have HL := hid0 (And.intro hlen (And.intro hl hc))
  rw [hlen] at hl ⊢
  clear h hc hlen
  go_enter Try.func31, Try.ntmps31
  go_wp2
  go_loopw [3] (fun nv wr => ∃ n : Nat, n ≤ len ∧ nv = .int .i64 n ∧ Hid (∀ i (h : i < p.length), n ≤ i → (p[i]).1 = false) ∧ wr = w) (fun nv _ => (intOf nv).toNat)
  case atStart => exact ⟨len, Nat.le_refl _, rfl, hid0 (fun i h hn => by have := HL.out.1; omega), rfl⟩
  case round =>
    obtain ⟨n, hn, rfl, hU, rfl⟩ := hrel
    have hsl : ∀ W : World, (Instr.slice 53 (.slice a len c) none (some (.int .i64 n)) none).run Try.prog W = .ok (.slice a n c) W := by
      intro W
      have hc := HL.out.2.2
      have h1 := HL.out.1
      rw [run_slice_h W 53 a len c Try.underlying53 .i64 n (by omega) (by omega)]
      simp [go_sem, Result.andThen, sliced]
    have hfin : ∀ (hu : n = 0 ∨ ∃ h : n - 1 < p.length, 0 < n ∧ (p[n - 1]).1 = true), (trimP p).length = n := fun hu => by
      rw [trimP_at hU.out hu, List.length_take]
      have := HL.out.1
      omega
    have HFIN := hid0 hfin
    clear hfin
    by_cases h0 : n = 0
    · have hni : ¬ (0 : Int) < (n : Int) := by omega
      have HE := hid0 (HFIN.out (.inl h0))
      clear h0
      go_wp2
      go_ret
      exact ⟨ret_slice HE.out.symm, Below.refl _ _⟩
    · obtain ⟨m, hm⟩ : ∃ m, n - 1 = m := ⟨_, rfl⟩
      have hml : m < p.length := by have := HL.out.1; omega
      have hni : (0 : Int) < (n : Int) := by omega
      have hwm : IntKind.i64.wrap ((n : Int) - 1) = (m : Int) := by rw [IntWalk.i64_in _ (by omega)]; omega
      have hmi : (m : Int) < (len : Int) := by omega
      obtain ⟨b', o', rfl, hcl⟩ := A.out (by intro e; rw [e] at hml; exact absurd hml (by simp))
      have q0 := (hcl m hml).1
      clear hcl
      cases hu : (p[m]).1 with
      | false =>
        rw [hu] at q0
        have hUn := hid0 (show ∀ i (h : i < p.length), m ≤ i → (p[i]).1 = false from fun i h hi => by
          by_cases e : i = m
          · subst e; exact hu
          · exact hU.out i h (by omega))
        clear hu HFIN
        go_wp2
        exact ⟨⟨m, by omega, by go_num, hUn, trivial⟩, by simp [intOf]; omega⟩
      | true =>
        rw [hu] at q0
        have HE := hid0 (HFIN.out (.inr ⟨by rw [hm]; exact hml, by omega, by simp only [hm]; exact hu⟩))
        clear hu HFIN
        go_wp2
        go_ret
        exact ⟨ret_slice HE.out.symm, Below.refl _ _⟩

/-! ### The first free slot -/
set_option maxHeartbeats 2000000 in
theorem pgFree_any (a : Option Addr) (c : Nat) (p : Pg) (w : World) (h : SlotsAt w a p) (hl : p.length * 24 ≤ 140737488351232) :
    Calls Try.prog 29 #[.agg #[.slice a p.length c]] w fun e w' => e = .returned (.int .i64 (placeP p : Nat)) ∧ Below w.heap.size w w' := by
  have A := hid0 h
  clear h
  go_enter Try.func29, Try.ntmps29
  go_wp2
  have hB0 : Below w.heap.size w (w.alloc (Obj.cells #[.slice a p.length c] 55)) := (Below.refl _ _).alloc (Nat.le_refl _) _
  have q : (w.alloc (Obj.cells #[.slice a p.length c] 55)).cell? ⟨w.heap.size, 0, none⟩ = some (.slice a p.length c) := by go_cell
  have hlt0 : w.heap.size < (w.alloc (Obj.cells #[.slice a p.length c] 55)).heap.size := by simp
  generalize (w.alloc (Obj.cells #[.slice a p.length c] 55)) = W0 at hB0 q hlt0 ⊢
  go_loopw [8] (fun iv wr => ∃ i : Nat, i ≤ p.length ∧ iv = .int .i64 i ∧ Hid (i + placeP (p.drop i) = placeP p) ∧ wr.cell? ⟨w.heap.size, 0, none⟩ = some (.slice a p.length c) ∧ Below w.heap.size w wr) (fun iv _ => p.length - (intOf iv).toNat)
  case atStart => exact ⟨0, Nat.zero_le _, rfl, hid0 (by simp), q, hB0⟩
  case round =>
    obtain ⟨i, hi, rfl, hP, q', hB⟩ := hrel
    clear q hB0
    have hsz := hB.size
    by_cases hlt : i < p.length
    · obtain ⟨b, o, rfl, hc⟩ := (A.out.later hB) (by intro e; rw [e] at hlt; exact absurd hlt (by simp))
      obtain ⟨q0, q1⟩ := hc i hlt
      clear hc
      have hBA := hB.alloc hsz (Obj.cells #[.bool (p[i]).1, .string (txt (p[i]).2)] 74)
      have qA := cell_later ((Below.refl _ _).alloc (Nat.le_refl _) (Obj.cells #[.bool (p[i]).1, .string (txt (p[i]).2)] 74)) q'
      cases hu : (p[i]).1 with
      | false =>
        rw [hu] at q0 hBA
        have HP := hid0 (place_stop hP.out hlt hu)
        clear hu qA
        go_wp2
        go_ret
        exact ⟨ret_i64 (by rw [HP.out]), hBA⟩
      | true =>
        rw [hu] at q0 hBA qA
        have HP := hid0 (place_go hP.out hlt hu)
        clear hu
        go_wp2
        exact ⟨⟨i + 1, by omega, by go_num, HP, qA, hBA⟩, by simp [intOf]; omega⟩
    · have hie : ¬ (i : Int) < p.length := by omega
      have HP : placeP p = p.length := by
        have h := hP.out
        rw [List.drop_eq_nil_of_le (by omega)] at h
        simp only [placeP] at h
        omega
      have HP' := hid0 HP
      clear HP
      go_wp2
      go_ret
      exact ⟨ret_i64 (by rw [HP'.out]), hB⟩
end Go.Proofs.Ytneebnankghhgaa
