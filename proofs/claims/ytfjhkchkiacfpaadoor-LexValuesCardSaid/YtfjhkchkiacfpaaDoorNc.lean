/- The project's lexer: a number, a text, a sign: contracts of the calls, in whatever memory. Conditions: each names its own. -/
import Derived.Test.YtfjhkchkiacfpaaDoorNb
import Derived.Test.YtfjhkchkiacfpaaDoorCa
import Derived.Test.YtfjhkchkiacfpaaDoorShelf
import Derived.OwnWalk
namespace Go.Proofs.YtfjhkchkiacfpaaDoor
open Go.RowKit

/-- What strconv.ErrRange holds is an error, or nothing. -/
def ErAt (w : World) : Prop := ∃ ev, w.cell? ⟨2, 0, none⟩ = some ev ∧ (ev = .nilIface ∨ ∃ te pe, ev = .iface te pe)
theorem ErAt.later {w w' : World} (h : ErAt w) (hb : Below w.heap.size w w') : ErAt w' := by
  obtain ⟨ev, h1, h2⟩ := h
  exact ⟨ev, (hb.cell (p := ⟨2, 0, none⟩) (World.block_lt_of_cell? _ _ h1)).trans h1, h2⟩

def putW (w : World) (B : Nat) (x : Wd) : World := (((w.setCell ⟨B, 0, none⟩ (.int .i64 (x.k : Nat))).setCell ⟨B, 1, none⟩ (.string (txt x.s))).setCell ⟨B, 2, none⟩ (.int .u64 (x.n : Nat))).setCell ⟨B, 3, none⟩ (.int .i64 (x.p : Nat))

def numW (l : List UInt8) : Wd × Nat := if numBad l then (noW, 0) else (⟨2, [], numN l, 0⟩, cnt isD l)
theorem numBad_head {l : List UInt8} (h : 1 < cnt isD l) (h0 : l.head? = some 48) : numW l = (noW, 0) := by simp [numW, numBad, h, h0]
theorem numBad_letter {l : List UInt8} (h : cnt isD l < l.length) (h0 : isL l[cnt isD l] = true) : numW l = (noW, 0) := by
  have : (l[cnt isD l]?).any isL = true := by rw [List.getElem?_eq_getElem h]; exact h0
  simp only [numW, numBad, this, Bool.or_true, Bool.true_or, if_true]
theorem numBad_great {l : List UInt8} (h : 9223372036854775808 < numN l) : numW l = (noW, 0) := by simp [numW, numBad, h]
theorem num_good {l : List UInt8} (h : 1 < cnt isD l → l.head? ≠ some 48) (h1 : ∀ h : cnt isD l < l.length, isL l[cnt isD l] = false) (h2 : numN l ≤ 9223372036854775808) : numW l = (⟨2, [], numN l, 0⟩, cnt isD l) := by
  have a : (decide (1 < cnt isD l) && decide (l.head? = some 48)) = false := by
    by_cases g : 1 < cnt isD l
    · simp [h g]
    · simp [g]
  have b : (l[cnt isD l]?).any isL = false := by
    rcases Nat.lt_or_ge (cnt isD l) l.length with g | g
    · rw [List.getElem?_eq_getElem g]; exact h1 g
    · rw [List.getElem?_eq_none g]; rfl
  have c : decide (9223372036854775808 < numN l) = false := by simpa using h2
  unfold numW numBad
  rw [a, b, c]
  rfl
theorem numW_head {l : List UInt8} {z : Nat} {c : UInt8} (hz : cnt isD l = z) (hh : l.head? = some c) (h : 1 < z) (h' : c.toNat = 48) : numW l = (noW, 0) := by
  subst hz
  exact numBad_head h (by rw [hh, show c = 48 from UInt8.toNat_inj.1 h'])
theorem numW_letter {l : List UInt8} {z : Nat} (hz : cnt isD l = z) (h : z < l.length) (h' : isL l[z] = true) : numW l = (noW, 0) := by
  subst hz
  exact numBad_letter h h'
theorem numW_good {l : List UInt8} {z : Nat} {c : UInt8} (hz : cnt isD l = z) (hh : l.head? = some c) (h : 1 < z → ¬ c.toNat = 48) (h1 : ∀ h : z < l.length, isL l[z] = false) (h2 : numN l ≤ 9223372036854775808) : numW l = (⟨2, [], numN l, 0⟩, z) := by
  subst hz
  exact num_good (fun g => by rw [hh]; intro q; exact h g (by rw [Option.some.inj q]; rfl)) h1 h2
theorem digit_end {l : List UInt8} {z : Nat} (hz : cnt isD l = z) (h : z < l.length) : isD l[z] = false := by
  subst hz
  exact cnt_end isD l h
theorem cnt_is {p : UInt8 → Bool} {l : List UInt8} {i : Nat} (h : ∀ j (hj : j < l.length), j < i → p l[j] = true) (hi : i ≤ l.length) (he : ∀ h : i < l.length, p l[i] = false) : cnt p l = i := by
  have h1 := cnt_go h hi
  have h2 := cnt_le p l
  rcases Nat.lt_or_ge i (cnt p l) with g | g
  · have := cnt_all p l i (by omega) g
    rw [he (by omega)] at this; cases this
  · omega
theorem digit_more {l : List UInt8} {k : Nat} (h : ∀ j (hj : j < l.length), j < k → isD l[j] = true) (hk : ∀ h : k < l.length, isD l[k] = true) : ∀ j (hj : j < l.length), j < k + 1 → isD l[j] = true := fun j hj h1 => by
  rcases Nat.lt_or_ge j k with g | g
  · exact h j hj g
  · obtain rfl : j = k := by omega
    exact hk hj

/-- What strconv.ParseUint tells of a number's digits. -/
structure PuAt (l : List UInt8) (k : Nat) (U : Int) (good : Bool) : Prop where
  out : ∀ W, ErAt W → Calls Tryd.prog 29 #[.string (txt (l.take k)), .int .i64 10, .int .i64 64] W fun e w' => (∃ ev, e = .returned (.tuple #[.int .u64 U, ev]) ∧ (good = true → ev = .nilIface) ∧ (good = false → ∃ t p, ev = .iface t p)) ∧ Below W.heap.size W w'
theorem pu_any {l : List UInt8} {k : Nat} (hl : l.length ≤ 281474976710656) (hk : cnt isD l = k) (h0 : 0 < k) : (∃ N : Nat, numN l = N ∧ N < 18446744073709551616 ∧ PuAt l k N true) ∨ (9223372036854775808 < numN l ∧ PuAt l k 18446744073709551615 false) := by
  have hd : ∀ c ∈ (txt (l.take k)).data.toList, isD c = true := by rw [txt_list, ← hk]; exact cnt_digits l
  have hne : (txt (l.take k)).data.toList ≠ [] := by
    rw [txt_list]
    intro e
    have h1 := cnt_le isD l
    have h2 := congrArg List.length e
    rw [List.length_take, List.length_nil] at h2
    omega
  have hp := parse_digits hd hne
  have e : decV (txt (l.take k)).data.toList = numN l := by rw [txt_list, ← hk]; rfl
  rw [e] at hp
  have hsz : (txt (l.take k)).size ≤ 281474976710656 := by rw [txt_size, List.length_take]; omega
  by_cases h : numN l < 18446744073709551616
  · rw [if_pos h] at hp
    refine .inl ⟨_, rfl, h, ⟨fun W _ => (Tryd.strconv_ParseUint_10_at64_ok _ (by omega) _ hp W).mono ?_⟩⟩
    rintro e w' ⟨rfl, hw⟩
    refine ⟨⟨_, rfl, fun _ => rfl, fun h => by cases h⟩, ?_⟩
    rcases hw with rfl | rfl
    · exact Below.refl _ _
    · exact Lib.bytesWorld_below _ _ _
  · rw [if_neg h] at hp
    refine .inr ⟨by omega, ⟨fun W hE => ?_⟩⟩
    obtain ⟨ev, h1, h2⟩ := hE
    refine (Tryd.strconv_ParseUint_10_at64_range _ hsz hp ev W h1 h2).mono ?_
    rintro e w' ⟨N, rfl, _, _, hb⟩
    exact ⟨⟨_, rfl, fun h => (by cases h), fun _ => ⟨_, _, rfl⟩⟩, hb⟩

theorem cut_to (l : List UInt8) (n : Nat) (h : n ≤ l.length) (W : World) : (Instr.slice 9 (.string (txt l)) none (some (.int .i64 (n : Int))) none).run Tryd.prog W = .ok (.string (txt (l.take n))) W := by
  rw [run_slice_string_h W 9 (txt l) Tryd.underlying9 .i64 (n : Int) (by omega) (by rw [txt_size]; omega), txt_cut]
  simp

/-- The result's block, behind whatever keeps it. -/
structure NoAt (w : World) (B : Nat) : Prop where
  c0 : w.cell? ⟨B, 0, none⟩ = some (.int .i64 0)
  c1 : w.cell? ⟨B, 1, none⟩ = some (.string ⟨#[]⟩)
  c2 : w.cell? ⟨B, 2, none⟩ = some (.int .u64 0)
  c3 : w.cell? ⟨B, 3, none⟩ = some (.int .i64 0)
  f : ∀ j, w.frozen? ⟨B, j, none⟩ = false
def noCells : Obj := .cells #[.int .i64 0, .string ⟨#[]⟩, .int .u64 0, .int .i64 0] 30
theorem NoAt.new (w : World) : NoAt (w.alloc noCells) w.heap.size := ⟨by unfold noCells; go_cell, by unfold noCells; go_cell, by unfold noCells; go_cell, by unfold noCells; go_cell, fun j => by unfold noCells; exact World.frozen?_alloc_at _ _ _ _ rfl⟩
theorem NoAt.later {w w' : World} {B : Nat} (h : NoAt w B) (hb : Below w.heap.size w w') : NoAt w' B :=
  have hlt := World.block_lt_of_cell? _ _ h.c0
  ⟨cell_later hb h.c0, cell_later hb h.c1, cell_later hb h.c2, cell_later hb h.c3, fun j => (hb.frozen (p := ⟨B, j, none⟩) hlt).trans (h.f j)⟩
theorem put_below {w w' : World} {B : Nat} (hb : Below w.heap.size w w') (hB : w.heap.size ≤ B) (x : Wd) : Below w.heap.size w (putW w' B x) := (((hb.setCell hB _).setCell hB _).setCell hB _).setCell hB _
theorem put_cells {w' : World} {B : Nat} (h : NoAt w' B) (x : Wd) : (putW w' B x).cell? ⟨B, 0, none⟩ = some (.int .i64 (x.k : Nat)) ∧ (putW w' B x).cell? ⟨B, 1, none⟩ = some (.string (txt x.s)) ∧ (putW w' B x).cell? ⟨B, 2, none⟩ = some (.int .u64 (x.n : Nat)) ∧ (putW w' B x).cell? ⟨B, 3, none⟩ = some (.int .i64 (x.p : Nat)) := by
  obtain ⟨h0, h1, h2, h3, hf⟩ := h
  unfold putW
  exact ⟨by go_cell, by go_cell, by go_cell, by go_cell⟩
/-- A call ends whose result lies in a cell of its own. -/
theorem lx_end {P : Program} {f : Func} {Q : Ending → World → Prop} {a : Act} {w' : World} {B : Nat} (x : Wd) (n : Nat) (h : NoAt w' B) (hr : ∀ W : World, W.cell? ⟨B, 0, none⟩ = some (.int .i64 (x.k : Nat)) → W.cell? ⟨B, 1, none⟩ = some (.string (txt x.s)) → W.cell? ⟨B, 2, none⟩ = some (.int .u64 (x.n : Nat)) → W.cell? ⟨B, 3, none⟩ = some (.int .i64 (x.p : Nat)) → (results f a.tmps).run P W = .ok (.tuple #[wdV x, .int .i64 (n : Int)]) W)
    (hd : a.defers = []) (hQ : Q (.returned (.tuple #[wdV x, .int .i64 (n : Int)])) (putW w' B x)) : bodyPost P f Q .ret a (putW w' B x) := by
  obtain ⟨h0, h1, h2, h3⟩ := put_cells h x
  exact bodyPost_ret (v := .tuple #[wdV x, .int .i64 (n : Int)]) (hr _ h0 h1 h2 h3) hd hQ
theorem wdV_no : wdV noW = .agg #[.int .i64 0, .string ⟨#[]⟩, .int .u64 0, .int .i64 0] := rfl

set_option maxHeartbeats 4000000 in
theorem lxNumber_any (l : List UInt8) (w : World) (hl : l.length ≤ 281474976710656) (h0 : 0 < cnt isD l) (er : ErAt w) :
    Calls Tryd.prog 25 #[.string (txt l)] w fun e w' => e = .returned (.tuple #[wdV (numW l).1, .int .i64 ((numW l).2 : Nat)]) ∧ Below w.heap.size w w' := by
  have hsz : (txt l).size = l.length := txt_size l
  have hle := cnt_le isD l
  have hlen : 0 < l.length := by omega
  obtain ⟨c0, hc0⟩ : ∃ c, l[0] = c := ⟨_, rfl⟩
  have g0 : ∀ h, (txt l)[0]'h = c0 := fun h => (txt_get l 0 h hlen).trans hc0
  have hh : l.head? = some c0 := by rw [← hc0]; cases l with
    | nil => simp at hlen
    | cons a r => rfl
  obtain ⟨z, hz⟩ : ∃ z, cnt isD l = z := ⟨_, rfl⟩
  have PU := pu_any hl hz (by omega)
  have cut := cut_to l z (by omega)
  have ER : ∀ o, ErAt (w.alloc o) := fun o => er.later ((Below.refl _ _).alloc (Nat.le_refl _) o)
  have HH := hid0 hh
  have HZ := hid0 hz
  have HC0 := hid0 hc0
  clear hh hc0
  have b0 := c0.toNat_lt
  go_enter Tryd.func25, Tryd.ntmps25
  go_wp2
  go_loopw [4] (fun i wr => ∃ k : Nat, k ≤ l.length ∧ i = .int .i64 k ∧ wr = w.alloc (.cells #[.int .i64 0, .string ⟨#[]⟩, .int .u64 0, .int .i64 0] 30) ∧ Hid (∀ j (hj : j < l.length), j < k → isD l[j] = true)) (fun i _ => l.length - (intOf i).toNat)
  case atStart => exact ⟨0, Nat.zero_le _, rfl, rfl, hid0 (fun j hj h => absurd h (by omega))⟩
  case round =>
    obtain ⟨k, hk, rfl, rfl, hR⟩ := hrel
    by_cases hgo : k < z
    · have hlt : k < l.length := by omega
      have hki : (k : Int) < (l.length : Int) := by omega
      have hk2 : k < (txt l).size := by omega
      have e : (txt l)[k]'hk2 = l[k] := txt_get l k hk2 hlt
      have hd : isD l[k] = true := cnt_all isD l k hlt (by rw [HZ.out]; exact hgo)
      have HK := hid0 (digit_more hR.out (fun _ => hd))
      obtain ⟨c, hc⟩ : ∃ c, l[k] = c := ⟨_, rfl⟩
      rw [hc] at e hd
      have CD := fun W => lxDigit_any c W
      rw [hd] at CD
      clear hc hd
      go_wp2_with (first
        | (go_at_call 22; refine (CD _).mono ?_; rintro e w' ⟨rfl, rfl⟩)
        | fail)
      exact ⟨⟨k + 1, by omega, by go_num, trivial, HK⟩, by simp [intOf]; omega⟩
    · obtain rfl : k = z := by
        have h1 := cnt_go hR.out hk
        have h2 := HZ.out
        omega
      have hz1 : 0 < k := by have := HZ.out; omega
      have ER0 := ER (.cells #[.int .i64 0, .string ⟨#[]⟩, .int .u64 0, .int .i64 0] 30)
      have hB0 : Below w.heap.size w (w.alloc (.cells #[.int .i64 0, .string ⟨#[]⟩, .int .u64 0, .int .i64 0] 30)) := (Below.refl _ _).alloc (Nat.le_refl _) _
      have HA : Hid (1 < k → c0.toNat = 48 → numW l = (noW, 0)) := hid0 (numW_head HZ.out HH.out)
      rcases Nat.lt_or_ge k l.length with hlt | hge
      · have hki : (k : Int) < (l.length : Int) := by omega
        have hk2 : k < (txt l).size := by omega
        have e : (txt l)[k]'hk2 = l[k] := txt_get l k hk2 hlt
        have hd : isD l[k] = false := digit_end HZ.out hlt
        have HB : Hid (isL l[k] = true → numW l = (noW, 0)) := hid0 (numW_letter HZ.out hlt)
        have HG : Hid ((1 < k → ¬ c0.toNat = 48) → isL l[k] = false → numN l ≤ 9223372036854775808 → numW l = (⟨2, [], numN l, 0⟩, k)) := hid0 (fun h h1 h2 => numW_good HZ.out HH.out h (fun _ => h1) h2)
        obtain ⟨c, hc⟩ : ∃ c, l[k] = c := ⟨_, rfl⟩
        rw [hc] at e hd HB HG
        have CD := fun W => lxDigit_any c W
        have CL := fun W => lxLetter_any c W
        rw [hd] at CD
        clear hc hd
        rcases PU with ⟨N, hN, hN1, PU⟩ | ⟨hN, PU⟩
        · rw [hN] at HG
          have HC : Hid (9223372036854775808 < N → numW l = (noW, 0)) := hid0 fun h => numBad_great (by rw [hN]; exact h)
          clear hN
          go_wp2_with (first
            | (go_at_call 22; refine (CD _).mono ?_; rintro e w' ⟨rfl, rfl⟩)
            | (go_at_call 21; refine (CL _).mono ?_; rintro e w' ⟨rfl, rfl⟩)
            | (go_at_call 29; refine (PU.out _ ER0).mono ?_; rintro e w' ⟨⟨ev, rfl, hev, -⟩, hb⟩; obtain rfl := hev rfl; obtain ⟨r0, r1, r2, r3, rf⟩ := (NoAt.new w).later hb; have rf0 := rf 0; have hB1 := hb; have hB2 := below_through hb (by simp) hB0)
            | fail)
          all_goals first
            | (refine bodyPost_ret (v := .tuple #[wdV noW, .int .i64 0]) (by simp [results, Tryd.results25, go_sem, wdV_no]; done) rfl ⟨?_, hB0⟩
               rw [show numW l = (noW, 0) from by first | exact HA.out (by omega) (by omega) | exact HB.out (by first | assumption | (simp_all; done))]; rfl)
            | (refine bodyPost_ret (v := .tuple #[wdV noW, .int .i64 0]) (by simp [results, Tryd.results25, go_sem, wdV_no, r0, r1, r2, r3]; done) rfl ⟨?_, (((hB2.setCell (Nat.le_refl _) _).setCell (Nat.le_refl _) _).setCell (Nat.le_refl _) _).setCell (Nat.le_refl _) _⟩
               rw [show numW l = (noW, 0) from HC.out (by omega)]; rfl)
            | (refine bodyPost_ret (v := .tuple #[wdV ⟨2, [], N, 0⟩, .int .i64 (k : Int)]) (by simp [results, Tryd.results25, go_sem, wdV, txt, r0, r1, r2, r3]; done) rfl ⟨?_, (((hB2.setCell (Nat.le_refl _) _).setCell (Nat.le_refl _) _).setCell (Nat.le_refl _) _).setCell (Nat.le_refl _) _⟩
               rw [HG.out (by omega) (by first | assumption | exact (by assumption : _ ∧ isL c = false).2) (by omega)])
            | trace_state
        · have HC : Hid (numW l = (noW, 0)) := hid0 (numBad_great hN)
          clear hN HG
          go_wp2_with (first
            | (go_at_call 22; refine (CD _).mono ?_; rintro e w' ⟨rfl, rfl⟩)
            | (go_at_call 21; refine (CL _).mono ?_; rintro e w' ⟨rfl, rfl⟩)
            | (go_at_call 29; refine (PU.out _ ER0).mono ?_; rintro e w' ⟨⟨ev, rfl, -, hev⟩, hb⟩; obtain ⟨et, ep, rfl⟩ := hev rfl; obtain ⟨r0, r1, r2, r3, rf⟩ := (NoAt.new w).later hb; have rf0 := rf 0; have hB2 := below_through hb (by simp) hB0)
            | fail)
          all_goals first
            | (refine bodyPost_ret (v := .tuple #[wdV noW, .int .i64 0]) (by simp [results, Tryd.results25, go_sem, wdV_no]; done) rfl ⟨?_, hB0⟩
               rw [show numW l = (noW, 0) from HC.out]; rfl)
            | (refine bodyPost_ret (v := .tuple #[wdV noW, .int .i64 0]) (by simp [results, Tryd.results25, go_sem, wdV_no, r0, r1, r2, r3]; done) rfl ⟨?_, (((hB2.setCell (Nat.le_refl _) _).setCell (Nat.le_refl _) _).setCell (Nat.le_refl _) _).setCell (Nat.le_refl _) _⟩
               rw [show numW l = (noW, 0) from HC.out]; rfl)
            | trace_state
      · have hki : ¬ (k : Int) < (l.length : Int) := by omega
        have HG : Hid ((1 < k → ¬ c0.toNat = 48) → numN l ≤ 9223372036854775808 → numW l = (⟨2, [], numN l, 0⟩, k)) := hid0 (fun h h2 => numW_good HZ.out HH.out h (fun g => absurd g (by omega)) h2)
        rcases PU with ⟨N, hN, hN1, PU⟩ | ⟨hN, PU⟩
        · rw [hN] at HG
          have HC : Hid (9223372036854775808 < N → numW l = (noW, 0)) := hid0 fun h => numBad_great (by rw [hN]; exact h)
          clear hN
          go_wp2_with (first
            | (go_at_call 29; refine (PU.out _ ER0).mono ?_; rintro e w' ⟨⟨ev, rfl, hev, -⟩, hb⟩; obtain rfl := hev rfl; obtain ⟨r0, r1, r2, r3, rf⟩ := (NoAt.new w).later hb; have rf0 := rf 0; have hB1 := hb; have hB2 := below_through hb (by simp) hB0)
            | fail)
          all_goals first
            | (refine bodyPost_ret (v := .tuple #[wdV noW, .int .i64 0]) (by simp [results, Tryd.results25, go_sem, wdV_no]; done) rfl ⟨?_, hB0⟩
               rw [show numW l = (noW, 0) from by first | exact HA.out (by omega) (by omega)]; rfl)
            | (refine bodyPost_ret (v := .tuple #[wdV noW, .int .i64 0]) (by simp [results, Tryd.results25, go_sem, wdV_no, r0, r1, r2, r3]; done) rfl ⟨?_, (((hB2.setCell (Nat.le_refl _) _).setCell (Nat.le_refl _) _).setCell (Nat.le_refl _) _).setCell (Nat.le_refl _) _⟩
               rw [show numW l = (noW, 0) from HC.out (by omega)]; rfl)
            | (refine bodyPost_ret (v := .tuple #[wdV ⟨2, [], N, 0⟩, .int .i64 (k : Int)]) (by simp [results, Tryd.results25, go_sem, wdV, txt, r0, r1, r2, r3]; done) rfl ⟨?_, (((hB2.setCell (Nat.le_refl _) _).setCell (Nat.le_refl _) _).setCell (Nat.le_refl _) _).setCell (Nat.le_refl _) _⟩
               rw [HG.out (by omega) (by omega)])
            | trace_state
        · have HC : Hid (numW l = (noW, 0)) := hid0 (numBad_great hN)
          clear hN HG
          go_wp2_with (first
            | (go_at_call 29; refine (PU.out _ ER0).mono ?_; rintro e w' ⟨⟨ev, rfl, -, hev⟩, hb⟩; obtain ⟨et, ep, rfl⟩ := hev rfl; obtain ⟨r0, r1, r2, r3, rf⟩ := (NoAt.new w).later hb; have rf0 := rf 0; have hB2 := below_through hb (by simp) hB0)
            | fail)
          all_goals first
            | (refine bodyPost_ret (v := .tuple #[wdV noW, .int .i64 0]) (by simp [results, Tryd.results25, go_sem, wdV_no]; done) rfl ⟨?_, hB0⟩
               rw [show numW l = (noW, 0) from HC.out]; rfl)
            | (refine bodyPost_ret (v := .tuple #[wdV noW, .int .i64 0]) (by simp [results, Tryd.results25, go_sem, wdV_no, r0, r1, r2, r3]; done) rfl ⟨?_, (((hB2.setCell (Nat.le_refl _) _).setCell (Nat.le_refl _) _).setCell (Nat.le_refl _) _).setCell (Nat.le_refl _) _⟩
               rw [show numW l = (noW, 0) from HC.out]; rfl)
            | trace_state
end Go.Proofs.YtfjhkchkiacfpaaDoor
