/- Several of my texts laid together, each as it was: Nc, Nd, Ne, Nf, Ng, Nh, Ni. Conditions: each names its own. -/
import Derived.Test.YtneebnankghhgacGreatDoorPA
import Derived.Test.YtneebnankghhgacGreatDoorShelf
import Derived.OwnWalk
import Derived.Lib.IndexLaws
import Derived.Handy
/- The project's lexer: a number, a text, a sign: contracts of the calls, in whatever memory. Conditions: each names its own. -/
namespace Go.Proofs.YtneebnankghhgacGreatDoor
open Go.RowKit

/-- What strconv.ErrRange holds is an error, or nothing. -/
def ErAt (w : World) : Prop := ∃ ev, w.cell? ⟨2, 0, none⟩ = some ev ∧ (ev = .nilIface ∨ ∃ te pe, ev = .iface te pe)
theorem ErAt.later {w w' : World} (h : ErAt w) (hb : Below w.heap.size w w') : ErAt w' := by
  obtain ⟨ev, h1, h2⟩ := h
  exact ⟨ev, (hb.cell (p := ⟨2, 0, none⟩) (World.block_lt_of_cell? _ _ h1)).trans h1, h2⟩

def putW (w : World) (B : Nat) (x : Wd) : World := (((w.setCell ⟨B, 0, none⟩ (.int .i64 (x.k : Nat))).setCell ⟨B, 1, none⟩ (.string (txt x.s))).setCell ⟨B, 2, none⟩ (.int .u64 (x.n : Nat))).setCell ⟨B, 3, none⟩ (.int .i64 (x.p : Nat))

def numW (l : List UInt8) : Wd × Nat := if numBad l then (noW, 0) else (⟨2, [], numN l, 0⟩, cnt isD l)
theorem numBad_head {l : List UInt8} (h : 1 < cnt isD l) (h0 : l.head? = some 48) : numW l = (noW, 0) := by simp [numW, numBad, h, h0]
theorem numBad_letter {l : List UInt8} (h : cnt isD l < l.length) (h0 : isL l[cnt isD l] = true) : numW l = (noW, 0) := by
  have : (l[cnt isD l]?).any isL = true := by rw [List.getElem?_eq_getElem h]; exact h0
  simp only [numW, numBad, this, Bool.or_true, Bool.true_or, if_true]
theorem numBad_great {l : List UInt8} (h : 9223372036854775808 < numN l) : numW l = (noW, 0) := by simp [numW, numBad, h]
theorem num_good {l : List UInt8} (h : 1 < cnt isD l → l.head? ≠ some 48) (h1 : ∀ h : cnt isD l < l.length, isL l[cnt isD l] = false) (h2 : numN l ≤ 9223372036854775808) : numW l = (⟨2, [], numN l, 0⟩, cnt isD l) := by
  have a : (decide (1 < cnt isD l) && decide (l.head? = some 48)) = false := by
    by_cases g : 1 < cnt isD l
    · simp [h g]
    · simp [g]
  have b : (l[cnt isD l]?).any isL = false := by
    rcases Nat.lt_or_ge (cnt isD l) l.length with g | g
    · rw [List.getElem?_eq_getElem g]; exact h1 g
    · rw [List.getElem?_eq_none g]; rfl
  have c : decide (9223372036854775808 < numN l) = false := by simpa using h2
  unfold numW numBad
  rw [a, b, c]
  rfl
theorem numW_head {l : List UInt8} {z : Nat} {c : UInt8} (hz : cnt isD l = z) (hh : l.head? = some c) (h : 1 < z) (h' : c.toNat = 48) : numW l = (noW, 0) := by
  subst hz
  exact numBad_head h (by rw [hh, show c = 48 from UInt8.toNat_inj.1 h'])
theorem numW_letter {l : List UInt8} {z : Nat} (hz : cnt isD l = z) (h : z < l.length) (h' : isL l[z] = true) : numW l = (noW, 0) := by
  subst hz
  exact numBad_letter h h'
theorem numW_good {l : List UInt8} {z : Nat} {c : UInt8} (hz : cnt isD l = z) (hh : l.head? = some c) (h : 1 < z → ¬ c.toNat = 48) (h1 : ∀ h : z < l.length, isL l[z] = false) (h2 : numN l ≤ 9223372036854775808) : numW l = (⟨2, [], numN l, 0⟩, z) := by
  subst hz
  exact num_good (fun g => by rw [hh]; intro q; exact h g (by rw [Option.some.inj q]; rfl)) h1 h2
theorem digit_end {l : List UInt8} {z : Nat} (hz : cnt isD l = z) (h : z < l.length) : isD l[z] = false := by
  subst hz
  exact cnt_end isD l h
theorem cnt_is {p : UInt8 → Bool} {l : List UInt8} {i : Nat} (h : ∀ j (hj : j < l.length), j < i → p l[j] = true) (hi : i ≤ l.length) (he : ∀ h : i < l.length, p l[i] = false) : cnt p l = i := by
  have h1 := cnt_go h hi
  have h2 := cnt_le p l
  rcases Nat.lt_or_ge i (cnt p l) with g | g
  · have := cnt_all p l i (by omega) g
    rw [he (by omega)] at this; cases this
  · omega
theorem digit_more {l : List UInt8} {k : Nat} (h : ∀ j (hj : j < l.length), j < k → isD l[j] = true) (hk : ∀ h : k < l.length, isD l[k] = true) : ∀ j (hj : j < l.length), j < k + 1 → isD l[j] = true := fun j hj h1 => by
  rcases Nat.lt_or_ge j k with g | g
  · exact h j hj g
  · obtain rfl : j = k := by omega
    exact hk hj

/-- What strconv.ParseUint tells of a number's digits. -/
structure PuAt (l : List UInt8) (k : Nat) (U : Int) (good : Bool) : Prop where
  out : ∀ W, ErAt W → Calls Tryz.prog 50 #[.string (txt (l.take k)), .int .i64 10, .int .i64 64] W fun e w' => (∃ ev, e = .returned (.tuple #[.int .u64 U, ev]) ∧ (good = true → ev = .nilIface) ∧ (good = false → ∃ t p, ev = .iface t p)) ∧ Below W.heap.size W w'
theorem pu_any {l : List UInt8} {k : Nat} (hl : l.length ≤ 281474976710656) (hk : cnt isD l = k) (h0 : 0 < k) : (∃ N : Nat, numN l = N ∧ N < 18446744073709551616 ∧ PuAt l k N true) ∨ (9223372036854775808 < numN l ∧ PuAt l k 18446744073709551615 false) := by
  have hd : ∀ c ∈ (txt (l.take k)).data.toList, isD c = true := by rw [txt_list, ← hk]; exact cnt_digits l
  have hne : (txt (l.take k)).data.toList ≠ [] := by
    rw [txt_list]
    intro e
    have h1 := cnt_le isD l
    have h2 := congrArg List.length e
    rw [List.length_take, List.length_nil] at h2
    omega
  have hp := parse_digits hd hne
  have e : decV (txt (l.take k)).data.toList = numN l := by rw [txt_list, ← hk]; rfl
  rw [e] at hp
  have hsz : (txt (l.take k)).size ≤ 281474976710656 := by rw [txt_size, List.length_take]; omega
  by_cases h : numN l < 18446744073709551616
  · rw [if_pos h] at hp
    refine .inl ⟨_, rfl, h, ⟨fun W _ => (Tryz.strconv_ParseUint_10_at64_ok _ (by omega) _ hp W).mono ?_⟩⟩
    rintro e w' ⟨rfl, hw⟩
    refine ⟨⟨_, rfl, fun _ => rfl, fun h => by cases h⟩, ?_⟩
    rcases hw with rfl | rfl
    · exact Below.refl _ _
    · exact Lib.bytesWorld_below _ _ _
  · rw [if_neg h] at hp
    refine .inr ⟨by omega, ⟨fun W hE => ?_⟩⟩
    obtain ⟨ev, h1, h2⟩ := hE
    refine (Tryz.strconv_ParseUint_10_at64_range _ hsz hp ev W h1 h2).mono ?_
    rintro e w' ⟨N, rfl, _, _, hb⟩
    exact ⟨⟨_, rfl, fun h => (by cases h), fun _ => ⟨_, _, rfl⟩⟩, hb⟩

theorem cut_to (l : List UInt8) (n : Nat) (h : n ≤ l.length) (W : World) : (Instr.slice 9 (.string (txt l)) none (some (.int .i64 (n : Int))) none).run Tryz.prog W = .ok (.string (txt (l.take n))) W := by
  rw [run_slice_string_h W 9 (txt l) Tryz.underlying9 .i64 (n : Int) (by omega) (by rw [txt_size]; omega), txt_cut]
  simp

/-- The result's block, behind whatever keeps it. -/
structure NoAt (w : World) (B : Nat) : Prop where
  c0 : w.cell? ⟨B, 0, none⟩ = some (.int .i64 0)
  c1 : w.cell? ⟨B, 1, none⟩ = some (.string ⟨#[]⟩)
  c2 : w.cell? ⟨B, 2, none⟩ = some (.int .u64 0)
  c3 : w.cell? ⟨B, 3, none⟩ = some (.int .i64 0)
  f : ∀ j, w.frozen? ⟨B, j, none⟩ = false
def noCells : Obj := .cells #[.int .i64 0, .string ⟨#[]⟩, .int .u64 0, .int .i64 0] 64
theorem NoAt.new (w : World) : NoAt (w.alloc noCells) w.heap.size := ⟨by unfold noCells; go_cell, by unfold noCells; go_cell, by unfold noCells; go_cell, by unfold noCells; go_cell, fun j => by unfold noCells; exact World.frozen?_alloc_at _ _ _ _ rfl⟩
theorem NoAt.later {w w' : World} {B : Nat} (h : NoAt w B) (hb : Below w.heap.size w w') : NoAt w' B :=
  have hlt := World.block_lt_of_cell? _ _ h.c0
  ⟨cell_later hb h.c0, cell_later hb h.c1, cell_later hb h.c2, cell_later hb h.c3, fun j => (hb.frozen (p := ⟨B, j, none⟩) hlt).trans (h.f j)⟩
theorem put_below {w w' : World} {B : Nat} (hb : Below w.heap.size w w') (hB : w.heap.size ≤ B) (x : Wd) : Below w.heap.size w (putW w' B x) := (((hb.setCell hB _).setCell hB _).setCell hB _).setCell hB _
theorem put_cells {w' : World} {B : Nat} (h : NoAt w' B) (x : Wd) : (putW w' B x).cell? ⟨B, 0, none⟩ = some (.int .i64 (x.k : Nat)) ∧ (putW w' B x).cell? ⟨B, 1, none⟩ = some (.string (txt x.s)) ∧ (putW w' B x).cell? ⟨B, 2, none⟩ = some (.int .u64 (x.n : Nat)) ∧ (putW w' B x).cell? ⟨B, 3, none⟩ = some (.int .i64 (x.p : Nat)) := by
  obtain ⟨h0, h1, h2, h3, hf⟩ := h
  unfold putW
  exact ⟨by go_cell, by go_cell, by go_cell, by go_cell⟩
/-- A call ends whose result lies in a cell of its own. -/
theorem lx_end {P : Program} {f : Func} {Q : Ending → World → Prop} {a : Act} {w' : World} {B : Nat} (x : Wd) (n : Nat) (h : NoAt w' B) (hr : ∀ W : World, W.cell? ⟨B, 0, none⟩ = some (.int .i64 (x.k : Nat)) → W.cell? ⟨B, 1, none⟩ = some (.string (txt x.s)) → W.cell? ⟨B, 2, none⟩ = some (.int .u64 (x.n : Nat)) → W.cell? ⟨B, 3, none⟩ = some (.int .i64 (x.p : Nat)) → (results f a.tmps).run P W = .ok (.tuple #[wdV x, .int .i64 (n : Int)]) W)
    (hd : a.defers = []) (hQ : Q (.returned (.tuple #[wdV x, .int .i64 (n : Int)])) (putW w' B x)) : bodyPost P f Q .ret a (putW w' B x) := by
  obtain ⟨h0, h1, h2, h3⟩ := put_cells h x
  exact bodyPost_ret (v := .tuple #[wdV x, .int .i64 (n : Int)]) (hr _ h0 h1 h2 h3) hd hQ
theorem wdV_no : wdV noW = .agg #[.int .i64 0, .string ⟨#[]⟩, .int .u64 0, .int .i64 0] := rfl

set_option maxHeartbeats 4000000 in
theorem lxNumber_any (l : List UInt8) (w : World) (hl : l.length ≤ 281474976710656) (h0 : 0 < cnt isD l) (er : ErAt w) :
    Calls Tryz.prog 33 #[.string (txt l)] w fun e w' => e = .returned (.tuple #[wdV (numW l).1, .int .i64 ((numW l).2 : Nat)]) ∧ Below w.heap.size w w' := by
  have hsz : (txt l).size = l.length := txt_size l
  have hle := cnt_le isD l
  have hlen : 0 < l.length := by omega
  obtain ⟨c0, hc0⟩ : ∃ c, l[0] = c := ⟨_, rfl⟩
  have g0 : ∀ h, (txt l)[0]'h = c0 := fun h => (txt_get l 0 h hlen).trans hc0
  have hh : l.head? = some c0 := by rw [← hc0]; cases l with
    | nil => simp at hlen
    | cons a r => rfl
  obtain ⟨z, hz⟩ : ∃ z, cnt isD l = z := ⟨_, rfl⟩
  have PU := pu_any hl hz (by omega)
  have cut := cut_to l z (by omega)
  have ER : ∀ o, ErAt (w.alloc o) := fun o => er.later ((Below.refl _ _).alloc (Nat.le_refl _) o)
  have HH := hid0 hh
  have HZ := hid0 hz
  have HC0 := hid0 hc0
  clear hh hc0
  have b0 := c0.toNat_lt
  go_enter Tryz.func33, Tryz.ntmps33
  go_wp2
  go_loopw [4] (fun i wr => ∃ k : Nat, k ≤ l.length ∧ i = .int .i64 k ∧ wr = w.alloc (.cells #[.int .i64 0, .string ⟨#[]⟩, .int .u64 0, .int .i64 0] 64) ∧ Hid (∀ j (hj : j < l.length), j < k → isD l[j] = true)) (fun i _ => l.length - (intOf i).toNat)
  case atStart => exact ⟨0, Nat.zero_le _, rfl, rfl, hid0 (fun j hj h => absurd h (by omega))⟩
  case round =>
    obtain ⟨k, hk, rfl, rfl, hR⟩ := hrel
    by_cases hgo : k < z
    · have hlt : k < l.length := by omega
      have hki : (k : Int) < (l.length : Int) := by omega
      have hk2 : k < (txt l).size := by omega
      have e : (txt l)[k]'hk2 = l[k] := txt_get l k hk2 hlt
      have hd : isD l[k] = true := cnt_all isD l k hlt (by rw [HZ.out]; exact hgo)
      have HK := hid0 (digit_more hR.out (fun _ => hd))
      obtain ⟨c, hc⟩ : ∃ c, l[k] = c := ⟨_, rfl⟩
      rw [hc] at e hd
      have CD := fun W => lxDigit_any c W
      rw [hd] at CD
      clear hc hd
      go_wp2_with (first
        | (go_at_call 32; refine (CD _).mono ?_; rintro e w' ⟨rfl, rfl⟩)
        | fail)
      exact ⟨⟨k + 1, by omega, by go_num, trivial, HK⟩, by simp [intOf]; omega⟩
    · obtain rfl : k = z := by
        have h1 := cnt_go hR.out hk
        have h2 := HZ.out
        omega
      have hz1 : 0 < k := by have := HZ.out; omega
      have ER0 := ER (.cells #[.int .i64 0, .string ⟨#[]⟩, .int .u64 0, .int .i64 0] 64)
      have hB0 : Below w.heap.size w (w.alloc (.cells #[.int .i64 0, .string ⟨#[]⟩, .int .u64 0, .int .i64 0] 64)) := (Below.refl _ _).alloc (Nat.le_refl _) _
      have HA : Hid (1 < k → c0.toNat = 48 → numW l = (noW, 0)) := hid0 (numW_head HZ.out HH.out)
      rcases Nat.lt_or_ge k l.length with hlt | hge
      · have hki : (k : Int) < (l.length : Int) := by omega
        have hk2 : k < (txt l).size := by omega
        have e : (txt l)[k]'hk2 = l[k] := txt_get l k hk2 hlt
        have hd : isD l[k] = false := digit_end HZ.out hlt
        have HB : Hid (isL l[k] = true → numW l = (noW, 0)) := hid0 (numW_letter HZ.out hlt)
        have HG : Hid ((1 < k → ¬ c0.toNat = 48) → isL l[k] = false → numN l ≤ 9223372036854775808 → numW l = (⟨2, [], numN l, 0⟩, k)) := hid0 (fun h h1 h2 => numW_good HZ.out HH.out h (fun _ => h1) h2)
        obtain ⟨c, hc⟩ : ∃ c, l[k] = c := ⟨_, rfl⟩
        rw [hc] at e hd HB HG
        have CD := fun W => lxDigit_any c W
        have CL := fun W => lxLetter_any c W
        rw [hd] at CD
        clear hc hd
        rcases PU with ⟨N, hN, hN1, PU⟩ | ⟨hN, PU⟩
        · rw [hN] at HG
          have HC : Hid (9223372036854775808 < N → numW l = (noW, 0)) := hid0 fun h => numBad_great (by rw [hN]; exact h)
          clear hN
          go_wp2_with (first
            | (go_at_call 32; refine (CD _).mono ?_; rintro e w' ⟨rfl, rfl⟩)
            | (go_at_call 30; refine (CL _).mono ?_; rintro e w' ⟨rfl, rfl⟩)
            | (go_at_call 50; refine (PU.out _ ER0).mono ?_; rintro e w' ⟨⟨ev, rfl, hev, -⟩, hb⟩; obtain rfl := hev rfl; obtain ⟨r0, r1, r2, r3, rf⟩ := (NoAt.new w).later hb; have rf0 := rf 0; have hB1 := hb; have hB2 := below_through hb (by simp) hB0)
            | fail)
          all_goals first
            | (refine bodyPost_ret (v := .tuple #[wdV noW, .int .i64 0]) (by simp [results, Tryz.results33, go_sem, wdV_no]; done) rfl ⟨?_, hB0⟩
               rw [show numW l = (noW, 0) from by first | exact HA.out (by omega) (by omega) | exact HB.out (by first | assumption | (simp_all; done))]; rfl)
            | (refine bodyPost_ret (v := .tuple #[wdV noW, .int .i64 0]) (by simp [results, Tryz.results33, go_sem, wdV_no, r0, r1, r2, r3]; done) rfl ⟨?_, (((hB2.setCell (Nat.le_refl _) _).setCell (Nat.le_refl _) _).setCell (Nat.le_refl _) _).setCell (Nat.le_refl _) _⟩
               rw [show numW l = (noW, 0) from HC.out (by omega)]; rfl)
            | (refine bodyPost_ret (v := .tuple #[wdV ⟨2, [], N, 0⟩, .int .i64 (k : Int)]) (by simp [results, Tryz.results33, go_sem, wdV, txt, r0, r1, r2, r3]; done) rfl ⟨?_, (((hB2.setCell (Nat.le_refl _) _).setCell (Nat.le_refl _) _).setCell (Nat.le_refl _) _).setCell (Nat.le_refl _) _⟩
               rw [HG.out (by omega) (by first | assumption | exact (by assumption : _ ∧ isL c = false).2) (by omega)])
            | trace_state
        · have HC : Hid (numW l = (noW, 0)) := hid0 (numBad_great hN)
          clear hN HG
          go_wp2_with (first
            | (go_at_call 32; refine (CD _).mono ?_; rintro e w' ⟨rfl, rfl⟩)
            | (go_at_call 30; refine (CL _).mono ?_; rintro e w' ⟨rfl, rfl⟩)
            | (go_at_call 50; refine (PU.out _ ER0).mono ?_; rintro e w' ⟨⟨ev, rfl, -, hev⟩, hb⟩; obtain ⟨et, ep, rfl⟩ := hev rfl; obtain ⟨r0, r1, r2, r3, rf⟩ := (NoAt.new w).later hb; have rf0 := rf 0; have hB2 := below_through hb (by simp) hB0)
            | fail)
          all_goals first
            | (refine bodyPost_ret (v := .tuple #[wdV noW, .int .i64 0]) (by simp [results, Tryz.results33, go_sem, wdV_no]; done) rfl ⟨?_, hB0⟩
               rw [show numW l = (noW, 0) from HC.out]; rfl)
            | (refine bodyPost_ret (v := .tuple #[wdV noW, .int .i64 0]) (by simp [results, Tryz.results33, go_sem, wdV_no, r0, r1, r2, r3]; done) rfl ⟨?_, (((hB2.setCell (Nat.le_refl _) _).setCell (Nat.le_refl _) _).setCell (Nat.le_refl _) _).setCell (Nat.le_refl _) _⟩
               rw [show numW l = (noW, 0) from HC.out]; rfl)
            | trace_state
      · have hki : ¬ (k : Int) < (l.length : Int) := by omega
        have HG : Hid ((1 < k → ¬ c0.toNat = 48) → numN l ≤ 9223372036854775808 → numW l = (⟨2, [], numN l, 0⟩, k)) := hid0 (fun h h2 => numW_good HZ.out HH.out h (fun g => absurd g (by omega)) h2)
        rcases PU with ⟨N, hN, hN1, PU⟩ | ⟨hN, PU⟩
        · rw [hN] at HG
          have HC : Hid (9223372036854775808 < N → numW l = (noW, 0)) := hid0 fun h => numBad_great (by rw [hN]; exact h)
          clear hN
          go_wp2_with (first
            | (go_at_call 50; refine (PU.out _ ER0).mono ?_; rintro e w' ⟨⟨ev, rfl, hev, -⟩, hb⟩; obtain rfl := hev rfl; obtain ⟨r0, r1, r2, r3, rf⟩ := (NoAt.new w).later hb; have rf0 := rf 0; have hB1 := hb; have hB2 := below_through hb (by simp) hB0)
            | fail)
          all_goals first
            | (refine bodyPost_ret (v := .tuple #[wdV noW, .int .i64 0]) (by simp [results, Tryz.results33, go_sem, wdV_no]; done) rfl ⟨?_, hB0⟩
               rw [show numW l = (noW, 0) from by first | exact HA.out (by omega) (by omega)]; rfl)
            | (refine bodyPost_ret (v := .tuple #[wdV noW, .int .i64 0]) (by simp [results, Tryz.results33, go_sem, wdV_no, r0, r1, r2, r3]; done) rfl ⟨?_, (((hB2.setCell (Nat.le_refl _) _).setCell (Nat.le_refl _) _).setCell (Nat.le_refl _) _).setCell (Nat.le_refl _) _⟩
               rw [show numW l = (noW, 0) from HC.out (by omega)]; rfl)
            | (refine bodyPost_ret (v := .tuple #[wdV ⟨2, [], N, 0⟩, .int .i64 (k : Int)]) (by simp [results, Tryz.results33, go_sem, wdV, txt, r0, r1, r2, r3]; done) rfl ⟨?_, (((hB2.setCell (Nat.le_refl _) _).setCell (Nat.le_refl _) _).setCell (Nat.le_refl _) _).setCell (Nat.le_refl _) _⟩
               rw [HG.out (by omega) (by omega)])
            | trace_state
        · have HC : Hid (numW l = (noW, 0)) := hid0 (numBad_great hN)
          clear hN HG
          go_wp2_with (first
            | (go_at_call 50; refine (PU.out _ ER0).mono ?_; rintro e w' ⟨⟨ev, rfl, -, hev⟩, hb⟩; obtain ⟨et, ep, rfl⟩ := hev rfl; obtain ⟨r0, r1, r2, r3, rf⟩ := (NoAt.new w).later hb; have rf0 := rf 0; have hB2 := below_through hb (by simp) hB0)
            | fail)
          all_goals first
            | (refine bodyPost_ret (v := .tuple #[wdV noW, .int .i64 0]) (by simp [results, Tryz.results33, go_sem, wdV_no]; done) rfl ⟨?_, hB0⟩
               rw [show numW l = (noW, 0) from HC.out]; rfl)
            | (refine bodyPost_ret (v := .tuple #[wdV noW, .int .i64 0]) (by simp [results, Tryz.results33, go_sem, wdV_no, r0, r1, r2, r3]; done) rfl ⟨?_, (((hB2.setCell (Nat.le_refl _) _).setCell (Nat.le_refl _) _).setCell (Nat.le_refl _) _).setCell (Nat.le_refl _) _⟩
               rw [show numW l = (noW, 0) from HC.out]; rfl)
            | trace_state
end Go.Proofs.YtneebnankghhgacGreatDoor

/- The project's lexer: a text, a sign: contracts of the calls, in whatever memory. Conditions: the row of bytes isn't empty. -/
namespace Go.Proofs.YtneebnankghhgacGreatDoor
open Go.RowKit

theorem cell_new8 (w : World) (v : Value) (t : TypeId) : (w.alloc (Obj.cells #[v] t)).cell? ⟨w.heap.size, 0, none⟩ = some v := by go_cell
def txW (r : List UInt8) : Wd × Nat := match txR r with | none => (noW, 0) | some x => (⟨3, x.1, 0, 0⟩, x.2 + 1)
theorem txR_plain {c : UInt8} (h : c ≠ 39) : ∀ r, txR (c :: r) = (txR r).map (fun x => (c :: x.1, x.2 + 1))
  | [] => by simp [txR, h]
  | d :: r => by simp [txR, h]
theorem txR_two (r : List UInt8) : txR (39 :: 39 :: r) = (txR r).map (fun x => (39 :: x.1, x.2 + 2)) := by simp [txR]
theorem txR_end {r : List UInt8} (h : ∀ d, r.head? = some d → d ≠ 39) : txR (39 :: r) = some ([], 1) := by
  cases r with
  | nil => simp [txR]
  | cons d r => simp [txR, h d rfl]
/-- How far a text has been read: j bytes, which are t. -/
structure TxTo (r : List UInt8) (j : Nat) (t : List UInt8) : Prop where
  eq : txR r = (txR (r.drop j)).map (fun x => (t ++ x.1, j + x.2))
  len : t.length ≤ j
theorem TxTo.start (r : List UInt8) : TxTo r 0 [] := ⟨by simp, Nat.le_refl _⟩
theorem TxTo.plain {r : List UInt8} {j : Nat} {t : List UInt8} (h : TxTo r j t) (hj : j < r.length) (hc : r[j] ≠ 39) : TxTo r (j + 1) (t ++ [r[j]]) := by
  refine ⟨?_, by have := h.len; simp; omega⟩
  rw [h.eq, List.drop_eq_getElem_cons hj, txR_plain hc, Option.map_map]
  congr 1
  funext x
  simp [Nat.add_comm, Nat.add_left_comm]
theorem TxTo.two {r : List UInt8} {j : Nat} {t : List UInt8} (h : TxTo r j t) (hj : j + 1 < r.length) (hc : r[j] = 39) (hd : r[j + 1] = 39) : TxTo r (j + 2) (t ++ [39]) := by
  refine ⟨?_, by have := h.len; simp; omega⟩
  rw [h.eq, List.drop_eq_getElem_cons (show j < r.length by omega), List.drop_eq_getElem_cons hj, hc, hd, txR_two, Option.map_map]
  congr 1
  funext x
  simp [Nat.add_comm, Nat.add_left_comm]
theorem TxTo.done {r : List UInt8} {j : Nat} {t : List UInt8} (h : TxTo r j t) (hj : j < r.length) (hc : r[j] = 39) (hd : ∀ h : j + 1 < r.length, r[j + 1] ≠ 39) : txW r = (⟨3, t, 0, 0⟩, j + 2) := by
  have e : txR r = some (t, j + 1) := by
    rw [h.eq, List.drop_eq_getElem_cons hj, hc, txR_end]
    · simp
    · intro d hd'
      rcases Nat.lt_or_ge (j + 1) r.length with g | g
      · rw [List.drop_eq_getElem_cons g] at hd'
        rw [← Option.some.inj hd']; exact hd g
      · rw [List.drop_eq_nil_of_le g] at hd'; cases hd'
  unfold txW
  rw [e]
theorem TxTo.none {r : List UInt8} {j : Nat} {t : List UInt8} (h : TxTo r j t) (hj : r.length ≤ j) : txW r = (noW, 0) := by
  have e : txR r = Option.none := by
    rw [h.eq, List.drop_eq_nil_of_le hj]; rfl
  unfold txW
  rw [e]

set_option maxHeartbeats 2000000 in
theorem lxText_any (q : UInt8) (r : List UInt8) (w : World) (hl : r.length ≤ 2048) :
    Calls Tryz.prog 34 #[.string (txt (q :: r))] w fun e w' => e = .returned (.tuple #[wdV (txW r).1, .int .i64 ((txW r).2 : Nat)]) ∧ Below w.heap.size w w' := by
  have hsz : (txt (q :: r)).size = r.length + 1 := by rw [txt_size]; rfl
  have HB0 := hid0 ((Below.refl w.heap.size w).alloc (Nat.le_refl _) noCells)
  have HN := hid0 (NoAt.new w)
  go_enter Tryz.func34, Tryz.ntmps34
  go_wp2
  go_loopw [4, 5] (fun bv i wr => ∃ (j : Nat) (t : List UInt8), j ≤ r.length ∧ i = .int .i64 ((j : Int) + 1) ∧ Buf wr (w.heap.size + 1) bv t ∧ Kept (w.heap.size + 1) (w.alloc noCells) wr ∧ Hid (TxTo r j t)) (fun _ i _ => r.length + 1 - (intOf i).toNat)
  case atStart => exact ⟨0, [], Nat.zero_le _, rfl, Buf.nil _ _, Kept.refl _ _, hid0 (TxTo.start r)⟩
  case round =>
    obtain ⟨j, t, hj, rfl, hBuf, hK, hT⟩ := hrel
    have hbs : w.heap.size + 1 ≤ wr.heap.size := by have := hK.below.size; simpa using this
    have hNo : NoAt wr w.heap.size := HN.out.later (by have := hK.below; simpa using this)
    have hBw : Below w.heap.size w wr := HB0.out.trans (hK.below.mono (Nat.le_succ _))
    obtain ⟨r0, r1, r2, r3, rf⟩ := hNo
    have rf0 := rf 0
    have hlen := hT.out.len
    by_cases hlt : j < r.length
    · have hji : (j : Int) < (r.length : Int) := by omega
      have hw1 : IntKind.i64.wrap ((j : Int) + 1) = (j : Int) + 1 := IntWalk.i64_in _ (by omega)
      have hw2 : IntKind.i64.wrap ((j : Int) + 1 + 1) = (j : Int) + 1 + 1 := IntWalk.i64_in _ (by omega)
      have g1 : ∀ h, (txt (q :: r))[j + 1]'h = r[j] := fun h => txt_get (q :: r) (j + 1) h (by simp; omega)
      by_cases hc : r[j] = 39
      · have g2 : ∀ h, (txt (q :: r))[j + 1]'h = 39 := fun h => (g1 h).trans hc
        clear g1
        by_cases hd : ∃ h : j + 1 < r.length, r[j + 1] = 39
        · obtain ⟨hlt2, hd⟩ := hd
          have hj2 : ¬ (j : Int) + 1 = (r.length : Int) := by omega
          have hj3 : ¬ (j : Int) + 1 + 1 = (r.length : Int) + 1 := by omega
          have hj4 : (j : Int) + 1 + 1 < (r.length : Int) + 1 := by omega
          have g3 : ∀ h, (txt (q :: r))[j + 2]'h = 39 := fun h => (txt_get (q :: r) (j + 2) h (by simp; omega)).trans hd
          have HT := hid0 (hT.out.two hlt2 hc hd)
          have hBa := fun o => hBuf.alloc o
          have hnt : ((j : Int) + 1 + 1).toNat = j + 2 := by omega
          go_wp2_with (at_builtin; refine wp_put1 rfl _ _ rfl rfl (hBa _) wr.heap.size rfl 39 (cell_new8 _ _ _) ?hn ?hl ?hb ?_)
          case hn => first | rfl | simp
          case hl => omega
          case hb => simp; omega
          intro v1 w1 hB2 hK1
          have hk1 := hK.trans ((Kept.alloc hbs _).trans hK1)
          clear hK1
          go_wp2
          exact ⟨⟨j + 2, t ++ [39], by omega, by go_num, hB2, hk1, HT⟩, by simp [intOf]; omega⟩
        · have HD := hid0 (hT.out.done hlt hc (fun h e => hd ⟨h, e⟩))
          have conv1 := hBuf.conv
          rcases Nat.lt_or_ge (j + 1) r.length with hlt2 | hge2
          · have hj2 : ¬ (j : Int) + 1 = (r.length : Int) := by omega
            have hj3 : ¬ (j : Int) + 1 + 1 = (r.length : Int) + 1 := by omega
            have hj4 : (j : Int) + 1 + 1 < (r.length : Int) + 1 := by omega
            have g3 : ∀ h, (txt (q :: r))[j + 2]'h = r[j + 1] := fun h => txt_get (q :: r) (j + 2) h (by simp; omega)
            have hd' : ¬ ((r[j + 1]).toNat : Int) = 39 := fun e => hd ⟨hlt2, UInt8.toNat_inj.1 (show (r[j + 1]).toNat = 39 by omega)⟩
            have hnt : ((j : Int) + 1 + 1).toNat = j + 2 := by omega
            have hb1 : (((r[j + 1]).toNat : Int) != 39) = true := by simpa using hd'
            have hb2 : ((j : Int) + 1 + 1 == (r.length : Int) + 1) = false := by rw [beq_eq_false_iff_ne]; omega
            clear hd hj2 hj3 hd'
            go_wp2
            refine bodyPost_ret (v := .tuple #[wdV ⟨3, t, 0, 0⟩, .int .i64 ((j : Int) + 1 + 1)]) (by simp [results, Tryz.results34, go_sem, wdV, r0, r1, r2, r3]; done) rfl ⟨?_, (((hBw.setCell (Nat.le_refl _) _).setCell (Nat.le_refl _) _).setCell (Nat.le_refl _) _).setCell (Nat.le_refl _) _⟩
            rw [HD.out]
            exact congrArg (fun x => Ending.returned (.tuple #[wdV ⟨3, t, 0, 0⟩, .int .i64 x])) (by show (j : Int) + 1 + 1 = ((j + 2 : Nat) : Int); omega)
          · have hb2 : ((j : Int) + 1 + 1 == (r.length : Int) + 1) = true := by rw [beq_iff_eq]; omega
            clear hd
            go_wp2
            refine bodyPost_ret (v := .tuple #[wdV ⟨3, t, 0, 0⟩, .int .i64 ((j : Int) + 1 + 1)]) (by simp [results, Tryz.results34, go_sem, wdV, r0, r1, r2, r3]; done) rfl ⟨?_, (((hBw.setCell (Nat.le_refl _) _).setCell (Nat.le_refl _) _).setCell (Nat.le_refl _) _).setCell (Nat.le_refl _) _⟩
            rw [HD.out]
            exact congrArg (fun x => Ending.returned (.tuple #[wdV ⟨3, t, 0, 0⟩, .int .i64 x])) (by show (j : Int) + 1 + 1 = ((j + 2 : Nat) : Int); omega)
      · have hc' : ¬ ((r[j]).toNat : Int) = 39 := fun e => hc (UInt8.toNat_inj.1 (show (r[j]).toNat = 39 by omega))
        have HT := hid0 (hT.out.plain hlt hc)
        have hBa := fun o => hBuf.alloc o
        go_wp2_with (at_builtin; refine wp_put1 rfl _ _ rfl rfl (hBa _) wr.heap.size rfl r[j] (cell_new8 _ _ _) ?hn ?hl ?hb ?_)
        case hn => first | rfl | simp
        case hl => omega
        case hb => simp; omega
        intro v1 w1 hB2 hK1
        have hk1 := hK.trans ((Kept.alloc hbs _).trans hK1)
        clear hK1
        go_wp2
        exact ⟨⟨j + 1, t ++ [r[j]], by omega, by go_num, hB2, hk1, HT⟩, by simp [intOf]; omega⟩
    · have hji : ¬ (j : Int) < (r.length : Int) := by omega
      have HT := hid0 (hT.out.none (by omega))
      go_wp2
      refine bodyPost_ret (v := .tuple #[wdV noW, .int .i64 0]) (by simp [results, Tryz.results34, go_sem, wdV_no, r0, r1, r2, r3]; done) rfl ⟨?_, (((hBw.setCell (Nat.le_refl _) _).setCell (Nat.le_refl _) _).setCell (Nat.le_refl _) _).setCell (Nat.le_refl _) _⟩
      rw [HT.out]; rfl

theorem two_bytes (c d a b : UInt8) : ((txt [c, d]).toList == [a, b]) = (c == a && d == b) := by
  rw [ByteArray.toList_eq]
  simp [txt]

theorem sgS_two {c d : UInt8} {r : List UInt8} (h : (c = 60 ∧ d = 62) ∨ (c = 60 ∧ d = 61) ∨ (c = 62 ∧ d = 61)) : sgS (c :: d :: r) = 2 := if_pos h
theorem sgS_else {c d : UInt8} {r : List UInt8} (h : ¬ ((c = 60 ∧ d = 62) ∨ (c = 60 ∧ d = 61) ∨ (c = 62 ∧ d = 61))) : sgS (c :: d :: r) = 1 := if_neg h

set_option maxHeartbeats 2000000 in
theorem lxSign_any (l : List UInt8) (w : World) (hl : l.length ≤ 2048) (hne : l ≠ []) :
    Calls Tryz.prog 36 #[.string (txt l)] w fun e w' => e = .returned (.tuple #[wdV ⟨4, l.take (sgS l), 0, 0⟩, .int .i64 (sgS l : Nat)]) ∧ Below w.heap.size w w' := by
  have hsz : (txt l).size = l.length := txt_size l
  match l, hne with
  | [c], _ =>
    have X1 : (txt [c]).extract 0 1 = txt [c] := by rw [txt_cut]; rfl
    go_enter Tryz.func36, Tryz.ntmps36
    go_wp2
    exact bodyPost_ret (v := .tuple #[wdV ⟨4, [c], 0, 0⟩, .int .i64 1]) (by simp [results, Tryz.results36, go_sem, wdV]; done) rfl ⟨rfl, by go_grown⟩
  | c :: d :: r, _ =>
    have hlen : (1 : Int) < ((c :: d :: r).length : Int) := by simp; omega
    have X1 : (txt (c :: d :: r)).extract 0 1 = txt [c] := by rw [txt_cut]; rfl
    have X2 : (txt (c :: d :: r)).extract 0 2 = txt [c, d] := by rw [txt_cut]; rfl
    have T1 := two_bytes c d 60 62
    have T2 := two_bytes c d 60 61
    have T3 := two_bytes c d 62 61
    obtain ⟨n, hn⟩ : ∃ n, (c :: d :: r).length = n := ⟨_, rfl⟩
    rw [hn] at hsz hlen
    clear hn
    by_cases h : (c = 60 ∧ d = 62) ∨ (c = 60 ∧ d = 61) ∨ (c = 62 ∧ d = 61)
    · have HS := hid0 (sgS_two (r := r) h)
      rcases h with ⟨rfl, rfl⟩ | ⟨rfl, rfl⟩ | ⟨rfl, rfl⟩
      all_goals
        simp at T1 T2 T3
        go_enter Tryz.func36, Tryz.ntmps36
        go_wp2
        first
          | exact bodyPost_ret (v := .tuple #[wdV ⟨4, [60, 62], 0, 0⟩, .int .i64 2]) (by simp [results, Tryz.results36, go_sem, wdV]; done) rfl ⟨by rw [HS.out]; rfl, by go_grown⟩
          | exact bodyPost_ret (v := .tuple #[wdV ⟨4, [60, 61], 0, 0⟩, .int .i64 2]) (by simp [results, Tryz.results36, go_sem, wdV]; done) rfl ⟨by rw [HS.out]; rfl, by go_grown⟩
          | exact bodyPost_ret (v := .tuple #[wdV ⟨4, [62, 61], 0, 0⟩, .int .i64 2]) (by simp [results, Tryz.results36, go_sem, wdV]; done) rfl ⟨by rw [HS.out]; rfl, by go_grown⟩
    · have HS := hid0 (sgS_else (r := r) h)
      have T1' : ((txt [c, d]).toList == [60, 62]) = false := by rw [T1]; simp; intro e e'; exact h (.inl ⟨e, e'⟩)
      have T2' : ((txt [c, d]).toList == [60, 61]) = false := by rw [T2]; simp; intro e e'; exact h (.inr (.inl ⟨e, e'⟩))
      have T3' : ((txt [c, d]).toList == [62, 61]) = false := by rw [T3]; simp; intro e e'; exact h (.inr (.inr ⟨e, e'⟩))
      clear T1 T2 T3 h
      go_enter Tryz.func36, Tryz.ntmps36
      go_wp2
      exact bodyPost_ret (v := .tuple #[wdV ⟨4, [c], 0, 0⟩, .int .i64 1]) (by simp [results, Tryz.results36, go_sem, wdV]; done) rfl ⟨by rw [HS.out]; rfl, by go_grown⟩
end Go.Proofs.YtneebnankghhgacGreatDoor

/- The project's lexer: one word: a contract of the call, in whatever memory. Conditions: the row of bytes isn't empty; what strconv.ErrRange holds is an error. -/
namespace Go.Proofs.YtneebnankghhgacGreatDoor
open Go.RowKit

theorem isS_index (c : UInt8) : (0 ≤ Lib.indexByte [40, 41, 44, 46, 42, 43, 45, 61, 60, 62] c) ↔ isS c = true := by
  have hge := Lib.indexByte_ge [40, 41, 44, 46, 42, 43, 45, 61, 60, 62] c
  constructor
  · intro h
    obtain ⟨o, ho⟩ : ∃ o : Nat, Lib.indexByte [40, 41, 44, 46, 42, 43, 45, 61, 60, 62] c = o := ⟨_, (Int.toNat_of_nonneg h).symm⟩
    have := (Lib.indexByte_some ho).1
    unfold isS
    rw [List.contains_iff_mem]
    exact List.mem_of_getElem? this
  · intro h
    rcases Int.lt_or_le (Lib.indexByte [40, 41, 44, 46, 42, 43, 45, 61, 60, 62] c) 0 with h1 | h1
    · exfalso
      unfold isS at h
      rw [List.contains_iff_mem] at h
      obtain ⟨k, hk, e⟩ := List.mem_iff_getElem.1 h
      exact Lib.indexByte_none (l := [40, 41, 44, 46, 42, 43, 45, 61, 60, 62]) (c := c) (by omega) k (by rw [List.getElem?_eq_getElem hk, e])
    · exact h1
theorem num_is {c : UInt8} {r : List UInt8} (h : isL c = false) (h1 : isD c = true) : wordM (c :: r) = numW (c :: r) := by rw [word_num h h1]; rfl
theorem text_is {c : UInt8} {r : List UInt8} (h : isL c = false) (h1 : isD c = false) (h2 : c = 39) : wordM (c :: r) = txW r := by rw [word_text h h1 h2]; rfl

/-- What a call answers that makes a word. -/
structure WordAt (f : Nat) (l : List UInt8) (k : Nat) (s : List UInt8) (n p z : Nat) : Prop where
  out : ∀ W, ErAt W → Calls Tryz.prog f #[.string (txt l)] W fun e w' => e = .returned (.tuple #[.agg #[.int .i64 (k : Int), .string (txt s), .int .u64 (n : Int), .int .i64 (p : Int)], .int .i64 (z : Int)]) ∧ Below W.heap.size W w'

set_option maxHeartbeats 4000000 in
theorem lxWord_any (l : List UInt8) (w : World) (hl : l.length ≤ 2048) (hne : l ≠ []) (er : ErAt w) :
    Calls Tryz.prog 14 #[.string (txt l)] w fun e w' => e = .returned (.tuple #[wdV (wordM l).1, .int .i64 ((wordM l).2 : Nat)]) ∧ Below w.heap.size w w' := by
  match l, hne with
  | c :: r, _ =>
    have hsz : (txt (c :: r)).size = r.length + 1 := by rw [txt_size]; rfl
    have g0 : ∀ h, (txt (c :: r))[0]'h = c := fun h => rfl
    have ER := er.later ((Below.refl _ _).alloc (Nat.le_refl _) noCells)
    have HB0 := hid0 ((Below.refl w.heap.size w).alloc (Nat.le_refl _) noCells)
    have CL := fun W => lxLetter_any c W
    have CD := fun W => lxDigit_any c W
    have CI := fun W => Tryz.strings_IndexByte ⟨#[40, 41, 44, 46, 42, 43, 45, 61, 60, 62]⟩ (c.toNat : Int) W
    have e1 : ((c.toNat : Int).toNat.toUInt8) = c := by simp
    rw [e1] at CI
    have e2 : (⟨#[40, 41, 44, 46, 42, 43, 45, 61, 60, 62]⟩ : ByteArray).data.toList = [40, 41, 44, 46, 42, 43, 45, 61, 60, 62] := rfl
    rw [e2] at CI
    have hS := isS_index c
    have hge := Lib.indexByte_ge [40, 41, 44, 46, 42, 43, 45, 61, 60, 62] c
    obtain ⟨X, hX⟩ : ∃ X, Lib.indexByte [40, 41, 44, 46, 42, 43, 45, 61, 60, 62] c = X := ⟨_, rfl⟩
    rw [hX] at CI hS hge
    clear hX e1 e2
    rcases word_cases c with h | ⟨h, h1⟩ | ⟨h, h1, h2⟩ | ⟨h, h1, h2, h3⟩ | ⟨h, h1, h2, h3⟩
    · have HW0 : ∀ W, ErAt W → Calls Tryz.prog 31 #[.string (txt (c :: r))] W fun e w' => e = .returned (.tuple #[wdV (wordM (c :: r)).1, .int .i64 ((wordM (c :: r)).2 : Nat)]) ∧ Below W.heap.size W w' := fun W hE => by
        rw [word_name h]; exact lxName_any (c :: r) W (by unfold maxLen; omega)
      rw [h] at CL
      clear hS hge
      obtain ⟨⟨⟨k, s, n, p⟩, z⟩, hx⟩ : ∃ x, wordM (c :: r) = x := ⟨_, rfl⟩
      rw [hx] at HW0 ⊢
      have HW : WordAt 31 (c :: r) k s n p z := ⟨HW0⟩
      clear hx HW0
      go_enter Tryz.func14, Tryz.ntmps14
      go_wp2_with (first
        | (go_at_call 30; refine (CL _).mono ?_; rintro e w' ⟨rfl, rfl⟩)
        | (go_at_call 32; refine (CD _).mono ?_; rintro e w' ⟨rfl, rfl⟩)
        | (go_at_call 35; refine (CI _).mono ?_; rintro e w' ⟨rfl, rfl⟩)
        | (go_at_call 31; refine (HW.out _ ER).mono ?_; rintro e w' ⟨rfl, hb⟩; obtain ⟨r0, r1, r2, r3, rf⟩ := (NoAt.new w).later hb; have rf0 := rf 0; have hB2 := below_through hb (by simp) HB0.out)
        | fail)
      refine bodyPost_ret (v := .tuple #[wdV ⟨k, s, n, p⟩, .int .i64 (z : Int)]) (by simp [results, Tryz.results14, go_sem, wdV, r0, r1, r2, r3]; done) rfl ⟨rfl, (((hB2.setCell (Nat.le_refl _) _).setCell (Nat.le_refl _) _).setCell (Nat.le_refl _) _).setCell (Nat.le_refl _) _⟩
    · have HW0 : ∀ W, ErAt W → Calls Tryz.prog 33 #[.string (txt (c :: r))] W fun e w' => e = .returned (.tuple #[wdV (wordM (c :: r)).1, .int .i64 ((wordM (c :: r)).2 : Nat)]) ∧ Below W.heap.size W w' := fun W hE => by
        rw [num_is h h1]; exact lxNumber_any (c :: r) W (by omega) (by show 0 < (if isD c then cnt isD r + 1 else 0); rw [if_pos h1]; omega) hE
      rw [h] at CL
      rw [h1] at CD
      clear hS hge
      obtain ⟨⟨⟨k, s, n, p⟩, z⟩, hx⟩ : ∃ x, wordM (c :: r) = x := ⟨_, rfl⟩
      rw [hx] at HW0 ⊢
      have HW : WordAt 33 (c :: r) k s n p z := ⟨HW0⟩
      clear hx HW0
      go_enter Tryz.func14, Tryz.ntmps14
      go_wp2_with (first
        | (go_at_call 30; refine (CL _).mono ?_; rintro e w' ⟨rfl, rfl⟩)
        | (go_at_call 32; refine (CD _).mono ?_; rintro e w' ⟨rfl, rfl⟩)
        | (go_at_call 35; refine (CI _).mono ?_; rintro e w' ⟨rfl, rfl⟩)
        | (go_at_call 33; refine (HW.out _ ER).mono ?_; rintro e w' ⟨rfl, hb⟩; obtain ⟨r0, r1, r2, r3, rf⟩ := (NoAt.new w).later hb; have rf0 := rf 0; have hB2 := below_through hb (by simp) HB0.out)
        | fail)
      refine bodyPost_ret (v := .tuple #[wdV ⟨k, s, n, p⟩, .int .i64 (z : Int)]) (by simp [results, Tryz.results14, go_sem, wdV, r0, r1, r2, r3]; done) rfl ⟨rfl, (((hB2.setCell (Nat.le_refl _) _).setCell (Nat.le_refl _) _).setCell (Nat.le_refl _) _).setCell (Nat.le_refl _) _⟩
    · have HW0 : ∀ W, ErAt W → Calls Tryz.prog 34 #[.string (txt (c :: r))] W fun e w' => e = .returned (.tuple #[wdV (wordM (c :: r)).1, .int .i64 ((wordM (c :: r)).2 : Nat)]) ∧ Below W.heap.size W w' := fun W hE => by
        rw [text_is h h1 h2]; exact lxText_any c r W (by simp at hl; omega)
      rw [h] at CL
      rw [h1] at CD
      have hc39 : ((c.toNat : Int) == 39) = true := by rw [beq_iff_eq, h2]; rfl
      clear h2
      clear hS hge
      obtain ⟨⟨⟨k, s, n, p⟩, z⟩, hx⟩ : ∃ x, wordM (c :: r) = x := ⟨_, rfl⟩
      rw [hx] at HW0 ⊢
      have HW : WordAt 34 (c :: r) k s n p z := ⟨HW0⟩
      clear hx HW0
      go_enter Tryz.func14, Tryz.ntmps14
      go_wp2_with (first
        | (go_at_call 30; refine (CL _).mono ?_; rintro e w' ⟨rfl, rfl⟩)
        | (go_at_call 32; refine (CD _).mono ?_; rintro e w' ⟨rfl, rfl⟩)
        | (go_at_call 35; refine (CI _).mono ?_; rintro e w' ⟨rfl, rfl⟩)
        | (go_at_call 34; refine (HW.out _ ER).mono ?_; rintro e w' ⟨rfl, hb⟩; obtain ⟨r0, r1, r2, r3, rf⟩ := (NoAt.new w).later hb; have rf0 := rf 0; have hB2 := below_through hb (by simp) HB0.out)
        | fail)
      refine bodyPost_ret (v := .tuple #[wdV ⟨k, s, n, p⟩, .int .i64 (z : Int)]) (by simp [results, Tryz.results14, go_sem, wdV, r0, r1, r2, r3]; done) rfl ⟨rfl, (((hB2.setCell (Nat.le_refl _) _).setCell (Nat.le_refl _) _).setCell (Nat.le_refl _) _).setCell (Nat.le_refl _) _⟩
    · have HW0 : ∀ W, ErAt W → Calls Tryz.prog 36 #[.string (txt (c :: r))] W fun e w' => e = .returned (.tuple #[wdV (wordM (c :: r)).1, .int .i64 ((wordM (c :: r)).2 : Nat)]) ∧ Below W.heap.size W w' := fun W hE => by
        rw [word_sign h h1 h2 h3]; exact lxSign_any (c :: r) W hl (by simp)
      rw [h] at CL
      rw [h1] at CD
      have hc39 : ¬ (c.toNat : Int) = 39 := fun e => h2 (UInt8.toNat_inj.1 (show c.toNat = 39 by omega))
      have hX0 := hS.2 h3
      clear hS hge
      obtain ⟨⟨⟨k, s, n, p⟩, z⟩, hx⟩ : ∃ x, wordM (c :: r) = x := ⟨_, rfl⟩
      rw [hx] at HW0 ⊢
      have HW : WordAt 36 (c :: r) k s n p z := ⟨HW0⟩
      clear hx HW0
      go_enter Tryz.func14, Tryz.ntmps14
      go_wp2_with (first
        | (go_at_call 30; refine (CL _).mono ?_; rintro e w' ⟨rfl, rfl⟩)
        | (go_at_call 32; refine (CD _).mono ?_; rintro e w' ⟨rfl, rfl⟩)
        | (go_at_call 35; refine (CI _).mono ?_; rintro e w' ⟨rfl, rfl⟩)
        | (go_at_call 36; refine (HW.out _ ER).mono ?_; rintro e w' ⟨rfl, hb⟩; obtain ⟨r0, r1, r2, r3, rf⟩ := (NoAt.new w).later hb; have rf0 := rf 0; have hB2 := below_through hb (by simp) HB0.out)
        | fail)
      refine bodyPost_ret (v := .tuple #[wdV ⟨k, s, n, p⟩, .int .i64 (z : Int)]) (by simp [results, Tryz.results14, go_sem, wdV, r0, r1, r2, r3]; done) rfl ⟨rfl, (((hB2.setCell (Nat.le_refl _) _).setCell (Nat.le_refl _) _).setCell (Nat.le_refl _) _).setCell (Nat.le_refl _) _⟩
    · have hx := word_none (r := r) h h1 h2 h3
      rw [h] at CL
      rw [h1] at CD
      have hc39 : ¬ (c.toNat : Int) = 39 := fun e => h2 (UInt8.toNat_inj.1 (show c.toNat = 39 by omega))
      have hX0 : ¬ 0 ≤ X := fun e => by rw [hS.1 e] at h3; cases h3
      rw [hx]
      clear hS hge hx
      go_enter Tryz.func14, Tryz.ntmps14
      go_wp2_with (first
        | (go_at_call 30; refine (CL _).mono ?_; rintro e w' ⟨rfl, rfl⟩)
        | (go_at_call 32; refine (CD _).mono ?_; rintro e w' ⟨rfl, rfl⟩)
        | (go_at_call 35; refine (CI _).mono ?_; rintro e w' ⟨rfl, rfl⟩)
        | fail)
      exact bodyPost_ret (v := .tuple #[wdV noW, .int .i64 0]) (by simp [results, Tryz.results14, go_sem, wdV_no]; done) rfl ⟨rfl, by go_grown⟩
end Go.Proofs.YtneebnankghhgacGreatDoor

/- The project's Words: whatever the bytes, the words or the first fault as they are said plainly: a contract of the call, in whatever memory. Conditions: what strconv.ErrRange holds is an error. -/
namespace Go.Proofs.YtneebnankghhgacGreatDoor
open Go.RowKit

theorem infoWd : (Tryz.prog.info? 64).map (fun i => (i.zero, i.size, i.bytes)) = some (some (.agg #[.int .i64 0, .string ⟨#[]⟩, .int .u64 0, .int .i64 0]), 4, 40) := by kernel_rfl

def wdCells (ws : List Wd) : List Value := ws.flatMap fun x => [.int .i64 (x.k : Nat), .string (txt x.s), .int .u64 (x.n : Nat), .int .i64 (x.p : Nat)]
theorem wdCells_snoc (ws : List Wd) (x : Wd) : wdCells (ws ++ [x]) = wdCells ws ++ [.int .i64 (x.k : Nat), .string (txt x.s), .int .u64 (x.n : Nat), .int .i64 (x.p : Nat)] := by simp [wdCells]
theorem wdCells_len : ∀ ws, (wdCells ws).length = ws.length * 4
  | [] => rfl
  | x :: ws => by
    have := wdCells_len ws
    show (wdCells ws).length + 4 = _
    rw [this, List.length_cons]; omega
theorem wdCells_at : ∀ (ws : List Wd) (i : Nat) (h : i < ws.length), (wdCells ws)[i * 4]? = some (.int .i64 (ws[i].k : Nat)) ∧ (wdCells ws)[i * 4 + 1]? = some (.string (txt ws[i].s)) ∧ (wdCells ws)[i * 4 + 2]? = some (.int .u64 (ws[i].n : Nat)) ∧ (wdCells ws)[i * 4 + 3]? = some (.int .i64 (ws[i].p : Nat))
  | x :: ws, 0, _ => ⟨rfl, rfl, rfl, rfl⟩
  | x :: ws, i + 1, h => by
    have := wdCells_at ws i (by simpa using h)
    have e : wdCells (x :: ws) = [.int .i64 (x.k : Nat), .string (txt x.s), .int .u64 (x.n : Nat), .int .i64 (x.p : Nat)] ++ wdCells ws := rfl
    have g : ∀ d, (wdCells (x :: ws))[(i + 1) * 4 + d]? = (wdCells ws)[i * 4 + d]? := fun d => by
      rw [e, List.getElem?_append_right (by simp; omega)]
      congr 1
      simp; omega
    exact ⟨(g 0).trans this.1, (g 1).trans this.2.1, (g 2).trans this.2.2.1, (g 3).trans this.2.2.2⟩

/-- The words, in a block of their own from base on, or nil. -/
structure OwnW (w : World) (base : Nat) (v : Value) (ws : List Wd) : Prop where
  out : w.ownsRow base 64 4 v ws.length (wdCells ws)
theorem OwnW.nil (w : World) (base : Nat) : OwnW w base (.slice none 0 0) [] := ⟨World.ownsRow_nil _ _ _ _⟩
theorem OwnW.alloc {w : World} {base : Nat} {v : Value} {ws : List Wd} (h : OwnW w base v ws) (o : Obj) : OwnW (w.alloc o) base v ws := ⟨World.ownsRow.alloc h.out o⟩
theorem OwnW.kept {w w' : World} {base : Nat} {v : Value} {ws : List Wd} (h : OwnW w base v ws) (hb : Below w.heap.size w w') : OwnW w' base v ws := ⟨own_below h.out hb⟩
/-- Words that lie somewhere. -/
def WdAt (w : World) (a : Option Addr) (ws : List Wd) : Prop := ws ≠ [] → ∃ b o, a = some ⟨b, o, none⟩ ∧ ∀ i (h : i < ws.length), w.cell? ⟨b, o + i * 4, none⟩ = some (.int .i64 (ws[i].k : Nat)) ∧ w.cell? ⟨b, o + i * 4 + 1, none⟩ = some (.string (txt ws[i].s)) ∧ w.cell? ⟨b, o + i * 4 + 2, none⟩ = some (.int .u64 (ws[i].n : Nat)) ∧ w.cell? ⟨b, o + i * 4 + 3, none⟩ = some (.int .i64 (ws[i].p : Nat))
theorem OwnW.row {w : World} {base : Nat} {v : Value} {ws : List Wd} (h : OwnW w base v ws) : ∃ a c, v = .slice a ws.length c ∧ WdAt w a ws := by
  have h0 := h.out
  obtain ⟨_, hcase⟩ := h.out
  rcases hcase with ⟨rfl, hl⟩ | ⟨g, cap', cur, rfl, hg, hh, hn, hcap, hsz, htake⟩
  · exact ⟨none, 0, by rw [hl], fun hne => absurd (List.length_eq_zero_iff.1 hl) hne⟩
  · refine ⟨some ⟨g, 0, none⟩, cap', rfl, fun _ => ⟨g, 0, rfl, fun i hi => ?_⟩⟩
    obtain ⟨h1, h2, h3, h4⟩ := wdCells_at ws i hi
    rw [Nat.zero_add]
    exact ⟨(h0.cellAt _ (by omega)).trans h1, (h0.cellAt _ (by omega)).trans h2, (h0.cellAt _ (by omega)).trans h3, (h0.cellAt _ (by omega)).trans h4⟩
theorem OwnW.row0 {w : World} {base : Nat} {v : Value} {ws : List Wd} (h : OwnW w base v ws) (hne : ws ≠ []) : ∃ g c, v = .slice (some ⟨g, 0, none⟩) ws.length c ∧ ∀ j u, (wdCells ws)[j]? = some u → w.cell? ⟨g, j, none⟩ = some u := by
  have h0 := h.out
  obtain ⟨_, hcase⟩ := h.out
  rcases hcase with ⟨rfl, hl⟩ | ⟨g, cap', cur, rfl, hg, hh, hn, hcap, hsz, htake⟩
  · exact absurd (List.length_eq_zero_iff.1 hl) hne
  · exact ⟨g, cap', rfl, fun j u hj => (h0.cellAt _ (by have := (List.getElem?_eq_some_iff.1 hj).1; rw [wdCells_len] at this; omega)).trans hj⟩
theorem WdAt.later {w w' : World} {a : Option Addr} {ws : List Wd} (h : WdAt w a ws) (hb : Below w.heap.size w w') : WdAt w' a ws := fun hne => by
  obtain ⟨b, o, e, hc⟩ := h hne
  exact ⟨b, o, e, fun i hi => ⟨cell_later hb (hc i hi).1, cell_later hb (hc i hi).2.1, cell_later hb (hc i hi).2.2.1, cell_later hb (hc i hi).2.2.2⟩⟩

/-- An append of one word, laid in a block of its own first. -/
theorem wp_word1 {w : World} {ops : Array Oper} {rest : List Oper} {o : Oper} {a : Act} {Q : Exit → Act → World → Prop} (hgd : o.guard = none) (s x : Operand)
    (ho : o.op = .call { callee := .builtin .append, args := #[s, x], argTypes := #[54, 54] })
    {base : Nat} {v : Value} {ws : List Wd} (hs : a.eval s = v) (hown : OwnW w base v ws)
    (e : Wd) (B : Nat) (hx : a.eval x = .slice (some ⟨B, 0, none⟩) 1 1) (h0 : w.cell? ⟨B, 0, none⟩ = some (.int .i64 (e.k : Nat))) (h1 : w.cell? ⟨B, 1, none⟩ = some (.string (txt e.s))) (h2 : w.cell? ⟨B, 2, none⟩ = some (.int .u64 (e.n : Nat))) (h3 : w.cell? ⟨B, 3, none⟩ = some (.int .i64 (e.p : Nat)))
    (hlen : (ws.length + 1) * 40 ≤ 140737488355328) (hbase : base ≤ w.heap.size)
    (h : ∀ v' w', OwnW w' base v' (ws ++ [e]) → Below base w w' → wpList Tryz.prog ops Q rest (a.put o.dst v') w') : wpList Tryz.prog ops Q (o :: rest) a w := by
  obtain ⟨i0, hi, hz0, hz1, hz2⟩ := info_parts infoWd
  refine wpList_append_own w hgd s x 54 ho base 64 i0 (.agg #[.int .i64 0, .string ⟨#[]⟩, .int .u64 0, .int .i64 0]) 4 40 Tryz.underlying54 hi hz0 hz1 hz2 rfl (by decide) v ws.length (wdCells ws) hs hown.out ⟨B, 0, none⟩ 1 1 [.int .i64 (e.k : Nat), .string (txt e.s), .int .u64 (e.n : Nat), .int .i64 (e.p : Nat)] hx rfl ?_ ?_ (by unfold maxLen; omega) hlen hbase ?_
  · intro j u hj
    match j, hj with
    | 0, hj => simp at hj; subst hj; rw [WideShapes.add_plain]; exact h0
    | 1, hj => simp at hj; subst hj; rw [WideShapes.add_plain]; exact h1
    | 2, hj => simp at hj; subst hj; rw [WideShapes.add_plain]; exact h2
    | 3, hj => simp at hj; subst hj; rw [WideShapes.add_plain]; exact h3
    | j + 4, hj => simp at hj
  · intro u hu; simp at hu; rcases hu with rfl | rfl | rfl | rfl <;> rfl
  · intro v' w' hown' hgrow _
    refine h v' w' ⟨?_⟩ ((Below.refl _ _).grown hgrow hbase (fun k hk => (hown.out.lt k hk).1))
    rw [wdCells_snoc, List.length_append]
    exact hown'

/-! ### The rounds -/
theorem lexM_end (f i : Nat) (acc : List Wd) : lexM f i [] acc = .ok acc := by cases f <;> rfl
theorem lexM_blank (f i : Nat) (r : List UInt8) (acc : List Wd) : lexM (f + 1) i (32 :: r) acc = lexM f (i + 1) r acc := by simp [lexM]
theorem lexM_syn {f i : Nat} {c : UInt8} {r : List UInt8} {acc : List Wd} (h : c ≠ 32) (h0 : (wordM (c :: r)).2 = 0) : lexM (f + 1) i (c :: r) acc = .syn i := by simp [lexM, h, h0]
theorem lexM_long {f i : Nat} {c : UInt8} {r : List UInt8} {acc : List Wd} (h : c ≠ 32) (h0 : (wordM (c :: r)).2 ≠ 0) (h1 : acc.length = 512) : lexM (f + 1) i (c :: r) acc = .long i := by simp [lexM, h, h0, h1]
theorem lexM_more {f i : Nat} {c : UInt8} {r : List UInt8} {acc : List Wd} (h : c ≠ 32) (h0 : (wordM (c :: r)).2 ≠ 0) (h1 : acc.length ≠ 512) : lexM (f + 1) i (c :: r) acc = lexM f (i + (wordM (c :: r)).2) ((c :: r).drop (wordM (c :: r)).2) (acc ++ [(wordM (c :: r)).1.put i]) := by simp [lexM, h, h0, h1]
/-- How far a command has been read. -/
structure LexTo (l : List UInt8) (i : Nat) (acc : List Wd) : Prop where
  out : ∃ f, l.length < f + i ∧ lexM f i (l.drop i) acc = lexR l
  few : acc.length ≤ 512
theorem LexTo.start {l : List UInt8} (h : l.length ≤ 2048) : LexTo l 0 [] := ⟨⟨l.length + 1, by omega, by unfold lexR; rw [if_neg (by omega)]; rfl⟩, by simp⟩
theorem LexTo.end {l : List UInt8} {i : Nat} {acc : List Wd} (h : LexTo l i acc) (hi : l.length ≤ i) : lexR l = .ok acc := by
  obtain ⟨f, _, e⟩ := h.out
  rw [← e, List.drop_eq_nil_of_le hi, lexM_end]
theorem LexTo.at {l : List UInt8} {i : Nat} {acc : List Wd} (h : LexTo l i acc) (hi : i < l.length) : ∃ f, l.length < f + 1 + i ∧ lexM (f + 1) i (l[i] :: l.drop (i + 1)) acc = lexR l := by
  obtain ⟨f, hf, e⟩ := h.out
  cases f with
  | zero => omega
  | succ f => exact ⟨f, hf, by rw [← e, List.drop_eq_getElem_cons hi]⟩
theorem LexTo.blank {l : List UInt8} {i : Nat} {acc : List Wd} (h : LexTo l i acc) (hi : i < l.length) (hc : l[i] = 32) : LexTo l (i + 1) acc := by
  obtain ⟨f, hf, e⟩ := h.at hi
  rw [hc, lexM_blank] at e
  exact ⟨⟨f, by omega, e⟩, h.few⟩
theorem LexTo.syn {l : List UInt8} {i : Nat} {acc : List Wd} (h : LexTo l i acc) (hi : i < l.length) (hc : l[i] ≠ 32) (h0 : (wordM (l.drop i)).2 = 0) : lexR l = .syn i := by
  obtain ⟨f, hf, e⟩ := h.at hi
  rw [List.drop_eq_getElem_cons hi] at h0
  rw [← e, lexM_syn hc h0]
theorem LexTo.long {l : List UInt8} {i : Nat} {acc : List Wd} (h : LexTo l i acc) (hi : i < l.length) (hc : l[i] ≠ 32) (h0 : (wordM (l.drop i)).2 ≠ 0) (h1 : acc.length = 512) : lexR l = .long i := by
  obtain ⟨f, hf, e⟩ := h.at hi
  rw [List.drop_eq_getElem_cons hi] at h0
  rw [← e, lexM_long hc h0 h1]
theorem LexTo.more {l : List UInt8} {i : Nat} {acc : List Wd} (h : LexTo l i acc) (hi : i < l.length) (hc : l[i] ≠ 32) (h0 : (wordM (l.drop i)).2 ≠ 0) (h1 : acc.length ≠ 512) : LexTo l (i + (wordM (l.drop i)).2) (acc ++ [(wordM (l.drop i)).1.put i]) := by
  obtain ⟨f, hf, e⟩ := h.at hi
  have hd := List.drop_eq_getElem_cons hi
  rw [hd] at h0
  rw [lexM_more hc h0 h1, ← hd, List.drop_drop] at e
  rw [← hd] at h0
  exact ⟨⟨f, by omega, e⟩, by have := h.few; simp; omega⟩
end Go.Proofs.YtneebnankghhgacGreatDoor

/- The project's Words: whatever the bytes: a contract of the call, in whatever memory. Conditions: what strconv.ErrRange holds is an error. -/
namespace Go.Proofs.YtneebnankghhgacGreatDoor
open Go.RowKit

/-- What Words answers. -/
structure WordsAns (l : List UInt8) (w : World) (e : Ending) (w' : World) : Prop where
  out : ∃ v, e = .returned (.tuple #[v, .int .i64 (outN (lexR l) : Nat), .int .i64 (outE (lexR l) : Nat)]) ∧ OwnW w' w.heap.size v (outW l.length (lexR l))
  below : Below w.heap.size w w'

set_option maxHeartbeats 4000000 in
theorem lxWords_any (l : List UInt8) (w : World) (hl : l.length ≤ maxLen) (er : ErAt w) :
    Calls Tryz.prog 10 #[.string (txt l)] w (WordsAns l w) := by
  unfold maxLen at hl
  have hsz : (txt l).size = l.length := txt_size l
  by_cases hlong : 2048 < l.length
  · have hR : lexR l = .long 0 := if_pos hlong
    have hi : (2048 : Int) < (l.length : Int) := by omega
    go_enter Tryz.func10, Tryz.ntmps10
    go_wp2
    exact bodyPost_ret (v := .tuple #[.slice none 0 0, .int .i64 0, .int .i64 3]) (by simp [results, Tryz.results10, go_sem]; done) rfl ⟨⟨_, by rw [hR]; rfl, by rw [hR]; exact OwnW.nil _ _⟩, by go_grown⟩
  · have hi : ¬ (2048 : Int) < (l.length : Int) := by omega
    have ER := hid0 er
    have hl2 : l.length ≤ 2048 := by omega
    clear er hlong hl
    go_enter Tryz.func10, Tryz.ntmps10
    go_wp2
    go_loopw [5, 6] (fun lv iv wr => ∃ (i : Nat) (acc : List Wd), i ≤ l.length ∧ iv = .int .i64 i ∧ OwnW wr w.heap.size lv acc ∧ Below w.heap.size w wr ∧ Hid (LexTo l i acc)) (fun _ iv _ => l.length - (intOf iv).toNat)
    case atStart => exact ⟨0, [], Nat.zero_le _, rfl, OwnW.nil _ _, Below.refl _ _, hid0 (LexTo.start hl2)⟩
    case round =>
      obtain ⟨i, acc, hil, rfl, hO, hB, hT⟩ := hrel
      have hbs := hB.size
      have few := hT.out.few
      obtain ⟨a, c, rfl, -⟩ := hO.row
      by_cases hlt : i < l.length
      · have hii : (i : Int) < (l.length : Int) := by omega
        have g1 : ∀ h, (txt l)[i]'h = l[i] := fun h => txt_get l i h hlt
        by_cases hc : l[i] = 32
        · have HT := hid0 (hT.out.blank hlt hc)
          have hc1 : (((l[i]).toNat : Int) == 32) = true := by rw [beq_iff_eq, hc]; rfl
          clear hc
          go_wp2
          exact ⟨⟨i + 1, acc, by omega, by go_num, hO, hB, HT⟩, by simp [intOf]; omega⟩
        · have hc1 : ¬ ((l[i]).toNat : Int) = 32 := fun e => hc (UInt8.toNat_inj.1 (show (l[i]).toNat = 32 by omega))
          have hne : l.drop i ≠ [] := fun e => by have := congrArg List.length e; rw [List.length_drop] at this; simp at this; omega
          have CW0 := fun W hE => lxWord_any (l.drop i) W (by rw [List.length_drop]; omega) hne hE
          have HS := fun h => hT.out.syn hlt hc h
          have HL := fun h h1 => hT.out.long hlt hc h h1
          have HM := fun h h1 => hT.out.more hlt hc h h1
          have hwl := word_le (l.drop i)
          rw [List.length_drop] at hwl
          obtain ⟨⟨⟨k, s, n, p⟩, z⟩, hx⟩ : ∃ x, wordM (l.drop i) = x := ⟨_, rfl⟩
          rw [hx] at CW0 HS HL HM hwl
          dsimp only at HS HL HM hwl
          have CW : WordAt 14 (l.drop i) k s n p z := ⟨CW0⟩
          clear CW0 hx hc hne
          have cut : ∀ W : World, (Instr.slice 9 (.string (txt l)) (some (.int .i64 (i : Int))) none none).run Tryz.prog W = .ok (.string (txt (l.drop i))) W := fun W => by
            have := cut_from l (i : Int) W (by omega) (by omega)
            simpa using this
          have ERw := ER.out.later hB
          by_cases hz : z = 0
          · have HS' := HS hz
            have hzb : ((z : Int) == 0) = true := by rw [beq_iff_eq]; omega
            clear HS HL HM hz
            go_wp2_with (first
              | (go_at_call 14; refine (CW.out _ ERw).mono ?_; rintro e w1 ⟨rfl, hb⟩; have hO1 := hO.kept hb; have hB1 := below_through hb hbs hB)
              | fail)
            exact bodyPost_ret (v := .tuple #[.slice none 0 0, .int .i64 (i : Int), .int .i64 4]) (by simp [results, Tryz.results10, go_sem]; done) rfl ⟨⟨_, by rw [HS']; rfl, by rw [HS']; exact OwnW.nil _ _⟩, hB1.alloc hB1.size _⟩
          · have hzb : ((z : Int) == 0) = false := by rw [beq_eq_false_iff_ne]; omega
            by_cases h512 : acc.length = 512
            · have HS' := HL hz h512
              have h5 : ((acc.length : Int) == 512) = true := by rw [beq_iff_eq]; omega
              clear HS HL HM hz h512
              go_wp2_with (first
                | (go_at_call 14; refine (CW.out _ ERw).mono ?_; rintro e w1 ⟨rfl, hb⟩; have hO1 := hO.kept hb; have hB1 := below_through hb hbs hB)
                | fail)
              exact bodyPost_ret (v := .tuple #[.slice none 0 0, .int .i64 (i : Int), .int .i64 3]) (by simp [results, Tryz.results10, go_sem]; done) rfl ⟨⟨_, by rw [HS']; rfl, by rw [HS']; exact OwnW.nil _ _⟩, hB1.alloc hB1.size _⟩
            · have HS' := hid0 (HM hz h512)
              have h5 : ((acc.length : Int) == 512) = false := by rw [beq_eq_false_iff_ne]; omega
              clear HS HL HM
              go_wp2_with (first
                | (go_at_call 14; refine (CW.out _ ERw).mono ?_; rintro e w1 ⟨rfl, hb⟩; have hO1 := hO.kept hb; have hB1 := below_through hb hbs hB)
                | (at_builtin; go_loud (refine wp_word1 rfl _ _ rfl rfl ((hO1.alloc _).alloc _) ⟨k, s, n, i⟩ (w1.heap.size + 1) rfl (by go_cell) (by go_cell) (by go_cell) (by go_cell) (by omega) ?hb2 ?_))
                | fail)
              case hb2 => rw [World.size_alloc, World.size_alloc]; have := hB1.size; omega
              intro v2 w2 hO2 hb2
              have hB2 := ((hB1.alloc hB1.size _).alloc (by rw [World.size_alloc]; have := hB1.size; omega) _).trans hb2
              go_wp2
              exact ⟨⟨i + z, acc ++ [⟨k, s, n, i⟩], by omega, by go_num, hO2, hB2, HS'⟩, by simp [intOf]; omega⟩
      · have hii : ¬ (i : Int) < (l.length : Int) := by omega
        have hR := hT.out.end (by omega)
        obtain rfl : i = l.length := by omega
        go_wp2_with (first
          | (at_builtin; go_loud (refine wp_word1 rfl _ _ rfl rfl (hO.alloc _) ⟨5, [], 0, l.length⟩ wr.heap.size rfl (by go_cell) (by show _ = some (Value.string ⟨#[]⟩); go_cell) (by go_cell) (by go_cell) (by omega) ?hb2 ?_))
          | fail)
        case hb2 => omega
        intro v2 w2 hO2 hb2
        have hB2 := (hB.alloc hbs _).trans hb2
        go_wp2
        exact bodyPost_ret (v := .tuple #[v2, .int .i64 0, .int .i64 0]) (by simp [results, Tryz.results10, go_sem]; done) rfl ⟨⟨_, by rw [hR]; rfl, by rw [hR]; exact hO2⟩, hB2⟩
end Go.Proofs.YtneebnankghhgacGreatDoor

/- The words of the language, the project's and the reference's, and what may be a name; the document's example: contracts of the calls. Conditions: what strconv.ErrRange holds is an error (the example alone). -/
namespace Go.Proofs.YtneebnankghhgacGreatDoor
open Go.RowKit

def wordsL : List (List UInt8) := [[99, 114, 101, 97, 116, 101], [100, 114, 111, 112], [116, 97, 98, 108, 101], [108, 111, 103], [111, 110], [111, 102, 102], [118, 105, 101, 119], [114, 101, 102, 114, 101, 115, 104], [97, 115], [105, 110, 115, 101, 114, 116], [105, 110, 116, 111], [118, 97, 108, 117, 101, 115], [100, 101, 108, 101, 116, 101], [102, 114, 111, 109], [119, 104, 101, 114, 101], [117, 112, 100, 97, 116, 101], [115, 101, 116], [102, 97, 115, 116], [99, 111, 109, 112, 108, 101, 116, 101], [102, 111, 114, 99, 101], [110, 101, 115, 116, 101, 100], [112, 117, 114, 103, 101], [114, 101, 119, 114, 105, 116, 101], [112, 111, 108, 105, 99, 121], [101, 110, 102, 111, 114, 99, 101, 100], [116, 111, 108, 101, 114, 97, 116, 101, 100], [115, 104, 111, 119], [115, 101, 108, 101, 99, 116], [100, 105, 115, 116, 105, 110, 99, 116], [103, 114, 111, 117, 112], [98, 121], [117, 110, 105, 111, 110], [97, 108, 108], [97, 110, 100], [111, 114], [110, 111, 116], [105, 115], [110, 117, 108, 108], [116, 114, 117, 101], [102, 97, 108, 115, 101], [99, 111, 117, 110, 116], [115, 117, 109], [109, 105, 110], [109, 97, 120], [105, 110, 116], [98, 111, 111, 108], [116, 101, 120, 116], [112, 114, 105, 109, 97, 114, 121], [107, 101, 121]]
def takenB (l : List UInt8) : Bool := wordsL.contains l
theorem txt_toList (l : List UInt8) : (txt l).toList = l := by rw [ByteArray.toList_eq]; rfl
theorem taken_yes {l : List UInt8} {x : List UInt8} (h : (l == x) = true) (hx : x ∈ wordsL) : takenB l = true := by
  rw [beq_iff_eq] at h
  unfold takenB
  rw [List.contains_iff_mem, h]
  exact hx

set_option maxRecDepth 1000000 in
set_option maxHeartbeats 8000000 in
theorem lxTaken_any (l : List UInt8) (w : World) :
    Calls Tryz.prog 64 #[.string (txt l)] w fun e w' => e = .returned (.bool (takenB l)) ∧ w = w' := by
  have tl := txt_toList l
  go_enter Tryz.func64, Tryz.ntmps64
  go_wp2
  all_goals
    first
      | (rename_i h1 h2; exact absurd (h1.symm.trans h2) (by decide))
      | (go_ret
         exact ⟨ret_bool (taken_yes (by assumption) (by decide +kernel)).symm, rfl⟩)
      | (go_ret
         refine ⟨ret_bool ?_, rfl⟩
         simp only [takenB, wordsL, List.contains_cons, List.contains_nil, Bool.or_self, *])

def firstL : List (List UInt8) := [[99, 114, 101, 97, 116, 101], [100, 114, 111, 112], [116, 97, 98, 108, 101], [108, 111, 103], [111, 110], [111, 102, 102], [118, 105, 101, 119], [114, 101, 102, 114, 101, 115, 104], [97, 115], [105, 110, 115, 101, 114, 116], [105, 110, 116, 111], [118, 97, 108, 117, 101, 115], [100, 101, 108, 101, 116, 101], [102, 114, 111, 109], [119, 104, 101, 114, 101], [117, 112, 100, 97, 116, 101], [115, 101, 116], [102, 97, 115, 116], [99, 111, 109, 112, 108, 101, 116, 101], [102, 111, 114, 99, 101], [110, 101, 115, 116, 101, 100], [112, 117, 114, 103, 101], [114, 101, 119, 114, 105, 116, 101], [112, 111, 108, 105, 99, 121], [101, 110, 102, 111, 114, 99, 101, 100], [116, 111, 108, 101, 114, 97, 116, 101, 100], [115, 104, 111, 119]]
end Go.Proofs.YtneebnankghhgacGreatDoor

/- What may be a name, the project's answer and the reference's: contracts of the calls, in whatever memory. Conditions: none. -/
namespace Go.Proofs.YtneebnankghhgacGreatDoor
open Go.RowKit

theorem ld_more {l : List UInt8} {k : Nat} (h : ∀ j (hj : j < l.length), j < k → isLD l[j] = true) (hk : ∀ h : k < l.length, isLD l[k] = true) : ∀ j (hj : j < l.length), j < k + 1 → isLD l[j] = true := fun j hj h1 => by
  rcases Nat.lt_or_ge j k with g | g
  · exact h j hj g
  · obtain rfl : j = k := by omega
    exact hk hj
theorem isLD_of {c : UInt8} {b : Bool} (h : (isL c || isD c) = b) : isLD c = b := h

/-- May it be a name? -/
def nameB (l : List UInt8) : Bool := decide (l ≠ []) && decide (l.length ≤ 16) && decide (nmS l = l.length) && !takenB l
theorem nmS_ld {c : UInt8} {r : List UInt8} (h : isL c = true) : nmS (c :: r) = cnt isLD (c :: r) := by
  have h1 : isLD c = true := by unfold isLD; rw [h]; rfl
  show (if isL c then cnt isLD r + 1 else 0) = (if isLD c then cnt isLD r + 1 else 0)
  rw [if_pos h, if_pos h1]
theorem nameB_nil : nameB [] = false := rfl
theorem nameB_long {l : List UInt8} (h : 16 < l.length) : nameB l = false := by
  have : decide (l.length ≤ 16) = false := by simpa using h
  unfold nameB
  rw [this]; simp
theorem nameB_size {l : List UInt8} (h : nmS l ≠ l.length) : nameB l = false := by
  unfold nameB
  rw [decide_eq_false h]; simp
theorem nameB_is {l : List UInt8} (h0 : l ≠ []) (h1 : l.length ≤ 16) (h : nmS l = l.length) : nameB l = !takenB l := by
  unfold nameB
  rw [decide_eq_true h0, decide_eq_true h1, decide_eq_true h]; simp

set_option maxHeartbeats 1000000 in
theorem lxIsName_any (l : List UInt8) (w : World) (hl : l.length ≤ maxLen) :
    Calls Tryz.prog 47 #[.string (txt l)] w fun e w' => e = .returned (.bool (nameB l)) ∧ w = w' := by
  have CN := fun W => lxNameSize_any l W hl
  have CT := fun W => lxTaken_any l W
  unfold maxLen at hl
  have hsz : (txt l).size = l.length := txt_size l
  have tl := txt_toList l
  by_cases h0 : l = []
  · subst h0
    go_enter Tryz.func47, Tryz.ntmps47
    go_wp2
    go_ret
    exact ⟨rfl, rfl⟩
  · have H0 := hid0 h0
    have hE : l.isEmpty = false := by simpa using h0
    rcases Nat.lt_or_ge 16 l.length with h1 | h1
    · have hi : (16 : Int) < (l.length : Int) := by omega
      have HN := hid0 (nameB_long h1)
      go_enter Tryz.func47, Tryz.ntmps47
      go_wp2
      go_ret
      exact ⟨ret_bool HN.out.symm, rfl⟩
    · have hi : ¬ (16 : Int) < (l.length : Int) := by omega
      by_cases h2 : nmS l = l.length
      · have HN := hid0 (nameB_is h0 h1 h2)
        have hb2 : ((nmS l : Int) == (l.length : Int)) = true := by rw [beq_iff_eq, h2]
        clear h0 h2
        go_enter Tryz.func47, Tryz.ntmps47
        go_wp2_with (first
          | (go_at_call 49; refine (CN _).mono ?_; rintro e w' ⟨rfl, rfl⟩)
          | (go_at_call 64; refine (CT _).mono ?_; rintro e w' ⟨rfl, rfl⟩)
          | fail)
        all_goals
          go_ret
          exact ⟨ret_bool HN.out.symm, rfl⟩
      · have HN := hid0 (nameB_size h2)
        have hb2 : ((nmS l : Int) == (l.length : Int)) = false := by rw [beq_eq_false_iff_ne]; omega
        clear h0 h2
        go_enter Tryz.func47, Tryz.ntmps47
        go_wp2_with (first
          | (go_at_call 49; refine (CN _).mono ?_; rintro e w' ⟨rfl, rfl⟩)
          | (go_at_call 64; refine (CT _).mono ?_; rintro e w' ⟨rfl, rfl⟩)
          | fail)
        all_goals
          go_ret
          exact ⟨ret_bool HN.out.symm, rfl⟩

end Go.Proofs.YtneebnankghhgacGreatDoor
