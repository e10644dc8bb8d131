/- The walk of the law LexBlanks: it returns true, and below the heap's end memory is as it was. Conditions: what strconv.ErrRange holds is an error. -/
import Derived.Test.YtfjhkchkiacfpaaDoorNn
import Derived.Test.YtfjhkchkiacfpaaDoorNs
import Derived.Test.YtfjhkchkiacfpaaDoorNr
import Derived.Deep.RegionHeld3
import Derived.BigRegion
import Derived.Deep.CutRange
namespace Go.Proofs.YtfjhkchkiacfpaaDoor
open Go.RowKit

set_option maxRecDepth 1000000 in
set_option maxHeartbeats 2000000 in
theorem blanks_out0 (s : List UInt8) (u N1 E1 : Nat) (ws : List Wd) (w : World) (er : ErAt w) (HS : WordsOn s N1 E1 ws) (h1 : E1 ≠ 0) :
    Calls Tryd.prog 4 #[.string (txt s), .int .u8 (u : Int)] w fun e w' => e = .returned (.bool true) ∧ Below w.heap.size w w' := by
  have hzs : (txt s).size = s.length := txt_size s
  obtain ⟨k, hk⟩ : ∃ k, u % 5 = k := ⟨_, rfl⟩
  have hk5 : k ≤ 4 := by omega
  have hku : (u : Int).tmod 5 = (k : Int) := by rw [← hk]; rfl
  have hkw : IntKind.u8.wrap (k : Int) = (k : Int) := IntWalk.u8_in _ ⟨by omega, by omega⟩
  have hkx : IntKind.i64.wrap (k : Int) = (k : Int) := IntWalk.i64_in _ (by omega)
  have h1' : ¬ (E1 : Int) = 0 := by omega
  clear hk
  go_enter Tryd.func4, Tryd.ntmps4
  go_wp2_with fail
  go_at_call 13
  refine (HS.out _ er).mono ?_
  rintro e w1 ⟨v1, rfl, hO1, hb1⟩
  have er1 := er.later hb1
  obtain ⟨a1, c1, rfl⟩ := hO1.len
  have CA := awake8_any w1 er1
  go_wp2_with (first
    | (go_at_call 8; refine CA.mono ?_; rintro e w3 ⟨rfl, hb3⟩)
    | fail)
  go_ret
  exact ⟨rfl, below_through hb3 hb1.size hb1⟩

set_option maxRecDepth 1000000 in
set_option maxHeartbeats 2000000 in
theorem blanks_out1 (s : List UInt8) (u N1 E1 : Nat) (ws : List Wd) (w : World) (er : ErAt w) (HS : WordsOn s N1 E1 ws) (h1 : E1 = 0) (hl : s.length ≤ 2048) (h3 : 2048 < s.length + u % 5) :
    Calls Tryd.prog 4 #[.string (txt s), .int .u8 (u : Int)] w fun e w' => e = .returned (.bool true) ∧ Below w.heap.size w w' := by
  have hzs : (txt s).size = s.length := txt_size s
  obtain ⟨k, hk⟩ : ∃ k, u % 5 = k := ⟨_, rfl⟩
  have hk5 : k ≤ 4 := by omega
  have hku : (u : Int).tmod 5 = (k : Int) := by rw [← hk]; rfl
  have hkw : IntKind.u8.wrap (k : Int) = (k : Int) := IntWalk.u8_in _ ⟨by omega, by omega⟩
  have hkx : IntKind.i64.wrap (k : Int) = (k : Int) := IntWalk.i64_in _ (by omega)
  subst h1
  have hw0 : IntKind.i64.wrap ((s.length : Int) + (k : Int)) = (s.length : Int) + (k : Int) := IntWalk.i64_in _ (by omega)
  have h3' : (2048 : Int) < (s.length : Int) + (k : Int) := by omega
  clear hk
  go_enter Tryd.func4, Tryd.ntmps4
  go_wp2_with fail
  go_at_call 13
  refine (HS.out _ er).mono ?_
  rintro e w1 ⟨v1, rfl, hO1, hb1⟩
  have er1 := er.later hb1
  obtain ⟨a1, c1, rfl⟩ := hO1.len
  have CA := awake8_any w1 er1
  go_wp2_with (first
    | (go_at_call 8; refine CA.mono ?_; rintro e w3 ⟨rfl, hb3⟩)
    | fail)
  go_ret
  exact ⟨rfl, below_through hb3 hb1.size hb1⟩

/-- Blanks ahead and behind change no word, only where it stands. -/
structure Bl (k : Nat) (al ad bs : List Wd) : Prop where
  la : ad.length = al.length
  lb : bs.length = al.length
  ahead : ∀ i (h : i < al.length) (h1 : i < ad.length), ad[i].k = al[i].k ∧ ad[i].s = al[i].s ∧ ad[i].n = al[i].n ∧ ad[i].p = al[i].p + k
  behind : ∀ i (h : i < al.length) (h1 : i < bs.length), bs[i].k = al[i].k ∧ (i + 1 < al.length → bs[i] = al[i])
theorem bl_of {ws : List Wd} {k n : Nat} : Bl k (ws ++ [⟨5, [], 0, n⟩]) (ws.map (Wd.far k) ++ [⟨5, [], 0, n + k⟩]) (ws ++ [⟨5, [], 0, n + k⟩]) := by
  refine ⟨by simp, by simp, fun i h h1 => ?_, fun i h h1 => ?_⟩
  · rcases Nat.lt_or_ge i ws.length with g | g
    · rw [List.getElem_append_left (by simpa using g), List.getElem_append_left g, List.getElem_map]
      exact ⟨rfl, rfl, rfl, rfl⟩
    · have e : i = ws.length := by simp at h; omega
      subst e
      rw [List.getElem_append_right (by simp), List.getElem_append_right (Nat.le_refl _)]
      simp
  · rcases Nat.lt_or_ge i ws.length with g | g
    · rw [List.getElem_append_left g, List.getElem_append_left g]
      exact ⟨rfl, fun _ => rfl⟩
    · have e : i = ws.length := by simp at h; omega
      subst e
      rw [List.getElem_append_right (Nat.le_refl _), List.getElem_append_right (Nat.le_refl _)]
      exact ⟨by simp, fun h => by simp at h⟩

set_option maxRecDepth 1000000 in
set_option maxHeartbeats 8000000 in
theorem blanks_main (s : List UInt8) (u N1 N2 N3 : Nat) (al ad bs : List Wd) (w : World) (er : ErAt w) (HS : WordsOn s N1 0 al) (HA : WordsOn (List.replicate (u % 5) 32 ++ s) N2 0 ad) (HB : WordsOn (s ++ List.replicate (u % 5) 32) N3 0 bs)
    (hl : s.length + u % 5 ≤ 2048) (hne : al ≠ []) (few : al.length ≤ 4096) (hlow : ∀ i (h : i < al.length), al[i].p ≤ 2048) (HP : Bl (u % 5) al ad bs) :
    Calls Tryd.prog 4 #[.string (txt s), .int .u8 (u : Int)] w fun e w' => e = .returned (.bool true) ∧ Below w.heap.size w w' := by
  have hzs : (txt s).size = s.length := txt_size s
  obtain ⟨k, hk⟩ : ∃ k, u % 5 = k := ⟨_, rfl⟩
  have hk5 : k ≤ 4 := by omega
  have hku : (u : Int).tmod 5 = (k : Int) := by rw [← hk]; rfl
  have hkw : IntKind.u8.wrap (k : Int) = (k : Int) := IntWalk.u8_in _ ⟨by omega, by omega⟩
  have hkx : IntKind.i64.wrap (k : Int) = (k : Int) := IntWalk.i64_in _ (by omega)
  rw [hk] at HA HB hl HP
  have hw0 : IntKind.i64.wrap ((s.length : Int) + (k : Int)) = (s.length : Int) + (k : Int) := IntWalk.i64_in _ (by omega)
  have h3' : ¬ (2048 : Int) < (s.length : Int) + (k : Int) := by omega
  have hcut : ∀ W : World, (Instr.slice 9 (.string ⟨#[32, 32, 32, 32, 32]⟩) none (some (.int .i64 (k : Int))) none).run Tryd.prog W = .ok (.string (txt (List.replicate k 32))) W := fun W => by
    have := cut_to [32, 32, 32, 32, 32] k (by simp; omega) W
    rw [show ([32, 32, 32, 32, 32] : List UInt8).take k = List.replicate k 32 by
      have : k = 0 ∨ k = 1 ∨ k = 2 ∨ k = 3 ∨ k = 4 := by omega
      rcases this with rfl | rfl | rfl | rfl | rfl <;> rfl] at this
    exact this
  have hlp : (List.replicate k (32 : UInt8)).length = k := by simp
  obtain ⟨pad, hpad⟩ : ∃ pad, List.replicate k (32 : UInt8) = pad := ⟨_, rfl⟩
  rw [hpad] at HA HB hcut hlp
  obtain ⟨P, hP⟩ : ∃ P, pad ++ s = P := ⟨_, rfl⟩
  obtain ⟨Q, hQ⟩ : ∃ Q, s ++ pad = Q := ⟨_, rfl⟩
  have X1 : txt pad ++ txt s = txt P := by rw [txt_add, hP]
  have X2 : txt s ++ txt pad = txt Q := by rw [txt_add, hQ]
  have zp : (txt pad).size = k := by rw [txt_size, hlp]
  have hlP : P.length = s.length + k := by rw [← hP]; simp; omega
  have hlQ : Q.length = s.length + k := by rw [← hQ]; simp; omega
  have z1 : (txt P).size = s.length + k := by rw [txt_size, hlP]
  have z2 : (txt Q).size = s.length + k := by rw [txt_size, hlQ]
  rw [hP] at HA
  rw [hQ] at HB
  have hal : 0 < al.length := List.length_pos_iff.2 hne
  have hla := HP.la
  have hlb := HP.lb
  clear hk hP hQ hpad hlp hlP hlQ
  go_enter Tryd.func4, Tryd.ntmps4
  go_wp2_with fail
  go_at_call 13
  refine (HS.out _ er).mono ?_
  rintro e w1 ⟨v1, rfl, hO1, hb1⟩
  have er1 := er.later hb1
  obtain ⟨g1, c1, rfl, A1⟩ := hO1.wds hne
  go_wp2_with fail
  go_at_call 13
  refine (HA.out _ er1).mono ?_
  rintro e w2 ⟨v2, rfl, hO2, hb2⟩
  have er2 := er1.later hb2
  obtain ⟨g2, c2, rfl, A2⟩ := hO2.wds (by intro e; rw [e] at hla; simp at hla; omega)
  go_wp2_with fail
  go_at_call 13
  refine (HB.out _ er2).mono ?_
  rintro e w3 ⟨v3, rfl, hO3, hb3⟩
  have er3 := er2.later hb3
  obtain ⟨g3, c3, rfl, A3⟩ := hO3.wds (by intro e; rw [e] at hlb; simp at hlb; omega)
  have CA := awake8_any w3 er3
  rw [hlb]
  go_wp2_with (first
    | (go_at_call 8; refine CA.mono ?_; rintro e w4 ⟨rfl, hb4⟩)
    | fail)
  have B2 := below_through hb2 hb1.size hb1
  have B3 := below_through hb3 B2.size B2
  have B4 := below_through hb4 B3.size B3
  have L1 := hid0 (((A1.later hb2).later hb3).later hb4)
  have L2 := hid0 ((A2.later hb3).later hb4)
  have L3 := hid0 (A3.later hb4)
  have HPP := hid0 HP
  have HLOW := hid0 hlow
  have hw4 : w.heap.size ≤ w4.heap.size := B4.size
  clear hlow A1 A2 A3 hO1 hO2 hO3 HP HS HA HB CA X1 X2 z1 z2 zp er er1 er2 er3 hb1 hb2 hb3 hb4 B2 B3 hku hkw hkx hw0 hcut hla hlb
  go_loopw [16] (fun iv wr => ∃ i : Nat, i ≤ al.length ∧ iv = .int .i64 i ∧ Below w4.heap.size w4 wr) (fun iv _ => al.length - (intOf iv).toNat)
  case atStart => exact ⟨0, Nat.zero_le _, rfl, Below.refl _ _⟩
  case round =>
    obtain ⟨i, hi, rfl, hB⟩ := hrel
    have hbs := hB.size
    by_cases hlt : i < al.length
    · have hii : (i : Int) < (al.length : Int) := by omega
      have hla := HPP.out.la
      have hlb := HPP.out.lb
      obtain ⟨y0, y1, y2, y3⟩ := (L1.out.later hB).cell4 i hlt
      obtain ⟨a0, a1, a2, a3⟩ := (L2.out.later hB).cell4 i (by omega)
      obtain ⟨b0, b1, b2, b3⟩ := (L3.out.later hB).cell4 i (by omega)
      obtain ⟨e1, e2, e3, e4⟩ := HPP.out.ahead i hlt (by omega)
      obtain ⟨f1, f2⟩ := HPP.out.behind i hlt (by omega)
      have hyp := HLOW.out i hlt
      obtain ⟨⟨yk, ys, yn, yp⟩, hy⟩ : ∃ y, al[i] = y := ⟨_, rfl⟩
      obtain ⟨⟨xk, xs, xn, xp⟩, hx⟩ : ∃ x, ad[i]'(by omega) = x := ⟨_, rfl⟩
      obtain ⟨⟨zk, zs, zn, zp⟩, hz⟩ : ∃ x, bs[i]'(by omega) = x := ⟨_, rfl⟩
      rw [hy] at y0 y1 y2 y3 e1 e2 e3 e4 f1 f2 hyp
      rw [hx] at a0 a1 a2 a3 e1 e2 e3 e4
      rw [hz] at b0 b1 b2 b3 f1 f2
      dsimp only at y0 y1 y2 y3 a0 a1 a2 a3 b0 b1 b2 b3 e1 e2 e3 e4 f1 f2 hyp
      subst e1 e2 e3 e4 f1
      clear hx hy hz hla hlb
      go_wp2_with fail
      go_cut [17, 18] from 80 to 156 (fun xv yv wr2 => ∃ (T U : Nat), xv = .pointer (some ⟨T, 0, none⟩) ∧ yv = .pointer (some ⟨U, 0, none⟩) ∧ wr2.cell? ⟨T, 0, none⟩ = some (.int .i64 (zk : Int)) ∧ wr2.cell? ⟨T, 1, none⟩ = some (.string (txt xs)) ∧ wr2.cell? ⟨T, 2, none⟩ = some (.int .u64 (xn : Int)) ∧ wr2.cell? ⟨T, 3, none⟩ = some (.int .i64 ((yp + k : Nat) : Int)) ∧ wr2.cell? ⟨U, 0, none⟩ = some (.int .i64 (zk : Int)) ∧ wr2.cell? ⟨U, 1, none⟩ = some (.string (txt zs)) ∧ wr2.cell? ⟨U, 2, none⟩ = some (.int .u64 (zn : Int)) ∧ wr2.cell? ⟨U, 3, none⟩ = some (.int .i64 (zp : Int)) ∧ Below wr.heap.size wr wr2)
      case first =>
        have hS : ∀ w', Below wr.heap.size wr w' → w'.cell? ⟨g2, i * 4, none⟩ = some (.int .i64 (zk : Int)) ∧ w'.cell? ⟨g2, i * 4 + 1, none⟩ = some (.string (txt xs)) ∧ w'.cell? ⟨g2, i * 4 + 2, none⟩ = some (.int .u64 (xn : Int)) ∧ w'.cell? ⟨g2, i * 4 + 3, none⟩ = some (.int .i64 ((yp + k : Nat) : Int)) ∧ w'.cell? ⟨g3, i * 4, none⟩ = some (.int .i64 (zk : Int)) ∧ w'.cell? ⟨g3, i * 4 + 1, none⟩ = some (.string (txt zs)) ∧ w'.cell? ⟨g3, i * 4 + 2, none⟩ = some (.int .u64 (zn : Int)) ∧ w'.cell? ⟨g3, i * 4 + 3, none⟩ = some (.int .i64 (zp : Int)) ∧ Below wr.heap.size wr w' := fun w' hb => ⟨cell_later hb a0, cell_later hb a1, cell_later hb a2, cell_later hb a3, cell_later hb b0, cell_later hb b1, cell_later hb b2, cell_later hb b3, hb⟩
        have HS := hid0 hS
        clear hS y0 y1 y2 y3 a0 a1 a2 a3 b0 b1 b2 b3 f2 hB
        go_region_held3 (fun w' => w'.cell? ⟨g2, i * 4, none⟩ = some (.int .i64 (zk : Int)) ∧ w'.cell? ⟨g2, i * 4 + 1, none⟩ = some (.string (txt xs)) ∧ w'.cell? ⟨g2, i * 4 + 2, none⟩ = some (.int .u64 (xn : Int)) ∧ w'.cell? ⟨g2, i * 4 + 3, none⟩ = some (.int .i64 ((yp + k : Nat) : Int)) ∧ w'.cell? ⟨g3, i * 4, none⟩ = some (.int .i64 (zk : Int)) ∧ w'.cell? ⟨g3, i * 4 + 1, none⟩ = some (.string (txt zs)) ∧ w'.cell? ⟨g3, i * 4 + 2, none⟩ = some (.int .u64 (zn : Int)) ∧ w'.cell? ⟨g3, i * 4 + 3, none⟩ = some (.int .i64 (zp : Int)) ∧ Below wr.heap.size wr w')
          ((refine HS.out _ ?_; repeat (first | with_reducible assumption | exact Below.refl _ _ | refine Below.drew ?_ | refine Below.alloc ?_ (by simp) _ | refine Below.setCell ?_ (by simp) _)))
          (fail)
        all_goals
          have HE := (by assumption : _ ∧ _ ∧ _ ∧ _ ∧ _ ∧ _ ∧ _ ∧ _ ∧ Below wr.heap.size wr _)
          go_wp2_with fail
          go_meet
          case rel =>
            refine ⟨_, _, rfl, rfl, ?_, ?_, ?_, ?_, ?_, ?_, ?_, ?_, HE.2.2.2.2.2.2.2.2⟩
            all_goals first | (go_simp; done) | (simp [go_sem, *]; done) | go_cell
      case rest =>
        obtain ⟨T, U, rfl, rfl, t0, t1, t2, t3, u0, u1, u2, u3, hBW⟩ := hcut
        generalize wc = W2 at t0 t1 t2 t3 u0 u1 u2 u3 hBW ⊢
        have l0 := cell_later hBW y0
        have l1 := cell_later hBW y1
        have l2 := cell_later hBW y2
        have l3 := cell_later hBW y3
        have HBB := hid0 (hB.trans (hBW.mono hbs))
        have HWL := hid0 (IntWalk.i64_in ((al.length : Int) - 1) (by omega))
        have HWK := hid0 (IntWalk.i64_in (yp : Int) (by omega))
        clear y0 y1 y2 y3 a0 a1 a2 a3 b0 b1 b2 b3 hBW hB
        by_cases hlow : i + 1 < al.length
        · have q1 : decide ((i : Int) < (al.length : Int) - 1) = true := by simp; omega
          have hf := f2 hlow
          simp only [Wd.mk.injEq, true_and] at hf
          obtain ⟨rfl, rfl, rfl⟩ := hf
          clear f2 hlow
          have hwl := HWL.out
          go_wp2_with fail
          refine wp_region_held_drew (S := fun w' => w'.cell? ⟨g1, i * 4, none⟩ = some (.int .i64 (zk : Int)) ∧ w'.cell? ⟨g1, i * 4 + 1, none⟩ = some (.string (txt zs)) ∧ w'.cell? ⟨g1, i * 4 + 2, none⟩ = some (.int .u64 (zn : Int)) ∧ w'.cell? ⟨g1, i * 4 + 3, none⟩ = some (.int .i64 (zp : Int)) ∧ w'.cell? ⟨U, 0, none⟩ = some (.int .i64 (zk : Int)) ∧ w'.cell? ⟨U, 1, none⟩ = some (.string (txt zs)) ∧ w'.cell? ⟨U, 2, none⟩ = some (.int .u64 (zn : Int)) ∧ w'.cell? ⟨U, 3, none⟩ = some (.int .i64 (zp : Int))) (by kernel_rfl) ⟨l0, l1, l2, l3, u0, u1, u2, u3⟩ (fun hHeld => ?_)
          refine wpAnyH_take (i := 0) (v := ?_) rfl (by kernel_rfl) (by kernel_rfl) (by kernel_rfl) (fun _ _ _ h => h) (Or.inl ⟨by rfl, ?_⟩) (by assumption) ?_
          rotate_left
          · (intro wx hSw; (try dsimp only at hSw); go_split_ands; go_simp; (try with_reducible rfl); (try omega))
          (try simp only [Act.put, List.setIfInBounds_toArray, List.set_cons_zero, List.set_cons_succ, List.getElem_toArray, List.getElem_cons_zero])
          refine wpAnyH_take (i := 1) (v := ?_) rfl (by kernel_rfl) (by kernel_rfl) (by kernel_rfl) (fun _ _ _ h => h) (Or.inl ⟨by rfl, ?_⟩) (by assumption) ?_
          rotate_left
          · (intro wx hSw; (try dsimp only at hSw); go_split_ands; go_simp; (try with_reducible rfl); (try omega))
          (try simp only [Act.put, List.setIfInBounds_toArray, List.set_cons_zero, List.set_cons_succ, List.getElem_toArray, List.getElem_cons_zero, List.getElem_cons_succ])
          refine wpAnyH_take (i := 2) (v := ?_) rfl (by kernel_rfl) (by kernel_rfl) (by kernel_rfl) (fun _ _ _ h => h) (Or.inl ⟨by rfl, ?_⟩) (by assumption) ?_
          rotate_left
          · (intro wx hSw; (try dsimp only at hSw); go_split_ands; go_simp; (try with_reducible rfl); (try omega))
          (try simp only [Act.put, List.setIfInBounds_toArray, List.set_cons_zero, List.set_cons_succ, List.getElem_toArray, List.getElem_cons_zero, List.getElem_cons_succ])
          refine wpAnyH_take (i := 3) (v := ?_) rfl (by kernel_rfl) (by kernel_rfl) (by kernel_rfl) (fun _ _ _ h => h) (Or.inl ⟨by rfl, ?_⟩) (by assumption) ?_
          rotate_left
          · (intro wx hSw; (try dsimp only at hSw); go_split_ands; go_simp; (try with_reducible rfl); (try omega))
          (try simp only [Act.put, List.setIfInBounds_toArray, List.set_cons_zero, List.set_cons_succ, List.getElem_toArray, List.getElem_cons_zero, List.getElem_cons_succ])
          refine wpAnyH_take (i := 4) (v := .bool true) rfl (by kernel_rfl) (by kernel_rfl) (by kernel_rfl) (fun _ _ _ h => h) (Or.inl ⟨by rfl, ?_⟩) (by assumption) ?_
          · (intro wx hSw; (try dsimp only at hSw); go_split_ands; go_simp; (try with_reducible rfl); (try omega))
          (try simp only [Act.put, List.setIfInBounds_toArray, List.set_cons_zero, List.set_cons_succ, List.getElem_toArray, List.getElem_cons_zero, List.getElem_cons_succ])
          refine wpAnyH_take (i := 5) (v := .bool true) rfl (by kernel_rfl) (by kernel_rfl) (by kernel_rfl) (fun _ _ _ h => h) (Or.inl ⟨by rfl, ?_⟩) (by assumption) ?_
          · (intro wx hSw; (try dsimp only at hSw); go_split_ands; go_simp; (try with_reducible rfl); (try omega))
          (try simp only [Act.put, List.setIfInBounds_toArray, List.set_cons_zero, List.set_cons_succ, List.getElem_toArray, List.getElem_cons_zero, List.getElem_cons_succ])
          refine wpAnyH_take (i := 6) (v := ?_) rfl (by kernel_rfl) (by kernel_rfl) (by kernel_rfl) (fun _ _ _ h => h) (Or.inl ⟨by rfl, ?_⟩) (by assumption) ?_
          rotate_left
          · (intro wx hSw; (try dsimp only at hSw); go_split_ands; go_simp; (try with_reducible rfl); (try omega))
          (try simp only [Act.put, List.setIfInBounds_toArray, List.set_cons_zero, List.set_cons_succ, List.getElem_toArray, List.getElem_cons_zero, List.getElem_cons_succ])
          refine wpAnyH_take (i := 7) (v := ?_) rfl (by kernel_rfl) (by kernel_rfl) (by kernel_rfl) (fun _ _ _ h => h) (Or.inl ⟨by rfl, ?_⟩) (by assumption) ?_
          rotate_left
          · (intro wx hSw; (try dsimp only at hSw); go_split_ands; go_simp; (try with_reducible rfl); (try omega))
          (try simp only [Act.put, List.setIfInBounds_toArray, List.set_cons_zero, List.set_cons_succ, List.getElem_toArray, List.getElem_cons_zero, List.getElem_cons_succ])
          refine wpAnyH_take (i := 8) (v := ?_) rfl (by kernel_rfl) (by kernel_rfl) (by kernel_rfl) (fun _ _ _ h => h) (Or.inl ⟨by rfl, ?_⟩) (by assumption) ?_
          rotate_left
          · (intro wx hSw; (try dsimp only at hSw); go_split_ands; go_simp; (try with_reducible rfl); (try omega))
          (try simp only [Act.put, List.setIfInBounds_toArray, List.set_cons_zero, List.set_cons_succ, List.getElem_toArray, List.getElem_cons_zero, List.getElem_cons_succ])
          refine wpAnyH_take (i := 9) (v := ?_) rfl (by kernel_rfl) (by kernel_rfl) (by kernel_rfl) (fun _ _ _ h => h) (Or.inl ⟨by rfl, ?_⟩) (by assumption) ?_
          rotate_left
          · (intro wx hSw; (try dsimp only at hSw); go_split_ands; go_simp; (try with_reducible rfl); (try omega))
          (try simp only [Act.put, List.setIfInBounds_toArray, List.set_cons_zero, List.set_cons_succ, List.getElem_toArray, List.getElem_cons_zero, List.getElem_cons_succ])
          refine wpAnyH_take (i := 10) (v := ?_) rfl (by kernel_rfl) (by kernel_rfl) (by kernel_rfl) (fun _ _ _ h => h) (Or.inl ⟨by rfl, ?_⟩) (by assumption) ?_
          rotate_left
          · (intro wx hSw; (try dsimp only at hSw); go_split_ands; go_simp; (try with_reducible rfl); (try omega))
          (try simp only [Act.put, List.setIfInBounds_toArray, List.set_cons_zero, List.set_cons_succ, List.getElem_toArray, List.getElem_cons_zero, List.getElem_cons_succ])
          refine wpAnyH_take (i := 11) (v := .bool false) rfl (by kernel_rfl) (by kernel_rfl) (by kernel_rfl) (fun _ _ _ h => h) (Or.inl ⟨by rfl, ?_⟩) (by assumption) ?_
          · (intro wx hSw; (try dsimp only at hSw); go_split_ands; go_simp; (try with_reducible rfl); (try omega))
          (try simp only [Act.put, List.setIfInBounds_toArray, List.set_cons_zero, List.set_cons_succ, List.getElem_toArray, List.getElem_cons_zero, List.getElem_cons_succ])
          refine wpAnyH_take (i := 12) (v := .bool false) rfl (by kernel_rfl) (by kernel_rfl) (by kernel_rfl) (fun _ _ _ h => h) (Or.inl ⟨by rfl, ?_⟩) (by assumption) ?_
          · (intro wx hSw; (try dsimp only at hSw); go_split_ands; go_simp; (try with_reducible rfl); (try omega))
          (try simp only [Act.put, List.setIfInBounds_toArray, List.set_cons_zero, List.set_cons_succ, List.getElem_toArray, List.getElem_cons_zero, List.getElem_cons_succ])
          refine wpAnyH_done (by kernel_rfl) ?_ _
          clear hHeld
          go_wp2_with fail
          clear hwl
          have hwk := HWK.out
          refine wp_region_held_drew (S := fun w' => w'.cell? ⟨g1, i * 4, none⟩ = some (.int .i64 (zk : Int)) ∧ w'.cell? ⟨g1, i * 4 + 1, none⟩ = some (.string (txt zs)) ∧ w'.cell? ⟨g1, i * 4 + 2, none⟩ = some (.int .u64 (zn : Int)) ∧ w'.cell? ⟨g1, i * 4 + 3, none⟩ = some (.int .i64 (zp : Int)) ∧ w'.cell? ⟨T, 0, none⟩ = some (.int .i64 (zk : Int)) ∧ w'.cell? ⟨T, 1, none⟩ = some (.string (txt zs)) ∧ w'.cell? ⟨T, 2, none⟩ = some (.int .u64 (zn : Int)) ∧ w'.cell? ⟨T, 3, none⟩ = some (.int .i64 ((zp + k : Nat) : Int)) ∧ w'.cell? ⟨U, 0, none⟩ = some (.int .i64 (zk : Int))) (by kernel_rfl) ⟨l0, l1, l2, l3, t0, t1, t2, t3, u0⟩ (fun hHeld => ?_)
          refine wpAnyH_take (i := 0) (v := ?_) rfl (by kernel_rfl) (by kernel_rfl) (by kernel_rfl) (fun _ _ _ h => h) (Or.inl ⟨by rfl, ?_⟩) (by assumption) ?_
          rotate_left
          · (intro wx hSw; (try dsimp only at hSw); go_split_ands; go_simp; (try with_reducible rfl); (try omega))
          (try simp only [Act.put, List.setIfInBounds_toArray, List.set_cons_zero, List.set_cons_succ, List.getElem_toArray, List.getElem_cons_zero])
          refine wpAnyH_take (i := 1) (v := ?_) rfl (by kernel_rfl) (by kernel_rfl) (by kernel_rfl) (fun _ _ _ h => h) (Or.inl ⟨by rfl, ?_⟩) (by assumption) ?_
          rotate_left
          · (intro wx hSw; (try dsimp only at hSw); go_split_ands; go_simp; (try with_reducible rfl); (try omega))
          (try simp only [Act.put, List.setIfInBounds_toArray, List.set_cons_zero, List.set_cons_succ, List.getElem_toArray, List.getElem_cons_zero, List.getElem_cons_succ])
          refine wpAnyH_take (i := 2) (v := ?_) rfl (by kernel_rfl) (by kernel_rfl) (by kernel_rfl) (fun _ _ _ h => h) (Or.inl ⟨by rfl, ?_⟩) (by assumption) ?_
          rotate_left
          · (intro wx hSw; (try dsimp only at hSw); go_split_ands; go_simp; (try with_reducible rfl); (try omega))
          (try simp only [Act.put, List.setIfInBounds_toArray, List.set_cons_zero, List.set_cons_succ, List.getElem_toArray, List.getElem_cons_zero, List.getElem_cons_succ])
          refine wpAnyH_take (i := 3) (v := ?_) rfl (by kernel_rfl) (by kernel_rfl) (by kernel_rfl) (fun _ _ _ h => h) (Or.inl ⟨by rfl, ?_⟩) (by assumption) ?_
          rotate_left
          · (intro wx hSw; (try dsimp only at hSw); go_split_ands; go_simp; (try with_reducible rfl); (try omega))
          (try simp only [Act.put, List.setIfInBounds_toArray, List.set_cons_zero, List.set_cons_succ, List.getElem_toArray, List.getElem_cons_zero, List.getElem_cons_succ])
          refine wpAnyH_take (i := 4) (v := ?_) rfl (by kernel_rfl) (by kernel_rfl) (by kernel_rfl) (fun _ _ _ h => h) (Or.inl ⟨by rfl, ?_⟩) (by assumption) ?_
          rotate_left
          · (intro wx hSw; (try dsimp only at hSw); go_split_ands; go_simp; (try with_reducible rfl); (try omega))
          (try simp only [Act.put, List.setIfInBounds_toArray, List.set_cons_zero, List.set_cons_succ, List.getElem_toArray, List.getElem_cons_zero, List.getElem_cons_succ])
          refine wpAnyH_take (i := 5) (v := ?_) rfl (by kernel_rfl) (by kernel_rfl) (by kernel_rfl) (fun _ _ _ h => h) (Or.inl ⟨by rfl, ?_⟩) (by assumption) ?_
          rotate_left
          · (intro wx hSw; (try dsimp only at hSw); go_split_ands; go_simp; (try with_reducible rfl); (try omega))
          (try simp only [Act.put, List.setIfInBounds_toArray, List.set_cons_zero, List.set_cons_succ, List.getElem_toArray, List.getElem_cons_zero, List.getElem_cons_succ])
          refine wpAnyH_take (i := 6) (v := ?_) rfl (by kernel_rfl) (by kernel_rfl) (by kernel_rfl) (fun _ _ _ h => h) (Or.inl ⟨by rfl, ?_⟩) (by assumption) ?_
          rotate_left
          · (intro wx hSw; (try dsimp only at hSw); go_split_ands; go_simp; (try with_reducible rfl); (try omega))
          (try simp only [Act.put, List.setIfInBounds_toArray, List.set_cons_zero, List.set_cons_succ, List.getElem_toArray, List.getElem_cons_zero, List.getElem_cons_succ])
          refine wpAnyH_take (i := 7) (v := .bool false) rfl (by kernel_rfl) (by kernel_rfl) (by kernel_rfl) (fun _ _ _ h => h) (Or.inl ⟨by rfl, ?_⟩) (by assumption) ?_
          · (intro wx hSw; (try dsimp only at hSw); go_split_ands; go_simp; (try with_reducible rfl); (try omega))
          (try simp only [Act.put, List.setIfInBounds_toArray, List.set_cons_zero, List.set_cons_succ, List.getElem_toArray, List.getElem_cons_zero, List.getElem_cons_succ])
          refine wpAnyH_take (i := 8) (v := .bool false) rfl (by kernel_rfl) (by kernel_rfl) (by kernel_rfl) (fun _ _ _ h => h) (Or.inl ⟨by rfl, ?_⟩) (by assumption) ?_
          · (intro wx hSw; (try dsimp only at hSw); go_split_ands; go_simp; (try with_reducible rfl); (try omega))
          (try simp only [Act.put, List.setIfInBounds_toArray, List.set_cons_zero, List.set_cons_succ, List.getElem_toArray, List.getElem_cons_zero, List.getElem_cons_succ])
          refine wpAnyH_take (i := 9) (v := ?_) rfl (by kernel_rfl) (by kernel_rfl) (by kernel_rfl) (fun _ _ _ h => h) (Or.inl ⟨by rfl, ?_⟩) (by assumption) ?_
          rotate_left
          · (intro wx hSw; (try dsimp only at hSw); go_split_ands; go_simp; (try with_reducible rfl); (try omega))
          (try simp only [Act.put, List.setIfInBounds_toArray, List.set_cons_zero, List.set_cons_succ, List.getElem_toArray, List.getElem_cons_zero, List.getElem_cons_succ])
          refine wpAnyH_take (i := 10) (v := ?_) rfl (by kernel_rfl) (by kernel_rfl) (by kernel_rfl) (fun _ _ _ h => h) (Or.inl ⟨by rfl, ?_⟩) (by assumption) ?_
          rotate_left
          · (intro wx hSw; (try dsimp only at hSw); go_split_ands; go_simp; (try with_reducible rfl); (try omega))
          (try simp only [Act.put, List.setIfInBounds_toArray, List.set_cons_zero, List.set_cons_succ, List.getElem_toArray, List.getElem_cons_zero, List.getElem_cons_succ])
          refine wpAnyH_take (i := 11) (v := ?_) rfl (by kernel_rfl) (by kernel_rfl) (by kernel_rfl) (fun _ _ _ h => h) (Or.inl ⟨by rfl, ?_⟩) (by assumption) ?_
          rotate_left
          · (intro wx hSw; (try dsimp only at hSw); go_split_ands; go_simp; (try with_reducible rfl); (try omega))
          (try simp only [Act.put, List.setIfInBounds_toArray, List.set_cons_zero, List.set_cons_succ, List.getElem_toArray, List.getElem_cons_zero, List.getElem_cons_succ])
          refine wpAnyH_take (i := 12) (v := ?_) rfl (by kernel_rfl) (by kernel_rfl) (by kernel_rfl) (fun _ _ _ h => h) (Or.inl ⟨by rfl, ?_⟩) (by assumption) ?_
          rotate_left
          · (intro wx hSw; (try dsimp only at hSw); go_split_ands; go_simp; (try with_reducible rfl); (try omega))
          (try simp only [Act.put, List.setIfInBounds_toArray, List.set_cons_zero, List.set_cons_succ, List.getElem_toArray, List.getElem_cons_zero, List.getElem_cons_succ])
          refine wpAnyH_take (i := 13) (v := ?_) rfl (by kernel_rfl) (by kernel_rfl) (by kernel_rfl) (fun _ _ _ h => h) (Or.inl ⟨by rfl, ?_⟩) (by assumption) ?_
          rotate_left
          · (intro wx hSw; (try dsimp only at hSw); go_split_ands; go_simp; (try with_reducible rfl); (try omega))
          (try simp only [Act.put, List.setIfInBounds_toArray, List.set_cons_zero, List.set_cons_succ, List.getElem_toArray, List.getElem_cons_zero, List.getElem_cons_succ])
          refine wpAnyH_take (i := 14) (v := ?_) rfl (by kernel_rfl) (by kernel_rfl) (by kernel_rfl) (fun _ _ _ h => h) (Or.inl ⟨by rfl, ?_⟩) (by assumption) ?_
          rotate_left
          · (intro wx hSw; (try dsimp only at hSw); go_split_ands; go_simp; (try with_reducible rfl); (try omega))
          (try simp only [Act.put, List.setIfInBounds_toArray, List.set_cons_zero, List.set_cons_succ, List.getElem_toArray, List.getElem_cons_zero, List.getElem_cons_succ])
          refine wpAnyH_take (i := 15) (v := ?_) rfl (by kernel_rfl) (by kernel_rfl) (by kernel_rfl) (fun _ _ _ h => h) (Or.inl ⟨by rfl, ?_⟩) (by assumption) ?_
          rotate_left
          · (intro wx hSw; (try dsimp only at hSw); go_split_ands; go_simp; (try with_reducible rfl); (try omega))
          (try simp only [Act.put, List.setIfInBounds_toArray, List.set_cons_zero, List.set_cons_succ, List.getElem_toArray, List.getElem_cons_zero, List.getElem_cons_succ])
          refine wpAnyH_take (i := 16) (v := .bool false) rfl (by kernel_rfl) (by kernel_rfl) (by kernel_rfl) (fun _ _ _ h => h) (Or.inl ⟨by rfl, ?_⟩) (by assumption) ?_
          · (intro wx hSw; (try dsimp only at hSw); go_split_ands; go_simp; (try with_reducible rfl); (try omega))
          (try simp only [Act.put, List.setIfInBounds_toArray, List.set_cons_zero, List.set_cons_succ, List.getElem_toArray, List.getElem_cons_zero, List.getElem_cons_succ])
          refine wpAnyH_take (i := 17) (v := .bool false) rfl (by kernel_rfl) (by kernel_rfl) (by kernel_rfl) (fun _ _ _ h => h) (Or.inl ⟨by rfl, ?_⟩) (by assumption) ?_
          · (intro wx hSw; (try dsimp only at hSw); go_split_ands; go_simp; (try with_reducible rfl); (try omega))
          (try simp only [Act.put, List.setIfInBounds_toArray, List.set_cons_zero, List.set_cons_succ, List.getElem_toArray, List.getElem_cons_zero, List.getElem_cons_succ])
          refine wpAnyH_take (i := 18) (v := .bool false) rfl (by kernel_rfl) (by kernel_rfl) (by kernel_rfl) (fun _ _ _ h => h) (Or.inl ⟨by rfl, ?_⟩) (by assumption) ?_
          · (intro wx hSw; (try dsimp only at hSw); go_split_ands; go_simp; (try with_reducible rfl); (try omega))
          (try simp only [Act.put, List.setIfInBounds_toArray, List.set_cons_zero, List.set_cons_succ, List.getElem_toArray, List.getElem_cons_zero, List.getElem_cons_succ])
          refine wpAnyH_take (i := 19) (v := ?_) rfl (by kernel_rfl) (by kernel_rfl) (by kernel_rfl) (fun _ _ _ h => h) (Or.inl ⟨by rfl, ?_⟩) (by assumption) ?_
          rotate_left
          · (intro wx hSw; (try dsimp only at hSw); go_split_ands; go_simp; (try with_reducible rfl); (try omega))
          (try simp only [Act.put, List.setIfInBounds_toArray, List.set_cons_zero, List.set_cons_succ, List.getElem_toArray, List.getElem_cons_zero, List.getElem_cons_succ])
          refine wpAnyH_take (i := 20) (v := ?_) rfl (by kernel_rfl) (by kernel_rfl) (by kernel_rfl) (fun _ _ _ h => h) (Or.inl ⟨by rfl, ?_⟩) (by assumption) ?_
          rotate_left
          · (intro wx hSw; (try dsimp only at hSw); go_split_ands; go_simp; (try with_reducible rfl); (try omega))
          (try simp only [Act.put, List.setIfInBounds_toArray, List.set_cons_zero, List.set_cons_succ, List.getElem_toArray, List.getElem_cons_zero, List.getElem_cons_succ])
          refine wpAnyH_take (i := 21) (v := ?_) rfl (by kernel_rfl) (by kernel_rfl) (by kernel_rfl) (fun _ _ _ h => h) (Or.inl ⟨by rfl, ?_⟩) (by assumption) ?_
          rotate_left
          · (intro wx hSw; (try dsimp only at hSw); go_split_ands; go_simp; (try with_reducible rfl); (try omega))
          (try simp only [Act.put, List.setIfInBounds_toArray, List.set_cons_zero, List.set_cons_succ, List.getElem_toArray, List.getElem_cons_zero, List.getElem_cons_succ])
          refine wpAnyH_take (i := 22) (v := ?_) rfl (by kernel_rfl) (by kernel_rfl) (by kernel_rfl) (fun _ _ _ h => h) (Or.inl ⟨by rfl, ?_⟩) (by assumption) ?_
          rotate_left
          · (intro wx hSw; (try dsimp only at hSw); go_split_ands; go_simp; (try with_reducible rfl); (try omega))
          (try simp only [Act.put, List.setIfInBounds_toArray, List.set_cons_zero, List.set_cons_succ, List.getElem_toArray, List.getElem_cons_zero, List.getElem_cons_succ])
          refine wpAnyH_take (i := 23) (v := ?_) rfl (by kernel_rfl) (by kernel_rfl) (by kernel_rfl) (fun _ _ _ h => h) (Or.inl ⟨by rfl, ?_⟩) (by assumption) ?_
          rotate_left
          · (intro wx hSw; (try dsimp only at hSw); go_split_ands; go_simp; (try with_reducible rfl); (try omega))
          (try simp only [Act.put, List.setIfInBounds_toArray, List.set_cons_zero, List.set_cons_succ, List.getElem_toArray, List.getElem_cons_zero, List.getElem_cons_succ])
          refine wpAnyH_take (i := 24) (v := ?_) rfl (by kernel_rfl) (by kernel_rfl) (by kernel_rfl) (fun _ _ _ h => h) (Or.inl ⟨by rfl, ?_⟩) (by assumption) ?_
          rotate_left
          · (intro wx hSw; (try dsimp only at hSw); go_split_ands; go_simp; (try with_reducible rfl); (try omega))
          (try simp only [Act.put, List.setIfInBounds_toArray, List.set_cons_zero, List.set_cons_succ, List.getElem_toArray, List.getElem_cons_zero, List.getElem_cons_succ])
          refine wpAnyH_take (i := 25) (v := ?_) rfl (by kernel_rfl) (by kernel_rfl) (by kernel_rfl) (fun _ _ _ h => h) (Or.inl ⟨by rfl, ?_⟩) (by assumption) ?_
          rotate_left
          · (intro wx hSw; (try dsimp only at hSw); go_split_ands; go_simp; (try with_reducible rfl); (try omega))
          (try simp only [Act.put, List.setIfInBounds_toArray, List.set_cons_zero, List.set_cons_succ, List.getElem_toArray, List.getElem_cons_zero, List.getElem_cons_succ])
          refine wpAnyH_take (i := 26) (v := .bool false) rfl (by kernel_rfl) (by kernel_rfl) (by kernel_rfl) (fun _ _ _ h => h) (Or.inl ⟨by rfl, ?_⟩) (by assumption) ?_
          · (intro wx hSw; (try dsimp only at hSw); go_split_ands; go_simp; (try with_reducible rfl); (try omega))
          (try simp only [Act.put, List.setIfInBounds_toArray, List.set_cons_zero, List.set_cons_succ, List.getElem_toArray, List.getElem_cons_zero, List.getElem_cons_succ])
          refine wpAnyH_take (i := 27) (v := .bool false) rfl (by kernel_rfl) (by kernel_rfl) (by kernel_rfl) (fun _ _ _ h => h) (Or.inl ⟨by rfl, ?_⟩) (by assumption) ?_
          · (intro wx hSw; (try dsimp only at hSw); go_split_ands; go_simp; (try with_reducible rfl); (try omega))
          (try simp only [Act.put, List.setIfInBounds_toArray, List.set_cons_zero, List.set_cons_succ, List.getElem_toArray, List.getElem_cons_zero, List.getElem_cons_succ])
          refine wpAnyH_take (i := 28) (v := .bool false) rfl (by kernel_rfl) (by kernel_rfl) (by kernel_rfl) (fun _ _ _ h => h) (Or.inl ⟨by rfl, ?_⟩) (by assumption) ?_
          · (intro wx hSw; (try dsimp only at hSw); go_split_ands; go_simp; (try with_reducible rfl); (try omega))
          (try simp only [Act.put, List.setIfInBounds_toArray, List.set_cons_zero, List.set_cons_succ, List.getElem_toArray, List.getElem_cons_zero, List.getElem_cons_succ])
          refine wpAnyH_take (i := 29) (v := ?_) rfl (by kernel_rfl) (by kernel_rfl) (by kernel_rfl) (fun _ _ _ h => h) (Or.inl ⟨by rfl, ?_⟩) (by assumption) ?_
          rotate_left
          · (intro wx hSw; (try dsimp only at hSw); go_split_ands; go_simp; (try with_reducible rfl); (try omega))
          (try simp only [Act.put, List.setIfInBounds_toArray, List.set_cons_zero, List.set_cons_succ, List.getElem_toArray, List.getElem_cons_zero, List.getElem_cons_succ])
          refine wpAnyH_take (i := 30) (v := ?_) rfl (by kernel_rfl) (by kernel_rfl) (by kernel_rfl) (fun _ _ _ h => h) (Or.inl ⟨by rfl, ?_⟩) (by assumption) ?_
          rotate_left
          · (intro wx hSw; (try dsimp only at hSw); go_split_ands; go_simp; (try with_reducible rfl); (try omega))
          (try simp only [Act.put, List.setIfInBounds_toArray, List.set_cons_zero, List.set_cons_succ, List.getElem_toArray, List.getElem_cons_zero, List.getElem_cons_succ])
          refine wpAnyH_take (i := 31) (v := ?_) rfl (by kernel_rfl) (by kernel_rfl) (by kernel_rfl) (fun _ _ _ h => h) (Or.inl ⟨by rfl, ?_⟩) (by assumption) ?_
          rotate_left
          · (intro wx hSw; (try dsimp only at hSw); go_split_ands; go_simp; (try with_reducible rfl); (try omega))
          (try simp only [Act.put, List.setIfInBounds_toArray, List.set_cons_zero, List.set_cons_succ, List.getElem_toArray, List.getElem_cons_zero, List.getElem_cons_succ])
          refine wpAnyH_take (i := 32) (v := ?_) rfl (by kernel_rfl) (by kernel_rfl) (by kernel_rfl) (fun _ _ _ h => h) (Or.inl ⟨by rfl, ?_⟩) (by assumption) ?_
          rotate_left
          · (intro wx hSw; (try dsimp only at hSw); go_split_ands; go_simp; (try with_reducible rfl); (try omega))
          (try simp only [Act.put, List.setIfInBounds_toArray, List.set_cons_zero, List.set_cons_succ, List.getElem_toArray, List.getElem_cons_zero, List.getElem_cons_succ])
          refine wpAnyH_take (i := 33) (v := ?_) rfl (by kernel_rfl) (by kernel_rfl) (by kernel_rfl) (fun _ _ _ h => h) (Or.inl ⟨by rfl, ?_⟩) (by assumption) ?_
          rotate_left
          · (intro wx hSw; (try dsimp only at hSw); go_split_ands; go_simp; (try with_reducible rfl); (try omega))
          (try simp only [Act.put, List.setIfInBounds_toArray, List.set_cons_zero, List.set_cons_succ, List.getElem_toArray, List.getElem_cons_zero, List.getElem_cons_succ])
          refine wpAnyH_take (i := 34) (v := ?_) rfl (by kernel_rfl) (by kernel_rfl) (by kernel_rfl) (fun _ _ _ h => h) (Or.inl ⟨by rfl, ?_⟩) (by assumption) ?_
          rotate_left
          · (intro wx hSw; (try dsimp only at hSw); go_split_ands; go_simp; (try with_reducible rfl); (try omega))
          (try simp only [Act.put, List.setIfInBounds_toArray, List.set_cons_zero, List.set_cons_succ, List.getElem_toArray, List.getElem_cons_zero, List.getElem_cons_succ])
          refine wpAnyH_take (i := 35) (v := ?_) rfl (by kernel_rfl) (by kernel_rfl) (by kernel_rfl) (fun _ _ _ h => h) (Or.inl ⟨by rfl, ?_⟩) (by assumption) ?_
          rotate_left
          · (intro wx hSw; (try dsimp only at hSw); go_split_ands; go_simp; (try with_reducible rfl); (try omega))
          (try simp only [Act.put, List.setIfInBounds_toArray, List.set_cons_zero, List.set_cons_succ, List.getElem_toArray, List.getElem_cons_zero, List.getElem_cons_succ])
          refine wpAnyH_take (i := 36) (v := ?_) rfl (by kernel_rfl) (by kernel_rfl) (by kernel_rfl) (fun _ _ _ h => h) (Or.inl ⟨by rfl, ?_⟩) (by assumption) ?_
          rotate_left
          · (intro wx hSw; (try dsimp only at hSw); go_split_ands; go_simp; (try with_reducible rfl); (try omega))
          (try simp only [Act.put, List.setIfInBounds_toArray, List.set_cons_zero, List.set_cons_succ, List.getElem_toArray, List.getElem_cons_zero, List.getElem_cons_succ])
          refine wpAnyH_take (i := 37) (v := ?_) rfl (by kernel_rfl) (by kernel_rfl) (by kernel_rfl) (fun _ _ _ h => h) (Or.inl ⟨by rfl, ?_⟩) (by assumption) ?_
          rotate_left
          · (intro wx hSw; (try dsimp only at hSw); go_split_ands; go_simp; (try with_reducible rfl); (try omega))
          (try simp only [Act.put, List.setIfInBounds_toArray, List.set_cons_zero, List.set_cons_succ, List.getElem_toArray, List.getElem_cons_zero, List.getElem_cons_succ])
          refine wpAnyH_take (i := 38) (v := .bool false) rfl (by kernel_rfl) (by kernel_rfl) (by kernel_rfl) (fun _ _ _ h => h) (Or.inl ⟨by rfl, ?_⟩) (by assumption) ?_
          · (intro wx hSw; (try dsimp only at hSw); go_split_ands; go_simp; (try with_reducible rfl); (try omega))
          (try simp only [Act.put, List.setIfInBounds_toArray, List.set_cons_zero, List.set_cons_succ, List.getElem_toArray, List.getElem_cons_zero, List.getElem_cons_succ])
          refine wpAnyH_take (i := 39) (v := .bool false) rfl (by kernel_rfl) (by kernel_rfl) (by kernel_rfl) (fun _ _ _ h => h) (Or.inl ⟨by rfl, ?_⟩) (by assumption) ?_
          · (intro wx hSw; (try dsimp only at hSw); go_split_ands; go_simp; (try with_reducible rfl); (try omega))
          (try simp only [Act.put, List.setIfInBounds_toArray, List.set_cons_zero, List.set_cons_succ, List.getElem_toArray, List.getElem_cons_zero, List.getElem_cons_succ])
          refine wpAnyH_take (i := 40) (v := .bool false) rfl (by kernel_rfl) (by kernel_rfl) (by kernel_rfl) (fun _ _ _ h => h) (Or.inl ⟨by rfl, ?_⟩) (by assumption) ?_
          · (intro wx hSw; (try dsimp only at hSw); go_split_ands; go_simp; (try with_reducible rfl); (try omega))
          (try simp only [Act.put, List.setIfInBounds_toArray, List.set_cons_zero, List.set_cons_succ, List.getElem_toArray, List.getElem_cons_zero, List.getElem_cons_succ])
          refine wpAnyH_take (i := 41) (v := ?_) rfl (by kernel_rfl) (by kernel_rfl) (by kernel_rfl) (fun _ _ _ h => h) (Or.inl ⟨by rfl, ?_⟩) (by assumption) ?_
          rotate_left
          · (intro wx hSw; (try dsimp only at hSw); go_split_ands; go_simp; (try with_reducible rfl); (try omega))
          (try simp only [Act.put, List.setIfInBounds_toArray, List.set_cons_zero, List.set_cons_succ, List.getElem_toArray, List.getElem_cons_zero, List.getElem_cons_succ])
          refine wpAnyH_take (i := 42) (v := ?_) rfl (by kernel_rfl) (by kernel_rfl) (by kernel_rfl) (fun _ _ _ h => h) (Or.inl ⟨by rfl, ?_⟩) (by assumption) ?_
          rotate_left
          · (intro wx hSw; (try dsimp only at hSw); go_split_ands; go_simp; (try with_reducible rfl); (try omega))
          (try simp only [Act.put, List.setIfInBounds_toArray, List.set_cons_zero, List.set_cons_succ, List.getElem_toArray, List.getElem_cons_zero, List.getElem_cons_succ])
          refine wpAnyH_take (i := 43) (v := ?_) rfl (by kernel_rfl) (by kernel_rfl) (by kernel_rfl) (fun _ _ _ h => h) (Or.inl ⟨by rfl, ?_⟩) (by assumption) ?_
          rotate_left
          · (intro wx hSw; (try dsimp only at hSw); go_split_ands; go_simp; (try with_reducible rfl); (try omega))
          (try simp only [Act.put, List.setIfInBounds_toArray, List.set_cons_zero, List.set_cons_succ, List.getElem_toArray, List.getElem_cons_zero, List.getElem_cons_succ])
          refine wpAnyH_take (i := 44) (v := ?_) rfl (by kernel_rfl) (by kernel_rfl) (by kernel_rfl) (fun _ _ _ h => h) (Or.inl ⟨by rfl, ?_⟩) (by assumption) ?_
          rotate_left
          · (intro wx hSw; (try dsimp only at hSw); go_split_ands; go_simp; (try with_reducible rfl); (try omega))
          (try simp only [Act.put, List.setIfInBounds_toArray, List.set_cons_zero, List.set_cons_succ, List.getElem_toArray, List.getElem_cons_zero, List.getElem_cons_succ])
          refine wpAnyH_take (i := 45) (v := ?_) rfl (by kernel_rfl) (by kernel_rfl) (by kernel_rfl) (fun _ _ _ h => h) (Or.inl ⟨by rfl, ?_⟩) (by assumption) ?_
          rotate_left
          · (intro wx hSw; (try dsimp only at hSw); go_split_ands; go_simp; (try with_reducible rfl); (try omega))
          (try simp only [Act.put, List.setIfInBounds_toArray, List.set_cons_zero, List.set_cons_succ, List.getElem_toArray, List.getElem_cons_zero, List.getElem_cons_succ])
          refine wpAnyH_take (i := 46) (v := ?_) rfl (by kernel_rfl) (by kernel_rfl) (by kernel_rfl) (fun _ _ _ h => h) (Or.inl ⟨by rfl, ?_⟩) (by assumption) ?_
          rotate_left
          · (intro wx hSw; (try dsimp only at hSw); go_split_ands; go_simp; (try with_reducible rfl); (try omega))
          (try simp only [Act.put, List.setIfInBounds_toArray, List.set_cons_zero, List.set_cons_succ, List.getElem_toArray, List.getElem_cons_zero, List.getElem_cons_succ])
          refine wpAnyH_take (i := 47) (v := ?_) rfl (by kernel_rfl) (by kernel_rfl) (by kernel_rfl) (fun _ _ _ h => h) (Or.inl ⟨by rfl, ?_⟩) (by assumption) ?_
          rotate_left
          · (intro wx hSw; (try dsimp only at hSw); go_split_ands; go_simp; (try with_reducible rfl); (try omega))
          (try simp only [Act.put, List.setIfInBounds_toArray, List.set_cons_zero, List.set_cons_succ, List.getElem_toArray, List.getElem_cons_zero, List.getElem_cons_succ])
          refine wpAnyH_take (i := 48) (v := .bool false) rfl (by kernel_rfl) (by kernel_rfl) (by kernel_rfl) (fun _ _ _ h => h) (Or.inl ⟨by rfl, ?_⟩) (by assumption) ?_
          · (intro wx hSw; (try dsimp only at hSw); go_split_ands; go_simp; (try with_reducible rfl); (try omega))
          (try simp only [Act.put, List.setIfInBounds_toArray, List.set_cons_zero, List.set_cons_succ, List.getElem_toArray, List.getElem_cons_zero, List.getElem_cons_succ])
          refine wpAnyH_take (i := 49) (v := .bool false) rfl (by kernel_rfl) (by kernel_rfl) (by kernel_rfl) (fun _ _ _ h => h) (Or.inl ⟨by rfl, ?_⟩) (by assumption) ?_
          · (intro wx hSw; (try dsimp only at hSw); go_split_ands; go_simp; (try with_reducible rfl); (try omega))
          (try simp only [Act.put, List.setIfInBounds_toArray, List.set_cons_zero, List.set_cons_succ, List.getElem_toArray, List.getElem_cons_zero, List.getElem_cons_succ])
          refine wpAnyH_done (by kernel_rfl) ?_ _
          clear hHeld
          go_wp2_with fail
          clear hwk
          refine ⟨⟨i + 1, by omega, by go_num, ?_⟩, by simp [intOf]; omega⟩
          exact Below.drew (Below.drew HBB.out)
        · have q1 : decide ((i : Int) < (al.length : Int) - 1) = false := by simp; omega
          have hn1 : (al.length : Int) ≤ (i : Int) + 1 := by omega
          clear f2 hlow
          have hwl := HWL.out
          go_wp2_with fail
          refine wp_region_held_drew (S := fun w' => w'.cell? ⟨g1, i * 4, none⟩ = some (.int .i64 (zk : Int)) ∧ w'.cell? ⟨g1, i * 4 + 1, none⟩ = some (.string (txt xs)) ∧ w'.cell? ⟨g1, i * 4 + 2, none⟩ = some (.int .u64 (xn : Int)) ∧ w'.cell? ⟨g1, i * 4 + 3, none⟩ = some (.int .i64 (yp : Int)) ∧ w'.cell? ⟨U, 0, none⟩ = some (.int .i64 (zk : Int)) ∧ w'.cell? ⟨U, 1, none⟩ = some (.string (txt zs)) ∧ w'.cell? ⟨U, 2, none⟩ = some (.int .u64 (zn : Int)) ∧ w'.cell? ⟨U, 3, none⟩ = some (.int .i64 (zp : Int))) (by kernel_rfl) ⟨l0, l1, l2, l3, u0, u1, u2, u3⟩ (fun hHeld => ?_)
          refine wpAnyH_take (i := 0) (v := ?_) rfl (by kernel_rfl) (by kernel_rfl) (by kernel_rfl) (fun _ _ _ h => h) (Or.inl ⟨by rfl, ?_⟩) (by assumption) ?_
          rotate_left
          · (intro wx hSw; (try dsimp only at hSw); go_split_ands; go_simp; (try with_reducible rfl); (try omega))
          (try simp only [Act.put, List.setIfInBounds_toArray, List.set_cons_zero, List.set_cons_succ, List.getElem_toArray, List.getElem_cons_zero])
          refine wpAnyH_take (i := 1) (v := ?_) rfl (by kernel_rfl) (by kernel_rfl) (by kernel_rfl) (fun _ _ _ h => h) (Or.inl ⟨by rfl, ?_⟩) (by assumption) ?_
          rotate_left
          · (intro wx hSw; (try dsimp only at hSw); go_split_ands; go_simp; (try with_reducible rfl); (try omega))
          (try simp only [Act.put, List.setIfInBounds_toArray, List.set_cons_zero, List.set_cons_succ, List.getElem_toArray, List.getElem_cons_zero, List.getElem_cons_succ])
          refine wpAnyH_take (i := 2) (v := ?_) rfl (by kernel_rfl) (by kernel_rfl) (by kernel_rfl) (fun _ _ _ h => h) (Or.inl ⟨by rfl, ?_⟩) (by assumption) ?_
          rotate_left
          · (intro wx hSw; (try dsimp only at hSw); go_split_ands; go_simp; (try with_reducible rfl); (try omega))
          (try simp only [Act.put, List.setIfInBounds_toArray, List.set_cons_zero, List.set_cons_succ, List.getElem_toArray, List.getElem_cons_zero, List.getElem_cons_succ])
          refine wpAnyH_take (i := 3) (v := ?_) rfl (by kernel_rfl) (by kernel_rfl) (by kernel_rfl) (fun _ _ _ h => h) (Or.inl ⟨by rfl, ?_⟩) (by assumption) ?_
          rotate_left
          · (intro wx hSw; (try dsimp only at hSw); go_split_ands; go_simp; (try with_reducible rfl); (try omega))
          (try simp only [Act.put, List.setIfInBounds_toArray, List.set_cons_zero, List.set_cons_succ, List.getElem_toArray, List.getElem_cons_zero, List.getElem_cons_succ])
          refine wpAnyH_take (i := 4) (v := .bool false) rfl (by kernel_rfl) (by kernel_rfl) (by kernel_rfl) (fun _ _ _ h => h) (Or.inl ⟨by rfl, ?_⟩) (by assumption) ?_
          · (intro wx hSw; (try dsimp only at hSw); go_split_ands; go_simp; (try with_reducible rfl); (try omega))
          (try simp only [Act.put, List.setIfInBounds_toArray, List.set_cons_zero, List.set_cons_succ, List.getElem_toArray, List.getElem_cons_zero, List.getElem_cons_succ])
          refine wpAnyH_take (i := 5) (v := .bool false) rfl (by kernel_rfl) (by kernel_rfl) (by kernel_rfl) (fun _ _ _ h => h) (Or.inl ⟨by rfl, ?_⟩) (by assumption) ?_
          · (intro wx hSw; (try dsimp only at hSw); go_split_ands; go_simp; (try with_reducible rfl); (try omega))
          (try simp only [Act.put, List.setIfInBounds_toArray, List.set_cons_zero, List.set_cons_succ, List.getElem_toArray, List.getElem_cons_zero, List.getElem_cons_succ])
          refine wpAnyH_take (i := 6) (v := undef) rfl (by kernel_rfl) (by kernel_rfl) (by kernel_rfl) (fun _ _ _ h => h) (Or.inr ⟨by rfl, rfl⟩) (by assumption) ?_
          (try simp only [Act.put, List.setIfInBounds_toArray, List.set_cons_zero, List.set_cons_succ, List.getElem_toArray, List.getElem_cons_zero, List.getElem_cons_succ])
          refine wpAnyH_take (i := 7) (v := undef) rfl (by kernel_rfl) (by kernel_rfl) (by kernel_rfl) (fun _ _ _ h => h) (Or.inr ⟨by rfl, rfl⟩) (by assumption) ?_
          (try simp only [Act.put, List.setIfInBounds_toArray, List.set_cons_zero, List.set_cons_succ, List.getElem_toArray, List.getElem_cons_zero, List.getElem_cons_succ])
          refine wpAnyH_take (i := 8) (v := undef) rfl (by kernel_rfl) (by kernel_rfl) (by kernel_rfl) (fun _ _ _ h => h) (Or.inr ⟨by rfl, rfl⟩) (by assumption) ?_
          (try simp only [Act.put, List.setIfInBounds_toArray, List.set_cons_zero, List.set_cons_succ, List.getElem_toArray, List.getElem_cons_zero, List.getElem_cons_succ])
          refine wpAnyH_take (i := 9) (v := undef) rfl (by kernel_rfl) (by kernel_rfl) (by kernel_rfl) (fun _ _ _ h => h) (Or.inr ⟨by rfl, rfl⟩) (by assumption) ?_
          (try simp only [Act.put, List.setIfInBounds_toArray, List.set_cons_zero, List.set_cons_succ, List.getElem_toArray, List.getElem_cons_zero, List.getElem_cons_succ])
          refine wpAnyH_take (i := 10) (v := undef) rfl (by kernel_rfl) (by kernel_rfl) (by kernel_rfl) (fun _ _ _ h => h) (Or.inr ⟨by rfl, rfl⟩) (by assumption) ?_
          (try simp only [Act.put, List.setIfInBounds_toArray, List.set_cons_zero, List.set_cons_succ, List.getElem_toArray, List.getElem_cons_zero, List.getElem_cons_succ])
          refine wpAnyH_take (i := 11) (v := undef) rfl (by kernel_rfl) (by kernel_rfl) (by kernel_rfl) (fun _ _ _ h => h) (Or.inr ⟨by rfl, rfl⟩) (by assumption) ?_
          (try simp only [Act.put, List.setIfInBounds_toArray, List.set_cons_zero, List.set_cons_succ, List.getElem_toArray, List.getElem_cons_zero, List.getElem_cons_succ])
          refine wpAnyH_take (i := 12) (v := .bool false) rfl (by kernel_rfl) (by kernel_rfl) (by kernel_rfl) (fun _ _ _ h => h) (Or.inl ⟨by rfl, ?_⟩) (by assumption) ?_
          · (intro wx hSw; (try dsimp only at hSw); go_split_ands; go_simp; (try with_reducible rfl); (try omega))
          (try simp only [Act.put, List.setIfInBounds_toArray, List.set_cons_zero, List.set_cons_succ, List.getElem_toArray, List.getElem_cons_zero, List.getElem_cons_succ])
          refine wpAnyH_done (by kernel_rfl) ?_ _
          clear hHeld
          go_wp2_with fail
          clear hwl
          have hwk := HWK.out
          refine wp_region_held_drew (S := fun w' => w'.cell? ⟨g1, i * 4, none⟩ = some (.int .i64 (zk : Int)) ∧ w'.cell? ⟨g1, i * 4 + 1, none⟩ = some (.string (txt xs)) ∧ w'.cell? ⟨g1, i * 4 + 2, none⟩ = some (.int .u64 (xn : Int)) ∧ w'.cell? ⟨g1, i * 4 + 3, none⟩ = some (.int .i64 (yp : Int)) ∧ w'.cell? ⟨T, 0, none⟩ = some (.int .i64 (zk : Int)) ∧ w'.cell? ⟨T, 1, none⟩ = some (.string (txt xs)) ∧ w'.cell? ⟨T, 2, none⟩ = some (.int .u64 (xn : Int)) ∧ w'.cell? ⟨T, 3, none⟩ = some (.int .i64 ((yp + k : Nat) : Int)) ∧ w'.cell? ⟨U, 0, none⟩ = some (.int .i64 (zk : Int))) (by kernel_rfl) ⟨l0, l1, l2, l3, t0, t1, t2, t3, u0⟩ (fun hHeld => ?_)
          refine wpAnyH_take (i := 0) (v := ?_) rfl (by kernel_rfl) (by kernel_rfl) (by kernel_rfl) (fun _ _ _ h => h) (Or.inl ⟨by rfl, ?_⟩) (by assumption) ?_
          rotate_left
          · (intro wx hSw; (try dsimp only at hSw); go_split_ands; go_simp; (try with_reducible rfl); (try omega))
          (try simp only [Act.put, List.setIfInBounds_toArray, List.set_cons_zero, List.set_cons_succ, List.getElem_toArray, List.getElem_cons_zero])
          refine wpAnyH_take (i := 1) (v := ?_) rfl (by kernel_rfl) (by kernel_rfl) (by kernel_rfl) (fun _ _ _ h => h) (Or.inl ⟨by rfl, ?_⟩) (by assumption) ?_
          rotate_left
          · (intro wx hSw; (try dsimp only at hSw); go_split_ands; go_simp; (try with_reducible rfl); (try omega))
          (try simp only [Act.put, List.setIfInBounds_toArray, List.set_cons_zero, List.set_cons_succ, List.getElem_toArray, List.getElem_cons_zero, List.getElem_cons_succ])
          refine wpAnyH_take (i := 2) (v := ?_) rfl (by kernel_rfl) (by kernel_rfl) (by kernel_rfl) (fun _ _ _ h => h) (Or.inl ⟨by rfl, ?_⟩) (by assumption) ?_
          rotate_left
          · (intro wx hSw; (try dsimp only at hSw); go_split_ands; go_simp; (try with_reducible rfl); (try omega))
          (try simp only [Act.put, List.setIfInBounds_toArray, List.set_cons_zero, List.set_cons_succ, List.getElem_toArray, List.getElem_cons_zero, List.getElem_cons_succ])
          refine wpAnyH_take (i := 3) (v := ?_) rfl (by kernel_rfl) (by kernel_rfl) (by kernel_rfl) (fun _ _ _ h => h) (Or.inl ⟨by rfl, ?_⟩) (by assumption) ?_
          rotate_left
          · (intro wx hSw; (try dsimp only at hSw); go_split_ands; go_simp; (try with_reducible rfl); (try omega))
          (try simp only [Act.put, List.setIfInBounds_toArray, List.set_cons_zero, List.set_cons_succ, List.getElem_toArray, List.getElem_cons_zero, List.getElem_cons_succ])
          refine wpAnyH_take (i := 4) (v := ?_) rfl (by kernel_rfl) (by kernel_rfl) (by kernel_rfl) (fun _ _ _ h => h) (Or.inl ⟨by rfl, ?_⟩) (by assumption) ?_
          rotate_left
          · (intro wx hSw; (try dsimp only at hSw); go_split_ands; go_simp; (try with_reducible rfl); (try omega))
          (try simp only [Act.put, List.setIfInBounds_toArray, List.set_cons_zero, List.set_cons_succ, List.getElem_toArray, List.getElem_cons_zero, List.getElem_cons_succ])
          refine wpAnyH_take (i := 5) (v := ?_) rfl (by kernel_rfl) (by kernel_rfl) (by kernel_rfl) (fun _ _ _ h => h) (Or.inl ⟨by rfl, ?_⟩) (by assumption) ?_
          rotate_left
          · (intro wx hSw; (try dsimp only at hSw); go_split_ands; go_simp; (try with_reducible rfl); (try omega))
          (try simp only [Act.put, List.setIfInBounds_toArray, List.set_cons_zero, List.set_cons_succ, List.getElem_toArray, List.getElem_cons_zero, List.getElem_cons_succ])
          refine wpAnyH_take (i := 6) (v := ?_) rfl (by kernel_rfl) (by kernel_rfl) (by kernel_rfl) (fun _ _ _ h => h) (Or.inl ⟨by rfl, ?_⟩) (by assumption) ?_
          rotate_left
          · (intro wx hSw; (try dsimp only at hSw); go_split_ands; go_simp; (try with_reducible rfl); (try omega))
          (try simp only [Act.put, List.setIfInBounds_toArray, List.set_cons_zero, List.set_cons_succ, List.getElem_toArray, List.getElem_cons_zero, List.getElem_cons_succ])
          refine wpAnyH_take (i := 7) (v := .bool false) rfl (by kernel_rfl) (by kernel_rfl) (by kernel_rfl) (fun _ _ _ h => h) (Or.inl ⟨by rfl, ?_⟩) (by assumption) ?_
          · (intro wx hSw; (try dsimp only at hSw); go_split_ands; go_simp; (try with_reducible rfl); (try omega))
          (try simp only [Act.put, List.setIfInBounds_toArray, List.set_cons_zero, List.set_cons_succ, List.getElem_toArray, List.getElem_cons_zero, List.getElem_cons_succ])
          refine wpAnyH_take (i := 8) (v := .bool false) rfl (by kernel_rfl) (by kernel_rfl) (by kernel_rfl) (fun _ _ _ h => h) (Or.inl ⟨by rfl, ?_⟩) (by assumption) ?_
          · (intro wx hSw; (try dsimp only at hSw); go_split_ands; go_simp; (try with_reducible rfl); (try omega))
          (try simp only [Act.put, List.setIfInBounds_toArray, List.set_cons_zero, List.set_cons_succ, List.getElem_toArray, List.getElem_cons_zero, List.getElem_cons_succ])
          refine wpAnyH_take (i := 9) (v := ?_) rfl (by kernel_rfl) (by kernel_rfl) (by kernel_rfl) (fun _ _ _ h => h) (Or.inl ⟨by rfl, ?_⟩) (by assumption) ?_
          rotate_left
          · (intro wx hSw; (try dsimp only at hSw); go_split_ands; go_simp; (try with_reducible rfl); (try omega))
          (try simp only [Act.put, List.setIfInBounds_toArray, List.set_cons_zero, List.set_cons_succ, List.getElem_toArray, List.getElem_cons_zero, List.getElem_cons_succ])
          refine wpAnyH_take (i := 10) (v := ?_) rfl (by kernel_rfl) (by kernel_rfl) (by kernel_rfl) (fun _ _ _ h => h) (Or.inl ⟨by rfl, ?_⟩) (by assumption) ?_
          rotate_left
          · (intro wx hSw; (try dsimp only at hSw); go_split_ands; go_simp; (try with_reducible rfl); (try omega))
          (try simp only [Act.put, List.setIfInBounds_toArray, List.set_cons_zero, List.set_cons_succ, List.getElem_toArray, List.getElem_cons_zero, List.getElem_cons_succ])
          refine wpAnyH_take (i := 11) (v := ?_) rfl (by kernel_rfl) (by kernel_rfl) (by kernel_rfl) (fun _ _ _ h => h) (Or.inl ⟨by rfl, ?_⟩) (by assumption) ?_
          rotate_left
          · (intro wx hSw; (try dsimp only at hSw); go_split_ands; go_simp; (try with_reducible rfl); (try omega))
          (try simp only [Act.put, List.setIfInBounds_toArray, List.set_cons_zero, List.set_cons_succ, List.getElem_toArray, List.getElem_cons_zero, List.getElem_cons_succ])
          refine wpAnyH_take (i := 12) (v := ?_) rfl (by kernel_rfl) (by kernel_rfl) (by kernel_rfl) (fun _ _ _ h => h) (Or.inl ⟨by rfl, ?_⟩) (by assumption) ?_
          rotate_left
          · (intro wx hSw; (try dsimp only at hSw); go_split_ands; go_simp; (try with_reducible rfl); (try omega))
          (try simp only [Act.put, List.setIfInBounds_toArray, List.set_cons_zero, List.set_cons_succ, List.getElem_toArray, List.getElem_cons_zero, List.getElem_cons_succ])
          refine wpAnyH_take (i := 13) (v := ?_) rfl (by kernel_rfl) (by kernel_rfl) (by kernel_rfl) (fun _ _ _ h => h) (Or.inl ⟨by rfl, ?_⟩) (by assumption) ?_
          rotate_left
          · (intro wx hSw; (try dsimp only at hSw); go_split_ands; go_simp; (try with_reducible rfl); (try omega))
          (try simp only [Act.put, List.setIfInBounds_toArray, List.set_cons_zero, List.set_cons_succ, List.getElem_toArray, List.getElem_cons_zero, List.getElem_cons_succ])
          refine wpAnyH_take (i := 14) (v := ?_) rfl (by kernel_rfl) (by kernel_rfl) (by kernel_rfl) (fun _ _ _ h => h) (Or.inl ⟨by rfl, ?_⟩) (by assumption) ?_
          rotate_left
          · (intro wx hSw; (try dsimp only at hSw); go_split_ands; go_simp; (try with_reducible rfl); (try omega))
          (try simp only [Act.put, List.setIfInBounds_toArray, List.set_cons_zero, List.set_cons_succ, List.getElem_toArray, List.getElem_cons_zero, List.getElem_cons_succ])
          refine wpAnyH_take (i := 15) (v := ?_) rfl (by kernel_rfl) (by kernel_rfl) (by kernel_rfl) (fun _ _ _ h => h) (Or.inl ⟨by rfl, ?_⟩) (by assumption) ?_
          rotate_left
          · (intro wx hSw; (try dsimp only at hSw); go_split_ands; go_simp; (try with_reducible rfl); (try omega))
          (try simp only [Act.put, List.setIfInBounds_toArray, List.set_cons_zero, List.set_cons_succ, List.getElem_toArray, List.getElem_cons_zero, List.getElem_cons_succ])
          refine wpAnyH_take (i := 16) (v := .bool false) rfl (by kernel_rfl) (by kernel_rfl) (by kernel_rfl) (fun _ _ _ h => h) (Or.inl ⟨by rfl, ?_⟩) (by assumption) ?_
          · (intro wx hSw; (try dsimp only at hSw); go_split_ands; go_simp; (try with_reducible rfl); (try omega))
          (try simp only [Act.put, List.setIfInBounds_toArray, List.set_cons_zero, List.set_cons_succ, List.getElem_toArray, List.getElem_cons_zero, List.getElem_cons_succ])
          refine wpAnyH_take (i := 17) (v := .bool false) rfl (by kernel_rfl) (by kernel_rfl) (by kernel_rfl) (fun _ _ _ h => h) (Or.inl ⟨by rfl, ?_⟩) (by assumption) ?_
          · (intro wx hSw; (try dsimp only at hSw); go_split_ands; go_simp; (try with_reducible rfl); (try omega))
          (try simp only [Act.put, List.setIfInBounds_toArray, List.set_cons_zero, List.set_cons_succ, List.getElem_toArray, List.getElem_cons_zero, List.getElem_cons_succ])
          refine wpAnyH_take (i := 18) (v := .bool false) rfl (by kernel_rfl) (by kernel_rfl) (by kernel_rfl) (fun _ _ _ h => h) (Or.inl ⟨by rfl, ?_⟩) (by assumption) ?_
          · (intro wx hSw; (try dsimp only at hSw); go_split_ands; go_simp; (try with_reducible rfl); (try omega))
          (try simp only [Act.put, List.setIfInBounds_toArray, List.set_cons_zero, List.set_cons_succ, List.getElem_toArray, List.getElem_cons_zero, List.getElem_cons_succ])
          refine wpAnyH_take (i := 19) (v := ?_) rfl (by kernel_rfl) (by kernel_rfl) (by kernel_rfl) (fun _ _ _ h => h) (Or.inl ⟨by rfl, ?_⟩) (by assumption) ?_
          rotate_left
          · (intro wx hSw; (try dsimp only at hSw); go_split_ands; go_simp; (try with_reducible rfl); (try omega))
          (try simp only [Act.put, List.setIfInBounds_toArray, List.set_cons_zero, List.set_cons_succ, List.getElem_toArray, List.getElem_cons_zero, List.getElem_cons_succ])
          refine wpAnyH_take (i := 20) (v := ?_) rfl (by kernel_rfl) (by kernel_rfl) (by kernel_rfl) (fun _ _ _ h => h) (Or.inl ⟨by rfl, ?_⟩) (by assumption) ?_
          rotate_left
          · (intro wx hSw; (try dsimp only at hSw); go_split_ands; go_simp; (try with_reducible rfl); (try omega))
          (try simp only [Act.put, List.setIfInBounds_toArray, List.set_cons_zero, List.set_cons_succ, List.getElem_toArray, List.getElem_cons_zero, List.getElem_cons_succ])
          refine wpAnyH_take (i := 21) (v := ?_) rfl (by kernel_rfl) (by kernel_rfl) (by kernel_rfl) (fun _ _ _ h => h) (Or.inl ⟨by rfl, ?_⟩) (by assumption) ?_
          rotate_left
          · (intro wx hSw; (try dsimp only at hSw); go_split_ands; go_simp; (try with_reducible rfl); (try omega))
          (try simp only [Act.put, List.setIfInBounds_toArray, List.set_cons_zero, List.set_cons_succ, List.getElem_toArray, List.getElem_cons_zero, List.getElem_cons_succ])
          refine wpAnyH_take (i := 22) (v := ?_) rfl (by kernel_rfl) (by kernel_rfl) (by kernel_rfl) (fun _ _ _ h => h) (Or.inl ⟨by rfl, ?_⟩) (by assumption) ?_
          rotate_left
          · (intro wx hSw; (try dsimp only at hSw); go_split_ands; go_simp; (try with_reducible rfl); (try omega))
          (try simp only [Act.put, List.setIfInBounds_toArray, List.set_cons_zero, List.set_cons_succ, List.getElem_toArray, List.getElem_cons_zero, List.getElem_cons_succ])
          refine wpAnyH_take (i := 23) (v := ?_) rfl (by kernel_rfl) (by kernel_rfl) (by kernel_rfl) (fun _ _ _ h => h) (Or.inl ⟨by rfl, ?_⟩) (by assumption) ?_
          rotate_left
          · (intro wx hSw; (try dsimp only at hSw); go_split_ands; go_simp; (try with_reducible rfl); (try omega))
          (try simp only [Act.put, List.setIfInBounds_toArray, List.set_cons_zero, List.set_cons_succ, List.getElem_toArray, List.getElem_cons_zero, List.getElem_cons_succ])
          refine wpAnyH_take (i := 24) (v := ?_) rfl (by kernel_rfl) (by kernel_rfl) (by kernel_rfl) (fun _ _ _ h => h) (Or.inl ⟨by rfl, ?_⟩) (by assumption) ?_
          rotate_left
          · (intro wx hSw; (try dsimp only at hSw); go_split_ands; go_simp; (try with_reducible rfl); (try omega))
          (try simp only [Act.put, List.setIfInBounds_toArray, List.set_cons_zero, List.set_cons_succ, List.getElem_toArray, List.getElem_cons_zero, List.getElem_cons_succ])
          refine wpAnyH_take (i := 25) (v := ?_) rfl (by kernel_rfl) (by kernel_rfl) (by kernel_rfl) (fun _ _ _ h => h) (Or.inl ⟨by rfl, ?_⟩) (by assumption) ?_
          rotate_left
          · (intro wx hSw; (try dsimp only at hSw); go_split_ands; go_simp; (try with_reducible rfl); (try omega))
          (try simp only [Act.put, List.setIfInBounds_toArray, List.set_cons_zero, List.set_cons_succ, List.getElem_toArray, List.getElem_cons_zero, List.getElem_cons_succ])
          refine wpAnyH_take (i := 26) (v := .bool false) rfl (by kernel_rfl) (by kernel_rfl) (by kernel_rfl) (fun _ _ _ h => h) (Or.inl ⟨by rfl, ?_⟩) (by assumption) ?_
          · (intro wx hSw; (try dsimp only at hSw); go_split_ands; go_simp; (try with_reducible rfl); (try omega))
          (try simp only [Act.put, List.setIfInBounds_toArray, List.set_cons_zero, List.set_cons_succ, List.getElem_toArray, List.getElem_cons_zero, List.getElem_cons_succ])
          refine wpAnyH_take (i := 27) (v := .bool false) rfl (by kernel_rfl) (by kernel_rfl) (by kernel_rfl) (fun _ _ _ h => h) (Or.inl ⟨by rfl, ?_⟩) (by assumption) ?_
          · (intro wx hSw; (try dsimp only at hSw); go_split_ands; go_simp; (try with_reducible rfl); (try omega))
          (try simp only [Act.put, List.setIfInBounds_toArray, List.set_cons_zero, List.set_cons_succ, List.getElem_toArray, List.getElem_cons_zero, List.getElem_cons_succ])
          refine wpAnyH_take (i := 28) (v := .bool false) rfl (by kernel_rfl) (by kernel_rfl) (by kernel_rfl) (fun _ _ _ h => h) (Or.inl ⟨by rfl, ?_⟩) (by assumption) ?_
          · (intro wx hSw; (try dsimp only at hSw); go_split_ands; go_simp; (try with_reducible rfl); (try omega))
          (try simp only [Act.put, List.setIfInBounds_toArray, List.set_cons_zero, List.set_cons_succ, List.getElem_toArray, List.getElem_cons_zero, List.getElem_cons_succ])
          refine wpAnyH_take (i := 29) (v := ?_) rfl (by kernel_rfl) (by kernel_rfl) (by kernel_rfl) (fun _ _ _ h => h) (Or.inl ⟨by rfl, ?_⟩) (by assumption) ?_
          rotate_left
          · (intro wx hSw; (try dsimp only at hSw); go_split_ands; go_simp; (try with_reducible rfl); (try omega))
          (try simp only [Act.put, List.setIfInBounds_toArray, List.set_cons_zero, List.set_cons_succ, List.getElem_toArray, List.getElem_cons_zero, List.getElem_cons_succ])
          refine wpAnyH_take (i := 30) (v := ?_) rfl (by kernel_rfl) (by kernel_rfl) (by kernel_rfl) (fun _ _ _ h => h) (Or.inl ⟨by rfl, ?_⟩) (by assumption) ?_
          rotate_left
          · (intro wx hSw; (try dsimp only at hSw); go_split_ands; go_simp; (try with_reducible rfl); (try omega))
          (try simp only [Act.put, List.setIfInBounds_toArray, List.set_cons_zero, List.set_cons_succ, List.getElem_toArray, List.getElem_cons_zero, List.getElem_cons_succ])
          refine wpAnyH_take (i := 31) (v := ?_) rfl (by kernel_rfl) (by kernel_rfl) (by kernel_rfl) (fun _ _ _ h => h) (Or.inl ⟨by rfl, ?_⟩) (by assumption) ?_
          rotate_left
          · (intro wx hSw; (try dsimp only at hSw); go_split_ands; go_simp; (try with_reducible rfl); (try omega))
          (try simp only [Act.put, List.setIfInBounds_toArray, List.set_cons_zero, List.set_cons_succ, List.getElem_toArray, List.getElem_cons_zero, List.getElem_cons_succ])
          refine wpAnyH_take (i := 32) (v := ?_) rfl (by kernel_rfl) (by kernel_rfl) (by kernel_rfl) (fun _ _ _ h => h) (Or.inl ⟨by rfl, ?_⟩) (by assumption) ?_
          rotate_left
          · (intro wx hSw; (try dsimp only at hSw); go_split_ands; go_simp; (try with_reducible rfl); (try omega))
          (try simp only [Act.put, List.setIfInBounds_toArray, List.set_cons_zero, List.set_cons_succ, List.getElem_toArray, List.getElem_cons_zero, List.getElem_cons_succ])
          refine wpAnyH_take (i := 33) (v := ?_) rfl (by kernel_rfl) (by kernel_rfl) (by kernel_rfl) (fun _ _ _ h => h) (Or.inl ⟨by rfl, ?_⟩) (by assumption) ?_
          rotate_left
          · (intro wx hSw; (try dsimp only at hSw); go_split_ands; go_simp; (try with_reducible rfl); (try omega))
          (try simp only [Act.put, List.setIfInBounds_toArray, List.set_cons_zero, List.set_cons_succ, List.getElem_toArray, List.getElem_cons_zero, List.getElem_cons_succ])
          refine wpAnyH_take (i := 34) (v := ?_) rfl (by kernel_rfl) (by kernel_rfl) (by kernel_rfl) (fun _ _ _ h => h) (Or.inl ⟨by rfl, ?_⟩) (by assumption) ?_
          rotate_left
          · (intro wx hSw; (try dsimp only at hSw); go_split_ands; go_simp; (try with_reducible rfl); (try omega))
          (try simp only [Act.put, List.setIfInBounds_toArray, List.set_cons_zero, List.set_cons_succ, List.getElem_toArray, List.getElem_cons_zero, List.getElem_cons_succ])
          refine wpAnyH_take (i := 35) (v := ?_) rfl (by kernel_rfl) (by kernel_rfl) (by kernel_rfl) (fun _ _ _ h => h) (Or.inl ⟨by rfl, ?_⟩) (by assumption) ?_
          rotate_left
          · (intro wx hSw; (try dsimp only at hSw); go_split_ands; go_simp; (try with_reducible rfl); (try omega))
          (try simp only [Act.put, List.setIfInBounds_toArray, List.set_cons_zero, List.set_cons_succ, List.getElem_toArray, List.getElem_cons_zero, List.getElem_cons_succ])
          refine wpAnyH_take (i := 36) (v := ?_) rfl (by kernel_rfl) (by kernel_rfl) (by kernel_rfl) (fun _ _ _ h => h) (Or.inl ⟨by rfl, ?_⟩) (by assumption) ?_
          rotate_left
          · (intro wx hSw; (try dsimp only at hSw); go_split_ands; go_simp; (try with_reducible rfl); (try omega))
          (try simp only [Act.put, List.setIfInBounds_toArray, List.set_cons_zero, List.set_cons_succ, List.getElem_toArray, List.getElem_cons_zero, List.getElem_cons_succ])
          refine wpAnyH_take (i := 37) (v := ?_) rfl (by kernel_rfl) (by kernel_rfl) (by kernel_rfl) (fun _ _ _ h => h) (Or.inl ⟨by rfl, ?_⟩) (by assumption) ?_
          rotate_left
          · (intro wx hSw; (try dsimp only at hSw); go_split_ands; go_simp; (try with_reducible rfl); (try omega))
          (try simp only [Act.put, List.setIfInBounds_toArray, List.set_cons_zero, List.set_cons_succ, List.getElem_toArray, List.getElem_cons_zero, List.getElem_cons_succ])
          refine wpAnyH_take (i := 38) (v := .bool false) rfl (by kernel_rfl) (by kernel_rfl) (by kernel_rfl) (fun _ _ _ h => h) (Or.inl ⟨by rfl, ?_⟩) (by assumption) ?_
          · (intro wx hSw; (try dsimp only at hSw); go_split_ands; go_simp; (try with_reducible rfl); (try omega))
          (try simp only [Act.put, List.setIfInBounds_toArray, List.set_cons_zero, List.set_cons_succ, List.getElem_toArray, List.getElem_cons_zero, List.getElem_cons_succ])
          refine wpAnyH_take (i := 39) (v := .bool false) rfl (by kernel_rfl) (by kernel_rfl) (by kernel_rfl) (fun _ _ _ h => h) (Or.inl ⟨by rfl, ?_⟩) (by assumption) ?_
          · (intro wx hSw; (try dsimp only at hSw); go_split_ands; go_simp; (try with_reducible rfl); (try omega))
          (try simp only [Act.put, List.setIfInBounds_toArray, List.set_cons_zero, List.set_cons_succ, List.getElem_toArray, List.getElem_cons_zero, List.getElem_cons_succ])
          refine wpAnyH_take (i := 40) (v := .bool false) rfl (by kernel_rfl) (by kernel_rfl) (by kernel_rfl) (fun _ _ _ h => h) (Or.inl ⟨by rfl, ?_⟩) (by assumption) ?_
          · (intro wx hSw; (try dsimp only at hSw); go_split_ands; go_simp; (try with_reducible rfl); (try omega))
          (try simp only [Act.put, List.setIfInBounds_toArray, List.set_cons_zero, List.set_cons_succ, List.getElem_toArray, List.getElem_cons_zero, List.getElem_cons_succ])
          refine wpAnyH_take (i := 41) (v := ?_) rfl (by kernel_rfl) (by kernel_rfl) (by kernel_rfl) (fun _ _ _ h => h) (Or.inl ⟨by rfl, ?_⟩) (by assumption) ?_
          rotate_left
          · (intro wx hSw; (try dsimp only at hSw); go_split_ands; go_simp; (try with_reducible rfl); (try omega))
          (try simp only [Act.put, List.setIfInBounds_toArray, List.set_cons_zero, List.set_cons_succ, List.getElem_toArray, List.getElem_cons_zero, List.getElem_cons_succ])
          refine wpAnyH_take (i := 42) (v := ?_) rfl (by kernel_rfl) (by kernel_rfl) (by kernel_rfl) (fun _ _ _ h => h) (Or.inl ⟨by rfl, ?_⟩) (by assumption) ?_
          rotate_left
          · (intro wx hSw; (try dsimp only at hSw); go_split_ands; go_simp; (try with_reducible rfl); (try omega))
          (try simp only [Act.put, List.setIfInBounds_toArray, List.set_cons_zero, List.set_cons_succ, List.getElem_toArray, List.getElem_cons_zero, List.getElem_cons_succ])
          refine wpAnyH_take (i := 43) (v := ?_) rfl (by kernel_rfl) (by kernel_rfl) (by kernel_rfl) (fun _ _ _ h => h) (Or.inl ⟨by rfl, ?_⟩) (by assumption) ?_
          rotate_left
          · (intro wx hSw; (try dsimp only at hSw); go_split_ands; go_simp; (try with_reducible rfl); (try omega))
          (try simp only [Act.put, List.setIfInBounds_toArray, List.set_cons_zero, List.set_cons_succ, List.getElem_toArray, List.getElem_cons_zero, List.getElem_cons_succ])
          refine wpAnyH_take (i := 44) (v := ?_) rfl (by kernel_rfl) (by kernel_rfl) (by kernel_rfl) (fun _ _ _ h => h) (Or.inl ⟨by rfl, ?_⟩) (by assumption) ?_
          rotate_left
          · (intro wx hSw; (try dsimp only at hSw); go_split_ands; go_simp; (try with_reducible rfl); (try omega))
          (try simp only [Act.put, List.setIfInBounds_toArray, List.set_cons_zero, List.set_cons_succ, List.getElem_toArray, List.getElem_cons_zero, List.getElem_cons_succ])
          refine wpAnyH_take (i := 45) (v := ?_) rfl (by kernel_rfl) (by kernel_rfl) (by kernel_rfl) (fun _ _ _ h => h) (Or.inl ⟨by rfl, ?_⟩) (by assumption) ?_
          rotate_left
          · (intro wx hSw; (try dsimp only at hSw); go_split_ands; go_simp; (try with_reducible rfl); (try omega))
          (try simp only [Act.put, List.setIfInBounds_toArray, List.set_cons_zero, List.set_cons_succ, List.getElem_toArray, List.getElem_cons_zero, List.getElem_cons_succ])
          refine wpAnyH_take (i := 46) (v := ?_) rfl (by kernel_rfl) (by kernel_rfl) (by kernel_rfl) (fun _ _ _ h => h) (Or.inl ⟨by rfl, ?_⟩) (by assumption) ?_
          rotate_left
          · (intro wx hSw; (try dsimp only at hSw); go_split_ands; go_simp; (try with_reducible rfl); (try omega))
          (try simp only [Act.put, List.setIfInBounds_toArray, List.set_cons_zero, List.set_cons_succ, List.getElem_toArray, List.getElem_cons_zero, List.getElem_cons_succ])
          refine wpAnyH_take (i := 47) (v := ?_) rfl (by kernel_rfl) (by kernel_rfl) (by kernel_rfl) (fun _ _ _ h => h) (Or.inl ⟨by rfl, ?_⟩) (by assumption) ?_
          rotate_left
          · (intro wx hSw; (try dsimp only at hSw); go_split_ands; go_simp; (try with_reducible rfl); (try omega))
          (try simp only [Act.put, List.setIfInBounds_toArray, List.set_cons_zero, List.set_cons_succ, List.getElem_toArray, List.getElem_cons_zero, List.getElem_cons_succ])
          refine wpAnyH_take (i := 48) (v := .bool false) rfl (by kernel_rfl) (by kernel_rfl) (by kernel_rfl) (fun _ _ _ h => h) (Or.inl ⟨by rfl, ?_⟩) (by assumption) ?_
          · (intro wx hSw; (try dsimp only at hSw); go_split_ands; go_simp; (try with_reducible rfl); (try omega))
          (try simp only [Act.put, List.setIfInBounds_toArray, List.set_cons_zero, List.set_cons_succ, List.getElem_toArray, List.getElem_cons_zero, List.getElem_cons_succ])
          refine wpAnyH_take (i := 49) (v := .bool false) rfl (by kernel_rfl) (by kernel_rfl) (by kernel_rfl) (fun _ _ _ h => h) (Or.inl ⟨by rfl, ?_⟩) (by assumption) ?_
          · (intro wx hSw; (try dsimp only at hSw); go_split_ands; go_simp; (try with_reducible rfl); (try omega))
          (try simp only [Act.put, List.setIfInBounds_toArray, List.set_cons_zero, List.set_cons_succ, List.getElem_toArray, List.getElem_cons_zero, List.getElem_cons_succ])
          refine wpAnyH_done (by kernel_rfl) ?_ _
          clear hHeld
          go_wp2_with fail
          clear hwk
          refine ⟨⟨i + 1, by omega, by go_num, ?_⟩, by simp [intOf]; omega⟩
          exact Below.drew (Below.drew HBB.out)
    · have hii : ¬ (i : Int) < (al.length : Int) := by omega
      go_wp2_with fail
      go_ret
      exact ⟨rfl, below_through hB hw4 B4⟩

theorem lawLexBlanks (s : List UInt8) (u : Nat) (w : World) (hs : s.length ≤ maxLen) (er : ErAt w) :
    Calls Tryd.prog 4 #[.string (txt s), .int .u8 (u : Int)] w fun e w' => e = .returned (.bool true) ∧ Below w.heap.size w w' := by
  obtain ⟨R1, hR1⟩ : ∃ R, lexR s = R := ⟨_, rfl⟩
  have HS := wordsOn hs hR1
  cases R1 with
  | ok ws =>
    obtain ⟨few, hl⟩ := lexR_few hR1
    rcases Nat.lt_or_ge 2048 (s.length + u % 5) with h3 | h3
    · exact blanks_out1 s u _ _ _ w er HS rfl hl h3
    · have hA := lexR_ahead (u % 5) hR1 h3 few
      have hB := lexR_behind (u % 5) hR1 h3
      have e1 : (List.replicate (u % 5) 32 ++ s).length = s.length + u % 5 := by simp; omega
      have e2 : (s ++ List.replicate (u % 5) 32).length = s.length + u % 5 := by simp
      have WA := wordsOn (l := List.replicate (u % 5) 32 ++ s) (by unfold maxLen; omega) hA
      have WB := wordsOn (l := s ++ List.replicate (u % 5) 32) (by unfold maxLen; omega) hB
      have hP := lexR_places hR1 (by omega)
      rw [e1] at WA
      rw [e2] at WB
      exact blanks_main s u _ _ _ _ _ _ w er HS WA WB h3 hP.some hP.few (fun i h => Nat.le_trans (hP.low i h) hl) bl_of
  | syn _ => exact blanks_out0 s u _ _ _ w er HS (by simp [outE])
  | long _ => exact blanks_out0 s u _ _ _ w er HS (by simp [outE])
end Go.Proofs.YtfjhkchkiacfpaaDoor
