/- Several of my texts laid together, each as it was: Nr, Da, Db, Dc, Dd, Fk, Pz, Ek. Conditions: each names its own. -/
import Derived.Test.YtbcgjgjbliifbaaGreatDoorIA
import Derived.Test.YtbcgjgjbliifbaaGreatDoorPB
import Derived.Test.YtbcgjgjbliifbaaGreatDoorGA
import Derived.Test.YtbcgjgjbliifbaaGreatDoorFG
import Derived.Test.YtbcgjgjbliifbaaGreatDoorWz
import Derived.Stop.LaidErr
import Derived.OpenShut
import Derived.ChangeMaps5
/- Where words stand, plainly: one behind the other, each from its first byte on. Nothing of any program here: lemmas on lists. Conditions: each lemma names its own. -/
namespace Go.Proofs.YtbcgjgjbliifbaaGreatDoor
open Go.RowKit

/-! ### Where words stand, plainly -/
structure GoodW (s : List UInt8) (x : Wd) : Prop where
  low : x.p < s.length
  kind : x.k ≠ 5
  its : x.k = 1 ∨ x.k = 4 → x.s ≠ [] ∧ x.p + x.s.length ≤ s.length ∧ (s.drop x.p).take x.s.length = x.s
theorem word_kind (c : UInt8) (r : List UInt8) (h0 : (wordM (c :: r)).2 ≠ 0) : (wordM (c :: r)).1.k ≠ 5 ∧ ((wordM (c :: r)).1.k = 1 ∨ (wordM (c :: r)).1.k = 4 → (wordM (c :: r)).1.s = (c :: r).take (wordM (c :: r)).2) := by
  rcases word_cases c with h | ⟨h, h1⟩ | ⟨h, h1, h2⟩ | ⟨h, h1, h2, h3⟩ | ⟨h, h1, h2, h3⟩
  · rw [word_name h]; exact ⟨by simp, fun _ => rfl⟩
  · rw [word_num h h1] at h0 ⊢
    split
    · rename_i hb; rw [if_pos hb] at h0; exact absurd rfl h0
    · exact ⟨by simp, fun h => by simp at h⟩
  · rw [word_text h h1 h2] at h0 ⊢
    split
    · rename_i hx; rw [hx] at h0; exact absurd rfl h0
    · exact ⟨by simp, fun h => by simp at h⟩
  · rw [word_sign h h1 h2 h3]; exact ⟨by simp, fun _ => rfl⟩
  · rw [word_none h h1 h2 h3] at h0; exact absurd rfl h0
theorem good_new {s : List UInt8} {i : Nat} {c : UInt8} {r : List UInt8} (hd : s.drop i = c :: r) (h0 : (wordM (c :: r)).2 ≠ 0) : GoodW s ((wordM (c :: r)).1.put i) := by
  obtain ⟨h1, h2⟩ := word_kind c r h0
  have hle := word_le (c :: r)
  have hlen : s.length - i = r.length + 1 := by rw [← List.length_drop, hd]; rfl
  refine ⟨by show i < s.length; omega, h1, fun hk => ?_⟩
  have e : ((wordM (c :: r)).1.put i).s = (c :: r).take (wordM (c :: r)).2 := h2 hk
  have el : ((wordM (c :: r)).1.put i).s.length = (wordM (c :: r)).2 := by rw [e, List.length_take]; exact Nat.min_eq_left hle
  refine ⟨fun h => ?_, ?_, ?_⟩
  · rw [h] at el; exact h0 el.symm
  · rw [el]
    show i + (wordM (c :: r)).2 ≤ s.length
    simp only [List.length_cons] at hle
    omega
  · rw [el, e]
    show (s.drop i).take _ = _
    rw [hd]
theorem lex_good (s : List UInt8) : ∀ (f i : Nat) (acc ws : List Wd), i ≤ s.length → (∀ x ∈ acc, GoodW s x ∧ x.p < i) → acc.Pairwise (fun a b => a.p < b.p) → lexM f i (s.drop i) acc = .ok ws → (∀ x ∈ ws, GoodW s x) ∧ ws.Pairwise (fun a b => a.p < b.p)
  | 0, _, acc, ws, _, hg, hp, h => by cases h; exact ⟨fun x hx => (hg x hx).1, hp⟩
  | f + 1, i, acc, ws, hi, hg, hp, h => by
    match hd : s.drop i with
    | [] =>
      rw [hd, lexM_end] at h
      cases h
      exact ⟨fun x hx => (hg x hx).1, hp⟩
    | c :: r =>
      have hlen : s.length - i = r.length + 1 := by rw [← List.length_drop, hd]; rfl
      rw [hd] at h
      rcases lexM_ok h with ⟨rfl, h⟩ | ⟨hc, h0, h1, h⟩
      · have e : r = s.drop (i + 1) := by rw [← List.drop_drop, hd]; rfl
        rw [e] at h
        exact lex_good s f (i + 1) acc ws (by omega) (fun x hx => ⟨(hg x hx).1, by have := (hg x hx).2; omega⟩) hp h
      · have hle := word_le (c :: r)
        have e : (c :: r).drop (wordM (c :: r)).2 = s.drop (i + (wordM (c :: r)).2) := by rw [← hd, List.drop_drop]
        rw [e] at h
        simp only [List.length_cons] at hle
        have hG := good_new hd h0
        refine lex_good s f _ _ ws (by omega) (fun x hx => ?_) ?_ h
        · rcases List.mem_append.1 hx with hx | hx
          · exact ⟨(hg x hx).1, by have := (hg x hx).2; omega⟩
          · obtain rfl := List.mem_singleton.1 hx
            exact ⟨hG, by show i < _; omega⟩
        · rw [List.pairwise_append]
          exact ⟨hp, List.pairwise_singleton _ _, fun a ha b hb => by obtain rfl := List.mem_singleton.1 hb; exact (hg a ha).2⟩
theorem lex_bad (s : List UInt8) : ∀ (f i : Nat) (acc : List Wd) (k : Nat), i ≤ s.length → lexM f i (s.drop i) acc = .syn k → ∃ h : k < s.length, s[k] ≠ 32
  | 0, _, _, _, _, h => by cases h
  | f + 1, i, acc, k, hi, h => by
    match hd : s.drop i with
    | [] => rw [hd, lexM_end] at h; cases h
    | c :: r =>
      have hlen : s.length - i = r.length + 1 := by rw [← List.length_drop, hd]; rfl
      have hi2 : i < s.length := by omega
      have hc0 : s[i] = c := by
        have := List.drop_eq_getElem_cons hi2
        rw [hd] at this
        exact (List.cons.inj this).1.symm
      rw [hd] at h
      by_cases hc : c = 32
      · rw [hc, lexM_blank] at h
        have e : r = s.drop (i + 1) := by rw [← List.drop_drop, hd]; rfl
        rw [e] at h
        exact lex_bad s f (i + 1) acc k (by omega) h
      · by_cases h0 : (wordM (c :: r)).2 = 0
        · rw [lexM_syn hc h0] at h
          cases h
          exact ⟨hi2, by rw [hc0]; exact hc⟩
        · by_cases h1 : acc.length = 512
          · rw [lexM_long hc h0 h1] at h; cases h
          · rw [lexM_more hc h0 h1] at h
            have hle := word_le (c :: r)
            simp only [List.length_cons] at hle
            have e : (c :: r).drop (wordM (c :: r)).2 = s.drop (i + (wordM (c :: r)).2) := by rw [← hd, List.drop_drop]
            rw [e] at h
            exact lex_bad s f _ _ k (by omega) h
/-- Where all words stand, the end too. -/
structure PlaceOk (s : List UInt8) (al : List Wd) : Prop where
  some : al ≠ []
  few : al.length ≤ 4096
  low : ∀ i (h : i < al.length), al[i].p ≤ s.length
  up : ∀ i (h : i + 1 < al.length), (al[i]'(by omega)).p < al[i + 1].p
  kind : ∀ i (h : i < al.length), al[i].k = 5 ↔ i + 1 = al.length
  its : ∀ i (h : i < al.length), al[i].k = 1 ∨ al[i].k = 4 → al[i].s ≠ [] ∧ al[i].p + al[i].s.length ≤ s.length ∧ (s.drop al[i].p).take al[i].s.length = al[i].s
  last : ∀ h : al.length - 1 < al.length, al[al.length - 1].p = s.length
theorem lexR_places {s : List UInt8} {ws : List Wd} (h : lexR s = .ok ws) (hf : ws.length ≤ 4095) : PlaceOk s (ws ++ [⟨5, [], 0, s.length⟩]) := by
  unfold lexR at h
  split at h
  · cases h
  · obtain ⟨hg, hp⟩ := lex_good s _ 0 [] ws (Nat.zero_le _) (fun x hx => absurd hx (by simp)) List.Pairwise.nil h
    have hA : ∀ i (h : i < (ws ++ [(⟨5, [], 0, s.length⟩ : Wd)]).length), (∃ h1 : i < ws.length, (ws ++ [(⟨5, [], 0, s.length⟩ : Wd)])[i] = ws[i]) ∨ (i = ws.length ∧ (ws ++ [(⟨5, [], 0, s.length⟩ : Wd)])[i] = ⟨5, [], 0, s.length⟩) := fun i h => by
      rcases Nat.lt_or_ge i ws.length with g | g
      · exact .inl ⟨g, List.getElem_append_left g⟩
      · have e : i = ws.length := by simp at h; omega
        subst e
        exact .inr ⟨rfl, by rw [List.getElem_append_right (Nat.le_refl _)]; simp⟩
    refine ⟨by simp, by simp; omega, fun i h => ?_, fun i h => ?_, fun i h => ?_, fun i h hk => ?_, fun h => ?_⟩
    · rcases hA i h with ⟨h1, e⟩ | ⟨_, e⟩
      · rw [e]; exact Nat.le_of_lt (hg _ (List.getElem_mem h1)).low
      · rw [e]; exact Nat.le_refl _
    · have h1 : i < ws.length := by simp at h; omega
      rw [List.getElem_append_left h1]
      rcases hA (i + 1) h with ⟨h2, e⟩ | ⟨_, e⟩
      · rw [e]; exact List.pairwise_iff_getElem.1 hp i (i + 1) h1 h2 (Nat.lt_succ_self _)
      · rw [e]; exact (hg _ (List.getElem_mem h1)).low
    · rcases hA i h with ⟨h1, e⟩ | ⟨h1, e⟩
      · rw [e]
        have := (hg _ (List.getElem_mem h1)).kind
        simp
        exact ⟨fun h => absurd h this, fun h => by omega⟩
      · rw [e]; simp [h1]
    · rcases hA i h with ⟨h1, e⟩ | ⟨_, e⟩
      · rw [e] at hk ⊢; exact (hg _ (List.getElem_mem h1)).its hk
      · rw [e] at hk; simp at hk
    · simp
theorem lexR_bad {s : List UInt8} {k : Nat} (h : lexR s = .syn k) : ∃ h : k < s.length, s[k] ≠ 32 := by
  unfold lexR at h
  split at h
  · cases h
  · exact lex_bad s _ 0 [] k (Nat.zero_le _) h
theorem lexR_few {s : List UInt8} {ws : List Wd} (h : lexR s = .ok ws) : ws.length ≤ 512 ∧ s.length ≤ 2048 := by
  unfold lexR at h
  split at h
  · cases h
  · refine ⟨?_, by omega⟩
    have H : ∀ (f i : Nat) (l : List UInt8) (acc ws : List Wd), acc.length ≤ 512 → lexM f i l acc = .ok ws → ws.length ≤ 512 := by
      intro f
      induction f with
      | zero => intro i l acc ws ha h; cases h; exact ha
      | succ f ih =>
        intro i l acc ws ha h
        cases l with
        | nil => rw [lexM_end] at h; cases h; exact ha
        | cons c l =>
          rcases lexM_ok h with ⟨_, h⟩ | ⟨_, _, h1, h⟩
          · exact ih _ _ _ _ ha h
          · exact ih _ _ _ _ (by simp; omega) h
    exact H _ _ _ _ _ (by simp) h
end Go.Proofs.YtbcgjgjbliifbaaGreatDoor

/- The reference's lexer: how far a name goes, a number, from a place on: contracts of the calls, in whatever memory. Conditions: 2048 bytes at most. -/
namespace Go.Proofs.YtbcgjgjbliifbaaGreatDoor
open Go.RowKit

theorem drop_get (l : List UInt8) (p k : Nat) (h : p + k < l.length) : (l.drop p)[k]'(by rw [List.length_drop]; omega) = l[p + k] := by rw [List.getElem_drop]
set_option maxHeartbeats 1000000 in
theorem refNameAt_any (l : List UInt8) (p : Nat) (w : World) (hl : l.length ≤ 2048) (hp : p ≤ l.length) :
    Calls Tryz.prog 37 #[.string (txt l), .int .i64 (p : Nat)] w fun e w' => e = .returned (.int .i64 (cnt isLD (l.drop p) : Nat)) ∧ w = w' := by
  have hsz : (txt l).size = l.length := txt_size l
  have hdl : (l.drop p).length = l.length - p := List.length_drop
  go_enter Tryz.func37, Tryz.ntmps37
  go_wp2
  go_loopw [5] (fun i wr => ∃ k : Nat, k ≤ l.length - p ∧ i = .int .i64 k ∧ wr = w ∧ Hid (∀ j (hj : j < (l.drop p).length), j < k → isLD (l.drop p)[j] = true)) (fun i _ => l.length - p - (intOf i).toNat)
  case atStart => exact ⟨0, Nat.zero_le _, rfl, rfl, hid0 (fun j _ h => absurd h (by omega))⟩
  case round =>
    obtain ⟨k, hk, rfl, rfl, hR⟩ := hrel
    obtain ⟨m, hm⟩ : ∃ m, p + k = m := ⟨_, rfl⟩
    have hw : IntKind.i64.wrap ((p : Int) + (k : Int)) = (m : Int) := by rw [IntWalk.i64_in _ (by omega)]; omega
    have hw2 : (p : Int) + (k : Int) = (m : Int) := by omega
    by_cases hlt : m < l.length
    · have hk2 : m < (txt l).size := by omega
      have e : (txt l)[m]'hk2 = l[m] := txt_get l m hk2 hlt
      have hkd : k < (l.drop p).length := by omega
      have hdg : (l.drop p)[k]'hkd = l[m] := by subst hm; exact drop_get l p k hlt
      have HY := hid0 (fun h : isLD l[m] = true => ld_more hR.out (fun _ => by rw [hdg]; exact h))
      have HN := hid0 (fun h : isLD l[m] = false => cnt_is hR.out (by omega) (fun _ => by rw [hdg]; exact h))
      obtain ⟨c, hc⟩ : ∃ c, l[m] = c := ⟨_, rfl⟩
      rw [hc] at e HY HN
      have CL := fun W => refLetter_any c W
      have CD := fun W => refDigit_any c W
      clear hc hdg
      have hki : (m : Int) < (l.length : Int) := by omega
      go_wp2_with (first
        | (go_at_call 36; refine (CL _).mono ?_; rintro e w' ⟨rfl, rfl⟩)
        | (go_at_call 38; refine (CD _).mono ?_; rintro e w' ⟨rfl, rfl⟩)
        | fail)
      all_goals first
        | (exact ⟨⟨k + 1, by omega, by go_num, trivial, hid0 (HY.out (isLD_of (by simp [*]; done)))⟩, by simp [intOf]; omega⟩)
        | (go_ret; exact ⟨ret_i64 (by rw [HN.out (isLD_of (by simp [*]; done))]), rfl⟩)
        | trace_state
    · have hki : ¬ (m : Int) < (l.length : Int) := by omega
      go_wp2
      go_ret
      exact ⟨ret_i64 (by rw [cnt_is hR.out (by omega) (fun h => absurd h (by omega))]), rfl⟩

theorem decV_mono : ∀ (r : List UInt8) (a : Nat), a ≤ r.foldl (fun u c => 10 * u + (c.toNat - 48)) a
  | [], a => Nat.le_refl a
  | d :: r, a => Nat.le_trans (by omega) (decV_mono r (10 * a + (d.toNat - 48)))
theorem decV_le (l : List UInt8) (n k : Nat) (h : k ≤ n) : decV (l.take k) ≤ decV (l.take n) := by
  obtain ⟨d, rfl⟩ := Nat.exists_eq_add_of_le h
  rw [List.take_add, decV, decV, List.foldl_append]
  exact decV_mono _ _
theorem decV_step (l : List UInt8) (k : Nat) (h : k < l.length) : decV (l.take (k + 1)) = 10 * decV (l.take k) + (l[k].toNat - 48) := by
  rw [List.take_succ_eq_append_getElem h, decV_snoc]
/-- The number is too great. -/
theorem numBad_big {l : List UInt8} {k : Nat} (h : ∀ j (hj : j < l.length), j < k + 1 → isD l[j] = true) (hk : k < l.length) (hv : 9223372036854775808 < 10 * decV (l.take k) + (l[k].toNat - 48)) : numBad l = true := by
  have h1 := cnt_go h hk
  have h2 := decV_le l _ _ h1
  rw [decV_step l k hk] at h2
  unfold numBad numN
  simp; omega
theorem isD_more {l : List UInt8} {k : Nat} (h : ∀ j (hj : j < l.length), j < k → isD l[j] = true) (hk : ∀ h : k < l.length, isD l[k] = true) : ∀ j (hj : j < l.length), j < k + 1 → isD l[j] = true := fun j hj h1 => by
  rcases Nat.lt_or_ge j k with g | g
  · exact h j hj g
  · obtain rfl : j = k := by omega
    exact hk hj
end Go.Proofs.YtbcgjgjbliifbaaGreatDoor

/- The reference's lexer: a number from a place on: a contract of the call, in whatever memory. Conditions: 2048 bytes at most. -/
namespace Go.Proofs.YtbcgjgjbliifbaaGreatDoor
open Go.RowKit

theorem two64 {a b : Int} {x y : Nat} (h1 : a = (x : Int)) (h2 : b = (y : Int)) : Ending.returned (.tuple #[.int .u64 a, .int .i64 b]) = Ending.returned (.tuple #[.int .u64 (x : Nat), .int .i64 (y : Nat)]) := by rw [h1, h2]
set_option maxHeartbeats 4000000 in
theorem refNumber_any (l : List UInt8) (p : Nat) (w : World) (hl : l.length ≤ 2048) (hp : p < l.length) :
    Calls Tryz.prog 39 #[.string (txt l), .int .i64 (p : Nat)] w fun e w' => e = .returned (.tuple #[.int .u64 ((if numBad (l.drop p) then 0 else numN (l.drop p) : Nat)), .int .i64 ((if numBad (l.drop p) then 0 else cnt isD (l.drop p) : Nat))]) ∧ w = w' := by
  have hsz : (txt l).size = l.length := txt_size l
  have hdl : (l.drop p).length = l.length - p := List.length_drop
  have hhd : (l.drop p).head? = some l[p] := by rw [List.drop_eq_getElem_cons hp]; rfl
  obtain ⟨c0, hc0⟩ : ∃ c, l[p] = c := ⟨_, rfl⟩
  have h0at : ∀ h, (txt l)[p]'h = c0 := fun h => (txt_get l p h hp).trans hc0
  rw [hc0] at hhd
  obtain ⟨D, hD⟩ : ∃ D, l.drop p = D := ⟨_, rfl⟩
  have HD := hid0 hD
  rw [hD] at hdl hhd ⊢
  replace hhd := hid0 hhd
  obtain ⟨RU, hRU⟩ : ∃ x, (if numBad D then 0 else numN D) = x := ⟨_, rfl⟩
  obtain ⟨RN, hRN⟩ : ∃ x, (if numBad D then 0 else cnt isD D) = x := ⟨_, rfl⟩
  rw [hRU, hRN]
  replace hRU := hid0 hRU
  replace hRN := hid0 hRN
  clear hc0 hD
  go_enter Tryz.func39, Tryz.ntmps39
  go_wp2
  go_loopw [6, 7] (fun u n wr => ∃ k V : Nat, k ≤ D.length ∧ u = .int .u64 (V : Nat) ∧ n = .int .i64 (k : Nat) ∧ wr = w ∧ V ≤ 9223372036854775808 ∧ Hid (V = decV (D.take k)) ∧ Hid (∀ j (hj : j < D.length), j < k → isD D[j] = true)) (fun _ n _ => D.length - (intOf n).toNat)
  case atStart => exact ⟨0, 0, Nat.zero_le _, rfl, rfl, rfl, by decide, hid0 rfl, hid0 (fun j _ h => absurd h (by omega))⟩
  case round =>
    obtain ⟨k, V, hk, rfl, rfl, rfl, hV, hVe, hR⟩ := hrel
    obtain ⟨m, hm⟩ : ∃ m, p + k = m := ⟨_, rfl⟩
    have hw : IntKind.i64.wrap ((p : Int) + (k : Int)) = (m : Int) := by rw [IntWalk.i64_in _ (by omega)]; omega
    have hw2 : (p : Int) + (k : Int) = (m : Int) := by omega
    have fin : ∀ (hc : cnt isD D = k), True := fun _ => trivial
    by_cases hlt : m < l.length
    · have hk2 : m < (txt l).size := by omega
      have e : (txt l)[m]'hk2 = l[m] := txt_get l m hk2 hlt
      have hkd : k < D.length := by omega
      have hdg : D[k]'hkd = l[m] := by have := HD.out; subst this; subst hm; exact drop_get l p k hlt
      have hki : (m : Int) < (l.length : Int) := by omega
      obtain ⟨c, hc⟩ : ∃ c, l[m] = c := ⟨_, rfl⟩
      rw [hc] at e hdg
      have CD := fun W => refDigit_any c W
      rcases Bool.eq_false_or_eq_true (isD c) with hdc | hdc
      · have hb := hdc
        simp only [isD, Bool.and_eq_true, decide_eq_true_eq] at hb
        obtain ⟨q, hq⟩ : ∃ q, c.toNat - 48 = q := ⟨_, rfl⟩
        have s1 : IntKind.u8.wrap ((c.toNat : Int) - 48) = (q : Int) := by rw [IntWalk.u8_in _ (by omega)]; omega
        have s2 : IntKind.u64.wrap (q : Int) = (q : Int) := IntWalk.u64_in _ (by omega)
        have s3 : IntKind.u64.wrap (9223372036854775808 - (q : Int)) = 9223372036854775808 - (q : Int) := IntWalk.u64_in _ (by omega)
        rw [hdc] at CD
        have HVs : decV (D.take (k + 1)) = 10 * V + q := by rw [decV_step D k hkd, hdg, ← hVe.out, hq]
        have HR2 := hid0 (isD_more hR.out (fun _ => by rw [hdg]; exact hdc))
        by_cases hbig : (9223372036854775808 - q) / 10 < V
        · have HB : numBad D = true := numBad_big HR2.out hkd (by rw [hdg, hq, ← hVe.out]; omega)
          obtain ⟨Z, hZ⟩ : ∃ Z, (9223372036854775808 - q) / 10 = Z := ⟨_, rfl⟩
          have s4 : IntKind.u64.wrap ((9223372036854775808 - (q : Int)).tdiv 10) = (Z : Int) := by rw [Int.tdiv_eq_ediv_of_nonneg (by omega), IntWalk.u64_in _ (by omega)]; omega
          have s5 : (Z : Int) < (V : Int) := by omega
          clear hc hdc hdg hq hb hZ
          go_wp2_with (first | (go_at_call 38; refine (CD _).mono ?_; rintro e w' ⟨rfl, rfl⟩) | fail)
          exact bodyPost_ret (v := .tuple #[.int .u64 (0), .int .i64 (0)]) (by simp [results, Tryz.results39, go_sem]; done) rfl ⟨two64 (by rw [← hRU.out, if_pos HB, Int.natCast_zero]) (by rw [← hRN.out, if_pos HB, Int.natCast_zero]), rfl⟩
        · obtain ⟨Z, hZ⟩ : ∃ Z, (9223372036854775808 - q) / 10 = Z := ⟨_, rfl⟩
          have s4 : IntKind.u64.wrap ((9223372036854775808 - (q : Int)).tdiv 10) = (Z : Int) := by rw [Int.tdiv_eq_ediv_of_nonneg (by omega), IntWalk.u64_in _ (by omega)]; omega
          have s5 : ¬ (Z : Int) < (V : Int) := by omega
          have s6 : IntKind.u64.wrap (10 * (V : Int)) = 10 * (V : Int) := IntWalk.u64_in _ (by omega)
          have s7 : IntKind.u64.wrap (10 * (V : Int) + (q : Int)) = 10 * (V : Int) + (q : Int) := IntWalk.u64_in _ (by omega)
          have hV2 : 10 * V + q ≤ 9223372036854775808 := by omega
          have HV2 := hid0 hV2
          have HVS := hid0 HVs
          clear hc hdc hdg hq hb hZ hbig HVs hV2 hV
          go_wp2_with (first | (go_at_call 38; refine (CD _).mono ?_; rintro e w' ⟨rfl, rfl⟩) | fail)
          exact ⟨⟨k + 1, 10 * V + q, by omega, by congr 1, by go_num, trivial, HV2.out, hid0 HVS.out.symm, HR2⟩, by simp [intOf]; omega⟩
      · have hki2 := hki
        have hcnt : cnt isD D = k := cnt_is hR.out (by omega) (fun _ => by rw [hdg]; exact hdc)
        have hN : numN D = V := by unfold numN; rw [hcnt, ← hVe.out]
        have hB0 : numBad D = ((decide (1 < k) && decide (c0 = 48)) || isL c) := by unfold numBad; rw [hcnt, hN, hhd.out, List.getElem?_eq_getElem hkd, hdg]; simp; omega
        have CL := fun W => refLetter_any c W
        rw [hdc] at CD
        clear hdg hc hdc
        have hV3 := hid0 hV
        have HC := hid0 hcnt
        have HNN := hid0 hN
        clear hV hcnt hN hVe
        by_cases h1 : 1 < k
        · have hk1 : (1 : Int) < (k : Int) := by omega
          by_cases h2 : c0 = 48
          · have h48 : ((c0.toNat : Int) == 48) = true := by rw [beq_iff_eq, h2]; rfl
            have HB : numBad D = true := by rw [hB0, h2]; simp [h1]
            clear h1 h2 hB0
            go_wp2_with (first | (go_at_call 38; refine (CD _).mono ?_; rintro e w' ⟨rfl, rfl⟩) | (go_at_call 36; refine (CL _).mono ?_; rintro e w' ⟨rfl, rfl⟩) | fail)
            exact bodyPost_ret (v := .tuple #[.int .u64 (0), .int .i64 (0)]) (by simp [results, Tryz.results39, go_sem]; done) rfl ⟨two64 (by rw [← hRU.out, if_pos HB, Int.natCast_zero]) (by rw [← hRN.out, if_pos HB, Int.natCast_zero]), rfl⟩
          · have h48 : ((c0.toNat : Int) == 48) = false := by rw [beq_eq_false_iff_ne]; intro h; exact h2 (UInt8.toNat_inj.1 (show c0.toNat = 48 by omega))
            cases hL : isL c with
            | true =>
              have HB : numBad D = true := by rw [hB0, hL]; simp [h2]
              rw [hL] at CL
              clear h1 h2 hB0 hL
              go_wp2_with (first | (go_at_call 38; refine (CD _).mono ?_; rintro e w' ⟨rfl, rfl⟩) | (go_at_call 36; refine (CL _).mono ?_; rintro e w' ⟨rfl, rfl⟩) | fail)
              exact bodyPost_ret (v := .tuple #[.int .u64 (0), .int .i64 (0)]) (by simp [results, Tryz.results39, go_sem]; done) rfl ⟨two64 (by rw [← hRU.out, if_pos HB, Int.natCast_zero]) (by rw [← hRN.out, if_pos HB, Int.natCast_zero]), rfl⟩
            | false =>
              have HB : numBad D = false := by rw [hB0, hL]; simp [h2]
              rw [hL] at CL
              clear h1 h2 hB0 hL
              go_wp2_with (first | (go_at_call 38; refine (CD _).mono ?_; rintro e w' ⟨rfl, rfl⟩) | (go_at_call 36; refine (CL _).mono ?_; rintro e w' ⟨rfl, rfl⟩) | fail)
              exact bodyPost_ret (v := .tuple #[.int .u64 ((V : Nat)), .int .i64 ((k : Nat))]) (by simp [results, Tryz.results39, go_sem]; done) rfl ⟨two64 (by rw [← hRU.out, if_neg (by rw [HB]; simp), HNN.out]) (by rw [← hRN.out, if_neg (by rw [HB]; simp), HC.out]), rfl⟩
        · have hk1 : ¬ (1 : Int) < (k : Int) := by omega
          cases hL : isL c with
          | true =>
            have HB : numBad D = true := by rw [hB0, hL]; simp [h1]
            rw [hL] at CL
            clear h1 hB0 hL
            go_wp2_with (first | (go_at_call 38; refine (CD _).mono ?_; rintro e w' ⟨rfl, rfl⟩) | (go_at_call 36; refine (CL _).mono ?_; rintro e w' ⟨rfl, rfl⟩) | fail)
            exact bodyPost_ret (v := .tuple #[.int .u64 (0), .int .i64 (0)]) (by simp [results, Tryz.results39, go_sem]; done) rfl ⟨two64 (by rw [← hRU.out, if_pos HB, Int.natCast_zero]) (by rw [← hRN.out, if_pos HB, Int.natCast_zero]), rfl⟩
          | false =>
            have HB : numBad D = false := by rw [hB0, hL]; simp [h1]
            rw [hL] at CL
            clear h1 hB0 hL
            go_wp2_with (first | (go_at_call 38; refine (CD _).mono ?_; rintro e w' ⟨rfl, rfl⟩) | (go_at_call 36; refine (CL _).mono ?_; rintro e w' ⟨rfl, rfl⟩) | fail)
            exact bodyPost_ret (v := .tuple #[.int .u64 ((V : Nat)), .int .i64 ((k : Nat))]) (by simp [results, Tryz.results39, go_sem]; done) rfl ⟨two64 (by rw [← hRU.out, if_neg (by rw [HB]; simp), HNN.out]) (by rw [← hRN.out, if_neg (by rw [HB]; simp), HC.out]), rfl⟩
    · have hki : ¬ (m : Int) < (l.length : Int) := by omega
      have hcnt : cnt isD D = k := cnt_is hR.out (by omega) (fun h => absurd h (by omega))
      have hN : numN D = V := by unfold numN; rw [hcnt, ← hVe.out]
      have hB0 : numBad D = ((decide (1 < k) && decide (c0 = 48)) || false) := by unfold numBad; rw [hcnt, hN, hhd.out, List.getElem?_eq_none (by omega)]; simp; omega
      have hV3 := hid0 hV
      have HC := hid0 hcnt
      have HNN := hid0 hN
      clear hV hcnt hN hVe
      by_cases h1 : 1 < k
      · have hk1 : (1 : Int) < (k : Int) := by omega
        by_cases h2 : c0 = 48
        · have h48 : ((c0.toNat : Int) == 48) = true := by rw [beq_iff_eq, h2]; rfl
          have HB : numBad D = true := by rw [hB0, h2]; simp [h1]
          clear h1 h2 hB0
          go_wp2_with fail
          exact bodyPost_ret (v := .tuple #[.int .u64 (0), .int .i64 (0)]) (by simp [results, Tryz.results39, go_sem]; done) rfl ⟨two64 (by rw [← hRU.out, if_pos HB, Int.natCast_zero]) (by rw [← hRN.out, if_pos HB, Int.natCast_zero]), rfl⟩
        · have h48 : ((c0.toNat : Int) == 48) = false := by rw [beq_eq_false_iff_ne]; intro h; exact h2 (UInt8.toNat_inj.1 (show c0.toNat = 48 by omega))
          have HB : numBad D = false := by rw [hB0]; simp [h2]
          clear h1 h2 hB0
          go_wp2_with fail
          exact bodyPost_ret (v := .tuple #[.int .u64 ((V : Nat)), .int .i64 ((k : Nat))]) (by simp [results, Tryz.results39, go_sem]; done) rfl ⟨two64 (by rw [← hRU.out, if_neg (by rw [HB]; simp), HNN.out]) (by rw [← hRN.out, if_neg (by rw [HB]; simp), HC.out]), rfl⟩
      · have hk1 : ¬ (1 : Int) < (k : Int) := by omega
        have HB : numBad D = false := by rw [hB0]; simp [h1]
        clear h1 hB0
        go_wp2_with fail
        exact bodyPost_ret (v := .tuple #[.int .u64 ((V : Nat)), .int .i64 ((k : Nat))]) (by simp [results, Tryz.results39, go_sem]; done) rfl ⟨two64 (by rw [← hRU.out, if_neg (by rw [HB]; simp), HNN.out]) (by rw [← hRN.out, if_neg (by rw [HB]; simp), HC.out]), rfl⟩
end Go.Proofs.YtbcgjgjbliifbaaGreatDoor

/- The reference's lexer: a text, a sign from a place on: contracts of the calls, in whatever memory. Conditions: 2048 bytes at most. -/
namespace Go.Proofs.YtbcgjgjbliifbaaGreatDoor
open Go.RowKit

/-- A text's letters and how many bytes it takes; 0: it has no end. -/
def txA (l : List UInt8) : List UInt8 × Nat := match txR l with | none => ([], 0) | some x => (x.1, x.2 + 1)
theorem txA_none {l : List UInt8} (h : txR l = none) : txA l = ([], 0) := by unfold txA; rw [h]
theorem txA_some {l : List UInt8} {x : List UInt8 × Nat} (h : txR l = some x) : txA l = (x.1, x.2 + 1) := by unfold txA; rw [h]
theorem strint {s t : List UInt8} {b : Int} {y : Nat} (h1 : s = t) (h2 : b = (y : Int)) : Ending.returned (.tuple #[.string (txt s), .int .i64 b]) = Ending.returned (.tuple #[.string (txt t), .int .i64 (y : Nat)]) := by rw [h1, h2]
theorem cut_n (l : List UInt8) (a b : Nat) (ha : a ≤ b) (hb : b ≤ l.length) (x y : Int) (hx : x = (a : Int)) (hy : y = (b : Int)) (W : World) : (Instr.slice 9 (.string (txt l)) (some (.int .i64 x)) (some (.int .i64 y)) none).run Tryz.prog W = .ok (.string (txt ((l.drop a).take (b - a)))) W := by
  subst hx hy
  have := cut_at l (a : Int) (b : Int) W (by omega) (by omega) (by omega)
  rw [this, Int.toNat_natCast, Int.toNat_natCast]
theorem cut_one (l : List UInt8) (m : Nat) (c : UInt8) (h : m < l.length) (hc : l[m] = c) (y : Int) (hy : y = ((m + 1 : Nat) : Int)) (W : World) : (Instr.slice 9 (.string (txt l)) (some (.int .i64 (m : Int))) (some (.int .i64 y)) none).run Tryz.prog W = .ok (.string (txt [c])) W := by
  subst hc
  rw [cut_n l m (m + 1) (by omega) (by omega) _ _ rfl hy W, Nat.add_sub_cancel_left, List.drop_eq_getElem_cons h]
  rfl
set_option maxHeartbeats 4000000 in
theorem refText_any (l : List UInt8) (p : Nat) (w : World) (hl : l.length ≤ 2048) (hp : p < l.length) :
    Calls Tryz.prog 40 #[.string (txt l), .int .i64 (p : Nat)] w fun e w' => e = .returned (.tuple #[.string (txt (txA (l.drop (p + 1))).1), .int .i64 ((txA (l.drop (p + 1))).2 : Nat)]) ∧ w = w' := by
  have hsz : (txt l).size = l.length := txt_size l
  have hdl : (l.drop (p + 1)).length = l.length - (p + 1) := List.length_drop
  obtain ⟨D, hD⟩ : ∃ D, l.drop (p + 1) = D := ⟨_, rfl⟩
  have HD := hid0 hD
  rw [hD] at hdl ⊢
  obtain ⟨RT, hRT⟩ : ∃ x, txA D = x := ⟨_, rfl⟩
  rw [hRT]
  obtain ⟨RS, RN⟩ := RT
  dsimp only
  replace hRT := hid0 hRT
  clear hD
  go_enter Tryz.func40, Tryz.ntmps40
  go_wp2
  go_loopw [6, 7] (fun t i wr => ∃ (k : Nat) (T : List UInt8), k ≤ D.length ∧ t = .string (txt T) ∧ i = .int .i64 ((p : Int) + 1 + (k : Int)) ∧ wr = w ∧ T.length ≤ k ∧ Hid (txR D = (txR (D.drop k)).map (fun x => (T ++ x.1, x.2 + k)))) (fun _ i _ => l.length - (intOf i).toNat)
  case atStart => exact ⟨0, [], Nat.zero_le _, rfl, by congr 1, rfl, Nat.le_refl _, hid0 (by simp)⟩
  case round =>
    obtain ⟨k, T, hk, rfl, rfl, rfl, hT, hR⟩ := hrel
    obtain ⟨m, hm⟩ : ∃ m, p + 1 + k = m := ⟨_, rfl⟩
    have hmi : (p : Int) + 1 + (k : Int) = (m : Int) := by omega
    rw [hmi]
    by_cases hlt : m < l.length
    · have hk2 : m < (txt l).size := by omega
      have e : (txt l)[m]'hk2 = l[m] := txt_get l m hk2 hlt
      have hkd : k < D.length := by omega
      have hdg : D[k]'hkd = l[m] := by have := HD.out; subst this; subst hm; exact drop_get l (p + 1) k hlt
      have hki : (m : Int) < (l.length : Int) := by omega
      have hdr : D.drop k = l[m] :: D.drop (k + 1) := by rw [List.drop_eq_getElem_cons hkd, hdg]
      obtain ⟨c, hc⟩ : ∃ c, l[m] = c := ⟨_, rfl⟩
      rw [hc] at e hdr
      by_cases h39 : c = 39
      · subst h39
        by_cases hlt2 : m + 1 < l.length
        · have hk22 : m + 1 < (txt l).size := by omega
          have e2 : (txt l)[m + 1]'hk22 = l[m + 1] := txt_get l (m + 1) hk22 hlt2
          have hkd2 : k + 1 < D.length := by omega
          have hdg2 : D[k + 1]'hkd2 = l[m + 1] := by have := HD.out; subst this; subst hm; exact drop_get l (p + 1) (k + 1) hlt2
          have hdr2 : D.drop (k + 1) = l[m + 1] :: D.drop (k + 2) := by rw [List.drop_eq_getElem_cons hkd2, hdg2]
          have hki2 : (m : Int) + 1 < (l.length : Int) := by omega
          obtain ⟨d, hd⟩ : ∃ d, l[m + 1] = d := ⟨_, rfl⟩
          rw [hd] at e2 hdr2
          by_cases hd39 : d = 39
          · subst hd39
            have hX : txt T ++ ⟨#[39]⟩ = txt (T ++ [39]) := by rw [← txt_add]; rfl
            have hz1 : (txt T).size = T.length := txt_size T
            have HR2 := hid0 (show txR D = (txR (D.drop (k + 2))).map (fun x => ((T ++ [39]) ++ x.1, x.2 + (k + 2))) by
              rw [hR.out, hdr, hdr2, txR_two]
              cases txR (D.drop (k + 2)) with
              | none => rfl
              | some x => simp; omega)
            clear hc hdg hdr hd hdg2 hdr2
            go_wp2_with fail
            exact ⟨⟨k + 2, T ++ [39], by omega, rfl, by congr 1; omega, trivial, by simp; omega, HR2⟩, by simp [intOf]; omega⟩
          · have hcb : ((d.toNat : Int) != 39) = true := by rw [bne_iff_ne]; intro h; exact hd39 (UInt8.toNat_inj.1 (show d.toNat = 39 by omega))
            have HE := hid0 (txA_some (show txR D = some (T, k + 1) by rw [hR.out, hdr, hdr2, txR_end (by intro q hq; cases hq; exact hd39)]; simp; omega))
            clear hc hdg hdr hd hdg2 hdr2
            go_wp2_with fail
            exact bodyPost_ret (v := .tuple #[.string (txt (T)), .int .i64 ((m : Int) + 1 - (p : Int))]) (by simp [results, Tryz.results40, go_sem]; done) rfl ⟨strint (by have := HE.out.symm.trans hRT.out; cases this; rfl) (by have := HE.out.symm.trans hRT.out; cases this; omega), rfl⟩
        · have hki2 : ¬ (m : Int) + 1 < (l.length : Int) := by omega
          have HE := hid0 (txA_some (show txR D = some (T, k + 1) by rw [hR.out, hdr, List.drop_eq_nil_of_le (show D.length ≤ k + 1 by omega), txR_end (by intro q hq; cases hq)]; simp; omega))
          clear hc hdg hdr
          go_wp2_with fail
          exact bodyPost_ret (v := .tuple #[.string (txt (T)), .int .i64 ((m : Int) + 1 - (p : Int))]) (by simp [results, Tryz.results40, go_sem]; done) rfl ⟨strint (by have := HE.out.symm.trans hRT.out; cases this; rfl) (by have := HE.out.symm.trans hRT.out; cases this; omega), rfl⟩
      · have hcb : ((c.toNat : Int) != 39) = true := by rw [bne_iff_ne]; intro h; exact h39 (UInt8.toNat_inj.1 (show c.toNat = 39 by omega))
        have cut : ∀ W : World, (Instr.slice 9 (.string (txt l)) (some (.int .i64 (m : Int))) (some (.int .i64 ((m : Int) + 1))) none).run Tryz.prog W = .ok (.string (txt [c])) W := fun W => cut_one l m c hlt hc ((m : Int) + 1) (by omega) W
        have hX : txt T ++ txt [c] = txt (T ++ [c]) := txt_add _ _
        have hz1 : (txt T).size = T.length := txt_size T
        have hz2 : (txt [c]).size = 1 := rfl
        have HR2 := hid0 (show txR D = (txR (D.drop (k + 1))).map (fun x => ((T ++ [c]) ++ x.1, x.2 + (k + 1))) by
          rw [hR.out, hdr, txR_plain h39]
          cases txR (D.drop (k + 1)) with
          | none => rfl
          | some x => simp; omega)
        clear hc hdg hdr
        go_wp2_with fail
        exact ⟨⟨k + 1, T ++ [c], by omega, rfl, by congr 1; omega, trivial, by simp; omega, HR2⟩, by simp [intOf]; omega⟩
    · have hki : ¬ (m : Int) < (l.length : Int) := by omega
      have HE := hid0 (txA_none (show txR D = none by rw [hR.out, List.drop_eq_nil_of_le (by omega)]; rfl))
      go_wp2_with fail
      exact bodyPost_ret (v := .tuple #[.string ⟨#[]⟩, .int .i64 0]) (by simp [results, Tryz.results40, go_sem]; done) rfl ⟨strint (s := []) (by have := HE.out.symm.trans hRT.out; cases this; rfl) (by have := HE.out.symm.trans hRT.out; cases this; rfl), rfl⟩

/-- The sign that begins a row of bytes; empty: none. -/
def sgA : List UInt8 → List UInt8
  | [] => []
  | c :: r => if isS c then (c :: r).take (sgS (c :: r)) else []
theorem sg_two {c d : UInt8} {r : List UInt8} (h : (c = 60 ∧ d = 62) ∨ (c = 60 ∧ d = 61) ∨ (c = 62 ∧ d = 61)) : sgA (c :: d :: r) = [c, d] := by
  have hS : isS c = true := by rcases h with ⟨rfl, _⟩ | ⟨rfl, _⟩ | ⟨rfl, _⟩ <;> decide
  show (if isS c then (c :: d :: r).take (if (c = 60 ∧ d = 62) ∨ (c = 60 ∧ d = 61) ∨ (c = 62 ∧ d = 61) then 2 else 1) else []) = _
  rw [if_pos hS, if_pos h]; rfl
theorem sg_one {c d : UInt8} {r : List UInt8} (hS : isS c = true) (h : ¬ ((c = 60 ∧ d = 62) ∨ (c = 60 ∧ d = 61) ∨ (c = 62 ∧ d = 61))) : sgA (c :: d :: r) = [c] := by
  show (if isS c then (c :: d :: r).take (if (c = 60 ∧ d = 62) ∨ (c = 60 ∧ d = 61) ∨ (c = 62 ∧ d = 61) then 2 else 1) else []) = _
  rw [if_pos hS, if_neg h]; rfl
theorem sg_no {c : UInt8} {r : List UInt8} (hS : isS c = false) : sgA (c :: r) = [] := by
  show (if isS c then _ else []) = _
  rw [hS]; rfl
theorem sg_single {c : UInt8} (hS : isS c = true) : sgA [c] = [c] := by
  show (if isS c then [c].take (sgS [c]) else []) = _
  rw [if_pos hS]; rfl
theorem isS_cases {c : UInt8} (h : isS c = true) : c = 40 ∨ c = 41 ∨ c = 44 ∨ c = 46 ∨ c = 42 ∨ c = 43 ∨ c = 45 ∨ c = 61 ∨ c = 60 ∨ c = 62 := by
  simp [isS] at h; simpa using h
theorem isS_none {c : UInt8} (h : isS c = false) (k : UInt8) (hk : isS k = true) : ((c.toNat : Int) == (k.toNat : Int)) = false := by
  rw [beq_eq_false_iff_ne]
  intro e
  have : c = k := UInt8.toNat_inj.1 (by omega)
  rw [this, hk] at h; cases h

theorem str8 {s t : List UInt8} (h : s = t) : Ending.returned (.string (txt s)) = Ending.returned (.string (txt t)) := by rw [h]

set_option maxRecDepth 100000 in
set_option maxHeartbeats 4000000 in
theorem refSign_any (l : List UInt8) (p : Nat) (w : World) (hl : l.length ≤ 2048) (hp : p < l.length) :
    Calls Tryz.prog 41 #[.string (txt l), .int .i64 (p : Nat)] w fun e w' => e = .returned (.string (txt (sgA (l.drop p)))) ∧ w = w' := by
  have hsz : (txt l).size = l.length := txt_size l
  have hdr := List.drop_eq_getElem_cons hp
  obtain ⟨c, hc⟩ : ∃ c, l[p] = c := ⟨_, rfl⟩
  have e : ∀ h, (txt l)[p]'h = c := fun h => (txt_get l p h hp).trans hc
  have cut1 : ∀ W : World, (Instr.slice 9 (.string (txt l)) (some (.int .i64 (p : Int))) (some (.int .i64 ((p : Int) + 1))) none).run Tryz.prog W = .ok (.string (txt [c])) W := fun W => cut_one l p c hp hc ((p : Int) + 1) (by omega) W
  rw [hdr, hc]
  obtain ⟨RS, hRS⟩ : ∃ x, sgA (c :: l.drop (p + 1)) = x := ⟨_, rfl⟩
  rw [hRS]
  replace hRS := hid0 hRS
  rcases Nat.lt_or_ge (p + 1) l.length with h1 | h1
  · obtain ⟨d, hd⟩ : ∃ d, l[p + 1] = d := ⟨_, rfl⟩
    have hdr2 : l.drop (p + 1) = d :: l.drop (p + 2) := by rw [List.drop_eq_getElem_cons h1, hd]
    have cut2 : ∀ W : World, (Instr.slice 9 (.string (txt l)) (some (.int .i64 (p : Int))) (some (.int .i64 ((p : Int) + 2))) none).run Tryz.prog W = .ok (.string (txt [c, d])) W := fun W => by
      rw [cut_n l p (p + 2) (by omega) (by omega) _ _ rfl (by omega) W, Nat.add_sub_cancel_left, hdr, hc, hdr2]; rfl
    have hg : 2 ≤ (l.length : Int) - (p : Int) := by omega
    rw [hdr2] at hRS
    clear hdr hc hdr2 hd
    have ix0 : ∀ W : World, (Instr.index 118 (.agg #[.string ⟨#[60, 62]⟩, .string ⟨#[60, 61]⟩, .string ⟨#[62, 61]⟩]) (.int .i64 0)).run Tryz.prog W = .ok (.string ⟨#[60, 62]⟩) W := fun W => rfl
    have ix1 : ∀ W : World, (Instr.index 118 (.agg #[.string ⟨#[60, 62]⟩, .string ⟨#[60, 61]⟩, .string ⟨#[62, 61]⟩]) (.int .i64 1)).run Tryz.prog W = .ok (.string ⟨#[60, 61]⟩) W := fun W => rfl
    have ix2 : ∀ W : World, (Instr.index 118 (.agg #[.string ⟨#[60, 62]⟩, .string ⟨#[60, 61]⟩, .string ⟨#[62, 61]⟩]) (.int .i64 2)).run Tryz.prog W = .ok (.string ⟨#[62, 61]⟩) W := fun W => rfl
    go_enter Tryz.func41, Tryz.ntmps41
    go_wp2_with fail
    go_loopw [8] (fun i wr => ∃ j : Nat, j ≤ 3 ∧ i = .int .i64 (j : Nat) ∧ wr = w ∧ Hid ((0 < j → ¬ (c = 60 ∧ d = 62)) ∧ (1 < j → ¬ (c = 60 ∧ d = 61)) ∧ (2 < j → ¬ (c = 62 ∧ d = 61)))) (fun i _ => 3 - (intOf i).toNat)
    case atStart => exact ⟨0, by omega, rfl, rfl, hid0 ⟨fun h => absurd h (by omega), fun h => absurd h (by omega), fun h => absurd h (by omega)⟩⟩
    case round =>
      obtain ⟨j, hj, rfl, rfl, hN⟩ := hrel
      rcases (show j = 0 ∨ j = 1 ∨ j = 2 ∨ j = 3 by omega) with rfl | rfl | rfl | rfl
      · by_cases hq : c = 60 ∧ d = 62
        · have hb : ((txt [c, d]).toList == [60, 62]) = true := by rw [hq.1, hq.2, txt_toList]; decide
          have HRS := hid0 (sg_two (r := l.drop (p + 2)) (show (c = 60 ∧ d = 62) ∨ (c = 60 ∧ d = 61) ∨ (c = 62 ∧ d = 61) from .inl hq))
          obtain ⟨rfl, rfl⟩ := hq
          go_wp2_with fail
          exact bodyPost_ret (v := .string (⟨#[60, 62]⟩)) (by simp [results, Tryz.results41, go_sem]; done) rfl ⟨str8 (s := [60, 62]) (HRS.out.symm.trans hRS.out), rfl⟩
        · have hb : ((txt [c, d]).toList == [60, 62]) = false := by rw [beq_eq_false_iff_ne, txt_toList]; intro h; simp at h; exact hq h
          have hN2 := hid0 (show (0 < 1 → ¬ (c = 60 ∧ d = 62)) ∧ (1 < 1 → ¬ (c = 60 ∧ d = 61)) ∧ (2 < 1 → ¬ (c = 62 ∧ d = 61)) from ⟨fun _ => hq, fun h => absurd h (by omega), fun h => absurd h (by omega)⟩)
          clear hq
          go_wp2_with fail
          exact ⟨⟨1, by omega, rfl, trivial, hN2⟩, by simp [intOf]⟩
      · by_cases hq : c = 60 ∧ d = 61
        · have hb : ((txt [c, d]).toList == [60, 61]) = true := by rw [hq.1, hq.2, txt_toList]; decide
          have HRS := hid0 (sg_two (r := l.drop (p + 2)) (show (c = 60 ∧ d = 62) ∨ (c = 60 ∧ d = 61) ∨ (c = 62 ∧ d = 61) from .inr (.inl hq)))
          obtain ⟨rfl, rfl⟩ := hq
          go_wp2_with fail
          exact bodyPost_ret (v := .string (⟨#[60, 61]⟩)) (by simp [results, Tryz.results41, go_sem]; done) rfl ⟨str8 (s := [60, 61]) (HRS.out.symm.trans hRS.out), rfl⟩
        · have hb : ((txt [c, d]).toList == [60, 61]) = false := by rw [beq_eq_false_iff_ne, txt_toList]; intro h; simp at h; exact hq h
          have hN2 := hid0 (show (0 < 2 → ¬ (c = 60 ∧ d = 62)) ∧ (1 < 2 → ¬ (c = 60 ∧ d = 61)) ∧ (2 < 2 → ¬ (c = 62 ∧ d = 61)) from ⟨fun _ => hN.out.1 (by omega), fun _ => hq, fun h => absurd h (by omega)⟩)
          clear hq
          go_wp2_with fail
          exact ⟨⟨2, by omega, rfl, trivial, hN2⟩, by simp [intOf]⟩
      · by_cases hq : c = 62 ∧ d = 61
        · have hb : ((txt [c, d]).toList == [62, 61]) = true := by rw [hq.1, hq.2, txt_toList]; decide
          have HRS := hid0 (sg_two (r := l.drop (p + 2)) (show (c = 60 ∧ d = 62) ∨ (c = 60 ∧ d = 61) ∨ (c = 62 ∧ d = 61) from .inr (.inr hq)))
          obtain ⟨rfl, rfl⟩ := hq
          go_wp2_with fail
          exact bodyPost_ret (v := .string (⟨#[62, 61]⟩)) (by simp [results, Tryz.results41, go_sem]; done) rfl ⟨str8 (s := [62, 61]) (HRS.out.symm.trans hRS.out), rfl⟩
        · have hb : ((txt [c, d]).toList == [62, 61]) = false := by rw [beq_eq_false_iff_ne, txt_toList]; intro h; simp at h; exact hq h
          have hN2 := hid0 (show (0 < 3 → ¬ (c = 60 ∧ d = 62)) ∧ (1 < 3 → ¬ (c = 60 ∧ d = 61)) ∧ (2 < 3 → ¬ (c = 62 ∧ d = 61)) from ⟨fun _ => hN.out.1 (by omega), fun _ => hN.out.2.1 (by omega), fun _ => hq⟩)
          clear hq
          go_wp2_with fail
          exact ⟨⟨3, by omega, rfl, trivial, hN2⟩, by simp [intOf]⟩
      · have hno : ¬ ((c = 60 ∧ d = 62) ∨ (c = 60 ∧ d = 61) ∨ (c = 62 ∧ d = 61)) := by
          rintro (h | h | h)
          · exact hN.out.1 (by omega) h
          · exact hN.out.2.1 (by omega) h
          · exact hN.out.2.2 (by omega) h
        cases hS : isS c with
        | true =>
          have HRS := hid0 (sg_one (r := l.drop (p + 2)) hS hno)
          rcases isS_cases hS with rfl | rfl | rfl | rfl | rfl | rfl | rfl | rfl | rfl | rfl
          all_goals
            clear hS
            go_wp2_with fail
            exact bodyPost_ret (v := .string (txt [_])) (by simp [results, Tryz.results41, go_sem]; done) rfl ⟨str8 (HRS.out.symm.trans hRS.out), rfl⟩
        | false =>
          have HRS := hid0 (sg_no (r := d :: l.drop (p + 2)) hS)
          have n40 : ((c.toNat : Int) == 40) = false := isS_none hS 40 (by decide)
          have n41 : ((c.toNat : Int) == 41) = false := isS_none hS 41 (by decide)
          have n44 : ((c.toNat : Int) == 44) = false := isS_none hS 44 (by decide)
          have n46 : ((c.toNat : Int) == 46) = false := isS_none hS 46 (by decide)
          have n42 : ((c.toNat : Int) == 42) = false := isS_none hS 42 (by decide)
          have n43 : ((c.toNat : Int) == 43) = false := isS_none hS 43 (by decide)
          have n45 : ((c.toNat : Int) == 45) = false := isS_none hS 45 (by decide)
          have n61 : ((c.toNat : Int) == 61) = false := isS_none hS 61 (by decide)
          have n60 : ((c.toNat : Int) == 60) = false := isS_none hS 60 (by decide)
          have n62 : ((c.toNat : Int) == 62) = false := isS_none hS 62 (by decide)
          clear hS
          go_wp2_with fail
          exact bodyPost_ret (v := .string (⟨#[]⟩)) (by simp [results, Tryz.results41, go_sem]; done) rfl ⟨str8 (s := []) (HRS.out.symm.trans hRS.out), rfl⟩
  · have hg : ¬ 2 ≤ (l.length : Int) - (p : Int) := by omega
    rw [List.drop_eq_nil_of_le h1] at hRS
    clear hdr hc
    go_enter Tryz.func41, Tryz.ntmps41
    have ix0 : ∀ W : World, (Instr.index 118 (.agg #[.string ⟨#[60, 62]⟩, .string ⟨#[60, 61]⟩, .string ⟨#[62, 61]⟩]) (.int .i64 0)).run Tryz.prog W = .ok (.string ⟨#[60, 62]⟩) W := fun W => rfl
    have ix1 : ∀ W : World, (Instr.index 118 (.agg #[.string ⟨#[60, 62]⟩, .string ⟨#[60, 61]⟩, .string ⟨#[62, 61]⟩]) (.int .i64 1)).run Tryz.prog W = .ok (.string ⟨#[60, 61]⟩) W := fun W => rfl
    have ix2 : ∀ W : World, (Instr.index 118 (.agg #[.string ⟨#[60, 62]⟩, .string ⟨#[60, 61]⟩, .string ⟨#[62, 61]⟩]) (.int .i64 2)).run Tryz.prog W = .ok (.string ⟨#[62, 61]⟩) W := fun W => rfl
    go_wp2_with fail
    go_loopw [8] (fun i wr => ∃ j : Nat, j ≤ 3 ∧ i = .int .i64 (j : Nat) ∧ wr = w) (fun i _ => 3 - (intOf i).toNat)
    case atStart => exact ⟨0, by omega, rfl, rfl⟩
    case round =>
      obtain ⟨j, hj, rfl, rfl⟩ := hrel
      rcases (show j = 0 ∨ j = 1 ∨ j = 2 ∨ j = 3 by omega) with rfl | rfl | rfl | rfl
      · go_wp2_with fail
        exact ⟨⟨1, by omega, rfl, trivial⟩, by simp [intOf]⟩
      · go_wp2_with fail
        exact ⟨⟨2, by omega, rfl, trivial⟩, by simp [intOf]⟩
      · go_wp2_with fail
        exact ⟨⟨3, by omega, rfl, trivial⟩, by simp [intOf]⟩
      · skip
        cases hS : isS c with
        | true =>
          have HRS := hid0 (sg_single hS)
          rcases isS_cases hS with rfl | rfl | rfl | rfl | rfl | rfl | rfl | rfl | rfl | rfl
          all_goals
            clear hS
            go_wp2_with fail
            exact bodyPost_ret (v := .string (txt [_])) (by simp [results, Tryz.results41, go_sem]; done) rfl ⟨str8 (HRS.out.symm.trans hRS.out), rfl⟩
        | false =>
          have HRS := hid0 (sg_no (r := []) hS)
          have n40 : ((c.toNat : Int) == 40) = false := isS_none hS 40 (by decide)
          have n41 : ((c.toNat : Int) == 41) = false := isS_none hS 41 (by decide)
          have n44 : ((c.toNat : Int) == 44) = false := isS_none hS 44 (by decide)
          have n46 : ((c.toNat : Int) == 46) = false := isS_none hS 46 (by decide)
          have n42 : ((c.toNat : Int) == 42) = false := isS_none hS 42 (by decide)
          have n43 : ((c.toNat : Int) == 43) = false := isS_none hS 43 (by decide)
          have n45 : ((c.toNat : Int) == 45) = false := isS_none hS 45 (by decide)
          have n61 : ((c.toNat : Int) == 61) = false := isS_none hS 61 (by decide)
          have n60 : ((c.toNat : Int) == 60) = false := isS_none hS 60 (by decide)
          have n62 : ((c.toNat : Int) == 62) = false := isS_none hS 62 (by decide)
          clear hS
          go_wp2_with fail
          exact bodyPost_ret (v := .string (⟨#[]⟩)) (by simp [results, Tryz.results41, go_sem]; done) rfl ⟨str8 (s := []) (HRS.out.symm.trans hRS.out), rfl⟩
end Go.Proofs.YtbcgjgjbliifbaaGreatDoor

/- The reference's Words: whatever the bytes: a contract of the call, in whatever memory. Conditions: none besides. -/
namespace Go.Proofs.YtbcgjgjbliifbaaGreatDoor
open Go.RowKit

theorem w64d {x : Int} (h : 0 ≤ x ∧ x ≤ 9223372036854775807) : IntKind.i64.wrap x = x ∧ wrap64 x = x := by
  exact ⟨IntWalk.i64_in _ (by omega), by unfold wrap64; omega⟩
theorem OwnW.drew {w : World} {base : Nat} {v : Value} {ws : List Wd} (h : OwnW w base v ws) : OwnW w.drew base v ws := h.kept (Below.drew (Below.refl _ _))
/-- How the reference reads a word: its kind by its first byte. -/
theorem wordM_L {c : UInt8} {r : List UInt8} (h : isL c = true) : wordM (c :: r) = (⟨1, (c :: r).take (cnt isLD (c :: r)), 0, 0⟩, cnt isLD (c :: r)) := by
  rw [word_name h, nmS_ld h]
theorem wordM_D {c : UInt8} {r : List UInt8} (h : isL c = false) (h1 : isD c = true) : wordM (c :: r) = (if numBad (c :: r) then noW else ⟨2, [], numN (c :: r), 0⟩, if numBad (c :: r) then 0 else cnt isD (c :: r)) := by
  rw [word_num h h1]; split <;> rfl
theorem wordM_T {c : UInt8} {r : List UInt8} (h : isL c = false) (h1 : isD c = false) (h2 : c = 39) : (wordM (c :: r)).2 = (txA r).2 ∧ ((txA r).2 ≠ 0 → (wordM (c :: r)).1 = ⟨3, (txA r).1, 0, 0⟩) := by
  rw [word_text h h1 h2]
  unfold txA
  cases txR r with
  | none => exact ⟨rfl, fun h => absurd rfl h⟩
  | some x => exact ⟨rfl, fun _ => rfl⟩
theorem wordM_S {c : UInt8} {r : List UInt8} (h : isL c = false) (h1 : isD c = false) (h2 : c ≠ 39) : (wordM (c :: r)).2 = (sgA (c :: r)).length ∧ ((sgA (c :: r)).length ≠ 0 → (wordM (c :: r)).1 = ⟨4, sgA (c :: r), 0, 0⟩) := by
  cases h3 : isS c with
  | true =>
    have e : sgA (c :: r) = (c :: r).take (sgS (c :: r)) := by show (if isS c then _ else _) = _; rw [if_pos h3]
    rw [word_sign h h1 h2 h3, e]
    have := sgS_le (l := c :: r) (by simp)
    refine ⟨?_, fun _ => rfl⟩
    show sgS (c :: r) = _
    rw [List.length_take]; omega
  | false =>
    have e : sgA (c :: r) = [] := sg_no h3
    rw [word_none h h1 h2 h3, e]
    exact ⟨rfl, fun h => absurd rfl h⟩

/-- The reference's Words. -/
theorem LexTo.go {l : List UInt8} {i : Nat} {acc : List Wd} {c : UInt8} (h : LexTo l i acc) (hi : i < l.length) (hd : l.drop i = c :: l.drop (i + 1)) (hc : c ≠ 32) : ((wordM (c :: l.drop (i + 1))).2 = 0 → lexR l = .syn i) ∧ ((wordM (c :: l.drop (i + 1))).2 ≠ 0 → acc.length = 512 → lexR l = .long i) ∧ (∀ k s n z, wordM (c :: l.drop (i + 1)) = (⟨k, s, n, 0⟩, z) → z ≠ 0 → acc.length ≠ 512 → LexTo l (i + z) (acc ++ [⟨k, s, n, i⟩])) := by
  have hc2 : l[i] = c := by have := List.drop_eq_getElem_cons hi; rw [hd] at this; exact (List.cons.inj this).1.symm
  rw [← hd]
  refine ⟨fun h0 => h.syn hi (by rw [hc2]; exact hc) h0, fun h0 h1 => h.long hi (by rw [hc2]; exact hc) h0 h1, fun k s n z hw h0 h1 => ?_⟩
  have := h.more hi (by rw [hc2]; exact hc) (by rw [hw]; exact h0) h1
  rw [hw] at this
  exact this
set_option maxRecDepth 100000 in
set_option maxHeartbeats 8000000 in
theorem refWords_any (l : List UInt8) (w : World) (hl : l.length ≤ maxLen) :
    Calls Tryz.prog 14 #[.string (txt l)] w (WordsAns l w) := by
  unfold maxLen at hl
  have hsz : (txt l).size = l.length := txt_size l
  by_cases hlong : 2048 < l.length
  · have hR : lexR l = .long 0 := if_pos hlong
    have hi : (2048 : Int) < (l.length : Int) := by omega
    go_enter Tryz.func14, Tryz.ntmps14
    go_wp2
    exact bodyPost_ret (v := .tuple #[.slice none 0 0, .int .i64 (0), .int .i64 3]) (by simp [results, Tryz.results14, go_sem]; done) rfl ⟨⟨_, by rw [hR]; rfl, by rw [hR]; exact OwnW.nil _ _⟩, by go_grown⟩
  · have hi : ¬ (2048 : Int) < (l.length : Int) := by omega
    have hl2 : l.length ≤ 2048 := by omega
    clear hlong hl
    go_enter Tryz.func14, Tryz.ntmps14
    go_wp2
    go_loopw [5, 6] (fun lv iv wr => ∃ (i : Nat) (acc : List Wd), i ≤ l.length ∧ iv = .int .i64 i ∧ OwnW wr w.heap.size lv acc ∧ Below w.heap.size w wr ∧ Hid (LexTo l i acc)) (fun _ iv _ => l.length - (intOf iv).toNat)
    case atStart => exact ⟨0, [], Nat.zero_le _, rfl, OwnW.nil _ _, Below.refl _ _, hid0 (LexTo.start hl2)⟩
    case round =>
      obtain ⟨i, acc, hil, rfl, hO, hB, hT⟩ := hrel
      have hbs := hB.size
      have few := hT.out.few
      obtain ⟨a, c0, rfl, -⟩ := hO.row
      by_cases hlt : i < l.length
      · have hii : (i : Int) < (l.length : Int) := by omega
        obtain ⟨c, hc⟩ : ∃ c, l[i] = c := ⟨_, rfl⟩
        have g1 : ∀ h, (txt l)[i]'h = c := fun h => (txt_get l i h hlt).trans hc
        have hdr : l.drop i = c :: l.drop (i + 1) := by rw [List.drop_eq_getElem_cons hlt, hc]
        by_cases h32 : c = 32
        · have HT := hid0 (hT.out.blank hlt (hc.trans h32))
          have hc1 : ((c.toNat : Int) == 32) = true := by rw [beq_iff_eq, h32]; rfl
          clear hc hdr h32
          go_wp2
          exact ⟨⟨i + 1, acc, by omega, by go_num, hO, hB, HT⟩, by simp [intOf]; omega⟩
        · have hc1 : ((c.toNat : Int) == 32) = false := by rw [beq_eq_false_iff_ne]; intro h; exact h32 (UInt8.toNat_inj.1 (show c.toNat = 32 by omega))
          have hwl := word_le (l.drop i)
          have hll : (l.drop i).length = l.length - i := List.length_drop
          have CL := fun W => refLetter_any c W
          have CD := fun W => refDigit_any c W
          have HT := hid0 (hT.out.go hlt hdr h32)
          rw [hdr] at hwl hll
          rcases word_cases c with h | ⟨h, h1⟩ | ⟨h, h1, h2⟩ | hS
          · have hw := wordM_L (r := l.drop (i + 1)) h
            have CN := fun W => refNameAt_any l i W hl2 (by omega)
            rw [hw] at hwl
            rw [hdr] at CN
            dsimp only at hwl
            rw [h] at CL
            have h9 : isLD c = true := by unfold isLD; rw [h]; rfl
            have hpos : 0 < cnt isLD (c :: l.drop (i + 1)) := by show 0 < (if isLD c then _ else _); rw [if_pos h9]; omega
            obtain ⟨z, hz0⟩ : ∃ z, cnt isLD (c :: l.drop (i + 1)) = z := ⟨_, rfl⟩
            rw [hz0] at CN hwl hpos hw
            have hz2 := hid0 (congrArg Prod.snd hw)
            have HW := hid0 hw
            obtain ⟨s, hs⟩ : ∃ s, (c :: l.drop (i + 1)).take z = s := ⟨_, rfl⟩
            have cut : ∀ W : World, (Instr.slice 9 (.string (txt l)) (some (.int .i64 (i : Int))) (some (.int .i64 ((i : Int) + (z : Int)))) none).run Tryz.prog W = .ok (.string (txt s)) W := fun W => by rw [cut_n l i (i + z) (by omega) (by omega) _ _ rfl (by omega) W, Nat.add_sub_cancel_left, hdr, hs]
            have HS := hid0 hs
            have HZ := hid0 (w64d (x := (i : Int) + (z : Int)) (by omega))
            clear hz0 hw hdr hc hs
            have hz : z ≠ 0 := by omega
            have hzb : ((z : Int) == 0) = false := by rw [beq_eq_false_iff_ne]; omega
            by_cases h512 : acc.length = 512
            · have hR := HT.out.2.1 (by rw [hz2.out]; exact hz) h512
              have h5 : ((acc.length : Int) == 512) = true := by rw [beq_iff_eq]; omega
              clear h512 hz
              go_wp2_with (first | (go_at_call 36; refine (CL _).mono ?_; rintro e w' ⟨rfl, rfl⟩) | (go_at_call 38; refine (CD _).mono ?_; rintro e w' ⟨rfl, rfl⟩) | (go_at_call 37; refine (CN _).mono ?_; rintro e w' ⟨rfl, rfl⟩) | fail)
              have wz := HZ.out.1
              have wz2 := HZ.out.2
              go_region
              clear wz wz2
              go_wp2_with (first | (go_at_call 36; refine (CL _).mono ?_; rintro e w' ⟨rfl, rfl⟩) | (go_at_call 38; refine (CD _).mono ?_; rintro e w' ⟨rfl, rfl⟩) | (go_at_call 37; refine (CN _).mono ?_; rintro e w' ⟨rfl, rfl⟩) | fail)
              exact bodyPost_ret (v := .tuple #[.slice none 0 0, .int .i64 ((i : Int)), .int .i64 3]) (by simp [results, Tryz.results14, go_sem]; done) rfl ⟨⟨_, by rw [hR]; rfl, by rw [hR]; exact OwnW.nil _ _⟩, (hB.alloc hbs _).drew⟩
            · have HR := hid0 (HT.out.2.2 1 s 0 z (by rw [HW.out, HS.out]) hz h512)
              have h5 : ((acc.length : Int) == 512) = false := by rw [beq_eq_false_iff_ne]; omega
              go_wp2_with (first | (go_at_call 36; refine (CL _).mono ?_; rintro e w' ⟨rfl, rfl⟩) | (go_at_call 38; refine (CD _).mono ?_; rintro e w' ⟨rfl, rfl⟩) | (go_at_call 37; refine (CN _).mono ?_; rintro e w' ⟨rfl, rfl⟩) | fail)
              have wz := HZ.out.1
              have wz2 := HZ.out.2
              go_region
              clear wz wz2
              go_wp2_with (first | (go_at_call 36; refine (CL _).mono ?_; rintro e w' ⟨rfl, rfl⟩) | (go_at_call 38; refine (CD _).mono ?_; rintro e w' ⟨rfl, rfl⟩) | (go_at_call 37; refine (CN _).mono ?_; rintro e w' ⟨rfl, rfl⟩) | (at_builtin; go_loud (refine wp_word1 rfl _ _ rfl rfl ((hO.alloc _).drew.alloc _) ⟨1, s, 0, i⟩ (wr.heap.size + 1) rfl (by go_cell) (by go_cell) (by go_cell) (by go_cell) (by omega) ?hb2 ?_)) | fail)
              case hb2 => show w.heap.size ≤ (World.alloc (World.alloc wr _) _).heap.size; rw [World.size_alloc, World.size_alloc]; omega
              intro v2 w2 hO3 hb3
              have hB3 := ((hB.alloc hbs _).drew.alloc (by show _ ≤ (World.alloc _ _).heap.size; rw [World.size_alloc]; omega) _).trans hb3
              go_wp2
              exact ⟨⟨i + z, acc ++ [⟨1, s, 0, i⟩], by omega, by go_num, hO3, hB3, HR⟩, by simp [intOf]; omega⟩
          · have hw := wordM_D (r := l.drop (i + 1)) h h1
            have CN := fun W => refNumber_any l i W hl2 hlt
            rw [hw] at hwl
            rw [hdr] at CN
            obtain ⟨u, hu⟩ : ∃ u, (if numBad (c :: l.drop (i + 1)) then 0 else numN (c :: l.drop (i + 1))) = u := ⟨_, rfl⟩
            obtain ⟨z, hz0⟩ : ∃ z, (if numBad (c :: l.drop (i + 1)) then 0 else cnt isD (c :: l.drop (i + 1))) = z := ⟨_, rfl⟩
            have hbad : z ≠ 0 → numBad (c :: l.drop (i + 1)) = false := by intro hz; cases hb : numBad (c :: l.drop (i + 1)) with | false => rfl | true => rw [hb] at hz0; exact absurd hz0.symm hz
            rw [hu, hz0] at CN
            dsimp only at hwl
            rw [hz0] at hwl hw
            have hz2 := hid0 (congrArg Prod.snd hw)
            have HW := hid0 hw
            have HU := hid0 hu
            have HBD := hid0 hbad
            rw [h] at CL
            rw [h1] at CD
            clear hz0 hu hw hbad hdr hc
            by_cases hz : z = 0
            · have hR := HT.out.1 (by rw [hz2.out]; exact hz)
              have hzb : ((z : Int) == 0) = true := by rw [beq_iff_eq]; omega
              clear hz
              go_wp2_with (first | (go_at_call 36; refine (CL _).mono ?_; rintro e w' ⟨rfl, rfl⟩) | (go_at_call 38; refine (CD _).mono ?_; rintro e w' ⟨rfl, rfl⟩) | (go_at_call 39; refine (CN _).mono ?_; rintro e w' ⟨rfl, rfl⟩) | fail)
              exact bodyPost_ret (v := .tuple #[.slice none 0 0, .int .i64 ((i : Int)), .int .i64 4]) (by simp [results, Tryz.results14, go_sem]; done) rfl ⟨⟨_, by rw [hR]; rfl, by rw [hR]; exact OwnW.nil _ _⟩, hB.alloc hbs _⟩
            · have hzb : ((z : Int) == 0) = false := by rw [beq_eq_false_iff_ne]; omega
              by_cases h512 : acc.length = 512
              · have hR := HT.out.2.1 (by rw [hz2.out]; exact hz) h512
                have h5 : ((acc.length : Int) == 512) = true := by rw [beq_iff_eq]; omega
                clear h512 hz
                go_wp2_with (first | (go_at_call 36; refine (CL _).mono ?_; rintro e w' ⟨rfl, rfl⟩) | (go_at_call 38; refine (CD _).mono ?_; rintro e w' ⟨rfl, rfl⟩) | (go_at_call 39; refine (CN _).mono ?_; rintro e w' ⟨rfl, rfl⟩) | fail)
                exact bodyPost_ret (v := .tuple #[.slice none 0 0, .int .i64 ((i : Int)), .int .i64 3]) (by simp [results, Tryz.results14, go_sem]; done) rfl ⟨⟨_, by rw [hR]; rfl, by rw [hR]; exact OwnW.nil _ _⟩, hB.alloc hbs _⟩
              · have HR := hid0 (HT.out.2.2 2 [] u z (by rw [HW.out, if_neg (by rw [HBD.out hz]; simp), ← HU.out, if_neg (by rw [HBD.out hz]; simp)]) hz h512)
                have h5 : ((acc.length : Int) == 512) = false := by rw [beq_eq_false_iff_ne]; omega
                go_wp2_with (first | (go_at_call 36; refine (CL _).mono ?_; rintro e w' ⟨rfl, rfl⟩) | (go_at_call 38; refine (CD _).mono ?_; rintro e w' ⟨rfl, rfl⟩) | (go_at_call 39; refine (CN _).mono ?_; rintro e w' ⟨rfl, rfl⟩) | (at_builtin; go_loud (refine wp_word1 rfl _ _ rfl rfl ((hO.alloc _).alloc _) ⟨2, [], u, i⟩ (wr.heap.size + 1) rfl (by go_cell) (by show _ = some (Value.string ⟨#[]⟩); go_cell) (by go_cell) (by go_cell) (by omega) ?hb2 ?_)) | fail)
                case hb2 => rw [World.size_alloc, World.size_alloc]; omega
                intro v2 w2 hO3 hb3
                have hB3 := ((hB.alloc hbs _).alloc (by rw [World.size_alloc]; omega) _).trans hb3
                go_wp2
                exact ⟨⟨i + z, acc ++ [⟨2, [], u, i⟩], by omega, by go_num, hO3, hB3, HR⟩, by simp [intOf]; omega⟩
          · have hw := wordM_T (r := l.drop (i + 1)) h h1 h2
            have CN := fun W => refText_any l i W hl2 hlt
            rw [hw.1] at hwl
            obtain ⟨⟨s, z⟩, hx⟩ : ∃ x, txA (l.drop (i + 1)) = x := ⟨_, rfl⟩
            rw [hx] at CN hwl hw
            dsimp only at CN hwl hw
            have hz2 := hid0 hw.1
            have HW := hid0 hw
            rw [h] at CL
            rw [h1] at CD
            have h39 : ((c.toNat : Int) == 39) = true := by rw [beq_iff_eq, h2]; rfl
            clear hx hw hdr hc h2
            by_cases hz : z = 0
            · have hR := HT.out.1 (by rw [hz2.out]; exact hz)
              have hzb : ((z : Int) == 0) = true := by rw [beq_iff_eq]; omega
              clear hz
              go_wp2_with (first | (go_at_call 36; refine (CL _).mono ?_; rintro e w' ⟨rfl, rfl⟩) | (go_at_call 38; refine (CD _).mono ?_; rintro e w' ⟨rfl, rfl⟩) | (go_at_call 40; refine (CN _).mono ?_; rintro e w' ⟨rfl, rfl⟩) | fail)
              exact bodyPost_ret (v := .tuple #[.slice none 0 0, .int .i64 ((i : Int)), .int .i64 4]) (by simp [results, Tryz.results14, go_sem]; done) rfl ⟨⟨_, by rw [hR]; rfl, by rw [hR]; exact OwnW.nil _ _⟩, hB.alloc hbs _⟩
            · have hzb : ((z : Int) == 0) = false := by rw [beq_eq_false_iff_ne]; omega
              by_cases h512 : acc.length = 512
              · have hR := HT.out.2.1 (by rw [hz2.out]; exact hz) h512
                have h5 : ((acc.length : Int) == 512) = true := by rw [beq_iff_eq]; omega
                clear h512 hz
                go_wp2_with (first | (go_at_call 36; refine (CL _).mono ?_; rintro e w' ⟨rfl, rfl⟩) | (go_at_call 38; refine (CD _).mono ?_; rintro e w' ⟨rfl, rfl⟩) | (go_at_call 40; refine (CN _).mono ?_; rintro e w' ⟨rfl, rfl⟩) | fail)
                exact bodyPost_ret (v := .tuple #[.slice none 0 0, .int .i64 ((i : Int)), .int .i64 3]) (by simp [results, Tryz.results14, go_sem]; done) rfl ⟨⟨_, by rw [hR]; rfl, by rw [hR]; exact OwnW.nil _ _⟩, hB.alloc hbs _⟩
              · have HR := hid0 (HT.out.2.2 3 s 0 z (Prod.ext (HW.out.2 hz) HW.out.1) hz h512)
                have h5 : ((acc.length : Int) == 512) = false := by rw [beq_eq_false_iff_ne]; omega
                go_wp2_with (first | (go_at_call 36; refine (CL _).mono ?_; rintro e w' ⟨rfl, rfl⟩) | (go_at_call 38; refine (CD _).mono ?_; rintro e w' ⟨rfl, rfl⟩) | (go_at_call 40; refine (CN _).mono ?_; rintro e w' ⟨rfl, rfl⟩) | (at_builtin; go_loud (refine wp_word1 rfl _ _ rfl rfl ((hO.alloc _).alloc _) ⟨3, s, 0, i⟩ (wr.heap.size + 1) rfl (by go_cell) (by go_cell) (by go_cell) (by go_cell) (by omega) ?hb2 ?_)) | fail)
                case hb2 => rw [World.size_alloc, World.size_alloc]; omega
                intro v2 w2 hO3 hb3
                have hB3 := ((hB.alloc hbs _).alloc (by rw [World.size_alloc]; omega) _).trans hb3
                go_wp2
                exact ⟨⟨i + z, acc ++ [⟨3, s, 0, i⟩], by omega, by go_num, hO3, hB3, HR⟩, by simp [intOf]; omega⟩
          · have h : isL c = false := by rcases hS with ⟨h, _⟩ | ⟨h, _⟩ <;> exact h
            have h1 : isD c = false := by rcases hS with ⟨_, h, _⟩ | ⟨_, h, _⟩ <;> exact h
            have h2 : c ≠ 39 := by rcases hS with ⟨_, _, h, _⟩ | ⟨_, _, h, _⟩ <;> exact h
            have hw := wordM_S (r := l.drop (i + 1)) h h1 h2
            have CN := fun W => refSign_any l i W hl2 hlt
            rw [hw.1] at hwl
            rw [hdr] at CN
            obtain ⟨s, hx⟩ : ∃ x, sgA (c :: l.drop (i + 1)) = x := ⟨_, rfl⟩
            rw [hx] at CN hwl hw
            obtain ⟨z, hz0⟩ : ∃ z, s.length = z := ⟨_, rfl⟩
            rw [hz0] at hwl hw
            have hzs : (txt s).size = z := by rw [txt_size, hz0]
            have hz2 := hid0 hw.1
            have HW := hid0 hw
            rw [h] at CL
            rw [h1] at CD
            have h39 : ((c.toNat : Int) == 39) = false := by rw [beq_eq_false_iff_ne]; intro h9; exact h2 (UInt8.toNat_inj.1 (show c.toNat = 39 by omega))
            clear hx hw hdr hc h2 hz0 hS
            by_cases hz : z = 0
            · have hR := HT.out.1 (by rw [hz2.out]; exact hz)
              have hzb : ((z : Int) == 0) = true := by rw [beq_iff_eq]; omega
              clear hz
              go_wp2_with (first | (go_at_call 36; refine (CL _).mono ?_; rintro e w' ⟨rfl, rfl⟩) | (go_at_call 38; refine (CD _).mono ?_; rintro e w' ⟨rfl, rfl⟩) | (go_at_call 41; refine (CN _).mono ?_; rintro e w' ⟨rfl, rfl⟩) | fail)
              exact bodyPost_ret (v := .tuple #[.slice none 0 0, .int .i64 ((i : Int)), .int .i64 4]) (by simp [results, Tryz.results14, go_sem]; done) rfl ⟨⟨_, by rw [hR]; rfl, by rw [hR]; exact OwnW.nil _ _⟩, hB.alloc hbs _⟩
            · have hzb : ((z : Int) == 0) = false := by rw [beq_eq_false_iff_ne]; omega
              by_cases h512 : acc.length = 512
              · have hR := HT.out.2.1 (by rw [hz2.out]; exact hz) h512
                have h5 : ((acc.length : Int) == 512) = true := by rw [beq_iff_eq]; omega
                clear h512 hz
                go_wp2_with (first | (go_at_call 36; refine (CL _).mono ?_; rintro e w' ⟨rfl, rfl⟩) | (go_at_call 38; refine (CD _).mono ?_; rintro e w' ⟨rfl, rfl⟩) | (go_at_call 41; refine (CN _).mono ?_; rintro e w' ⟨rfl, rfl⟩) | fail)
                exact bodyPost_ret (v := .tuple #[.slice none 0 0, .int .i64 ((i : Int)), .int .i64 3]) (by simp [results, Tryz.results14, go_sem]; done) rfl ⟨⟨_, by rw [hR]; rfl, by rw [hR]; exact OwnW.nil _ _⟩, hB.alloc hbs _⟩
              · have HR := hid0 (HT.out.2.2 4 s 0 z (Prod.ext (HW.out.2 hz) HW.out.1) hz h512)
                have h5 : ((acc.length : Int) == 512) = false := by rw [beq_eq_false_iff_ne]; omega
                go_wp2_with (first | (go_at_call 36; refine (CL _).mono ?_; rintro e w' ⟨rfl, rfl⟩) | (go_at_call 38; refine (CD _).mono ?_; rintro e w' ⟨rfl, rfl⟩) | (go_at_call 41; refine (CN _).mono ?_; rintro e w' ⟨rfl, rfl⟩) | (at_builtin; go_loud (refine wp_word1 rfl _ _ rfl rfl ((hO.alloc _).alloc _) ⟨4, s, 0, i⟩ (wr.heap.size + 1) rfl (by go_cell) (by go_cell) (by go_cell) (by go_cell) (by omega) ?hb2 ?_)) | fail)
                case hb2 => rw [World.size_alloc, World.size_alloc]; omega
                intro v2 w2 hO3 hb3
                have hB3 := ((hB.alloc hbs _).alloc (by rw [World.size_alloc]; omega) _).trans hb3
                go_wp2
                exact ⟨⟨i + z, acc ++ [⟨4, s, 0, i⟩], by omega, by go_num, hO3, hB3, HR⟩, by simp [intOf]; omega⟩
      · have hii : ¬ (i : Int) < (l.length : Int) := by omega
        have hR := hT.out.end (by omega)
        obtain rfl : i = l.length := by omega
        go_wp2_with (first
          | (at_builtin; go_loud (refine wp_word1 rfl _ _ rfl rfl (hO.alloc _) ⟨5, [], 0, l.length⟩ wr.heap.size rfl (by go_cell) (by show _ = some (Value.string ⟨#[]⟩); go_cell) (by go_cell) (by go_cell) (by omega) ?hb2 ?_))
          | fail)
        case hb2 => omega
        intro v2 w2 hO2 hb2
        have hB2 := (hB.alloc hbs _).trans hb2
        go_wp2
        exact bodyPost_ret (v := .tuple #[v2, .int .i64 (0), .int .i64 0]) (by simp [results, Tryz.results14, go_sem]; done) rfl ⟨⟨_, by rw [hR]; rfl, by rw [hR]; exact hO2⟩, hB2⟩
end Go.Proofs.YtbcgjgjbliifbaaGreatDoor

/- The walk of the law ParseWords: it returns true, and below the heap's end memory is as it was. Conditions: what strconv.ErrRange holds is an error. -/
namespace Go.Proofs.YtbcgjgjbliifbaaGreatDoor
open Go.RowKit

/-- The first n pieces. -/
def sprT (s : List UInt8) : List Nat → Nat → List UInt8
  | p :: q :: r, n + 1 => (s.drop p).take (q - p) ++ 32 :: sprT s (q :: r) n
  | _, _ => []
theorem sprT_all (s : List UInt8) : ∀ ps : List Nat, sprT s ps (ps.length - 1) = spr s ps
  | [] => rfl
  | [_] => rfl
  | p :: q :: r => by
    show (s.drop p).take (q - p) ++ 32 :: sprT s (q :: r) ((q :: r).length - 1) = _
    rw [sprT_all s (q :: r)]; rfl
theorem sprT_step (s : List UInt8) : ∀ (ps : List Nat) (n : Nat) (h : n + 1 < ps.length), sprT s ps (n + 1) = sprT s ps n ++ (s.drop (ps[n]'(by omega))).take (ps[n + 1] - ps[n]'(by omega)) ++ [32]
  | [], n, h => absurd h (by simp)
  | [_], n, h => absurd h (by simp)
  | p :: q :: r, 0, h => by simp [sprT]
  | p :: q :: r, n + 1, h => by
    show (s.drop p).take (q - p) ++ 32 :: sprT s (q :: r) (n + 1) = ((s.drop p).take (q - p) ++ 32 :: sprT s (q :: r) n) ++ _ ++ [32]
    rw [sprT_step s (q :: r) n (by simpa using h)]
    simp
theorem sprT_len (s : List UInt8) : ∀ (ps : List Nat) (n : Nat), (sprT s ps n).length ≤ n * (s.length + 1)
  | [], n => by cases n <;> simp [sprT]
  | [_], n => by cases n <;> simp [sprT]
  | p :: q :: r, 0 => by simp [sprT]
  | p :: q :: r, n + 1 => by
    have := sprT_len s (q :: r) n
    show ((s.drop p).take (q - p) ++ 32 :: sprT s (q :: r) n).length ≤ _
    rw [List.length_append, List.length_cons, List.length_take, List.length_drop, Nat.succ_mul]
    omega

set_option maxRecDepth 100000 in
set_option maxHeartbeats 8000000 in
theorem lawParseWords (s : List UInt8) (m : Int) (w : World) (hs : s.length ≤ maxLen) (hm : -9223372036854775808 ≤ m ∧ m ≤ 9223372036854775807) (er : ErAt w) :
    Calls Tryz.prog 5 #[.string (txt s), .int .i64 m] w fun e w' => e = .returned (.bool true) ∧ Below w.heap.size w w' := by
  by_cases h0 : outE (lexR s) = 0
  · obtain ⟨ws, hw⟩ : ∃ ws, lexR s = .ok ws := by
      cases hr : lexR s with
      | ok ws => exact ⟨ws, rfl⟩
      | syn i => rw [hr] at h0; cases h0
      | long i => rw [hr] at h0; cases h0
    have hOK := words_ok' h0
    have hfew := hOK.few
    have hPL := lexR_places hw (by have := (lexR_few hw).1; omega)
    have hs2 := (lexR_few hw).2
    obtain ⟨Ls, hLs⟩ : ∃ Ls, outW s.length (lexR s) = Ls := ⟨_, rfl⟩
    have hLw : Ls = ws ++ [⟨5, [], 0, s.length⟩] := by rw [← hLs, hw]; rfl
    rw [hLs] at hOK hfew
    rw [← hLw] at hPL
    obtain ⟨n0, hn0⟩ : ∃ n, outN (lexR s) = n := ⟨_, rfl⟩
    obtain ⟨k, hk2⟩ : ∃ k, (parM s m).2 = k := ⟨_, rfl⟩
    obtain ⟨X, hX⟩ : ∃ X, (parM s m).1 = X := ⟨_, rfl⟩
    have hSt : IsSt X := by rw [← hX]; exact s_par s _
    have hne := hOK.ne
    have hpos : 0 < Ls.length := List.length_pos_iff.2 hne
    obtain ⟨ps, hps⟩ : ∃ ps, Ls.map Wd.p = ps := ⟨_, rfl⟩
    have hpl : ps.length = Ls.length := by rw [← hps, List.length_map]
    have HF := hid0 (sprT_all s ps)
    have HPW := hid0 (show (spr s ps).length ≤ 2048 → parM (spr s ps) m = parM s m from fun h => by rw [← hps, hLw] at h ⊢; exact parM_words hw h)
    have hget : ∀ i (h : i < Ls.length), (Ls[i]).p = ps[i]'(by omega) := fun i h => by simp only [← hps, List.getElem_map]
    have HG := hid0 hget
    have HPL := hid0 hPL
    have HK2 := hid0 hk2
    have HX := hid0 hX
    have H0 := hid0 (And.intro h0 (And.intro hn0 hLs))
    clear h0 hn0 hLs hLw hk2 hX hOK hps hget hPL hw
    go_enter Tryz.func5, Tryz.ntmps5
    go_wp2_with fail
    go_at_call 10
    refine (paParse_any s m w hs hm er).mono ?_
    rintro e w1a ⟨us, hl, rfl, hA, hb⟩
    obtain ⟨s1_0, s1_1, s1_2, s1_3, s1_4, s1_5, s1_6, s1_7, s1_8, s1_9, s1_10, s1_11, s1_12, s1_13, s1_14, s1_15, s1_16, s1_17, s1_18, s1_19, s1_20, s1_21, s1_22, s1_23, s1_24, s1_25, rfl⟩ := len26' hl
    clear hl
    rw [HX.out] at hA
    rw [HK2.out]
    replace er := er.later hb
    have BB := hb
    clear hb
    have hX : VarB (w1a.alloc (Obj.cells #[.int .i64 0, .string ⟨#[]⟩, .slice none 0 0, .slice none 0 0, .slice none 0 0, .int .i64 0, .slice none 0 0, .slice none 0 0, .int .i64 0, .int .i64 0, .int .i64 0, .string ⟨#[]⟩, .string ⟨#[]⟩, .int .i64 0, .int .i64 0, .string ⟨#[]⟩, .slice none 0 0, .int .i64 0, .string ⟨#[]⟩, .string ⟨#[]⟩, .int .i64 0, .int .i64 0, .string ⟨#[]⟩, .slice none 0 0, .slice none 0 0, .int .i64 0] 38)) w1a.heap.size zStv := VarB.new w1a zStv 38
    have hA2 := hA.any ((Below.refl w1a.heap.size w1a).alloc (Nat.le_refl _) (Obj.cells #[.int .i64 0, .string ⟨#[]⟩, .slice none 0 0, .slice none 0 0, .slice none 0 0, .int .i64 0, .slice none 0 0, .slice none 0 0, .int .i64 0, .int .i64 0, .int .i64 0, .string ⟨#[]⟩, .string ⟨#[]⟩, .int .i64 0, .int .i64 0, .string ⟨#[]⟩, .slice none 0 0, .int .i64 0, .string ⟨#[]⟩, .string ⟨#[]⟩, .int .i64 0, .int .i64 0, .string ⟨#[]⟩, .slice none 0 0, .slice none 0 0, .int .i64 0] 38))
    have A1 := hA.any (Below.refl w1a.heap.size w1a)
    clear hA
    go_wp2_with (first | ((with_reducible refine wp_putB hX hA2 ?_ ?_ ?_ ?_ ?_); (rfl); (exact infoSt); (rfl); (rfl); intro w1b V1 hw; simp only [Act.put]) | fail)
    have hG : Below w1a.heap.size w1a w1b := by rw [hw.out]; exact ((Below.refl _ _).alloc (Nat.le_refl _) _).trans ⟨(grown_setCells _ _ _ _).os, (grown_setCells _ _ _ _).tape, (grown_setCells _ _ _ _).output, (grown_setCells _ _ _ _).size, fun k hk => heap_setCells _ _ _ _ k (by omega)⟩
    clear hX hA2 hw
    replace er := er.later hG
    replace A1 := A1.any hG
    replace BB := below_through hG BB.size BB
    clear hG
    go_wp2_with (first | ((with_reducible refine wp_getG V1.at_ ?_ Tryz.underlying38 ?_ ?_ ?_ ?_); (rfl); (rfl); (exact infoSt); (rfl)) | fail)
    go_at_call 14
    refine (refWords_any s _ hs).mono ?_
    rintro e w2 ⟨⟨v, rfl, hO⟩, hb⟩
    replace er := er.later hb
    replace A1 := A1.any hb
    replace V1 := V1.below hb
    replace BB := below_through hb BB.size BB
    clear hb
    rw [H0.out.1, H0.out.2.1]
    rw [H0.out.2.2] at hO
    obtain ⟨gb, gc, rfl, hcell⟩ := hO.row0 hne
    have HC := hid0 hcell
    clear hO hcell
    have hl1 : IntKind.i64.wrap ((Ls.length : Int) - 1) = (Ls.length : Int) - 1 := IntWalk.i64_in _ (by omega)
    go_wp2_with (first | ((with_reducible refine wp_getG V1.at_ ?_ Tryz.underlying38 ?_ ?_ ?_ ?_); (rfl); (rfl); (exact infoSt); (rfl)) | fail)
    have HL1 := hid0 hl1
    clear hl1
    obtain ⟨wl, hwl⟩ : ∃ y, w2 = y := ⟨_, rfl⟩
    rw [hwl] at er BB A1 V1 HC ⊢
    clear hwl
    replace er := hid0 er
    replace BB := hid0 BB
    replace A1 := hid0 A1
    replace V1 := hid0 V1
    go_loopw [10, 11] (fun tv iv wr => ∃ i : Nat, i + 1 ≤ Ls.length ∧ tv = .string (txt (sprT s ps i)) ∧ iv = .int .i64 (i : Nat) ∧ Below wl.heap.size wl wr) (fun _ iv _ => Ls.length - (intOf iv).toNat)
    case atStart => exact ⟨0, by omega, by cases ps with | nil => rfl | cons a r => cases r <;> rfl, rfl, Below.refl _ _⟩
    case round =>
      obtain ⟨i, hi, rfl, rfl, hB⟩ := hrel
      have HLT := sprT_len s ps i
      have hmul : i * (s.length + 1) ≤ 513 * 2049 := Nat.mul_le_mul (by omega) (by omega)
      obtain ⟨T, hT⟩ : ∃ T, sprT s ps i = T := ⟨_, rfl⟩
      rw [hT] at HLT ⊢
      have hTl : T.length ≤ 1051137 := by omega
      have hz : (txt T).size = T.length := txt_size T
      by_cases hlt : i + 1 < Ls.length
      · have hii : (i : Int) < (Ls.length : Int) - 1 := by omega
        obtain ⟨i1, hi1⟩ : ∃ i1, i + 1 = i1 := ⟨_, rfl⟩
        have hii2 : (i : Int) + 1 = (i1 : Int) := by omega
        have hw1 : IntKind.i64.wrap ((i : Int) + 1) = (i1 : Int) := by rw [IntWalk.i64_in _ (by omega)]; omega
        have hw2 : IntKind.i64.wrap (i1 : Int) = (i1 : Int) := IntWalk.i64_in _ (by omega)
        have hin : (i1 : Int) < (Ls.length : Int) := by omega
        have hin0 : (i : Int) < (Ls.length : Int) := by omega
        obtain ⟨-, -, -, y3⟩ := wdCells_at Ls i (by omega)
        obtain ⟨-, -, -, z3⟩ := wdCells_at Ls i1 (by omega)
        have y3' := HC.out _ _ y3
        have z3' := HC.out _ _ z3
        rw [HG.out i (by omega)] at y3'
        rw [HG.out i1 (by omega)] at z3'
        have hP : ps[i]'(by omega) < ps[i1]'(by omega) := by have h7 := HPL.out.up i (by omega); rw [HG.out i (by omega), HG.out (i + 1) (by omega)] at h7; subst hi1; exact h7
        have hQ : ps[i1]'(by omega) ≤ s.length := by rw [← HG.out i1 (by omega)]; exact HPL.out.low i1 (by omega)
        have HST := sprT_step s ps i (by omega)
        rw [hT] at HST
        obtain ⟨a, ha⟩ : ∃ a, ps[i]'(by omega) = a := ⟨_, rfl⟩
        obtain ⟨c, hc⟩ : ∃ c, ps[i1]'(by omega) = c := ⟨_, rfl⟩
        have hc2 : ps[i + 1]'(by omega) = c := by subst hi1; exact hc
        rw [ha, hc2] at HST
        rw [ha] at y3' hP
        rw [hc] at z3' hP hQ
        have cut : ∀ W : World, (Instr.slice 9 (.string (txt s)) (some (.int .i64 (a : Int))) (some (.int .i64 (c : Int))) none).run Tryz.prog W = .ok (.string (txt ((s.drop a).take (c - a)))) W := fun W => cut_n s a c (by omega) hQ _ _ rfl rfl W
        obtain ⟨R, hR⟩ : ∃ R, (s.drop a).take (c - a) = R := ⟨_, rfl⟩
        have hRl : R.length ≤ 2048 := by rw [← hR, List.length_take, List.length_drop]; omega
        rw [hR] at cut HST
        have X1 : txt T ++ txt R = txt (T ++ R) := txt_add _ _
        have X2 : txt (T ++ R) ++ ⟨#[32]⟩ = txt (T ++ R ++ [32]) := by rw [← txt_add]; rfl
        have hz1 : (txt R).size = R.length := txt_size R
        have hz2 : (txt (T ++ R)).size = T.length + R.length := by rw [txt_size, List.length_append]
        obtain ⟨T1, hT1⟩ : ∃ T1, T ++ R = T1 := ⟨_, rfl⟩
        rw [hT1] at X1 X2 hz2 HST
        obtain ⟨T2, hT2⟩ : ∃ T2, T1 ++ [32] = T2 := ⟨_, rfl⟩
        rw [hT2] at X2 HST
        have HST2 := hid0 HST
        have y4 : wr.drew.cell? ⟨gb, i * 4 + 3, none⟩ = some (.int .i64 (a : Nat)) := cell_later hB.drew y3'
        have z4 : wr.drew.cell? ⟨gb, i1 * 4 + 3, none⟩ = some (.int .i64 (c : Nat)) := cell_later hB.drew z3'
        have hl1 := HL1.out
        have W1 := hid0 (show IntKind.i64.wrap ((i : Int) + 1) = (i1 : Int) ∧ wrap64 ((i : Int) + 1) = (i1 : Int) from ⟨hw1, by unfold wrap64; omega⟩)
        clear HST hR hT1 hT2 ha hc hc2 hP hQ y3 z3 y3' z3' hT
        have hn1 : ¬ 9223372036854775807 < T.length + R.length := by omega
        have hn2 : ¬ 9223372036854775807 < T.length + R.length + 1 := by omega
        clear hpos hi hmul HLT W1
        have hS : SameC wl gb (i * 4 + 3) gb (i1 * 4 + 3) (.int .i64 (a : Nat)) (.int .i64 (c : Nat)) wr.drew := ⟨y4, z4, hB.drew⟩
        go_wp2_with fail
        clear hl1 y4 z4
        refine wp_region_held_drew (S := SameC wl gb (i * 4 + 3) gb (i1 * 4 + 3) (.int .i64 (a : Nat)) (.int .i64 (c : Nat))) (by kernel_rfl) hS (fun hHeld => ?_)
        refine wpAnyH_take (i := 0) (v := ?_) rfl (by kernel_rfl) (by kernel_rfl) (by kernel_rfl) (fun _ _ _ h => h) (Or.inl ⟨by rfl, ?_⟩) (by assumption) ?_
        rotate_left
        · (intro wx hSw; have q0 := hSw.x; have r0 := hSw.y; go_simp; (try with_reducible rfl))
        (try simp only [Act.put, List.setIfInBounds_toArray, List.set_cons_zero, List.set_cons_succ, List.getElem_toArray, List.getElem_cons_zero])
        refine wpAnyH_take (i := 1) (v := ?_) rfl (by kernel_rfl) (by kernel_rfl) (by kernel_rfl) (fun _ _ _ h => h) (Or.inl ⟨by rfl, ?_⟩) (by assumption) ?_
        rotate_left
        · (intro wx hSw; have q0 := hSw.x; have r0 := hSw.y; go_simp; (try with_reducible rfl))
        (try simp only [Act.put, List.setIfInBounds_toArray, List.set_cons_zero, List.set_cons_succ, List.getElem_toArray, List.getElem_cons_zero, List.getElem_cons_succ])
        refine wpAnyH_take (i := 2) (v := ?_) rfl (by kernel_rfl) (by kernel_rfl) (by kernel_rfl) (fun _ _ _ h => h) (Or.inl ⟨by rfl, ?_⟩) (by assumption) ?_
        rotate_left
        · (intro wx hSw; have q0 := hSw.x; have r0 := hSw.y; go_simp; (try with_reducible rfl))
        (try simp only [Act.put, List.setIfInBounds_toArray, List.set_cons_zero, List.set_cons_succ, List.getElem_toArray, List.getElem_cons_zero, List.getElem_cons_succ])
        refine wpAnyH_take (i := 3) (v := ?_) rfl (by kernel_rfl) (by kernel_rfl) (by kernel_rfl) (fun _ _ _ h => h) (Or.inl ⟨by rfl, ?_⟩) (by assumption) ?_
        rotate_left
        · (intro wx hSw; have q0 := hSw.x; have r0 := hSw.y; go_simp; (try with_reducible rfl))
        (try simp only [Act.put, List.setIfInBounds_toArray, List.set_cons_zero, List.set_cons_succ, List.getElem_toArray, List.getElem_cons_zero, List.getElem_cons_succ])
        refine wpAnyH_take (i := 4) (v := ?_) rfl (by kernel_rfl) (by kernel_rfl) (by kernel_rfl) (fun _ _ _ h => h) (Or.inl ⟨by rfl, ?_⟩) (by assumption) ?_
        rotate_left
        · (intro wx hSw; have q0 := hSw.x; have r0 := hSw.y; go_simp; (try with_reducible rfl))
        (try simp only [Act.put, List.setIfInBounds_toArray, List.set_cons_zero, List.set_cons_succ, List.getElem_toArray, List.getElem_cons_zero, List.getElem_cons_succ])
        refine wpAnyH_take (i := 5) (v := ?_) rfl (by kernel_rfl) (by kernel_rfl) (by kernel_rfl) (fun _ _ _ h => h) (Or.inl ⟨by rfl, ?_⟩) (by assumption) ?_
        rotate_left
        · (intro wx hSw; have q0 := hSw.x; have r0 := hSw.y; go_simp; (try with_reducible rfl))
        (try simp only [Act.put, List.setIfInBounds_toArray, List.set_cons_zero, List.set_cons_succ, List.getElem_toArray, List.getElem_cons_zero, List.getElem_cons_succ])
        refine wpAnyH_take (i := 6) (v := ?_) rfl (by kernel_rfl) (by kernel_rfl) (by kernel_rfl) (fun _ _ _ h => h) (Or.inl ⟨by rfl, ?_⟩) (by assumption) ?_
        rotate_left
        · (intro wx hSw; have q0 := hSw.x; have r0 := hSw.y; go_simp; (try with_reducible rfl))
        (try simp only [Act.put, List.setIfInBounds_toArray, List.set_cons_zero, List.set_cons_succ, List.getElem_toArray, List.getElem_cons_zero, List.getElem_cons_succ])
        refine wpAnyH_take (i := 7) (v := ?_) rfl (by kernel_rfl) (by kernel_rfl) (by kernel_rfl) (fun _ _ _ h => h) (Or.inl ⟨by rfl, ?_⟩) (by assumption) ?_
        rotate_left
        · (intro wx hSw; have q0 := hSw.x; have r0 := hSw.y; go_simp; (try with_reducible rfl))
        (try simp only [Act.put, List.setIfInBounds_toArray, List.set_cons_zero, List.set_cons_succ, List.getElem_toArray, List.getElem_cons_zero, List.getElem_cons_succ])
        refine wpAnyH_take (i := 8) (v := ?_) rfl (by kernel_rfl) (by kernel_rfl) (by kernel_rfl) (fun _ _ _ h => h) (Or.inl ⟨by rfl, ?_⟩) (by assumption) ?_
        rotate_left
        · (intro wx hSw; have q0 := hSw.x; have r0 := hSw.y; go_simp; (try with_reducible rfl))
        (try simp only [Act.put, List.setIfInBounds_toArray, List.set_cons_zero, List.set_cons_succ, List.getElem_toArray, List.getElem_cons_zero, List.getElem_cons_succ])
        refine wpAnyH_take (i := 9) (v := ?_) rfl (by kernel_rfl) (by kernel_rfl) (by kernel_rfl) (fun _ _ _ h => h) (Or.inl ⟨by rfl, ?_⟩) (by assumption) ?_
        rotate_left
        · (intro wx hSw; have q0 := hSw.x; have r0 := hSw.y; go_simp; (try with_reducible rfl))
        (try simp only [Act.put, List.setIfInBounds_toArray, List.set_cons_zero, List.set_cons_succ, List.getElem_toArray, List.getElem_cons_zero, List.getElem_cons_succ])
        refine wpAnyH_take (i := 10) (v := ?_) rfl (by kernel_rfl) (by kernel_rfl) (by kernel_rfl) (fun _ _ _ h => h) (Or.inl ⟨by rfl, ?_⟩) (by assumption) ?_
        rotate_left
        · (intro wx hSw; have q0 := hSw.x; have r0 := hSw.y; go_simp; (try with_reducible rfl))
        (try simp only [Act.put, List.setIfInBounds_toArray, List.set_cons_zero, List.set_cons_succ, List.getElem_toArray, List.getElem_cons_zero, List.getElem_cons_succ])
        refine wpAnyH_take (i := 11) (v := ?_) rfl (by kernel_rfl) (by kernel_rfl) (by kernel_rfl) (fun _ _ _ h => h) (Or.inl ⟨by rfl, ?_⟩) (by assumption) ?_
        rotate_left
        · (intro wx hSw; have q0 := hSw.x; have r0 := hSw.y; go_simp; (try with_reducible rfl))
        (try simp only [Act.put, List.setIfInBounds_toArray, List.set_cons_zero, List.set_cons_succ, List.getElem_toArray, List.getElem_cons_zero, List.getElem_cons_succ])
        refine wpAnyH_take (i := 12) (v := ?_) rfl (by kernel_rfl) (by kernel_rfl) (by kernel_rfl) (fun _ _ _ h => h) (Or.inl ⟨by rfl, ?_⟩) (by assumption) ?_
        rotate_left
        · (intro wx hSw; have q0 := hSw.x; have r0 := hSw.y; go_simp; (try with_reducible rfl))
        (try simp only [Act.put, List.setIfInBounds_toArray, List.set_cons_zero, List.set_cons_succ, List.getElem_toArray, List.getElem_cons_zero, List.getElem_cons_succ])
        refine wpAnyH_take (i := 13) (v := ?_) rfl (by kernel_rfl) (by kernel_rfl) (by kernel_rfl) (fun _ _ _ h => h) (Or.inl ⟨by rfl, ?_⟩) (by assumption) ?_
        rotate_left
        · (intro wx hSw; have q0 := hSw.x; have r0 := hSw.y; go_simp; (try with_reducible rfl))
        (try simp only [Act.put, List.setIfInBounds_toArray, List.set_cons_zero, List.set_cons_succ, List.getElem_toArray, List.getElem_cons_zero, List.getElem_cons_succ])
        refine wpAnyH_take (i := 14) (v := ?_) rfl (by kernel_rfl) (by kernel_rfl) (by kernel_rfl) (fun _ _ _ h => h) (Or.inl ⟨by rfl, ?_⟩) (by assumption) ?_
        rotate_left
        · (intro wx hSw; have q0 := hSw.x; have r0 := hSw.y; go_simp; (try with_reducible rfl))
        (try simp only [Act.put, List.setIfInBounds_toArray, List.set_cons_zero, List.set_cons_succ, List.getElem_toArray, List.getElem_cons_zero, List.getElem_cons_succ])
        refine wpAnyH_take (i := 15) (v := ?_) rfl (by kernel_rfl) (by kernel_rfl) (by kernel_rfl) (fun _ _ _ h => h) (Or.inl ⟨by rfl, ?_⟩) (by assumption) ?_
        rotate_left
        · (intro wx hSw; have q0 := hSw.x; have r0 := hSw.y; go_simp; (try with_reducible rfl))
        (try simp only [Act.put, List.setIfInBounds_toArray, List.set_cons_zero, List.set_cons_succ, List.getElem_toArray, List.getElem_cons_zero, List.getElem_cons_succ])
        refine wpAnyH_take (i := 16) (v := ?_) rfl (by kernel_rfl) (by kernel_rfl) (by kernel_rfl) (fun _ _ _ h => h) (Or.inl ⟨by rfl, ?_⟩) (by assumption) ?_
        rotate_left
        · (intro wx hSw; have q0 := hSw.x; have r0 := hSw.y; go_simp; (try with_reducible rfl))
        (try simp only [Act.put, List.setIfInBounds_toArray, List.set_cons_zero, List.set_cons_succ, List.getElem_toArray, List.getElem_cons_zero, List.getElem_cons_succ])
        refine wpAnyH_done (by kernel_rfl) ?_ _
        go_wp2_with fail
        exact ⟨⟨i1, by omega, by rw [← hi1, HST2.out], rfl, hB.drew⟩, by simp [intOf]; omega⟩
      · have hii : ¬ (i : Int) < (Ls.length : Int) - 1 := by omega
        have hTS : T = spr s ps := by rw [← hT, ← HF.out, hpl]; congr 1; omega
        have HPM := hid0 (fun h => HPW.out (by rw [← hTS]; exact h))
        rw [← hTS] at HPM
        have hTmax : T.length ≤ maxLen := by unfold maxLen; omega
        clear hTS hT
        have hl1 := HL1.out
        replace er := er.out.later hB
        replace A1 := A1.out.any hB
        replace V1 := V1.out.below hB
        replace BB := below_through hB BB.out.size BB.out
        clear hB HC
        by_cases h2 : 2048 < T.length
        · have h2i : (2048 : Int) < (T.length : Int) := by omega
          clear h2
          go_wp2_with fail
          go_at_call 12
          refine (awake9_any _ er).mono ?_
          rintro e wX ⟨rfl, hb⟩
          replace er := er.later hb
          replace A1 := A1.any hb
          replace V1 := V1.below hb
          replace BB := below_through hb BB.size BB
          clear hb
          go_wp2_with fail
          go_ret
          exact ⟨rfl, BB⟩
        · have h2i : ¬ (2048 : Int) < (T.length : Int) := by omega
          replace HPM := hid0 (HPM.out (by omega))
          clear h2
          go_wp2_with (first | ((with_reducible refine wp_getG V1.at_ ?_ Tryz.underlying38 ?_ ?_ ?_ ?_); (rfl); (rfl); (exact infoSt); (rfl)) | fail)
          go_at_call 10
          refine (paParse_any T m _ hTmax hm er).mono ?_
          rintro e w2a ⟨us, hl, rfl, hA, hb⟩
          obtain ⟨s2_0, s2_1, s2_2, s2_3, s2_4, s2_5, s2_6, s2_7, s2_8, s2_9, s2_10, s2_11, s2_12, s2_13, s2_14, s2_15, s2_16, s2_17, s2_18, s2_19, s2_20, s2_21, s2_22, s2_23, s2_24, s2_25, rfl⟩ := len26' hl
          clear hl
          rw [HPM.out] at hA ⊢
          rw [HX.out] at hA
          rw [HK2.out]
          replace er := er.later hb
          replace A1 := A1.any hb
          replace V1 := V1.below hb
          replace BB := below_through hb BB.size BB
          clear hb
          have hX : VarB (w2a.alloc (Obj.cells #[.int .i64 0, .string ⟨#[]⟩, .slice none 0 0, .slice none 0 0, .slice none 0 0, .int .i64 0, .slice none 0 0, .slice none 0 0, .int .i64 0, .int .i64 0, .int .i64 0, .string ⟨#[]⟩, .string ⟨#[]⟩, .int .i64 0, .int .i64 0, .string ⟨#[]⟩, .slice none 0 0, .int .i64 0, .string ⟨#[]⟩, .string ⟨#[]⟩, .int .i64 0, .int .i64 0, .string ⟨#[]⟩, .slice none 0 0, .slice none 0 0, .int .i64 0] 38)) w2a.heap.size zStv := VarB.new w2a zStv 38
          have hA2 := hA.any ((Below.refl w2a.heap.size w2a).alloc (Nat.le_refl _) (Obj.cells #[.int .i64 0, .string ⟨#[]⟩, .slice none 0 0, .slice none 0 0, .slice none 0 0, .int .i64 0, .slice none 0 0, .slice none 0 0, .int .i64 0, .int .i64 0, .int .i64 0, .string ⟨#[]⟩, .string ⟨#[]⟩, .int .i64 0, .int .i64 0, .string ⟨#[]⟩, .slice none 0 0, .int .i64 0, .string ⟨#[]⟩, .string ⟨#[]⟩, .int .i64 0, .int .i64 0, .string ⟨#[]⟩, .slice none 0 0, .slice none 0 0, .int .i64 0] 38))
          have A2 := hA.any (Below.refl w2a.heap.size w2a)
          clear hA
          go_wp2_with (first | ((with_reducible refine wp_putB hX hA2 ?_ ?_ ?_ ?_ ?_); (rfl); (exact infoSt); (rfl); (rfl); intro w2b V2 hw; simp only [Act.put]) | fail)
          have hG : Below w2a.heap.size w2a w2b := by rw [hw.out]; exact ((Below.refl _ _).alloc (Nat.le_refl _) _).trans ⟨(grown_setCells _ _ _ _).os, (grown_setCells _ _ _ _).tape, (grown_setCells _ _ _ _).output, (grown_setCells _ _ _ _).size, fun k hk => heap_setCells _ _ _ _ k (by omega)⟩
          clear hX hA2 hw
          replace er := er.later hG
          replace A1 := A1.any hG
          replace V1 := V1.below hG
          replace A2 := A2.any hG
          replace BB := below_through hG BB.size BB
          clear hG
          go_wp2_with (first | ((with_reducible refine wp_getG V1.at_ ?_ Tryz.underlying38 ?_ ?_ ?_ ?_); (rfl); (rfl); (exact infoSt); (rfl)) | ((with_reducible refine wp_getG V2.at_ ?_ Tryz.underlying38 ?_ ?_ ?_ ?_); (rfl); (rfl); (exact infoSt); (rfl)) | fail)
          go_at_call 12
          refine (awake9_any _ er).mono ?_
          rintro e wX ⟨rfl, hb⟩
          replace er := er.later hb
          replace A1 := A1.any hb
          replace V1 := V1.below hb
          replace A2 := A2.any hb
          replace V2 := V2.below hb
          replace BB := below_through hb BB.size BB
          clear hb
          go_wp2_with (first | ((with_reducible refine wp_getG V1.at_ ?_ Tryz.underlying38 ?_ ?_ ?_ ?_); (rfl); (rfl); (exact infoSt); (rfl)) | ((with_reducible refine wp_getG V2.at_ ?_ Tryz.underlying38 ?_ ?_ ?_ ?_); (rfl); (rfl); (exact infoSt); (rfl)) | fail)
          go_at_call 13
          refine (refSame_any hSt A1 A2).mono ?_
          rintro e wX ⟨rfl, hb⟩
          replace er := er.later hb
          replace A1 := A1.any hb
          replace V1 := V1.below hb
          replace A2 := A2.any hb
          replace V2 := V2.below hb
          replace BB := below_through hb BB.size BB
          clear hb
          go_wp2_with fail
          go_ret
          exact ⟨rfl, BB⟩
  · obtain ⟨k, hk⟩ : ∃ k, outE (lexR s) = k := ⟨_, rfl⟩
    obtain ⟨n0, hn0⟩ : ∃ n, outN (lexR s) = n := ⟨_, rfl⟩
    have hP : parM s m = (zS, k) := by unfold parM; rw [if_neg h0, hk]
    have hkb : ((k : Int) != 0) = true := by rw [bne_iff_ne]; omega
    have HP := hid0 hP
    have HK := hid0 (And.intro hk hn0)
    clear h0 hk hP hn0
    go_enter Tryz.func5, Tryz.ntmps5
    go_wp2_with fail
    go_at_call 10
    refine (paParse_any s m w hs hm er).mono ?_
    rintro e w1a ⟨us, hl, rfl, hA, hb⟩
    obtain ⟨s1_0, s1_1, s1_2, s1_3, s1_4, s1_5, s1_6, s1_7, s1_8, s1_9, s1_10, s1_11, s1_12, s1_13, s1_14, s1_15, s1_16, s1_17, s1_18, s1_19, s1_20, s1_21, s1_22, s1_23, s1_24, s1_25, rfl⟩ := len26' hl
    clear hl
    rw [HP.out] at hA ⊢
    replace er := er.later hb
    have BB := hb
    clear hb
    have hX : VarB (w1a.alloc (Obj.cells #[.int .i64 0, .string ⟨#[]⟩, .slice none 0 0, .slice none 0 0, .slice none 0 0, .int .i64 0, .slice none 0 0, .slice none 0 0, .int .i64 0, .int .i64 0, .int .i64 0, .string ⟨#[]⟩, .string ⟨#[]⟩, .int .i64 0, .int .i64 0, .string ⟨#[]⟩, .slice none 0 0, .int .i64 0, .string ⟨#[]⟩, .string ⟨#[]⟩, .int .i64 0, .int .i64 0, .string ⟨#[]⟩, .slice none 0 0, .slice none 0 0, .int .i64 0] 38)) w1a.heap.size zStv := VarB.new w1a zStv 38
    have hA2 := hA.any ((Below.refl w1a.heap.size w1a).alloc (Nat.le_refl _) (Obj.cells #[.int .i64 0, .string ⟨#[]⟩, .slice none 0 0, .slice none 0 0, .slice none 0 0, .int .i64 0, .slice none 0 0, .slice none 0 0, .int .i64 0, .int .i64 0, .int .i64 0, .string ⟨#[]⟩, .string ⟨#[]⟩, .int .i64 0, .int .i64 0, .string ⟨#[]⟩, .slice none 0 0, .int .i64 0, .string ⟨#[]⟩, .string ⟨#[]⟩, .int .i64 0, .int .i64 0, .string ⟨#[]⟩, .slice none 0 0, .slice none 0 0, .int .i64 0] 38))
    have A1 := hA.any (Below.refl w1a.heap.size w1a)
    clear hA
    go_wp2_with (first | ((with_reducible refine wp_putB hX hA2 ?_ ?_ ?_ ?_ ?_); (rfl); (exact infoSt); (rfl); (rfl); intro w1b V1 hw; simp only [Act.put]) | fail)
    have hG : Below w1a.heap.size w1a w1b := by rw [hw.out]; exact ((Below.refl _ _).alloc (Nat.le_refl _) _).trans ⟨(grown_setCells _ _ _ _).os, (grown_setCells _ _ _ _).tape, (grown_setCells _ _ _ _).output, (grown_setCells _ _ _ _).size, fun k hk => heap_setCells _ _ _ _ k (by omega)⟩
    clear hX hA2 hw
    replace er := er.later hG
    replace A1 := A1.any hG
    replace BB := below_through hG BB.size BB
    clear hG
    go_wp2_with (first | ((with_reducible refine wp_getG V1.at_ ?_ Tryz.underlying38 ?_ ?_ ?_ ?_); (rfl); (rfl); (exact infoSt); (rfl)) | fail)
    go_at_call 14
    refine (refWords_any s _ hs).mono ?_
    rintro e w2 ⟨⟨v, rfl, hO⟩, hb⟩
    replace er := er.later hb
    replace A1 := A1.any hb
    replace V1 := V1.below hb
    replace BB := below_through hb BB.size BB
    clear hb
    rw [HK.out.1, HK.out.2]
    clear hO
    go_wp2_with (first | ((with_reducible refine wp_getG V1.at_ ?_ Tryz.underlying38 ?_ ?_ ?_ ?_); (rfl); (rfl); (exact infoSt); (rfl)) | fail)
    go_at_call 12
    refine (awake9_any _ er).mono ?_
    rintro e wX ⟨rfl, hb⟩
    replace er := er.later hb
    replace A1 := A1.any hb
    replace V1 := V1.below hb
    replace BB := below_through hb BB.size BB
    clear hb
    go_wp2_with fail
    go_ret
    exact ⟨rfl, BB⟩
end Go.Proofs.YtbcgjgjbliifbaaGreatDoor

/- What the rows of stage 9 share: what the listed variable strconv.ErrRange holds is an error. Conditions: what is listed is laid. -/
namespace Go.Proofs.YtbcgjgjbliifbaaGreatDoor
open Go.RowKit Go.ChangeShapes

theorem star8 : "*" ++ "errors.errorString" = "*errors.errorString" := by decide
theorem row8 (u : TypeId) (h : Tryz.prog.typeName? 3 u = some "*errors.errorString") : u = 211 :=
  typeName_ptr_named (nm := "errors.errorString") (by rw [star8]; kernel_rfl) (by kernel_rfl) (by decide) u (by rw [star8]; exact h)
theorem er_of_laid {W : World} (h : laidMetH Tryz.prog Rows.parseReadsRow.laid W) : ErAt W := by
  rw [MakeChecks.laidMetH_plain _ _ _ (by kernel_rfl)] at h
  have hL := h.tail.tail.tail
  obtain ⟨a0, s0, hv0, _, _, _⟩ := laid_sentinel hL (g := 2) (by kernel_rfl) (ti := 149) (by kernel_rfl) Tryz.underlying149 row8 Tryz.underlying211 Tryz.underlying213 rfl rfl Tryz.underlying9 (by kernel_rfl) (by kernel_rfl)
  exact ⟨_, by have h0 := World.var?_cell (g := 2) (by kernel_rfl) hv0 0; simpa using h0, .inr ⟨_, _, rfl⟩⟩
end Go.Proofs.YtbcgjgjbliifbaaGreatDoor

/- ParseWords: whatever the text and the depth, a statement hangs on its words alone: with a blank more between each two it is the same: the row and its tied card. Conditions: none beyond the row's own cells (what the listed library variables hold, which the card ties to the program's text). -/
namespace Go.Proofs.YtbcgjgjbliifbaaGreatDoor
open Go.ChangeShapes Go.WideShapes Go.ChangeAt Go.RowKit Go.Joins
open Go.ChangeMaps (open_string shut_string)

set_option maxRecDepth 100000 in
theorem words_lifted (os : Os) (started : os.Started) (H : Type) (enc : TypeId × Value → H) :
    ReturnsInHanded {} Tryz.checked os 5 .any (fun w args => (Rows.parseWordsSpec.pre enc Tryz.prog Tryz.f5 Rows.parseWordsRow.domain false w args ∧ laidMetH Tryz.prog Rows.parseWordsRow.laid w) ∧ sizedMet enc Tryz.prog Tryz.f5 (OpenSpec.ofChange Rows.parseWordsSpec) false w args)
      (Rows.parseWordsSpec.post enc Tryz.prog Tryz.f5 false true false false) := by
  refine handed_laid_shaped (C := Tryz.checked) (X := fun w _ => laidMetH Tryz.prog Rows.parseWordsRow.laid w) (fun _ _ _ hh h => h.of_heap hh) own started (by kernel_rfl) Tryz.func5
    (ChangeSpec.witness_shaped (enc := enc) (C := Tryz.checked) (os := os) (X := fun w _ => laidMetH Tryz.prog Rows.parseWordsRow.laid w) false (World.laidAll Tryz.prog os Rows.parseWordsRow.laid) #[.string ⟨#[]⟩, .int .i64 0] 8 (World.laidAll_os _ _ _)
      (World.shaped_of_ZipB (by kernel_rfl) (by kernel_rfl)) (by kernel_rfl) (by kernel_rfl) (by kernel_rfl)
      (by rw [MakeChecks.laidMetH_plain _ _ _ (by kernel_rfl)]; exact laidMet_laidAll _ (by kernel_rfl) (by kernel_rfl))) ?_
  intro W base args ds gs before hval0 hW _ hL hsh
  have er := er_of_laid (show laidMetH Tryz.prog Rows.parseReadsRow.laid W from hL)
  have hval : ∀ (j : Nat) t v, Tryz.f5.params[j]? = some t → args[j]? = some v → Value.okWide Tryz.prog W .any base t v := hval0
  have hW' := hW
  obtain ⟨p, q, hA0, hV, rfl, _, _⟩ := hW
  have hA : DataW.TrodAll enc Tryz.prog W 0 (fun _ => true) true Tryz.f5.params.toList args.toList ds p := hA0
  rw [Tryz.params5] at hA hval
  obtain ⟨v0, v1, d0, d1, p0, p1, rfl, rfl, rfl, h0, h1⟩ := trodAll_two hA
  obtain ⟨rfl, rfl⟩ := trodVars_none hV
  obtain ⟨s0, rfl, rfl, rfl, ws0⟩ := open_string Tryz.underlying9 (hval 0 9 v0 rfl rfl) h0
  have hs0 : s0.data.toList.length ≤ maxLen := by rw [size_list]; exact ws0
  have ht0 := txt_of s0
  obtain ⟨n1, rfl, rfl, rfl, wn1⟩ := open_int Tryz.underlying3 (hval 1 3 v1 rfl rfl) h1
  have hlaw := lawParseWords s0.data.toList n1 W hs0 (bounds_i64 wn1) er
  rw [ht0] at hlaw
  refine hlaw.mono fun e W' ⟨he, hb⟩ => ?_
  subst he
  exact ⟨_, rfl, _, _, _, [], [], [], hW', trodAll_mk1 (shut_bool Tryz.underlying4 true), trodAll_mk2 (shut_string Tryz.underlying9 ws0) (shut_int Tryz.underlying3 wn1), rfl, hb.frame _, fun h => by cases h⟩

theorem words_row : Rows.ParseWordsSaid :=
  OpenClaim.holds_of_wide 5 Tryz.f5 rfl rfl rfl rfl rfl rfl rfl ⟨rfl, rfl, rfl, rfl, rfl⟩ rfl rfl rfl rfl rfl (by kernel_rfl) Tryz.func5 (by kernel_rfl)
    (of_decide_eq_true (by kernel_rfl)) (by unfold Func.isWrapper; first | (rw [if_pos (by decide +kernel)]; kernel_rfl) | (rw [if_neg (by decide +kernel)]; exact ⟨rfl, rfl⟩))
    (fun os started H enc _ => words_lifted os started H enc)
theorem words_card : Rows.ParseWordsCardSaid :=
  Claim7.holds_tied_plain_at .later [] _ _ _ _ words_row (fun _ h => by cases h) (by kernel_rfl) (fun _ h => by cases h) parseWords_row_tie rfl ⟨rfl, rfl⟩ (by kernel_rfl) rfl
    (fun f fn hf hfn => by
      obtain rfl : f = 5 := Option.some.inj ((show Tryz.prog.funcNamed "belvedere/belvederelaw09.ParseWords" = some 5 by kernel_rfl).symm.trans hf) |>.symm
      obtain rfl : fn = Tryz.f5 := (Option.some.inj (Tryz.func5.symm.trans hfn)).symm
      exact ⟨by kernel_rfl, fun j t ht => by
        rw [Tryz.params5] at ht
        have hm : t ∈ [9, 3] := by simpa using Array.mem_of_getElem? ht
        have hall : ([9, 3].all fun u => !Tryz.prog.wantsStandIn u) = true := by kernel_rfl
        exact (show Tryz.prog.wantsStandIn t = false by simpa using List.all_eq_true.1 hall t hm)⟩)
    (by kernel_rfl)
end Go.Proofs.YtbcgjgjbliifbaaGreatDoor
