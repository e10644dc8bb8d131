/- slices.DeleteFunc over a list of names of one's own, with the project's test of what stays below: the contract of the call. Conditions: each names its own. -/
import Derived.Test.YtadlelhdjakmmaaN9
namespace Go.Proofs.Ytadlelhdjakmmaa
open Go.RowKit

/-- The first one's place, or -1. -/
def FirstN (E : List ByteArray) (q : ByteArray → Bool) (r : Int) : Prop := (r = -1 ∧ E.all (fun x => !q x) = true) ∨ ∃ i : Nat, r = i ∧ ∃ h : i < E.length, q E[i] = true ∧ (E.take i).all (fun x => !q x) = true
theorem all_nextN {q : ByteArray → Bool} {E : List ByteArray} {i : Nat} (h : i < E.length) (h0 : (E.take i).all (fun x => !q x) = true) (h1 : q E[i] = false) : (E.take (i + 1)).all (fun x => !q x) = true := by
  rw [List.take_succ_eq_append_getElem h, List.all_append, h0]; simp [h1]
/-- What is left of a list in which k of the first j stay. -/
structure DelN (E : List ByteArray) (q : ByteArray → Bool) (j k : Nat) (F : List ByteArray) : Prop where
  len : F.length = E.length
  kj : k < j
  jn : j ≤ E.length
  tk : F.take k = (E.take j).filter fun x => !q x
  dr : F.drop j = E.drop j
theorem DelN.skip {E : List ByteArray} {q : ByteArray → Bool} {j k : Nat} {F : List ByteArray} (h : DelN E q j k F) (hj : j < E.length) (hq : q E[j] = true) : DelN E q (j + 1) k F :=
  ⟨h.len, by have := h.kj; omega, hj, by rw [h.tk, List.take_succ_eq_append_getElem hj, List.filter_append]; simp [hq], by
    have := congrArg (List.drop 1) h.dr
    rw [List.drop_drop, List.drop_drop] at this
    exact this⟩
theorem DelN.put {E : List ByteArray} {q : ByteArray → Bool} {j k : Nat} {F : List ByteArray} (h : DelN E q j k F) (hj : j < E.length) (hq : q E[j] = false) : DelN E q (j + 1) (k + 1) (F.set k E[j]) := by
  have hk := h.kj
  have hl := h.len
  refine ⟨by rw [List.length_set]; exact h.len, by omega, hj, ?_, ?_⟩
  · rw [List.take_succ_eq_append_getElem (by rw [List.length_set]; omega), List.take_set_of_le (by omega), h.tk, List.take_succ_eq_append_getElem hj, List.filter_append]
    simp [hq]
  · rw [List.drop_set_of_lt (by omega)]
    have := congrArg (List.drop 1) h.dr
    rw [List.drop_drop, List.drop_drop] at this
    exact this
theorem DelN.at_ {E : List ByteArray} {q : ByteArray → Bool} {j k : Nat} {F : List ByteArray} (h : DelN E q j k F) (hj : j < E.length) : ∃ h' : j < F.length, F[j] = E[j] := by
  have hl := h.len
  have := congrArg (fun l => l[0]?) h.dr
  simp only [List.getElem?_drop, Nat.add_zero] at this
  refine ⟨by omega, ?_⟩
  rw [List.getElem?_eq_getElem (by omega), List.getElem?_eq_getElem hj] at this
  simpa using this
theorem filter_allN {E : List ByteArray} {q : ByteArray → Bool} (h : E.all (fun x => !q x) = true) : (E.filter fun x => !q x) = E := List.filter_eq_self.2 (fun x hx => List.all_eq_true.1 h x hx)
theorem DelN.start {E : List ByteArray} {q : ByteArray → Bool} {i : Nat} (hi : i < E.length) (hq : q E[i] = true) (h : (E.take i).all (fun x => !q x) = true) : DelN E q (i + 1) i E :=
  ⟨rfl, by omega, hi, by rw [List.take_succ_eq_append_getElem hi, List.filter_append, filter_allN h]; simp [hq], rfl⟩
theorem first_ofN {E : List ByteArray} {q : ByteArray → Bool} (h : ¬ E.all (fun x => !q x) = true) : ∃ i, ∃ hi : i < E.length, q E[i] = true ∧ (E.take i).all (fun x => !q x) = true := by
  have h1 : ∃ x ∈ E, q x = true := by
    by_cases hh : ∃ x ∈ E, q x = true
    · exact hh
    · exact absurd (List.all_eq_true.2 (fun x hx => by cases hq : q x; rfl; exact absurd ⟨x, hx, hq⟩ hh)) h
  have hlt : E.findIdx q < E.length := List.findIdx_lt_length_of_exists h1
  refine ⟨E.findIdx q, hlt, List.findIdx_getElem, List.all_eq_true.2 (fun x hx => ?_)⟩
  obtain ⟨k, hk, rfl⟩ := List.mem_take_iff_getElem.1 hx
  have := List.not_of_lt_findIdx (p := q) (xs := E) (i := k) (by omega)
  simpa using this
theorem first_isN {E : List ByteArray} {q : ByteArray → Bool} {r : Int} {i : Nat} (hF : FirstN E q r) (hi : i < E.length) (hq : q E[i] = true) (h : (E.take i).all (fun x => !q x) = true) : r = i := by
  rcases hF with ⟨_, ha⟩ | ⟨k, rfl, hk, hqk, hak⟩
  · have := List.all_eq_true.1 ha _ (List.getElem_mem hi)
    rw [hq] at this; cases this
  · rcases Nat.lt_trichotomy k i with hlt | rfl | hlt
    · have := List.all_eq_true.1 h _ (List.mem_take_iff_getElem.2 ⟨k, by omega, rfl⟩)
      rw [hqk] at this; cases this
    · rfl
    · have := List.all_eq_true.1 hak _ (List.mem_take_iff_getElem.2 ⟨i, by omega, rfl⟩)
      rw [hq] at this; cases this
theorem varB_ownN {w : World} {base n k : Nat} {e : TypeId} {v : Value} {xs : List Value} (h : w.ownsRow base e k v n xs) {g : Nat} (hg : v.ownBlock = some g) : VarB w g xs := by
  have h0 := h
  obtain ⟨hl, hcase⟩ := h
  rcases hcase with ⟨rfl, _⟩ | ⟨g', cap, cur, rfl, _, hh, hn, _, hsz, ht⟩
  · cases hg
  · cases hg
    have hc := h0.cells (g := g') rfl
    refine ⟨fun j u hj => ?_, fun j hj => ⟨?_, by simp [World.frozen?, hh]⟩, (Array.getElem?_eq_some_iff.1 hh).1⟩
    · have := hc j u hj; rwa [WideShapes.add_plain] at this
    · have := hc j _ (List.getElem?_eq_getElem hj); rw [WideShapes.add_plain] at this; rw [this]; rfl
theorem own_setsN {w0 : World} {base g n cap size : Nat} {e : TypeId} : ∀ (zs : List Value) (o : Nat) (w : World) (xs : List Value), w.ownsRow base e size (.slice (some ⟨g, 0, none⟩) n cap) n xs → w0.grownBy w (some g) →
    ∃ ys, (w.setCells g o zs).ownsRow base e size (.slice (some ⟨g, 0, none⟩) n cap) n ys ∧ ys.take o = xs.take o ∧ w0.grownBy (w.setCells g o zs) (some g)
  | [], o, w, xs, h, hg => ⟨xs, h, rfl, hg⟩
  | z :: zs, o, w, xs, h, hg => by
    have s1 := World.ownsRow.stored h o z
    obtain ⟨ys, h1, h2, h3⟩ := own_setsN zs (o + 1) (w.setCell ⟨g, o, none⟩ z) _ s1.1 (hg.trans s1.2)
    refine ⟨ys, h1, ?_, h3⟩
    have := congrArg (List.take o) h2
    rw [List.take_take, List.take_take, Nat.min_eq_left (by omega), List.take_set_of_le (by omega)] at this
    exact this
theorem own_cutN {w : World} {base g n cap k size : Nat} {e : TypeId} {xs : List Value} (h : w.ownsRow base e size (.slice (some ⟨g, 0, none⟩) n cap) n xs) (hk : k ≤ n) : w.ownsRow base e size (.slice (some ⟨g, 0, none⟩) k cap) k (xs.take (k * size)) := by
  obtain ⟨hl, hcase⟩ := h
  have hks : k * size ≤ n * size := Nat.mul_le_mul_right _ hk
  rcases hcase with ⟨e1, _⟩ | ⟨g', cap', cur, e1, hb, hh, hnc, hcm, hcs, ht⟩
  · cases e1
  · cases e1
    refine ⟨by rw [List.length_take]; omega, .inr ⟨_, _, cur, rfl, hb, hh, by omega, hcm, hcs, ?_⟩⟩
    rw [← ht, List.take_take, Nat.min_eq_left hks]
/-- What holds until the list's own block is written: kept by what comes behind, and by a store into that block. -/
structure KeepS (S : World → Prop) (g : Option Nat) : Prop where
  below : ∀ W W', S W → Below W.heap.size W W' → S W'
  set : ∀ W k o u, g = some k → S W → S (W.setCell ⟨k, o, none⟩ u)
structure AskS (S : World → Prop) (b3 b8 : Nat) (E : List ByteArray) (q : ByteArray → Bool) : Prop where
  out : ∀ e ∈ E, ∀ W, S W → Calls Try.prog 27 #[.string e, .pointer (some ⟨b3, 0, none⟩), .pointer (some ⟨b8, 0, none⟩)] W fun e' w' => e' = .returned (.bool (q e)) ∧ Below W.heap.size W w'
set_option maxHeartbeats 1000000 in
set_option maxRecDepth 100000 in
theorem indexF_any (S : World → Prop) (g : Option Nat) (b3 b8 : Nat) (a : Option Addr) (c : Nat) (E : List ByteArray) (q : ByteArray → Bool) (w : World) (h : StrsA w a E) (hfew : E.length ≤ 1000000) (KP : KeepS S g) (hS0 : S w) (CP : AskS S b3 b8 E q) :
    Calls Try.prog 37 #[.slice a E.length c, .func (.func 27) #[] #[.pointer (some ⟨b3, 0, none⟩), .pointer (some ⟨b8, 0, none⟩)]] w fun e w' => (∃ r : Int, e = .returned (.int .i64 r) ∧ FirstN E q r) ∧ Below w.heap.size w w' := by
  have A := hid0 h
  have HC := hid0 CP
  have HK := hid0 KP
  have HS0 := hid0 hS0
  clear h CP KP hS0
  go_enter Try.func37, Try.ntmps37
  go_wp2
  go_loopw [8] (fun iv wr => ∃ i : Nat, i ≤ E.length ∧ iv = .int .i64 i ∧ Hid ((E.take i).all (fun x => !q x) = true) ∧ Below w.heap.size w wr) (fun iv _ => E.length - (intOf iv).toNat)
  case atStart => exact ⟨0, Nat.zero_le _, rfl, hid0 rfl, Below.refl _ _⟩
  case round =>
    obtain ⟨i, hi, rfl, hO, hB⟩ := hrel
    have hsz := hB.size
    by_cases hlt : i < E.length
    · obtain ⟨b1, o1, rfl, hc1⟩ := (A.out.later hB).out (by intro e; rw [e] at hlt; exact absurd hlt (by simp))
      have q0 := hc1 i hlt
      clear hc1
      have hmem := List.getElem_mem hlt
      have hnext := hid0 (fun hf => all_nextN hlt hO.out hf)
      have CX := HC.out.out _ hmem wr (HK.out.below _ _ HS0.out hB)
      have HF := hid0 (fun hx : q E[i] = true => (Or.inr ⟨i, rfl, hlt, hx, hO.out⟩ : FirstN E q (i : Int)))
      generalize E[i] = x at q0 hmem hnext CX HF
      have CX := hid0 CX
      clear hmem
      generalize q x = ra at CX hnext HF
      cases ra with
      | true =>
        go_wp2_with (go_at_call 27; go_must (refine CX.out.mono ?_; rintro e wn ⟨rfl, hbn⟩))
        go_ret
        exact ⟨⟨i, rfl, HF.out (by trivial)⟩, below_through hbn hsz hB⟩
      | false =>
        go_wp2_with (go_at_call 27; go_must (refine CX.out.mono ?_; rintro e wn ⟨rfl, hbn⟩))
        exact ⟨⟨i + 1, by omega, by go_num, hid0 (hnext.out (by trivial)), below_through hbn hsz hB⟩, by simp [intOf]; omega⟩
    · have hie : ¬ (i : Int) < E.length := by omega
      rw [List.take_of_length_le (by omega)] at hO
      go_wp2
      go_ret
      exact ⟨⟨-1, rfl, Or.inl ⟨rfl, hO.out⟩⟩, hB⟩
theorem strs_set (F : List ByteArray) (i : Nat) (s : ByteArray) : (strs F).set i (.string s) = strs (F.set i s) := by
  unfold strs
  rw [List.map_set]
theorem SRow.set {w0 w : World} {g cap n : Nat} {F : List ByteArray} (h : SRow w0 w (.slice (some ⟨g, 0, none⟩) n cap) F) (hn : F.length = n) {i : Nat} {s : ByteArray} :
    SRow w0 (w.setCell ⟨g, i, none⟩ (.string s)) (.slice (some ⟨g, 0, none⟩) n cap) (F.set i s) := by
  subst hn
  have s1 := World.ownsRow.stored h.own i (.string s)
  refine ⟨?_, h.b.grown s1.2 h.b.size (fun k hk => h.lo k hk)⟩
  have := s1.1
  rw [strs_set] at this
  rw [List.length_set]
  exact this
theorem SRow.cut {w0 w : World} {g cap n k : Nat} {F : List ByteArray} (h : SRow w0 w (.slice (some ⟨g, 0, none⟩) n cap) F) (hn : F.length = n) (hk : k ≤ n) (zs : List Value) :
    SRow w0 (w.setCells g k zs) (.slice (some ⟨g, 0, none⟩) k cap) (F.take k) := by
  subst hn
  obtain ⟨ys, h1, h2, h3⟩ := own_setsN (w0 := w) zs k w _ h.own ⟨rfl, rfl, rfl, Nat.le_refl _, fun _ _ _ => rfl⟩
  refine ⟨?_, h.b.grown h3 h.b.size (fun k hk => h.lo k hk)⟩
  have := own_cutN h1 hk
  rw [Nat.mul_one, h2] at this
  rw [List.length_take, Nat.min_eq_left hk]
  unfold strs at this ⊢
  rw [List.map_take]
  exact this
/-- clear of a list's end. -/
theorem clear_strs (w : World) (b o n c : Nat) (hn : 0 < n) (ht : w.there b o n) :
    ∃ zs, ∀ ty, (Builtin.clear_ #[26] ty #[.slice (some ⟨b, o, none⟩) n c]).run Try.prog w = .ok (.tuple #[]) (w.setCells b o zs) := by
  refine ⟨(Builtin.zeroCells (Value.cells (.string ⟨#[]⟩)) n).toList, fun ty => ?_⟩
  have hl : (Builtin.zeroCells (Value.cells (.string ⟨#[]⟩)) n).toList.length = n := by simp [Builtin.zeroCells, Value.cells]
  have h1 : ∀ v ∈ (Builtin.zeroCells (Value.cells (.string ⟨#[]⟩)) n).toList, v.oneCell' = true := by
    intro v hv
    simp only [Builtin.zeroCells, Value.cells, Array.toList_map, List.mem_map] at hv
    obtain ⟨i, _, rfl⟩ := hv
    show (#[Value.string ⟨#[]⟩][i % 1]!).oneCell' = true
    rw [Nat.mod_one]
    rfl
  have hst := run_storeCells_cells (P := Try.prog) b o (Builtin.zeroCells (Value.cells (.string ⟨#[]⟩)) n).toList 0 w (by intro j hj; rw [hl] at hj; simpa using (ht j hj).1) (by intro j hj; rw [hl] at hj; simpa using (ht j hj).2) h1
  simp only [Nat.add_zero] at hst
  obtain ⟨m, rfl⟩ : ∃ m, n = m + 1 := ⟨n - 1, by omega⟩
  simp [Builtin.clear_, run_underlying Try.underlying26, hst]
set_option maxHeartbeats 4000000 in
set_option maxRecDepth 1000000 in
theorem deleteS_any (S : World → Prop) (b3 b8 : Nat) (v : Value) (E : List ByteArray) (q : ByteArray → Bool) (w0 w : World) (hM : SRow w0 w v E) (hsm : ∀ s ∈ E, s.size ≤ maxLen) (hfew : E.length ≤ 1000000) (KP : KeepS S v.ownBlock) (hS0 : S w) (CP : AskS S b3 b8 E q) :
    Calls Try.prog 26 #[v, .func (.func 27) #[] #[.pointer (some ⟨b3, 0, none⟩), .pointer (some ⟨b8, 0, none⟩)]] w fun e w' => ∃ v', e = .returned v' ∧ SRow w0 w' v' (E.filter fun x => !q x) := by
  have HC := hid0 CP
  have HM := hid0 hM
  have HK := hid0 KP
  have HS0 := hid0 hS0
  have HSM := hid0 hsm
  by_cases hall : E.all (fun x => !q x) = true
  · obtain ⟨a, c, rfl, hcap, hel⟩ := (hM.sl hsm).out
    have IX := hid0 (fun cc => (indexF_any S _ b3 b8 a cc E q w hel hfew KP hS0 CP).mono (R' := fun e w' => e = .returned (.int .i64 (-1)) ∧ Below w.heap.size w w') (by
      rintro e w' ⟨⟨r, rfl, hF⟩, hb⟩
      rcases hF with ⟨rfl, _⟩ | ⟨i, rfl, hi, hq, _⟩
      · exact ⟨rfl, hb⟩
      · have := List.all_eq_true.1 hall _ (List.getElem_mem hi)
        rw [hq] at this; cases this))
    have R := hid0 (filter_allN hall)
    clear hel CP hM hall KP hS0 hsm HK HS0 HC
    go_enter Try.func26, Try.ntmps26
    go_wp2_with (first | (go_at_call 37; go_must (refine (IX.out _).mono ?_; rintro e w1 ⟨rfl, hb1⟩)) | fail)
    go_ret
    exact ⟨_, rfl, by rw [R.out]; exact HM.out.below hb1⟩
  · obtain ⟨i, hi, hqi, hai⟩ := first_ofN hall
    obtain ⟨a, c, rfl, hcap, hel⟩ := (hM.sl hsm).out
    obtain ⟨g, rfl⟩ : ∃ g, a = some ⟨g, 0, none⟩ := by
      rcases hM.own.2 with ⟨_, h0⟩ | ⟨g, cap', cur, e, _⟩
      · omega
      · cases e; exact ⟨_, rfl⟩
    have IX := hid0 (fun cc => (indexF_any S _ b3 b8 (some ⟨g, 0, none⟩) cc E q w hel hfew KP hS0 CP).mono (R' := fun e w' => e = .returned (.int .i64 (i : Int)) ∧ Below w.heap.size w w') (by
      rintro e w' ⟨⟨r, rfl, hF⟩, hb⟩
      rw [first_isN hF hi hqi hai]
      exact ⟨rfl, hb⟩))
    have HD := hid0 (DelN.start hi hqi hai)
    clear hel CP hM hall hqi hai KP hS0 hsm
    obtain ⟨n, hn⟩ : ∃ n, E.length = n := ⟨_, rfl⟩
    rw [hn] at hi hfew hcap HM IX HK ⊢
    have HN := hid0 hn
    have hne : ((i : Int) == -1) = false := by simp
    clear hn
    go_enter Try.func26, Try.ntmps26
    go_wp2_with (first | (go_at_call 37; go_must (refine (IX.out _).mono ?_; rintro e w1 ⟨rfl, hb1⟩; (have HM1 := hid0 (HM.out.below hb1)); (have HS1 := hid0 (HK.out.below _ _ HS0.out hb1)))) | fail)
    clear HM hb1 HS0
    go_loopw [5, 6] (fun kv jv wr => ∃ (k j : Nat) (F : List ByteArray), kv = .int .i64 k ∧ jv = .int .i64 j ∧ j ≤ n ∧ k < j ∧ Hid (DelN E q j k F) ∧ Hid (SRow w0 wr (.slice (some ⟨g, 0, none⟩) n c) F) ∧ Hid (S wr)) (fun _ jv _ => n - (intOf jv).toNat)
    case atStart => exact ⟨i, i + 1, E, rfl, by go_num, by omega, by omega, HD, HM1, HS1⟩
    case round =>
      obtain ⟨k, j, F, rfl, rfl, hj, hk, hD, hM, hSr⟩ := hrel
      clear HM1 HD HS1
      have hFl : F.length = n := by rw [hD.out.len, HN.out]
      by_cases hlt : j < n
      · have VF := varB_ownN hM.out.own (g := g) rfl
        obtain ⟨hj', hFj⟩ := hD.out.at_ (show j < E.length by rw [HN.out]; exact hlt)
        have q0 := VF.cell j (u := .string F[j]) (by simp [strs, hj'])
        have hkF : k < F.length := by omega
        have qk := VF.cell k (u := .string F[k]) (by simp [strs, hkF])
        have fk := VF.frz k (by rw [strs_len]; omega)
        have hmem : F[j] ∈ E := by rw [hFj]; exact List.getElem_mem _
        have HQ1 := hid0 (fun hq : q F[j] = true => hD.out.skip (by rw [HN.out]; exact hlt) (by rw [← hFj]; exact hq))
        have HQ2 := hid0 (fun hq : q F[j] = false => by have := hD.out.put (by rw [HN.out]; exact hlt) (by rw [← hFj]; exact hq); rw [← hFj] at this; exact this)
        have CX := hid0 (HC.out.out _ hmem wr hSr.out)
        clear hFj VF hmem
        generalize F[j] = x at q0 HQ1 HQ2 CX
        generalize F[k] = z at qk
        have hgl : g < wr.heap.size := (hM.out.own.lt g rfl).2
        generalize q x = ra at CX HQ1 HQ2
        cases ra with
        | true =>
          go_wp2_with (first | (go_at_call 27; go_must (refine CX.out.mono ?_; rintro e wn ⟨rfl, hbn⟩)) | fail)
          exact ⟨⟨k, j + 1, F, rfl, by go_num, by omega, by omega, hid0 (HQ1.out (by trivial)), hid0 (hM.out.below hbn), hid0 (HK.out.below _ _ hSr.out hbn)⟩, by simp [intOf]; omega⟩
        | false =>
          go_wp2_with (first | (go_at_call 27; go_must (refine CX.out.mono ?_; rintro e wn ⟨rfl, hbn⟩; (have pk := cell_later hbn qk); (have ek : wn.frozen? ⟨g, k, none⟩ = false := (hbn.frozen (p := ⟨g, k, none⟩) hgl).trans fk))) | fail)
          exact ⟨⟨k + 1, j + 1, F.set k x, by go_num, by go_num, by omega, by omega, hid0 (HQ2.out (by trivial)), hid0 ((hM.out.below hbn).set hFl), hid0 (HK.out.set _ g _ _ rfl (HK.out.below _ _ hSr.out hbn))⟩, by simp [intOf]; omega⟩
      · obtain rfl : j = n := by omega
        have hltz : ¬ (j : Int) < (j : Int) := by omega
        have hth : wr.there g k (j - k) := fun t ht => by
          have := (varB_ownN hM.out.own (g := g) rfl).there (k + t) (by rw [strs_len]; omega)
          rwa [Nat.zero_add] at this
        obtain ⟨zs, hcl⟩ := clear_strs wr g k (j - k) (c - k) (by omega) hth
        have HR := hid0 (show F.take k = E.filter fun x => !q x by rw [hD.out.tk, List.take_of_length_le (by rw [HN.out]; omega)])
        have HC2 := hid0 (hM.out.cut hFl (show k ≤ j by omega) zs)
        clear hth
        go_wp2
        go_ret
        exact ⟨_, rfl, by rw [← HR.out]; exact HC2.out⟩
end Go.Proofs.Ytadlelhdjakmmaa
