/- Several of my texts laid together, each as it was: Hpb. Conditions: each names its own. -/
import Derived.Test.YtneebnankghhgaaHpa
import Derived.Deep.RegionHeld3
/- The project's heap: whether it may be; the first page that has room; its pages in new memory: contracts of the calls, in whatever memory. Conditions: the pages' cells are known. -/
namespace Go.Proofs.Ytneebnankghhgaa
open Go.RowKit

theorem trimH_len (h : Hp) : lastFull h = decide ((trimH h).length = h.length) := by
  by_cases e : (trimH h).length = h.length
  · have e2 : trimH h = h := List.ext_getElem? fun i => by
      rcases trimH_get h i with h1 | ⟨h1, h2⟩
      · exact h1
      · have h3 := List.getElem?_eq_none_iff.1 h1
        have h4 := (List.getElem?_eq_some_iff.1 h2).1
        omega
    have h1 := trimH_last h
    rw [e2] at h1
    rw [h1, decide_eq_true e]
  · rw [decide_eq_false e]
    cases hl : lastFull h with
    | false => rfl
    | true =>
      have h1 := trimH_append h [] (fun p hp => absurd hp (by simp)) hl
      rw [List.append_nil] at h1
      exact absurd (by rw [h1]) e
set_option maxHeartbeats 4000000 in
theorem hpRight_any (a : Option Addr) (c : Nat) (E : List PgE) (w : World) (h : HpAt w a c E) :
    Calls Try.prog 13 #[.agg #[.slice a E.length c]] w fun e w' => e = .returned (.bool (rightH (hp E))) ∧ Below w.heap.size w w' := by
  have A := hid0 h
  have hlb : E.length ≤ 5864062014805 := by have := h.len; omega
  clear h
  have hB0 : Below w.heap.size w (w.alloc (Obj.cells #[.slice a E.length c] 25)) := (Below.refl _ _).alloc (Nat.le_refl _) _
  have q : (w.alloc (Obj.cells #[.slice a E.length c] 25)).cell? ⟨w.heap.size, 0, none⟩ = some (.slice a E.length c) := by go_cell
  by_cases h4096 : E.length ≤ 4096
  · have hni : ¬ (4096 : Int) < (E.length : Int) := by omega
    have C40 := fun W (hb : Below w.heap.size w W) => hpContains_any a c E W (A.out.later hb)
    have HRB : rightH (hp E) = ((hp E).all rightB && lastFull (hp E)) := by unfold rightH; rw [hp_len]; simp [h4096]
    cases hall : (hp E).all rightB with
    | false =>
      rw [hall] at C40 HRB
      have HR := hid0 HRB
      clear hall HRB
      go_enter Try.func13, Try.ntmps13
      go_wp2_with (go_at_call 24; go_must (refine (C40 _ hB0).mono ?_; rintro e w1 ⟨rfl, hb⟩; have q1 := cell_later hb q; have hB1 := below_through hb hB0.size hB0; clear hb C40))
      go_ret
      exact ⟨ret_bool (by rw [HR.out]; rfl), hB1⟩
    | true =>
      rw [hall] at C40 HRB
      have C35 := fun W (hb : Below w.heap.size w W) => hpTrimmed_any a c E W (A.out.later hb).cellsH A.out.cap A.out.len
      have htl := trimH_len (hp E)
      rw [hp_len] at htl
      have htle := trimH_le (hp E)
      rw [hp_len] at htle
      obtain ⟨tl, htl'⟩ : ∃ tl, (trimH (hp E)).length = tl := ⟨_, rfl⟩
      rw [htl'] at htl C35 htle
      rw [htl, Bool.true_and] at HRB
      have HR := hid0 HRB
      clear hall HRB htl htl'
      have heb : ((tl : Int) == (E.length : Int)) = decide (tl = E.length) := by
        by_cases h : tl = E.length
        · subst h; simp
        · rw [decide_eq_false h]; simpa using (show ¬ (tl : Int) = (E.length : Int) by omega)
      by_cases he : tl = E.length
      · obtain rfl := he
        rw [decide_eq_true rfl] at HR
        clear heb htle
        go_enter Try.func13, Try.ntmps13
        go_wp2_with (go_at_call 24; go_must (refine (C40 _ hB0).mono ?_; rintro e w1 ⟨rfl, hb⟩; have q1 := cell_later hb q; have hB1 := below_through hb hB0.size hB0; clear hb C40))
        clear q hB0
        go_region_held3 (fun w' => w'.cell? ⟨w.heap.size, 0, none⟩ = some (.slice a E.length c) ∧ Below w.heap.size w w')
          ((go_split_ands; (try dsimp only); (repeat' apply And.intro); all_goals (first
            | assumption
            | exact cell_later hbn ‹_›
            | exact below_through hbn (Below.size ‹Below w.heap.size w _›) ‹_›
            | exact Below.drew hB1
            | go_keep)))
          (first
            | (go_at_call 19; (try go_split_ands); refine (C35 _ (by assumption)).mono ?_; rintro e wn ⟨rfl, hbn⟩))
        go_split_ands
        go_wp2
        go_ret
        exact ⟨ret_bool HR.out.symm, by assumption⟩
      · rw [decide_eq_false he] at HR heb
        have hne : ¬ (tl : Int) = E.length := by omega
        clear he htle
        go_enter Try.func13, Try.ntmps13
        go_wp2_with (go_at_call 24; go_must (refine (C40 _ hB0).mono ?_; rintro e w1 ⟨rfl, hb⟩; have q1 := cell_later hb q; have hB1 := below_through hb hB0.size hB0; clear hb C40))
        clear q hB0
        go_region_held3 (fun w' => w'.cell? ⟨w.heap.size, 0, none⟩ = some (.slice a E.length c) ∧ Below w.heap.size w w')
          ((go_split_ands; (try dsimp only); (repeat' apply And.intro); all_goals (first
            | assumption
            | exact cell_later hbn ‹_›
            | exact below_through hbn (Below.size ‹Below w.heap.size w _›) ‹_›
            | exact Below.drew hB1
            | go_keep)))
          (first
            | (go_at_call 19; (try go_split_ands); refine (C35 _ (by assumption)).mono ?_; rintro e wn ⟨rfl, hbn⟩))
        go_split_ands
        go_wp2
        go_ret
        exact ⟨ret_bool HR.out.symm, by assumption⟩
  · have hr : rightH (hp E) = false := by unfold rightH; rw [hp_len]; simp [h4096]
    have HR := hid0 hr
    have hgt : (4096 : Int) < (E.length : Int) := by omega
    clear hr q
    go_enter Try.func13, Try.ntmps13
    go_wp2
    go_ret
    exact ⟨ret_bool HR.out.symm, hB0⟩

/-! ### The first page that has room -/
set_option maxHeartbeats 2000000 in
theorem hpRoomy_any (a : Option Addr) (c : Nat) (E : List PgE) (n : Int) (w : World) (h : HpAt w a c E) (hn1 : -9223372036854775808 ≤ n) (hn2 : n ≤ 9223372036854775807) :
    Calls Try.prog 15 #[.slice a E.length c, .int .i64 n] w fun e w' => e = .returned (.int .i64 (fitH n (hp E) : Nat)) ∧ Below w.heap.size w w' := by
  have A := hid0 h
  have hlb : E.length ≤ 5864062014805 := by have := h.len; omega
  have HN := hid0 (And.intro hn1 hn2)
  clear h hn1 hn2
  go_enter Try.func15, Try.ntmps15
  go_wp2
  go_loopw [9] (fun iv wr => ∃ i : Nat, i ≤ E.length ∧ iv = .int .i64 i ∧ Hid (i + fitH n ((hp E).drop i) = fitH n (hp E)) ∧ Below w.heap.size w wr) (fun iv _ => E.length - (intOf iv).toNat)
  case atStart => exact ⟨0, Nat.zero_le _, rfl, hid0 (by simp), Below.refl _ _⟩
  case round =>
    obtain ⟨i, hi, rfl, hF, hB⟩ := hrel
    have hsz := hB.size
    by_cases hlt : i < E.length
    · have hne : E ≠ [] := by intro e; rw [e] at hlt; exact absurd hlt (by simp)
      obtain ⟨b, o, rfl, hc⟩ := (A.out.later hB).cells hne
      have q0 := hc i hlt
      clear hc
      have hP := (A.out.pages _ (List.getElem_mem hlt)).later hB
      have hlt' : i < (hp E).length := by rw [hp_len]; exact hlt
      have hBA := hB.alloc hsz (Obj.cells #[.slice E[i].a E[i].p.length E[i].c] 55)
      have hPA := hP.alloc (Obj.cells #[.slice E[i].a E[i].p.length E[i].c] 55)
      have CF := pgFits_any E[i].a E[i].c E[i].p n _ hPA.out hPA.cap hPA.len hPA.small HN.out.1 HN.out.2
      have hstop := hid0 (fun hu => fitH_stop hF.out hlt' hu)
      have hgo := hid0 (fun hu => fitH_go hF.out hlt' hu)
      rw [hp_at hlt] at hstop hgo
      obtain ⟨fb, hfb⟩ : ∃ fb, fitsB E[i].p n = fb := ⟨_, rfl⟩
      rw [hfb] at CF hstop hgo
      clear hfb hP hPA
      cases fb with
      | true =>
        go_wp2_with (go_at_call 27; go_must (refine CF.mono ?_; rintro e wn ⟨rfl, hbn⟩))
        go_ret
        exact ⟨ret_i64 (by rw [hstop.out (by trivial)]), below_through hbn hBA.size hBA⟩
      | false =>
        go_wp2_with (go_at_call 27; go_must (refine CF.mono ?_; rintro e wn ⟨rfl, hbn⟩))
        exact ⟨⟨i + 1, by omega, by go_num, hid0 (hgo.out (by trivial)), below_through hbn hBA.size hBA⟩, by simp [intOf]; omega⟩
    · have hie : ¬ (i : Int) < E.length := by omega
      have HF := hid0 (show fitH n (hp E) = E.length by
        have h := hF.out
        rw [List.drop_eq_nil_of_le (by rw [hp_len]; omega)] at h
        simp only [fitH] at h
        omega)
      go_wp2
      go_ret
      exact ⟨ret_i64 (by rw [HF.out]), hB⟩

/-! ### Its pages in new memory -/
theorem own_none (w : World) (base : Nat) : OwnH w base (.slice none 0 0) [] := ⟨World.ownsRow_nil w base 55 1⟩
set_option maxHeartbeats 1000000 in
theorem pagesClone_any (a : Option Addr) (c : Nat) (E : List PgE) (w : World) (h : HCells w a E) (hl : E.length * 24 ≤ 140737488351232) :
    Calls Try.prog 26 #[.slice a E.length c] w fun e w' => (∃ v, e = .returned v ∧ OwnH w' w.heap.size v E) ∧ Below w.heap.size w w' := by
  obtain ⟨i0, hi, hz0, hz1, hz2⟩ := info_parts info62
  have hown : (w.alloc (Obj.cells #[] 55)).ownsRow w.heap.size 55 1 (.slice (some ⟨w.heap.size, 0, none⟩) 0 0) 0 [] := World.ownsRow_made w #[] 0 (Nat.le_refl _) (by unfold maxLen; omega) rfl
  have hB0 : Below w.heap.size w (w.alloc (Obj.cells #[] 55)) := (Below.refl _ _).alloc (Nat.le_refl _) _
  by_cases hne : E = []
  · subst hne
    cases a with
    | none =>
      have hq : ∀ W : World, (binOp .eql 23 (.slice none 0 c) (.slice none 0 0)).run Try.prog W = .ok (.bool true) W := fun W => (Lib.run_eql_slice_nil W _ _ none 0 c 0 0 Try.underlying23)
      go_enter Try.func26, Try.ntmps26
      go_wp2
      go_ret
      exact ⟨⟨_, rfl, own_none _ _⟩, Below.refl _ _⟩
    | some ad =>
      have hq : ∀ W : World, (binOp .eql 23 (.slice (some ad) 0 c) (.slice none 0 0)).run Try.prog W = .ok (.bool false) W := fun W => (Lib.run_eql_slice_nil W _ _ (some ad) 0 c 0 0 Try.underlying23)
      go_enter Try.func26, Try.ntmps26
      go_wp2_with (at_builtin; go_must (refine wpList_append_own _ rfl _ _ 23 rfl w.heap.size 55 i0 (.agg #[.slice none 0 0]) 1 24 Try.underlying23 hi hz0 hz1 hz2 rfl (by decide) _ _ _ rfl hown ad 0 c [] rfl rfl (fun j u h => by simp at h) (fun u h => by simp at h) ?c3 ?c4 ?c5 ?_))
      case c3 => unfold maxLen; omega
      case c4 => omega
      case c5 => simp
      intro v' w1 hown' hgrow _
      have hB1 : Below w.heap.size w w1 := hB0.grown hgrow (by simp) (fun k hk => (hown.lt k hk).1)
      have HO : OwnH w1 w.heap.size v' [] := ⟨by simpa [pgCells] using hown'⟩
      clear hown' hgrow hown
      obtain ⟨a', c', rfl, _, _, _⟩ := pgs_owned HO
      go_wp2
      go_ret
      exact ⟨⟨_, rfl, HO⟩, hB1⟩
  · obtain ⟨b, off, rfl, hc⟩ := h hne
    have h' := pgCells_of (HCells.later (fun _ => ⟨b, off, rfl, hc⟩ : HCells w (some ⟨b, off, none⟩) E) hB0)
    have HN := hid0 h'
    clear hc h h'
    have hq : ∀ W : World, (binOp .eql 23 (.slice (some ⟨b, off, none⟩) E.length c) (.slice none 0 0)).run Try.prog W = .ok (.bool false) W := fun W => (Lib.run_eql_slice_nil W _ _ (some ⟨b, off, none⟩) E.length c 0 0 Try.underlying23)
    go_enter Try.func26, Try.ntmps26
    go_wp2_with (at_builtin; go_loud (refine wpList_append_own _ rfl _ _ 23 rfl w.heap.size 55 i0 (.agg #[.slice none 0 0]) 1 24 Try.underlying23 hi hz0 hz1 hz2 rfl (by decide) _ _ _ rfl hown ⟨b, off, none⟩ E.length c (pgCells E) rfl (pgCells_len E) HN.out (pgCells_one E) ?c3 ?c4 ?c5 ?_))
    case c3 => unfold maxLen; omega
    case c4 => omega
    case c5 => simp
    intro v' w1 hown' hgrow _
    have hB1 : Below w.heap.size w w1 := hB0.grown hgrow (by simp) (fun k hk => (hown.lt k hk).1)
    have HO : OwnH w1 w.heap.size v' E := ⟨by simpa using hown'⟩
    clear hown' hgrow hown
    obtain ⟨a', c', rfl, _, _, _⟩ := pgs_owned HO
    go_wp2
    go_ret
    exact ⟨⟨_, rfl, HO⟩, hB1⟩
set_option maxHeartbeats 1000000 in
theorem hpCopied_any (a : Option Addr) (c : Nat) (E : List PgE) (w : World) (h : HCells w a E) (hl : E.length * 24 ≤ 140737488351232) :
    Calls Try.prog 14 #[.agg #[.slice a E.length c]] w fun e w' => (∃ v, e = .returned (.agg #[v]) ∧ OwnH w' w.heap.size v E) ∧ Below w.heap.size w w' := by
  have hB0 : Below w.heap.size w ((w.alloc (Obj.cells #[.slice a E.length c] 25)).alloc (Obj.cells #[.slice none 0 0] 25)) := ((Below.refl _ _).alloc (Nat.le_refl _) _).alloc (by simp) _
  have C := pagesClone_any a c E _ (h.later hB0) hl
  have v0 := (VarAt.new w (.slice a E.length c) 25).alloc (Obj.cells #[.slice none 0 0] 25)
  have v1 := VarAt.new (w.alloc (Obj.cells #[.slice a E.length c] 25)) (.slice none 0 0) 25
  rw [World.size_alloc] at v1
  obtain ⟨q0, f0⟩ := v0
  clear h
  go_enter Try.func14, Try.ntmps14
  go_wp2_with (go_at_call 26; go_must (refine C.mono ?_; rintro e w1 ⟨⟨v, rfl, hown⟩, hb⟩; obtain ⟨q1, f1⟩ := v1.later hb; have hB1 := below_through hb hB0.size hB0; obtain ⟨a', c', rfl, _, _, _⟩ := pgs_owned hown))
  have x1 := ((VarAt.mk q1 f1).set (.slice a' E.length c')).cell
  have hO := (hown.setCell (a := ⟨w.heap.size + 1, 0, none⟩) (by show w.heap.size + 1 < _; simp) (.slice a' E.length c')).base (base' := w.heap.size) (by simp; omega)
  have hB2 := hB1.setCell (p := ⟨w.heap.size + 1, 0, none⟩) (by show w.heap.size ≤ w.heap.size + 1; omega) (.slice a' E.length c')
  exact bodyPost_ret (v := .agg #[.slice a' E.length c']) (by simp [results, Try.results14, go_sem, x1]) rfl ⟨⟨_, rfl, hO⟩, hB2⟩
end Go.Proofs.Ytneebnankghhgaa
