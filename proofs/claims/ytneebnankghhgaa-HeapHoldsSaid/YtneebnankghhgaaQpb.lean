/- Several of my texts laid together, each as it was: Qpb. Conditions: each names its own. -/
import Derived.Test.YtneebnankghhgaaQpa
import Derived.Deep.RegionHeld3
/- The project's page: whether a page may be, whether a row of so many bytes fits: contracts of the calls, in whatever memory. Conditions: the slots' cells are known. -/
namespace Go.Proofs.Ytneebnankghhgaa
open Go.RowKit

theorem trim_len (p : Pg) : lastUsed p = decide ((trimP p).length = p.length) := by
  cases h : lastUsed p with
  | true => rw [trimP_last h]; simp
  | false =>
    rcases snoc_cases p with rfl | ⟨q, s, rfl⟩
    · cases h
    · rw [last_snoc] at h
      obtain ⟨u, d⟩ := s
      dsimp only at h
      subst h
      rw [trimP_snoc]
      have := trimP_le q
      simp; omega

set_option maxHeartbeats 4000000 in
theorem pgRight_any (a : Option Addr) (c : Nat) (p : Pg) (w : World) (h : SlotsAt w a p) (hc : p.length ≤ c) (hl : p.length * 24 ≤ 140737488351232) (hs : slotsIn p) :
    Calls Try.prog 28 #[.agg #[.slice a p.length c]] w fun e w' => e = .returned (.bool (rightB p)) ∧ Below w.heap.size w w' := by
  have A := hid0 h
  have HS := hid0 hs
  have HL := hid0 hl
  have HC := hid0 hc
  clear h hs hc
  by_cases h256 : p.length ≤ 256
  · have C36 := fun W (hb : Below w.heap.size w W) => pgContains_any a c p W (A.out.later hb) HL.out HS.out
    have hB0 : Below w.heap.size w (w.alloc (Obj.cells #[.slice a p.length c] 55)) := (Below.refl _ _).alloc (Nat.le_refl _) _
    have q : (w.alloc (Obj.cells #[.slice a p.length c] 55)).cell? ⟨w.heap.size, 0, none⟩ = some (.slice a p.length c) := by go_cell
    cases hall : p.all okS with
    | false =>
      have hr : rightB p = false := by rw [rightB_all, hall]; simp
      rw [hall] at C36
      have HR := hid0 hr
      clear hr hall
      go_enter Try.func28, Try.ntmps28
      go_wp2_with (go_at_call 36; go_must (refine (C36 _ hB0).mono ?_; rintro e w1 ⟨rfl, hb⟩; have q1 := cell_later hb q; have hB1 := below_through hb hB0.size hB0; clear hb C36))
      go_ret
      exact ⟨ret_bool HR.out.symm, hB1⟩
    | true =>
      have hw := sizeW_small hall h256
      have HRB : Hid (rightB p = (decide (sizeP p ≤ 1024) && lastUsed p)) := hid0 (by rw [rightB_all, hall]; simp [h256])
      rw [hall] at C36
      have C21 := fun W (hb : Below w.heap.size w W) => pgSize_any a c p W (A.out.later hb) HL.out HS.out
      rw [hw] at C21
      have C35 := fun W (hb : Below w.heap.size w W) => pgTrimmed_any a c p W (A.out.later hb) HC.out HL.out
      have hsl := all_size hall
      obtain ⟨sz, hsz⟩ : ∃ sz, sizeP p = sz := ⟨_, rfl⟩
      rw [hsz] at C21 HRB hsl
      clear hall hw hsz
      by_cases hs : sz ≤ 1024
      · have hsi : (sz : Int) ≤ 1024 := by omega
        have htl := trim_len p
        have hd : decide (sz ≤ 1024) = true := by simpa using hs
        rw [hd, Bool.true_and] at HRB
        clear hd
        obtain ⟨tl, htl'⟩ : ∃ tl, (trimP p).length = tl := ⟨_, rfl⟩
        rw [htl'] at htl C35
        cases hlu : lastUsed p with
        | true =>
          rw [hlu] at htl HRB
          obtain rfl : tl = p.length := by simpa using htl.symm
          clear htl htl' hlu
          go_enter Try.func28, Try.ntmps28
          go_wp2_with (go_at_call 36; go_must (refine (C36 _ hB0).mono ?_; rintro e w1 ⟨rfl, hb⟩; have q1 := cell_later hb q; have hB1 := below_through hb hB0.size hB0; clear hb C36))
          clear q hB0
          go_region_held3 (fun w' => w'.cell? ⟨w.heap.size, 0, none⟩ = some (.slice a p.length c) ∧ Below w.heap.size w w')
            ((go_split_ands; (try dsimp only); (repeat' apply And.intro); all_goals (first
              | assumption
              | exact cell_later hbn ‹_›
              | exact below_through hbn (Below.size ‹Below w.heap.size w _›) ‹_›
              | exact Below.drew hB1
              | go_keep)))
            (first
              | (go_at_call 32; (try go_split_ands); refine (C21 _ (by assumption)).mono ?_; rintro e wn ⟨rfl, hbn⟩)
              | (go_at_call 31; (try go_split_ands); refine (C35 _ (by assumption)).mono ?_; rintro e wn ⟨rfl, hbn⟩))
          go_split_ands
          go_wp2
          go_ret
          exact ⟨ret_bool HRB.out.symm, by assumption⟩
        | false =>
          rw [hlu] at htl HRB
          have hne : ¬ (tl : Int) = p.length := by
            have : ¬ tl = p.length := by simpa using htl.symm
            omega
          have hne2 : ((tl : Int) == (p.length : Int)) = false := by simpa using hne
          clear htl htl' hlu
          go_enter Try.func28, Try.ntmps28
          go_wp2_with (go_at_call 36; go_must (refine (C36 _ hB0).mono ?_; rintro e w1 ⟨rfl, hb⟩; have q1 := cell_later hb q; have hB1 := below_through hb hB0.size hB0; clear hb C36))
          clear q hB0
          go_region_held3 (fun w' => w'.cell? ⟨w.heap.size, 0, none⟩ = some (.slice a p.length c) ∧ Below w.heap.size w w')
            ((go_split_ands; (try dsimp only); (repeat' apply And.intro); all_goals (first
              | assumption
              | exact cell_later hbn ‹_›
              | exact below_through hbn (Below.size ‹Below w.heap.size w _›) ‹_›
              | exact Below.drew hB1
              | go_keep)))
            (first
              | (go_at_call 32; (try go_split_ands); refine (C21 _ (by assumption)).mono ?_; rintro e wn ⟨rfl, hbn⟩)
              | (go_at_call 31; (try go_split_ands); refine (C35 _ (by assumption)).mono ?_; rintro e wn ⟨rfl, hbn⟩))
          go_split_ands
          go_wp2
          go_ret
          exact ⟨ret_bool HRB.out.symm, by assumption⟩
      · have hsi : ¬ (sz : Int) ≤ 1024 := by omega
        have hsb : decide ((sz : Int) ≤ 1024) = false := by simpa using hsi
        have hd : decide (sz ≤ 1024) = false := by simpa using hs
        rw [hd, Bool.false_and] at HRB
        clear hd C35
        go_enter Try.func28, Try.ntmps28
        go_wp2_with (go_at_call 36; go_must (refine (C36 _ hB0).mono ?_; rintro e w1 ⟨rfl, hb⟩; have q1 := cell_later hb q; have hB1 := below_through hb hB0.size hB0; clear hb C36))
        clear q hB0
        refine wp_region_held_drew (S := fun w' => w'.cell? ⟨w.heap.size, 0, none⟩ = some (.slice a p.length c) ∧ Below w.heap.size w w') (by kernel_rfl) ⟨q1, Below.drew hB1⟩ (fun hHeld => ?_)
        refine wpAnyH_take (i := 0) (v := ?_) rfl (by kernel_rfl) (by kernel_rfl) (by kernel_rfl) (fun _ _ _ h => h) (Or.inl ⟨by rfl, ?_⟩) (by assumption) ?_
        rotate_left
        · (intro wx hSw; (try dsimp only at hSw); go_split_ands; go_simp; (try with_reducible rfl))
        (try simp only [Act.put, List.setIfInBounds_toArray, List.set_cons_zero, List.set_cons_succ, List.getElem_toArray, List.getElem_cons_zero])
        refine wpAnyH_ready (rs := [1]) (by kernel_rfl) (by simp) ?_
        refine AllReadyH.cons rfl (fun K hK => ?_) AllReadyH.nil
        go_simp
        refine (C21 _ (Below.drew hB1)).mono ?_
        rintro e wn ⟨rfl, hbn⟩
        refine hK.out _ _ ⟨cell_later hbn hHeld.1, below_through hbn hHeld.2.size hHeld.2⟩ (fun hHeld => ?_)
        clear hK K
        (try simp only [Act.put, List.setIfInBounds_toArray, List.set_cons_zero, List.set_cons_succ, List.getElem_toArray, List.getElem_cons_zero, List.getElem_cons_succ])
        refine wpAnyH_take (i := 2) (v := .bool false) rfl (by kernel_rfl) (by kernel_rfl) (by kernel_rfl) (fun _ _ _ h => h) (Or.inl ⟨by rfl, ?_⟩) (by assumption) ?_
        · (intro wx hSw; (try dsimp only at hSw); go_split_ands; go_simp; (try with_reducible rfl))
        (try simp only [Act.put, List.setIfInBounds_toArray, List.set_cons_zero, List.set_cons_succ, List.getElem_toArray, List.getElem_cons_zero, List.getElem_cons_succ])
        refine wpAnyH_take (i := 3) (v := ?_) rfl (by kernel_rfl) (by kernel_rfl) (by kernel_rfl) (fun _ _ _ h => h) (Or.inl ⟨by rfl, ?_⟩) (by assumption) ?_
        rotate_left
        · (intro wx hSw; (try dsimp only at hSw); go_split_ands; go_simp; (try with_reducible rfl))
        (try simp only [Act.put, List.setIfInBounds_toArray, List.set_cons_zero, List.set_cons_succ, List.getElem_toArray, List.getElem_cons_zero, List.getElem_cons_succ])
        refine wpAnyH_take (i := 4) (v := undef) rfl (by kernel_rfl) (by kernel_rfl) (by kernel_rfl) (fun _ _ _ h => h) (Or.inr ⟨by rfl, rfl⟩) (by assumption) ?_
        (try simp only [Act.put, List.setIfInBounds_toArray, List.set_cons_zero, List.set_cons_succ, List.getElem_toArray, List.getElem_cons_zero, List.getElem_cons_succ])
        refine wpAnyH_take (i := 5) (v := undef) rfl (by kernel_rfl) (by kernel_rfl) (by kernel_rfl) (fun _ _ _ h => h) (Or.inr ⟨by rfl, rfl⟩) (by assumption) ?_
        (try simp only [Act.put, List.setIfInBounds_toArray, List.set_cons_zero, List.set_cons_succ, List.getElem_toArray, List.getElem_cons_zero, List.getElem_cons_succ])
        refine wpAnyH_take (i := 6) (v := undef) rfl (by kernel_rfl) (by kernel_rfl) (by kernel_rfl) (fun _ _ _ h => h) (Or.inr ⟨by rfl, rfl⟩) (by assumption) ?_
        (try simp only [Act.put, List.setIfInBounds_toArray, List.set_cons_zero, List.set_cons_succ, List.getElem_toArray, List.getElem_cons_zero, List.getElem_cons_succ])
        refine wpAnyH_take (i := 7) (v := undef) rfl (by kernel_rfl) (by kernel_rfl) (by kernel_rfl) (fun _ _ _ h => h) (Or.inr ⟨by rfl, rfl⟩) (by assumption) ?_
        (try simp only [Act.put, List.setIfInBounds_toArray, List.set_cons_zero, List.set_cons_succ, List.getElem_toArray, List.getElem_cons_zero, List.getElem_cons_succ])
        refine wpAnyH_take (i := 8) (v := undef) rfl (by kernel_rfl) (by kernel_rfl) (by kernel_rfl) (fun _ _ _ h => h) (Or.inr ⟨by rfl, rfl⟩) (by assumption) ?_
        (try simp only [Act.put, List.setIfInBounds_toArray, List.set_cons_zero, List.set_cons_succ, List.getElem_toArray, List.getElem_cons_zero, List.getElem_cons_succ])
        refine wpAnyH_take (i := 9) (v := undef) rfl (by kernel_rfl) (by kernel_rfl) (by kernel_rfl) (fun _ _ _ h => h) (Or.inr ⟨by rfl, rfl⟩) (by assumption) ?_
        (try simp only [Act.put, List.setIfInBounds_toArray, List.set_cons_zero, List.set_cons_succ, List.getElem_toArray, List.getElem_cons_zero, List.getElem_cons_succ])
        refine wpAnyH_take (i := 10) (v := undef) rfl (by kernel_rfl) (by kernel_rfl) (by kernel_rfl) (fun _ _ _ h => h) (Or.inr ⟨by rfl, rfl⟩) (by assumption) ?_
        (try simp only [Act.put, List.setIfInBounds_toArray, List.set_cons_zero, List.set_cons_succ, List.getElem_toArray, List.getElem_cons_zero, List.getElem_cons_succ])
        refine wpAnyH_take (i := 11) (v := undef) rfl (by kernel_rfl) (by kernel_rfl) (by kernel_rfl) (fun _ _ _ h => h) (Or.inr ⟨by rfl, rfl⟩) (by assumption) ?_
        (try simp only [Act.put, List.setIfInBounds_toArray, List.set_cons_zero, List.set_cons_succ, List.getElem_toArray, List.getElem_cons_zero, List.getElem_cons_succ])
        refine wpAnyH_take (i := 12) (v := ?_) rfl (by kernel_rfl) (by kernel_rfl) (by kernel_rfl) (fun _ _ _ h => h) (Or.inl ⟨by rfl, ?_⟩) (by assumption) ?_
        rotate_left
        · (intro wx hSw; (try dsimp only at hSw); go_split_ands; go_simp; (try with_reducible rfl))
        (try simp only [Act.put, List.setIfInBounds_toArray, List.set_cons_zero, List.set_cons_succ, List.getElem_toArray, List.getElem_cons_zero, List.getElem_cons_succ])
        refine wpAnyH_take (i := 13) (v := ?_) rfl (by kernel_rfl) (by kernel_rfl) (by kernel_rfl) (fun _ _ _ h => h) (Or.inl ⟨by rfl, ?_⟩) (by assumption) ?_
        rotate_left
        · (intro wx hSw; (try dsimp only at hSw); go_split_ands; go_simp; (try with_reducible rfl))
        (try simp only [Act.put, List.setIfInBounds_toArray, List.set_cons_zero, List.set_cons_succ, List.getElem_toArray, List.getElem_cons_zero, List.getElem_cons_succ])
        refine wpAnyH_done (by kernel_rfl) ?_ _
        go_wp2
        go_ret
        exact ⟨ret_bool HRB.out.symm, hHeld.2⟩
  · have hr : rightB p = false := by rw [rightB_all]; simp [h256]
    have HR := hid0 hr
    clear hr
    have hgt : (256 : Int) < p.length := by omega
    go_enter Try.func28, Try.ntmps28
    go_wp2
    go_ret
    exact ⟨ret_bool HR.out.symm, by go_grown⟩

theorem dec_room {n k : Int} {sz : Nat} {b : Bool} (hb : b = decide (n + k ≤ 1024 - (sz : Int))) (m : Int) (hm : m = n + k) : decide ((sz : Int) + m ≤ 1024) = b := by
  rw [hb, hm]
  exact decide_eq_decide.2 (by omega)
set_option maxHeartbeats 4000000 in
theorem pgFits_any (a : Option Addr) (c : Nat) (p : Pg) (n : Int) (w : World) (h : SlotsAt w a p) (hc : p.length ≤ c) (hl : p.length * 24 ≤ 140737488351232) (hs : slotsIn p) (hn1 : -9223372036854775808 ≤ n) (hn2 : n ≤ 9223372036854775807) :
    Calls Try.prog 27 #[.agg #[.slice a p.length c], .int .i64 n] w fun e w' => e = .returned (.bool (fitsB p n)) ∧ Below w.heap.size w w' := by
  have A := hid0 h
  have HS := hid0 hs
  have HL := hid0 hl
  have HC := hid0 hc
  clear h hs hc
  have C24 := fun W (hb : Below w.heap.size w W) => pgRight_any a c p W (A.out.later hb) HC.out HL.out HS.out
  have hB0 : Below w.heap.size w (w.alloc (Obj.cells #[.slice a p.length c] 55)) := (Below.refl _ _).alloc (Nat.le_refl _) _
  have q : (w.alloc (Obj.cells #[.slice a p.length c] 55)).cell? ⟨w.heap.size, 0, none⟩ = some (.slice a p.length c) := by go_cell
  cases hr : rightB p with
  | false =>
    have hf := hid0 (show fitsB p n = false by unfold fitsB; rw [hr]; rfl)
    rw [hr] at C24
    clear hr q hn1 hn2
    go_enter Try.func27, Try.ntmps27
    go_wp2_with (go_at_call 28; go_must (refine (C24 _ hB0).mono ?_; rintro e w1 ⟨rfl, hb⟩; have hB1 := below_through hb hB0.size hB0; clear hb C24))
    go_ret
    exact ⟨ret_bool hf.out.symm, hB1⟩
  | true =>
    obtain ⟨hw, hs1, hs2⟩ := right_sizeW hr
    have C22 := fun W (hb : Below w.heap.size w W) => pgSize_any a c p W (A.out.later hb) HL.out HS.out
    have C33 := fun W (hb : Below w.heap.size w W) => pgFree_any a c p W (A.out.later hb) HL.out
    rw [hr] at C24
    rw [hw] at C22
    by_cases hn : 0 ≤ n ∧ n ≤ 1024
    · obtain ⟨hn0, hn1'⟩ := hn
      have hf := (show fitsB p n = decide (n + (if placeP p = p.length then 4 else 0) ≤ 1024 - (sizeP p : Int)) by unfold fitsB; rw [hr]; simp [hn0, hn1'])
      have hple := placeP_le p
      obtain ⟨pl, hpl⟩ : ∃ pl, placeP p = pl := ⟨_, rfl⟩
      obtain ⟨sz, hsz⟩ : ∃ sz, sizeP p = sz := ⟨_, rfl⟩
      rw [hpl] at hple C33
      rw [hsz] at C22 hs1
      rw [hpl, hsz] at hf
      have hnn : ¬ n < 0 := by omega
      have hnn2 : ¬ 1024 < n := by omega
      clear hr hw hpl hsz hn1 hn2
      by_cases he : pl = p.length
      · have hei : (pl : Int) = p.length := by omega
        rw [if_pos he] at hf
        have HF := hid0 hf
        obtain rfl : pl = p.length := he
        clear hf hei hple
        go_enter Try.func27, Try.ntmps27
        go_wp2_with (go_at_call 28; go_must (refine (C24 _ hB0).mono ?_; rintro e w1 ⟨rfl, hb⟩; have q1 := cell_later hb q; have hB1 := below_through hb hB0.size hB0; clear hb C24))
        clear q hB0
        go_region_held3 (fun w' => w'.cell? ⟨w.heap.size, 0, none⟩ = some (.slice a p.length c) ∧ Below w.heap.size w w')
          ((go_split_ands; (try dsimp only); (repeat' apply And.intro); all_goals (first
            | assumption
            | exact cell_later hbn ‹_›
            | exact below_through hbn (Below.size ‹Below w.heap.size w _›) ‹_›
            | exact Below.drew hB1
            | go_keep)))
          (first
            | (go_at_call 29; (try go_split_ands); refine (C33 _ (by assumption)).mono ?_; rintro e wn ⟨rfl, hbn⟩))
        obtain ⟨q2, hB2⟩ := ‹wn.cell? ⟨w.heap.size, 0, none⟩ = some (.slice a p.length c) ∧ _›
        clear q1 hB1 hbn C33
        go_wp2_with (go_at_call 32; go_must (refine (C22 _ hB2).mono ?_; rintro e w3 ⟨rfl, hb3⟩))
        go_ret
        exact ⟨ret_bool (dec_room HF.out _ rfl), hB2.trans (hb3.mono hB2.size)⟩
      · have hei : ¬ (pl : Int) = p.length := by omega
        have heb : ((pl : Int) == (p.length : Int)) = false := by simpa using hei
        rw [if_neg he] at hf
        have HF := hid0 hf
        clear hf hple
        go_enter Try.func27, Try.ntmps27
        go_wp2_with (go_at_call 28; go_must (refine (C24 _ hB0).mono ?_; rintro e w1 ⟨rfl, hb⟩; have q1 := cell_later hb q; have hB1 := below_through hb hB0.size hB0; clear hb C24))
        clear q hB0
        go_region_held3 (fun w' => w'.cell? ⟨w.heap.size, 0, none⟩ = some (.slice a p.length c) ∧ Below w.heap.size w w')
          ((go_split_ands; (try dsimp only); (repeat' apply And.intro); all_goals (first
            | assumption
            | exact cell_later hbn ‹_›
            | exact below_through hbn (Below.size ‹Below w.heap.size w _›) ‹_›
            | exact Below.drew hB1
            | go_keep)))
          (first
            | (go_at_call 29; (try go_split_ands); refine (C33 _ (by assumption)).mono ?_; rintro e wn ⟨rfl, hbn⟩))
        obtain ⟨q2, hB2⟩ := ‹wn.cell? ⟨w.heap.size, 0, none⟩ = some (.slice a p.length c) ∧ _›
        clear q1 hB1 hbn C33
        go_wp2_with (go_at_call 32; go_must (refine (C22 _ hB2).mono ?_; rintro e w3 ⟨rfl, hb3⟩))
        go_ret
        exact ⟨ret_bool (dec_room HF.out _ (by omega)), hB2.trans (hb3.mono hB2.size)⟩
    · have hf := hid0 (show fitsB p n = false by unfold fitsB; simp only [Bool.and_eq_false_iff, decide_eq_false_iff_not]; omega)
      clear hr hw C22 C33 q
      go_enter Try.func27, Try.ntmps27
      go_wp2_with (go_at_call 28; go_must (refine (C24 _ hB0).mono ?_; rintro e w1 ⟨rfl, hb⟩; have hB1 := below_through hb hB0.size hB0; clear hb))
      all_goals
        go_ret
        exact ⟨ret_bool hf.out.symm, hB1⟩
end Go.Proofs.Ytneebnankghhgaa
