/- Several of my texts laid together, each as it was: Qpd. Conditions: each names its own. -/
import Derived.Test.YtneebnankghhgaaQpc
/- The project's page: putting, cutting, setting: contracts of the calls, in whatever memory. Conditions: the slots' cells are known. -/
namespace Go.Proofs.Ytneebnankghhgaa
open Go.RowKit

theorem le47 {n : Nat} (h : n ≤ 140737488351232) : n ≤ maxLen := by unfold maxLen; omega
theorem trimP_prefix : ∀ p : Pg, trimP p = p.take (trimP p).length
  | [] => rfl
  | s :: p => by
    have h := trimP_prefix p
    cases ht : trimP p with
    | nil =>
      simp only [trimP, ht]
      split <;> simp
    | cons t q =>
      rw [ht] at h
      simp only [trimP, ht, List.length_cons, List.take_succ_cons]
      rw [List.length_cons] at h
      rw [← h]

set_option maxHeartbeats 4000000 in
theorem pgPut_any (a : Option Addr) (c : Nat) (p : Pg) (d : List UInt8) (w : World) (h : SlotsAt w a p) (hc : p.length ≤ c) (hl : p.length * 24 ≤ 140737488351232) (hs : slotsIn p) (hd : d.length ≤ maxLen) :
    Calls Try.prog 16 #[.agg #[.slice a p.length c], .string (txt d)] w (PutAns w a p d) := by
  have A := hid0 h
  have HS := hid0 hs
  have HL := hid0 hl
  have HC := hid0 hc
  have C24 := fun W (hb : Below w.heap.size w W) => pgRight_any a c p W (A.out.later hb) HC.out HL.out HS.out
  have hB0 : Below w.heap.size w ((w.alloc (Obj.cells #[.slice a p.length c] 55)).alloc (Obj.cells #[.slice none 0 0] 55)) := ((Below.refl _ _).alloc (Nat.le_refl _) _).alloc (by simp) _
  have v0 := (VarAt.new w (.slice a p.length c) 55).alloc (Obj.cells #[.slice none 0 0] 55)
  have v1 := VarAt.new (w.alloc (Obj.cells #[.slice a p.length c] 55)) (.slice none 0 0) 55
  rw [World.size_alloc] at v1
  cases hr : rightB p with
  | false =>
    obtain ⟨e1, e2, e3⟩ := put_wrong d hr
    unfold PutAns
    rw [e1, e2, e3]
    rw [hr] at C24
    clear hr e1 e2 e3 h hs
    go_enter Try.func16, Try.ntmps16
    go_wp2_with (go_at_call 28; go_must (refine (C24 _ hB0).mono ?_; rintro e w1 ⟨rfl, hb⟩; obtain ⟨q0, f0⟩ := v0.later hb; obtain ⟨q1, f1⟩ := v1.later hb))
    have x1 := (VarAt.mk q1 f1).set (.slice a p.length c)
    have hB1 := below_through hb hB0.size hB0
    have c0 := x1.cell
    have hB2 := hB1.setCell (p := ⟨w.heap.size + 1, 0, none⟩) (by show w.heap.size ≤ w.heap.size + 1; omega) (.slice a p.length c)
    exact bodyPost_ret (v := .tuple #[.agg #[.slice a p.length c], .int .i64 0, .int .i64 1]) (by simp [results, Try.results16, go_sem, c0]) rfl ⟨⟨a, c, p, rfl, hc, A.out.later hB2, rfl, .inl ⟨rfl, rfl⟩⟩, hB2⟩
  | true =>
    rw [hr] at C24
    have hz : (txt d).size = d.length := txt_size d
    unfold maxLen at hd
    have C26 := fun W (hb : Below w.heap.size w W) => pgFits_any a c p d.length W (A.out.later hb) HC.out HL.out HS.out (by omega) (by omega)
    cases hf : fitsB p d.length with
    | false =>
      obtain ⟨e1, e2, e3⟩ := put_full hr hf
      unfold PutAns
      rw [e1, e2, e3]
      rw [hf] at C26
      clear hr e1 e2 e3 h hs hf
      go_enter Try.func16, Try.ntmps16
      go_wp2_with (first
        | (go_at_call 28; go_must (refine (C24 _ hB0).mono ?_; rintro e w1 ⟨rfl, hb⟩; have y0 := v0.later hb; have y1 := v1.later hb; obtain ⟨q0, f0⟩ := y0; have hB1 := below_through hb hB0.size hB0))
        | (go_at_call 27; go_must (refine (C26 _ hB1).mono ?_; rintro e w2 ⟨rfl, hb2⟩; obtain ⟨r0, g0⟩ := (VarAt.mk q0 f0).later hb2; obtain ⟨r1, g1⟩ := y1.later hb2)))
      have x1 := (VarAt.mk r1 g1).set (.slice a p.length c)
      have hB2 := below_through hb2 hB1.size hB1
      have c0 := x1.cell
      have hB3 := hB2.setCell (p := ⟨w.heap.size + 1, 0, none⟩) (by show w.heap.size ≤ w.heap.size + 1; omega) (.slice a p.length c)
      exact bodyPost_ret (v := .tuple #[.agg #[.slice a p.length c], .int .i64 0, .int .i64 17]) (by simp [results, Try.results16, go_sem, c0]) rfl ⟨⟨a, c, p, rfl, hc, A.out.later hB3, rfl, .inl ⟨rfl, rfl⟩⟩, hB3⟩
    | true =>
      obtain ⟨e1, e2, e3⟩ := put_done hf
      unfold PutAns
      rw [e1, e2, e3]
      rw [hf] at C26
      have C33 := fun W (hb : Below w.heap.size w W) => pgFree_any a c p W (A.out.later hb) HL.out
      have C34 := fun W (hb : Below w.heap.size w W) => slotClone_any a c p W (A.out.later hb) HL.out
      clear hr e1 e2 e3 h hs hf
      by_cases he : placeP p = p.length
      · rw [he] at C33
        go_enter Try.func16, Try.ntmps16
        go_wp2_with (first
          | (go_at_call 28; go_must (refine (C24 _ hB0).mono ?_; rintro e w1 ⟨rfl, hb⟩; have y1 := v1.later hb; obtain ⟨q0, f0⟩ := v0.later hb; have hB1 := below_through hb hB0.size hB0; clear C24 v0 v1 hB0 hb))
          | (go_at_call 27; go_must (refine (C26 _ hB1).mono ?_; rintro e w2 ⟨rfl, hb2⟩; obtain ⟨r0, g0⟩ := (VarAt.mk q0 f0).later hb2; have y2 := y1.later hb2; have hB2 := below_through hb2 hB1.size hB1; clear C26 hB1 hb2 y1 q0 f0))
          | (go_at_call 29; go_must (refine (C33 _ hB2).mono ?_; rintro e w3 ⟨rfl, hb3⟩; obtain ⟨s0, k0⟩ := (VarAt.mk r0 g0).later hb3; have y3 := y2.later hb3; have hB3 := below_through hb3 hB2.size hB2; clear C33 hB2 hb3 y2 r0 g0))
          | (go_at_call 30; go_must (refine (C34 _ hB3).mono ?_; rintro e w4 ⟨⟨v, rfl, hown⟩, hb4⟩; have y4 := y3.later hb4; have hB4 := below_through hb4 hB3.size hB3; have hz4 := hB3.size; have hz5 := hb4.size; have hlt3 := y3.lt; obtain ⟨a', c', rfl, hcap, _, hSl⟩ := slots_owned hown; have ho4 := fun o => hown.alloc o; have hn4 := slot_new w4 (.bool false) (.string ⟨#[]⟩) 74; clear C34 hB3 hb4 y3 s0 k0))
          | (at_builtin; go_must (refine wp_slot1 rfl _ _ rfl rfl (ho4 _) noS w4.heap.size rfl hn4.1 hn4.2 ?hl ?hb ?_)))
        case hl => omega
        case hb => simp; omega
        intro v5 w5 hown5 hb5
        have u1 := ((y4.alloc (Obj.cells #[.bool false, .string ⟨#[]⟩] 74)).below hb5 (by omega))
        have hB5 : Below w.heap.size w w5 := (hB4.alloc (by omega) _).trans (hb5.mono (by omega))
        obtain ⟨g5, c5, rfl, hg5, hcap5, hf5, hc5⟩ := hown5.form (by simp)
        clear ho4 hn4 hb5 y4 hB4 hown hSl
        obtain ⟨m1, n1⟩ := u1
        have hgne1 : g5 ≠ w.heap.size + 1 := by omega
        have hput : putR p d = (p ++ [noS]).set p.length (true, d) := by
          unfold putR
          rw [if_pos he, List.set_append_right _ _ (Nat.le_refl _), Nat.sub_self]; rfl
        have hfin := (hown5.write p.length (true, d)).setCell (a := ⟨w.heap.size + 1, 0, none⟩) (by show w.heap.size + 1 < w3.heap.size; omega) (.slice (some ⟨g5, 0, none⟩) (p.length + 1) c5)
        have hBf := ((hB5.setCell (p := ⟨g5, p.length * 2, none⟩) (by show w.heap.size ≤ g5; omega) (.bool true)).setCell (p := ⟨g5, p.length * 2 + 1, none⟩) (by show w.heap.size ≤ g5; omega) (.string (txt d))).setCell (p := ⟨w.heap.size + 1, 0, none⟩) (by show w.heap.size ≤ w.heap.size + 1; omega) (.slice (some ⟨g5, 0, none⟩) (p.length + 1) c5)
        rw [List.length_append] at hcap5
        have xr := (((VarAt.mk m1 n1).other ⟨g5, p.length * 2, none⟩ (.bool true) hgne1).other ⟨g5, p.length * 2 + 1, none⟩ (.string (txt d)) hgne1).set (.slice (some ⟨g5, 0, none⟩) (p.length + 1) c5)
        have c0 := xr.cell
        clear hown5
        go_wp2_with fail
        refine bodyPost_ret (v := .tuple #[.agg #[.slice (some ⟨g5, 0, none⟩) (p.length + 1) c5], .int .i64 p.length, .int .i64 0]) (by simp [results, Try.results16, go_sem, c0]) rfl ⟨⟨some ⟨g5, 0, none⟩, c5, putR p d, ?_, ?_, ?_, by first | rfl | (unfold putR; rw [if_pos he]), away_new (by omega)⟩, hBf⟩
        · rw [hput, List.length_set, List.length_append]; rfl
        · rw [hput, List.length_set, List.length_append]; exact hcap5
        · rw [hput]; exact hfin.slots
      · obtain ⟨k, hk⟩ : ∃ k, placeP p = k := ⟨_, rfl⟩
        have hkl : k < p.length := by have := placeP_le p; omega
        have hput : putR p d = p.set k (true, d) := by
          unfold putR
          rw [if_neg he, hk]
        rw [hk] at C33
        have hki : ¬ (k : Int) = p.length := by omega
        have HK := hid0 hk
        rw [hput, hk]
        clear he hk hput
        go_enter Try.func16, Try.ntmps16
        go_wp2_with (first
          | (go_at_call 28; go_must (refine (C24 _ hB0).mono ?_; rintro e w1 ⟨rfl, hb⟩; have y1 := v1.later hb; obtain ⟨q0, f0⟩ := v0.later hb; have hB1 := below_through hb hB0.size hB0; clear C24 v0 v1 hB0 hb))
          | (go_at_call 27; go_must (refine (C26 _ hB1).mono ?_; rintro e w2 ⟨rfl, hb2⟩; obtain ⟨r0, g0⟩ := (VarAt.mk q0 f0).later hb2; have y2 := y1.later hb2; have hB2 := below_through hb2 hB1.size hB1; clear C26 hB1 hb2 y1 q0 f0))
          | (go_at_call 29; go_must (refine (C33 _ hB2).mono ?_; rintro e w3 ⟨rfl, hb3⟩; obtain ⟨s0, k0⟩ := (VarAt.mk r0 g0).later hb3; have y3 := y2.later hb3; have hB3 := below_through hb3 hB2.size hB2; clear C33 hB2 hb3 y2 r0 g0))
          | (go_at_call 30; go_must (refine (C34 _ hB3).mono ?_; rintro e w4 ⟨⟨v, rfl, hown⟩, hb4⟩; obtain ⟨m1, n1⟩ := y3.later hb4; have hB4 := below_through hb4 hB3.size hB3; have hz4 := hB3.size; have hlt3 := y3.lt; obtain ⟨g5, c5, rfl, hg5, hcap5, hf5, hc5⟩ := hown.form (by omega); have HO := hid0 hown; have hgne1 : g5 ≠ w.heap.size + 1 := (by omega); obtain ⟨hk0, hk1⟩ := hc5 k hkl; clear C34 hB3 hb4 y3 s0 k0 hown hc5)))
        have hfin := (HO.out.write k (true, d)).setCell (a := ⟨w.heap.size + 1, 0, none⟩) (by show w.heap.size + 1 < w3.heap.size; omega) (.slice (some ⟨g5, 0, none⟩) p.length c5)
        have hBf := ((hB4.setCell (p := ⟨g5, k * 2, none⟩) (by show w.heap.size ≤ g5; omega) (.bool true)).setCell (p := ⟨g5, k * 2 + 1, none⟩) (by show w.heap.size ≤ g5; omega) (.string (txt d))).setCell (p := ⟨w.heap.size + 1, 0, none⟩) (by show w.heap.size ≤ w.heap.size + 1; omega) (.slice (some ⟨g5, 0, none⟩) p.length c5)
        have xr := (((VarAt.mk m1 n1).other ⟨g5, k * 2, none⟩ (.bool true) hgne1).other ⟨g5, k * 2 + 1, none⟩ (.string (txt d)) hgne1).set (.slice (some ⟨g5, 0, none⟩) p.length c5)
        have c0 := xr.cell
        refine bodyPost_ret (v := .tuple #[.agg #[.slice (some ⟨g5, 0, none⟩) p.length c5], .int .i64 k, .int .i64 0]) (by simp [results, Try.results16, go_sem, c0]) rfl ⟨⟨some ⟨g5, 0, none⟩, c5, p.set k (true, d), ?_, ?_, ?_, rfl, away_new (by omega)⟩, hBf⟩
        · rw [List.length_set]
        · rw [List.length_set]; exact hcap5
        · exact hfin.slots

set_option maxHeartbeats 4000000 in
theorem pgCut_any (a : Option Addr) (c : Nat) (p : Pg) (i : Int) (w : World) (h : SlotsAt w a p) (hc : p.length ≤ c) (hl : p.length * 24 ≤ 140737488351232) (hs : slotsIn p) (hi1 : -9223372036854775808 ≤ i) (hi2 : i ≤ 9223372036854775807) :
    Calls Try.prog 18 #[.agg #[.slice a p.length c], .int .i64 i] w (PgAns w a p (cutP p i) (getE p i)) := by
  have A := hid0 h
  have HS := hid0 hs
  have HL := hid0 hl
  have HC := hid0 hc
  have C14 := fun W (hb : Below w.heap.size w W) => pgGet_any a c p i W (A.out.later hb) HC.out HL.out HS.out hi1 hi2
  have hB0 : Below w.heap.size w ((w.alloc (Obj.cells #[.slice a p.length c] 55)).alloc (Obj.cells #[.slice none 0 0] 55)) := ((Below.refl _ _).alloc (Nat.le_refl _) _).alloc (by simp) _
  have v0 := (VarAt.new w (.slice a p.length c) 55).alloc (Obj.cells #[.slice none 0 0] 55)
  have v1 := VarAt.new (w.alloc (Obj.cells #[.slice a p.length c] 55)) (.slice none 0 0) 55
  rw [World.size_alloc] at v1
  rcases getE_cases p i with ⟨hne, hgd⟩ | ⟨hr, k, rfl, hk, hpk, he0⟩
  · have e1 : cutP p i = p := if_neg hne
    rw [e1]
    obtain ⟨er, her⟩ : ∃ er, getE p i = er := ⟨_, rfl⟩
    rw [her] at C14 hne ⊢
    clear e1 h hs hgd her
    go_enter Try.func18, Try.ntmps18
    go_wp2_with (go_at_call 22; go_must (refine (C14 _ hB0).mono ?_; rintro e w1 ⟨rfl, hb⟩; obtain ⟨q0, f0⟩ := v0.later hb; obtain ⟨q1, f1⟩ := v1.later hb; have hB1 := below_through hb hB0.size hB0))
    have x1 := (VarAt.mk q1 f1).set (.slice a p.length c)
    have c0 := x1.cell
    have hB2 := hB1.setCell (p := ⟨w.heap.size + 1, 0, none⟩) (by show w.heap.size ≤ w.heap.size + 1; omega) (.slice a p.length c)
    exact bodyPost_ret (v := .tuple #[.agg #[.slice a p.length c], .int .i64 er]) (by simp [results, Try.results18, go_sem, c0]) rfl ⟨⟨a, c, p, rfl, hc, A.out.later hB2, rfl, .inl ⟨rfl, rfl⟩⟩, hB2⟩
  · rw [he0] at C14 ⊢
    have e1 : cutP p k = trimP (p.set k noS) := by unfold cutP; rw [if_pos he0, Int.toNat_natCast]; rfl
    rw [e1]
    have C34 := fun W (hb : Below w.heap.size w W) => slotClone_any a c p W (A.out.later hb) HL.out
    obtain ⟨g, hgd⟩ : ∃ g, getD p (k : Int) = g := ⟨_, rfl⟩
    rw [hgd] at C14
    clear e1 h hs hgd hpk hr he0
    have HPl : Hid ((p.set k noS).length = p.length) := hid0 List.length_set
    have htle := trimP_le (p.set k noS)
    obtain ⟨P, hP⟩ : ∃ P, p.set k noS = P := ⟨_, rfl⟩
    rw [hP] at HPl htle ⊢
    have HP := hid0 hP
    clear hP
    have C35 := fun W (a : Option Addr) c (hs : SlotsAt W a P) (hc : P.length ≤ c) => pgTrimmed_any a c P W hs hc (by have := HPl.out; have := HL.out; omega)
    obtain ⟨T, hT⟩ : ∃ T, trimP P = T := ⟨_, rfl⟩
    have HT := hid0 hT
    rw [hT] at C35 htle ⊢
    have C35' : ∀ W (a : Option Addr) c, SlotsAt W a P → P.length ≤ c → Calls Try.prog 31 #[.slice a p.length c] W fun e w' => e = .returned (.slice a T.length c) ∧ Below W.heap.size W w' := fun W a c hs hc => by
      have h := C35 W a c hs hc
      rwa [HPl.out] at h
    clear C35 hT
    go_enter Try.func18, Try.ntmps18
    go_wp2_with (first
      | (go_at_call 22; go_must (refine (C14 _ hB0).mono ?_; rintro e w1 ⟨rfl, hb⟩; obtain ⟨q0, f0⟩ := v0.later hb; have y1 := v1.later hb; have hB1 := below_through hb hB0.size hB0; clear C14 v0 v1 hB0 hb))
      | (go_at_call 30; go_must (refine (C34 _ hB1).mono ?_; rintro e w4 ⟨⟨v, rfl, hown⟩, hb4⟩; have y4 := y1.later hb4; have hB4 := below_through hb4 hB1.size hB1; have hz4 := hB1.size; have hlt3 := y1.lt; obtain ⟨g5, c5, rfl, hg5, hcap5, hf5, hc5⟩ := hown.form (by omega); have HO := hid0 hown; have hgne1 : g5 ≠ w.heap.size + 1 := (by omega); obtain ⟨hk0, hk1⟩ := hc5 k hk; have hF : OwnS ((w4.setCell ⟨g5, k * 2, none⟩ (.bool false)).setCell ⟨g5, k * 2 + 1, none⟩ (.string ⟨#[]⟩)) w1.heap.size (.slice (some ⟨g5, 0, none⟩) (p.set k noS).length c5) (p.set k noS) := (HO.out.write k noS); have hBW := (hB4.setCell (p := ⟨g5, k * 2, none⟩) (by show w.heap.size ≤ g5; omega) (.bool false)).setCell (p := ⟨g5, k * 2 + 1, none⟩) (by show w.heap.size ≤ g5; omega) (.string ⟨#[]⟩); have xr := (y4.other ⟨g5, k * 2, none⟩ (.bool false) hgne1).other ⟨g5, k * 2 + 1, none⟩ (.string ⟨#[]⟩) hgne1; clear C34 hB1 hb4 y1 q0 f0 hown hc5 y4 hB4 HO; rw [HP.out] at hF; have HF := hid0 hF; clear hF))
      | (go_at_call 31; go_must (refine (C35' _ _ _ HF.out.slots (by have := HPl.out; omega)).mono ?_; rintro e w5 ⟨rfl, hb5⟩; obtain ⟨m1, n1⟩ := xr.later hb5; have hB5 := below_through hb5 hBW.size hBW; have HF5 := hid0 (HF.out.kept hb5); clear C35' HF hBW hb5)))
    have x1 := (VarAt.mk m1 n1).set (.slice (some ⟨g5, 0, none⟩) T.length c5)
    have c0 := x1.cell
    have hB6 := hB5.setCell (p := ⟨w.heap.size + 1, 0, none⟩) (by show w.heap.size ≤ w.heap.size + 1; omega) (.slice (some ⟨g5, 0, none⟩) T.length c5)
    have hS6 := (HF5.out.setCell (a := ⟨w.heap.size + 1, 0, none⟩) (by show w.heap.size + 1 < w1.heap.size; omega) (.slice (some ⟨g5, 0, none⟩) T.length c5)).slots
    have hTt : T = P.take T.length := by rw [← HT.out]; exact trimP_prefix P
    have hS7 := OwnS.take hS6 T.length
    rw [← hTt] at hS7
    exact bodyPost_ret (v := .tuple #[.agg #[.slice (some ⟨g5, 0, none⟩) T.length c5], .int .i64 0]) (by simp [results, Try.results18, go_sem, c0]) rfl ⟨⟨some ⟨g5, 0, none⟩, c5, T, rfl, by have := HPl.out; omega, hS7, rfl, away_new (by omega)⟩, hB6⟩

set_option maxHeartbeats 4000000 in
theorem pgSet_any (a : Option Addr) (c : Nat) (p : Pg) (i : Int) (d : List UInt8) (w : World) (h : SlotsAt w a p) (hc : p.length ≤ c) (hl : p.length * 24 ≤ 140737488351232) (hs : slotsIn p) (hi1 : -9223372036854775808 ≤ i) (hi2 : i ≤ 9223372036854775807) (hd : d.length ≤ 140737488351232) :
    Calls Try.prog 20 #[.agg #[.slice a p.length c], .int .i64 i, .string (txt d)] w (PgAns w a p (setP p i d) (setE p i d)) := by
  have A := hid0 h
  have HS := hid0 hs
  have HL := hid0 hl
  have HC := hid0 hc
  have C14 := fun W (hb : Below w.heap.size w W) => pgGet_any a c p i W (A.out.later hb) HC.out HL.out HS.out hi1 hi2
  have hB0 : Below w.heap.size w ((w.alloc (Obj.cells #[.slice a p.length c] 55)).alloc (Obj.cells #[.slice none 0 0] 55)) := ((Below.refl _ _).alloc (Nat.le_refl _) _).alloc (by simp) _
  have v0 := (VarAt.new w (.slice a p.length c) 55).alloc (Obj.cells #[.slice none 0 0] 55)
  have v1 := VarAt.new (w.alloc (Obj.cells #[.slice a p.length c] 55)) (.slice none 0 0) 55
  rw [World.size_alloc] at v1
  have hz : (txt d).size = d.length := txt_size d
  rcases getE_cases p i with ⟨hne, hgd⟩ | ⟨hr, k, rfl, hk, hpk, he0⟩
  · obtain ⟨e1, e2⟩ := set_not d hne
    rw [e1, e2]
    obtain ⟨er, her⟩ : ∃ er, getE p i = er := ⟨_, rfl⟩
    rw [her] at C14 hne ⊢
    clear e1 e2 h hs hgd her
    go_enter Try.func20, Try.ntmps20
    go_wp2_with (go_at_call 22; go_must (refine (C14 _ hB0).mono ?_; rintro e w1 ⟨rfl, hb⟩; obtain ⟨q0, f0⟩ := v0.later hb; obtain ⟨q1, f1⟩ := v1.later hb; have hB1 := below_through hb hB0.size hB0))
    have x1 := (VarAt.mk q1 f1).set (.slice a p.length c)
    have c0 := x1.cell
    have hB2 := hB1.setCell (p := ⟨w.heap.size + 1, 0, none⟩) (by show w.heap.size ≤ w.heap.size + 1; omega) (.slice a p.length c)
    exact bodyPost_ret (v := .tuple #[.agg #[.slice a p.length c], .int .i64 er]) (by simp [results, Try.results20, go_sem, c0]) rfl ⟨⟨a, c, p, rfl, hc, A.out.later hB2, rfl, .inl ⟨rfl, rfl⟩⟩, hB2⟩
  · obtain ⟨g, hgd⟩ : ∃ g, getD p (k : Int) = g := ⟨_, rfl⟩
    have hzg : (txt g).size = g.length := txt_size g
    obtain ⟨hw, hsz, hl256⟩ := right_sizeW hr
    have hgl : g.length ≤ 1024 := by
      have := (((rightB_iff p).1 hr).slots _ (List.getElem_mem hk)).2
      rw [hpk, hgd] at this; exact this
    have C22 := fun W (hb : Below w.heap.size w W) => pgSize_any a c p W (A.out.later hb) HL.out HS.out
    rw [hw] at C22
    have hszg : 4 + g.length ≤ sizeP p := by
      have h1 := sizeP_set p k hk (true, [])
      have h2 := sizeP_ge (p.set k (true, []))
      rw [hpk, hgd] at h1
      simp at h1
      omega
    obtain ⟨sz, hszz⟩ : ∃ sz, sizeP p = sz := ⟨_, rfl⟩
    have HRB : roomB p k d = (decide (d.length ≤ 1024) && decide ((d.length : Int) - g.length ≤ 1024 - (sz : Int))) := by unfold roomB; rw [hgd, hszz]
    rw [hszz] at C22 hsz hszg
    rw [he0, hgd] at C14
    rw [hgd] at hpk
    have hw1 : IntKind.i64.wrap ((sz : Int) - (g.length : Int)) = (sz : Int) - (g.length : Int) := IntWalk.i64_in _ (by omega)
    by_cases hrm : (sz : Int) - g.length + d.length ≤ 1024
    · have hroom : roomB p k d = true := by
        rw [HRB, Bool.and_eq_true, decide_eq_true_eq, decide_eq_true_eq]
        omega
      obtain ⟨e1, e2⟩ := set_done he0 hroom
      rw [e1, e2]
      have hd1 : ¬ (1024 : Int) < (sz : Int) - (g.length : Int) + (d.length : Int) := by omega
      have hw2 : IntKind.i64.wrap ((sz : Int) - (g.length : Int) + (d.length : Int)) = (sz : Int) - (g.length : Int) + (d.length : Int) := IntWalk.i64_in _ (by omega)
      have C34 := fun W (hb : Below w.heap.size w W) => slotClone_any a c p W (A.out.later hb) HL.out
      have HPK := hid0 hpk
      clear e1 e2 h hs hgd hpk hr hszz HRB he0 hw hroom
      go_enter Try.func20, Try.ntmps20
      go_wp2_with (first
        | (go_at_call 22; go_must (refine (C14 _ hB0).mono ?_; rintro e w1 ⟨rfl, hb⟩; obtain ⟨q0, f0⟩ := v0.later hb; have y1 := v1.later hb; have hB1 := below_through hb hB0.size hB0; clear C14 v0 v1 hB0 hb))
        | (go_at_call 32; go_must (refine (C22 _ hB1).mono ?_; rintro e w2 ⟨rfl, hb2⟩; obtain ⟨r0, g0⟩ := (VarAt.mk q0 f0).later hb2; have y2 := y1.later hb2; have hB2 := below_through hb2 hB1.size hB1; clear C22 y1 hB1 hb2 q0 f0))
        | (go_at_call 30; go_must (refine (C34 _ hB2).mono ?_; rintro e w4 ⟨⟨v, rfl, hown⟩, hb4⟩; obtain ⟨m1, n1⟩ := y2.later hb4; have hB4 := below_through hb4 hB2.size hB2; have hz4 := hB2.size; have hlt3 := y2.lt; obtain ⟨g5, c5, rfl, hg5, hcap5, hf5, hc5⟩ := hown.form (by omega); have HO := hid0 hown; have hgne1 : g5 ≠ w.heap.size + 1 := (by omega); obtain ⟨hk0, hk1⟩ := hc5 k hk; clear C34 hB2 hb4 y2 r0 g0 hown hc5)))
      have hfin := (set_same_used hk HPK.out _ w2.heap.size g5 c5 d HO.out).setCell (a := ⟨w.heap.size + 1, 0, none⟩) (by show w.heap.size + 1 < w2.heap.size; omega) (.slice (some ⟨g5, 0, none⟩) p.length c5)
      have hBf := (hB4.setCell (p := ⟨g5, k * 2 + 1, none⟩) (by show w.heap.size ≤ g5; omega) (.string (txt d))).setCell (p := ⟨w.heap.size + 1, 0, none⟩) (by show w.heap.size ≤ w.heap.size + 1; omega) (.slice (some ⟨g5, 0, none⟩) p.length c5)
      have xr := ((VarAt.mk m1 n1).other ⟨g5, k * 2 + 1, none⟩ (.string (txt d)) hgne1).set (.slice (some ⟨g5, 0, none⟩) p.length c5)
      have c0 := xr.cell
      refine bodyPost_ret (v := .tuple #[.agg #[.slice (some ⟨g5, 0, none⟩) p.length c5], .int .i64 0]) (by simp [results, Try.results20, go_sem, c0]) rfl ⟨⟨some ⟨g5, 0, none⟩, c5, p.set k (true, d), ?_, ?_, ?_, by rw [Int.toNat_natCast], away_new (by omega)⟩, hBf⟩
      · rw [List.length_set]
      · rw [List.length_set]; exact hcap5
      · exact hfin.slots
    · have hroom : roomB p k d = false := by
        rw [HRB]
        simp only [Bool.and_eq_false_iff, decide_eq_false_iff_not]
        omega
      obtain ⟨e1, e2⟩ := set_full he0 hroom
      rw [e1, e2]
      have hd1 : (1024 : Int) < (sz : Int) - (g.length : Int) + (d.length : Int) := by omega
      have hw2 : IntKind.i64.wrap ((sz : Int) - (g.length : Int) + (d.length : Int)) = (sz : Int) - (g.length : Int) + (d.length : Int) := IntWalk.i64_in _ (by omega)
      clear e1 e2 h hs hgd hpk hr hszz HRB he0 hw hrm hroom
      go_enter Try.func20, Try.ntmps20
      go_wp2_with (first
        | (go_at_call 22; go_must (refine (C14 _ hB0).mono ?_; rintro e w1 ⟨rfl, hb⟩; obtain ⟨q0, f0⟩ := v0.later hb; have y1 := v1.later hb; have hB1 := below_through hb hB0.size hB0; clear C14 v0 v1 hB0 hb))
        | (go_at_call 32; go_must (refine (C22 _ hB1).mono ?_; rintro e w2 ⟨rfl, hb2⟩; obtain ⟨r0, g0⟩ := (VarAt.mk q0 f0).later hb2; obtain ⟨m1, n1⟩ := y1.later hb2; have hB2 := below_through hb2 hB1.size hB1; clear C22 y1 hB1 hb2 q0 f0)))
      have x1 := (VarAt.mk m1 n1).set (.slice a p.length c)
      have c0 := x1.cell
      have hB3 := hB2.setCell (p := ⟨w.heap.size + 1, 0, none⟩) (by show w.heap.size ≤ w.heap.size + 1; omega) (.slice a p.length c)
      exact bodyPost_ret (v := .tuple #[.agg #[.slice a p.length c], .int .i64 17]) (by simp [results, Try.results20, go_sem, c0]) rfl ⟨⟨a, c, p, rfl, hc, A.out.later hB3, rfl, .inl ⟨rfl, rfl⟩⟩, hB3⟩
end Go.Proofs.Ytneebnankghhgaa
