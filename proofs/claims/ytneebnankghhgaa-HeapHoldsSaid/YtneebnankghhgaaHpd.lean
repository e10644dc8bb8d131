/- Several of my texts laid together, each as it was: Hpd. Conditions: each names its own. -/
import Derived.Test.YtneebnankghhgaaHpc
/- The project's heap: putting: a contract of the call, in whatever memory. Conditions: the pages' cells are known, they are not too many. -/
namespace Go.Proofs.Ytneebnankghhgaa
open Go.RowKit

set_option maxHeartbeats 4000000 in
set_option maxRecDepth 1000000 in
theorem hpPut_any (a : Option Addr) (c : Nat) (E : List PgE) (d : List UInt8) (most : Int) (w : World) (h : HpAt w a c E) (hd : d.length ≤ 140737488351232) (hm1 : -9223372036854775808 ≤ most) (hm2 : most ≤ 9223372036854775807) :
    Calls Try.prog 5 #[.agg #[.slice a E.length c], .string (txt d), .int .i64 most] w (HIdAns w a E (putHP (hp E) d most) (putHX (hp E) d most : Nat) (putHY (hp E) d most : Nat) (putHE (hp E) d most)) := by
  have A := hid0 h
  have hlb : E.length ≤ 5864062014805 := by have := h.len; omega
  have hz : (txt d).size = d.length := txt_size d
  have v0 := (((VarAt.new w (.slice a E.length c) 25).alloc (Obj.cells #[.slice none 0 0] 25)).alloc (Obj.cells #[.int .i64 0, .int .i64 0] 29))
  have v1 := ((VarAt.new (w.alloc (Obj.cells #[.slice a E.length c] 25)) (.slice none 0 0) 25).alloc (Obj.cells #[.int .i64 0, .int .i64 0] 29))
  have d1 := IdAt.new ((w.alloc (Obj.cells #[.slice a E.length c] 25)).alloc (Obj.cells #[.slice none 0 0] 25)) 0 0 29
  rw [World.size_alloc] at v1
  rw [World.size_alloc, World.size_alloc] at d1
  have hB0 : Below w.heap.size w (((w.alloc (Obj.cells #[.slice a E.length c] 25)).alloc (Obj.cells #[.slice none 0 0] 25)).alloc (Obj.cells #[.int .i64 0, .int .i64 0] 29)) := (((Below.refl _ _).alloc (Nat.le_refl _) _).alloc (by simp) _).alloc (by simp; omega) _
  have C := hpRight_any a c E _ (((h.alloc (Obj.cells #[.slice a E.length c] 25)).alloc (Obj.cells #[.slice none 0 0] 25)).alloc (Obj.cells #[.int .i64 0, .int .i64 0] 29))
  have hD : d.length ≤ maxLen := le47 (by omega)
  clear h
  cases hr : rightH (hp E) with
  | false =>
    obtain ⟨e1, e2, e3, e4⟩ := putHE_wrong d most hr
    rw [e1, e2, e3, e4]
    rw [hr] at C
    clear hr e1 e2 e3 e4
    go_enter Try.func5, Try.ntmps5
    go_wp2_with fail
    refine C.mono ?_
    rintro e w1 ⟨rfl, hb⟩
    have V0 := v0.later hb
    have V1 := v1.later hb
    have D1 := d1.later hb
    have hB := below_through hb hB0.size hB0
    have hs1 : w.heap.size + 3 ≤ w1.heap.size := by have := d1.lt; have := hb.size; simp at *; omega
    clear hb v0 v1 d1 hB0 C
    have C26 := hpCopied_any a c E w1 (A.out.later hB).cellsH A.out.len
    obtain ⟨q0, f0⟩ := V0
    go_wp2_with fail
    refine C26.mono ?_
    rintro e w2 ⟨⟨v, rfl, hown⟩, hb⟩
    obtain ⟨a', c', rfl, hcap, _, _⟩ := pgs_owned hown
    have FN := copied_fin A.out (w.heap.size + 1) 1 _ (V1.later hb) (D1.later hb) (below_through hb hB.size hB) (by omega) (by omega : w.heap.size + 1 + 1 < w1.heap.size) hown
    obtain ⟨q1, f1⟩ := V1.later hb
    obtain ⟨i0, i1, fi⟩ := D1.later hb
    clear C26 V1 D1
    go_wp2_with fail
    obtain ⟨x1, ⟨x2, x3, _⟩, x4⟩ := FN.out
    exact bodyPost_ret (v := .tuple #[.agg #[.slice a' E.length c'], .agg #[.int .i64 0, .int .i64 0], .int .i64 1]) (by simp [results, Try.results5, go_sem, x1, x2, x3]) rfl x4
  | true =>
    rw [hr] at C
    have HR := hid0 hr
    clear hr
    by_cases hl : d.length ≤ 1016
    · have hli : ¬ (1016 : Int) < (d.length : Int) := by omega
      go_enter Try.func5, Try.ntmps5
      go_wp2_with fail
      refine C.mono ?_
      rintro e w1 ⟨rfl, hb⟩
      have V0 := v0.later hb
      have V1 := v1.later hb
      have D1 := d1.later hb
      have hB := below_through hb hB0.size hB0
      have hs1 : w.heap.size + 3 ≤ w1.heap.size := by have := d1.lt; have := hb.size; simp at *; omega
      clear hb v0 v1 d1 hB0 C
      have C26 := hpCopied_any a c E w1 (A.out.later hB).cellsH A.out.len
      obtain ⟨q0, f0⟩ := V0
      go_wp2_with fail
      refine C26.mono ?_
      rintro e w2 ⟨⟨v, rfl, hown⟩, hb⟩
      obtain ⟨a', c', rfl, hcap, hcm, -⟩ := pgs_owned hown
      have V0 := (VarAt.mk q0 f0).later hb
      replace V1 := V1.later hb
      replace D1 := D1.later hb
      replace hB := below_through hb hB.size hB
      have hs2 := hb.size
      have VN := VarAt.new w2 (.slice a' E.length c') 25
      have hN : (w2.alloc (Obj.cells #[.slice a' E.length c'] 25)).heap[w2.heap.size]? = some (Obj.cells #[.slice a' E.length c'] 25) := new_at _ _
      replace V0 := V0.alloc (Obj.cells #[.slice a' E.length c'] 25)
      replace V1 := V1.alloc (Obj.cells #[.slice a' E.length c'] 25)
      replace D1 := D1.alloc (Obj.cells #[.slice a' E.length c'] 25)
      replace hB := hB.alloc hB.size (Obj.cells #[.slice a' E.length c'] 25)
      replace hown := hown.alloc (Obj.cells #[.slice a' E.length c'] 25)
      have C27 := hpRoomy_any a c E (d.length : Int) _ (A.out.later hB) (by omega) (by omega)
      obtain ⟨X, hX⟩ : ∃ X, fitH (d.length : Int) (hp E) = X := ⟨_, rfl⟩
      rw [hX] at C27
      have HX := hid0 hX
      have hXle : X ≤ E.length := by have := fitH_le (d.length : Int) (hp E); rw [hp_len] at this; omega
      have HO := hid0 hown
      have HN := hid0 hN
      have HDL := hid0 hl
      clear C26 hb q0 f0 hown hX hN
      obtain ⟨q0, f0⟩ := V0
      go_wp2_with fail
      refine C27.mono ?_
      rintro e w3 ⟨rfl, hb⟩
      have V0 := (VarAt.mk q0 f0).later hb
      replace V1 := V1.later hb
      replace D1 := D1.later hb
      replace VN := VN.later hb
      replace hB := below_through hb hB.size hB
      replace HO := hid0 (HO.out.kept hb)
      have hs3 := hb.size
      rw [World.size_alloc] at hs3
      replace HN := hid0 ((hb.block _ (by rw [World.size_alloc]; omega)).trans HN.out)
      obtain ⟨N, hNN⟩ : ∃ N, w2.heap.size = N := ⟨_, rfl⟩
      rw [hNN] at VN HN hs3 hs2 ⊢
      clear C27 hb q0 f0 hNN
      obtain ⟨q0, f0⟩ := V0
      obtain ⟨qN, fN⟩ := VN
      by_cases hlt : X < E.length
      · have hne : ¬ (X : Int) = (E.length : Int) := by omega
        have hneb : ((X : Int) == (E.length : Int)) = false := by simpa using hne
        obtain ⟨g, cg, eg, hgb, hcg, -, -⟩ := HO.out.form (by omega)
        obtain ⟨rfl, -, rfl⟩ := Value.slice.inj eg
        clear eg
        have gN : g ≠ N := HO.out.ne HN.out
        have hX1 : X < E.length := hlt
        have HPG := hid0 (fun (W : World) (hb : Below w.heap.size w W) (e : PgE) (he : e ∈ E) => (A.out.pages e he).later hb)
        have HPA := hid0 (fun (e : PgE) (he : e ∈ E) => (.inl ⟨e, he, rfl, rfl⟩ : (∃ e0 ∈ E, e.a = e0.a ∧ e.p = e0.p) ∨ ∀ b off, e.a = some ⟨b, off, none⟩ → w.heap.size ≤ b))
        have hlt' : X < (hp E).length := by rw [hp_len]; exact hlt
        have hfx := HX.out
        have hfd : fitsB E[X].p d.length = true := by
          have h1 := fitH_fits (d.length : Int) (hp E) (by rw [hfx]; exact hlt')
          have h2 : (hp E)[fitH (d.length : Int) (hp E)]'(by rw [hfx]; exact hlt') = E[X].p := by
            simp only [hfx]; exact hp_at hlt
          rwa [h2] at h1
        have HFX := hid0 (show ∀ Q, Q = putR E[X].p d → (hp E).set X Q = putHR (hp E) d ∧ slotH (hp E) d = placeP E[X].p ∧ canH (hp E) d most = true from fun Q hQ => by
          unfold putHR slotH canH
          rw [dif_pos (by rw [hfx]; exact hlt'), dif_pos (by rw [hfx]; exact hlt')]
          simp only [hfx]
          rw [hp_at hlt, hQ]
          exact ⟨rfl, rfl, by simp [hlt']⟩)
        have hEl : E.length * 24 ≤ 140737488351232 := A.out.len
        clear hfx hne hlt' hlt hl hXle
        have hne : ¬ (X : Int) = (E.length : Int) := by omega
        have hcap' := hcap
        obtain ⟨pe, hpe⟩ : ∃ pe, E[X] = pe := ⟨_, rfl⟩
        have hmem : pe ∈ E := by rw [← hpe]; exact List.getElem_mem hX1
        obtain ⟨hgc, hgf, hgb⟩ := HO.out.at hX1
        rw [hpe] at hgc hfd HFX
        have HPE := hid0 hpe
        have hii : ((X : Nat) : Int) < ((E.length : Nat) : Int) := by omega
        have hP := HPG.out _ hB pe hmem
        have hP0 := HPG.out w (Below.refl _ _) pe hmem
        obtain ⟨pd1, pd2, pd3⟩ := put_done hfd
        have C28 := pgPut_any pe.a pe.c pe.p d w3 hP.out hP.cap hP.len hP.small hD
        unfold PutAns at C28
        rw [pd1, pd2, pd3] at C28
        have HRp := hid0 (show RightP (putR pe.p d) by have := (fitsB_iff _ _).1 hfd; exact putR_right this.1 this)
        obtain ⟨k, hk⟩ : ∃ k, placeP pe.p = k := ⟨_, rfl⟩
        rw [hk] at C28 HFX
        clear pd1 pd2 pd3 hfd hk hP hpe
        go_wp2_with fail
        refine C28.mono ?_
        rintro e w6 ⟨⟨a2, c2, Q, rfl, hc2, hq2, hqe, hAw⟩, hb⟩
        have hsz1 := hB.size
        have F0 : ∀ B, w.heap.size ≤ B → B < w3.heap.size → Far a2 Q B := fun B h1 h2 => far_away hAw (far_old hP0.out h1) h2
        have HAW := hid0 hAw
        have hQ : PgAt w6 a2 c2 Q := ⟨hq2, hc2, by rw [hqe]; exact (right_fine HRp.out).1, by rw [hqe]; exact (right_fine HRp.out).2⟩
        have HQE := hid0 hqe
        have hglt : g < w3.heap.size := World.block_lt_of_cell? _ _ hgc
        replace V1 := V1.later hb
        replace D1 := D1.later hb
        have VN := (VarAt.mk qN fN).later hb
        replace hB := below_through hb hB.size hB
        replace HO := hid0 (HO.out.kept hb)
        have hgfr := (hb.frozen (p := ⟨g, X, none⟩) hglt).trans hgf
        replace hgc := cell_later hb hgc
        have hszb := hb.size
        clear C28 hb qN fN hqe hq2 hc2 hAw hP0 hgf
        have PV := (VarAt.new w6 (.slice a2 Q.length c2) 55).cell
        replace V1 := V1.alloc (Obj.cells #[.slice a2 Q.length c2] 55)
        replace D1 := D1.alloc (Obj.cells #[.slice a2 Q.length c2] 55)
        replace VN := VN.alloc (Obj.cells #[.slice a2 Q.length c2] 55)
        replace hQ := hQ.alloc (Obj.cells #[.slice a2 Q.length c2] 55)
        replace hB := hB.alloc hB.size (Obj.cells #[.slice a2 Q.length c2] 55)
        have hgA : (w6.alloc (Obj.cells #[.slice a2 Q.length c2] 55)).cell? ⟨g, X, none⟩ = some (.slice pe.a pe.p.length pe.c) := cell_later ((Below.refl _ _).alloc (Nat.le_refl _) _) hgc
        have hgF : (w6.alloc (Obj.cells #[.slice a2 Q.length c2] 55)).frozen? ⟨g, X, none⟩ = false := (((Below.refl _ _).alloc (Nat.le_refl _) _).frozen (p := ⟨g, X, none⟩) (by show g < w6.heap.size; omega)).trans hgfr
        have hX9 := hid0 (((((HO.out.alloc (Obj.cells #[.slice a2 Q.length c2] 55)).write X ⟨a2, c2, Q⟩).setCell (a := ⟨w.heap.size + 1, 0, none⟩) (by show w.heap.size + 1 < w1.heap.size; omega) (.slice (some ⟨g, 0, none⟩) E.length c')).setCell (a := ⟨w.heap.size + 1 + 1, 0, none⟩) (by show w.heap.size + 1 + 1 < w1.heap.size; omega) (.int .i64 ((X : Nat) : Int))).setCell (a := ⟨w.heap.size + 1 + 1, 1, none⟩) (by show w.heap.size + 1 + 1 < w1.heap.size; omega) (.int .i64 (k : Int)))
        have hQ9 := hid0 ((((hQ.setCell g X (.slice a2 Q.length c2) (F0 _ (by omega) hglt)).setCell (w.heap.size + 1) 0 (.slice (some ⟨g, 0, none⟩) E.length c') (F0 _ (by omega) (by omega))).setCell (w.heap.size + 1 + 1) 0 (.int .i64 ((X : Nat) : Int)) (F0 _ (by omega) (by omega))).setCell (w.heap.size + 1 + 1) 1 (.int .i64 (k : Int)) (F0 _ (by omega) (by omega)))
        have hB9 := hid0 ((((hB.setCell (p := ⟨g, X, none⟩) (by show w.heap.size ≤ g; omega) (.slice a2 Q.length c2)).setCell (p := ⟨w.heap.size + 1, 0, none⟩) (by show w.heap.size ≤ w.heap.size + 1; omega) (.slice (some ⟨g, 0, none⟩) E.length c')).setCell (p := ⟨w.heap.size + 1 + 1, 0, none⟩) (by show w.heap.size ≤ w.heap.size + 1 + 1; omega) (.int .i64 ((X : Nat) : Int))).setCell (p := ⟨w.heap.size + 1 + 1, 1, none⟩) (by show w.heap.size ≤ w.heap.size + 1 + 1; omega) (.int .i64 (k : Int)))
        have g1 : g ≠ w.heap.size + 1 := by omega
        have g2 : g ≠ w.heap.size + 1 + 1 := by omega
        have X1 := hid0 ((((V1.other ⟨g, X, none⟩ (.slice a2 Q.length c2) g1).set (.slice (some ⟨g, 0, none⟩) E.length c')).other ⟨w.heap.size + 1 + 1, 0, none⟩ (.int .i64 ((X : Nat) : Int)) (by show w.heap.size + 1 + 1 ≠ w.heap.size + 1; omega)).other ⟨w.heap.size + 1 + 1, 1, none⟩ (.int .i64 (k : Int)) (by show w.heap.size + 1 + 1 ≠ w.heap.size + 1; omega)).cell
        have X2 := hid0 (((D1.other ⟨g, X, none⟩ (.slice a2 Q.length c2) g2).other ⟨w.heap.size + 1, 0, none⟩ (.slice (some ⟨g, 0, none⟩) E.length c') (by show w.heap.size + 1 ≠ w.heap.size + 1 + 1; omega)).set ((X : Nat) : Int) (k : Int))
        obtain ⟨q1, f1⟩ := V1
        obtain ⟨i0, i1, fi⟩ := D1
        obtain ⟨qN, fN⟩ := VN
        clear hQ hB HO F0 hgc hgfr
        go_wp2_with fail
        refine bodyPost_ret (v := .tuple #[.agg #[(.slice (some ⟨g, 0, none⟩) E.length c')], .agg #[.int .i64 ((X : Nat) : Int), .int .i64 (k : Int)], .int .i64 0]) (by simp [results, Try.results5, go_sem, X1.out, X2.out.c0, X2.out.c1]) rfl ?_
        obtain ⟨h1, h2, h3⟩ := HFX.out Q HQE.out
        obtain ⟨e1, e2, e3, e4⟩ := putHE_done HR.out HDL.out h3
        unfold HIdAns
        rw [e1, e2, e3, e4, HX.out, h2]
        refine ⟨⟨some ⟨g, 0, none⟩, c', E.set X (⟨a2, c2, Q⟩ : PgE), ret_idh (by rw [List.length_set]), ⟨hX9.out.slots, fun e he => ?_, by rw [List.length_set]; exact hcap', by rw [List.length_set]; exact hEl⟩, by rw [hp_set, ← h1], ⟨.inr (fun b' o' e => ?_), fun x hx => ?_⟩⟩, hB9.out⟩
        · rcases List.mem_or_eq_of_mem_set he with he | rfl
          · exact HPG.out _ hB9.out e he
          · exact hQ9.out
        · obtain ⟨rfl, -⟩ : g = b' ∧ 0 = o' := by simpa using e
          omega
        · rcases List.mem_or_eq_of_mem_set hx with hx | rfl
          · exact HPA.out x hx
          · rcases HAW.out with ⟨e1, e2⟩ | h
            · rcases HPA.out pe hmem with ⟨e0, he0, e3, e4⟩ | h
              · exact .inl ⟨e0, he0, e1.trans e3, e2.trans e4⟩
              · exact .inr (fun b off e => h b off (by rw [← e]; exact e1.symm))
            · exact .inr (fun b off e => by have := h b off e; omega)
      · obtain rfl : X = E.length := by omega
        clear hlt hXle
        have heqb : ((E.length : Int) == (E.length : Int)) = true := by simp
        have hfl' : fitH (d.length : Int) (hp E) = (hp E).length := by rw [HX.out, hp_len]
        have hcan : canH (hp E) d most = (decide ((E.length : Int) < most) && decide (E.length < 4096)) := by
          unfold canH
          rw [hfl', hp_len]; simp
        obtain ⟨mn, hmn⟩ : ∃ mn, min most 4096 = mn := ⟨_, rfl⟩
        cases hcb : canH (hp E) d most with
        | false =>
          obtain ⟨e1, e2, e3, e4⟩ := putHE_full HR.out hl hcb
          rw [hcb] at hcan
          have hge : mn ≤ (E.length : Int) := by
            have h2 := hcan.symm
            simp only [Bool.and_eq_false_iff, decide_eq_false_iff_not] at h2
            rcases h2 with h2 | h2 <;> omega
          have EE := hid0 (And.intro e1 (And.intro e2 (And.intro e3 e4)))
          have FN := copied_fin A.out (w.heap.size + 1) 17 _ V1 D1 hB (by omega) (by omega : w.heap.size + 1 + 1 < w1.heap.size) HO.out
          obtain ⟨q1, f1⟩ := V1
          obtain ⟨i0, i1, fi⟩ := D1
          clear e1 e2 e3 e4 hcan hcb hfl'
          go_wp2_with fail
          obtain ⟨x1, ⟨x2, x3, _⟩, x4⟩ := FN.out
          exact bodyPost_ret (v := .tuple #[.agg #[.slice a' E.length c'], .agg #[.int .i64 0, .int .i64 0], .int .i64 17]) (by simp [results, Try.results5, go_sem, x1, x2, x3]) rfl (by obtain ⟨e1, e2, e3, e4⟩ := EE.out; rw [e1, e2, e3, e4]; exact x4)
        | true =>
          rw [hcb] at hcan
          have hand : (E.length : Int) < most ∧ E.length < 4096 := by
            have h := hcan.symm
            simp only [Bool.and_eq_true, decide_eq_true_eq] at h
            exact h
          have hge : ¬ mn ≤ (E.length : Int) := by omega
          have hlen := hand.2
          have HFX := hid0 (show ∀ Q, Q = putR [] d → (hp E) ++ [Q] = putHR (hp E) d ∧ slotH (hp E) d = 0 ∧ canH (hp E) d most = true from fun Q hQ => by
            unfold putHR slotH
            rw [dif_neg (by rw [hfl']; omega), dif_neg (by rw [hfl']; omega), hQ]; exact ⟨rfl, rfl, hcb⟩)
          clear hcan hcb hfl' hand
          have hn := fun (u : Value) => line_new1 w3 u 55
          have hown3 := HO.out
          have ho := fun (o : Obj) => hown3.alloc o
          go_wp2_with (at_builtin; go_must (refine wp_page1 (E := E) rfl _ _ rfl rfl (ho _) ⟨none, 0, []⟩ w3.heap.size rfl (hn _) (by omega) (by simp; omega) ?_))
          intro v5 w5 hown5 hgr5 hb5
          have hs5 := hb5.size
          have hb35 := (Below.refl w3.heap.size w3).alloc (Nat.le_refl _) (Obj.cells #[Value.slice none 0 0] 55)
          have HN5 : w5.heap[N]? = w3.heap[N]? := (hgr5.block N (by rw [World.size_alloc]; omega) (HO.out.apart HN.out)).trans (Below.heap_alloc _ _ _ (by omega))
          have VN5 : VarAt w5 N (.slice a' E.length c') := ⟨(World.cell?_of_block (a := ⟨N, 0, none⟩) HN5).trans qN, (World.frozen?_of_block (a := ⟨N, 0, none⟩) HN5).trans fN⟩
          replace V1 := (V1.alloc (Obj.cells #[Value.slice none 0 0] 55)).below hb5 (by omega)
          replace D1 := (D1.alloc (Obj.cells #[Value.slice none 0 0] 55)).below hb5 (by omega)
          replace hB := (hB.alloc hB.size (Obj.cells #[Value.slice none 0 0] 55)).trans (hb5.mono (by omega))
          obtain ⟨g, cg, rfl, hgb, hcap', -, -⟩ := hown5.form (by simp)
          have gN : g ≠ N := hown5.ne (HN5.trans HN.out)
          have hX1 : E.length < (E ++ [(⟨none, 0, []⟩ : PgE)]).length := by simp
          have hEl : (E ++ [(⟨none, 0, []⟩ : PgE)]).length * 24 ≤ 140737488351232 := by simp; omega
          have hlast : (E ++ [(⟨none, 0, []⟩ : PgE)])[E.length]'hX1 = ⟨none, 0, []⟩ := by simp
          have hfd : fitsB ((E ++ [(⟨none, 0, []⟩ : PgE)])[E.length]'hX1).p d.length = true := by rw [hlast]; exact (fitsB_iff _ _).2 (fits_nil hl)
          have HFX' := hid0 (show ∀ Q, Q = putR ((E ++ [(⟨none, 0, []⟩ : PgE)])[E.length]'hX1).p d → (hp (E ++ [(⟨none, 0, []⟩ : PgE)])).set E.length Q = putHR (hp E) d ∧ slotH (hp E) d = placeP ((E ++ [(⟨none, 0, []⟩ : PgE)])[E.length]'hX1).p ∧ canH (hp E) d most = true from fun Q hQ => by
            rw [hlast] at hQ ⊢
            obtain ⟨h1, h2, h3⟩ := HFX.out Q hQ
            refine ⟨?_, h2, h3⟩
            rw [← h1, hp, List.map_append, List.set_append_right _ _ (by rw [List.length_map]; exact Nat.le_refl _), List.length_map, Nat.sub_self]; rfl)
          have HPG := hid0 (fun (W : World) (hb : Below w.heap.size w W) (e : PgE) (he : e ∈ E ++ [(⟨none, 0, []⟩ : PgE)]) => (show PgAt W e.a e.c e.p by
            rcases List.mem_append.1 he with he | he
            · exact (A.out.pages e he).later hb
            · obtain rfl := List.mem_singleton.1 he
              exact ⟨fun hn => absurd rfl hn, Nat.le_refl _, by simp, fun s hs => absurd hs (by simp)⟩))
          have HPA := hid0 (fun (e : PgE) (he : e ∈ E ++ [(⟨none, 0, []⟩ : PgE)]) => (show (∃ e0 ∈ E, e.a = e0.a ∧ e.p = e0.p) ∨ ∀ b off, e.a = some ⟨b, off, none⟩ → w.heap.size ≤ b by
            rcases List.mem_append.1 he with he | he
            · exact .inl ⟨e, he, rfl, rfl⟩
            · obtain rfl := List.mem_singleton.1 he
              exact .inr (fun b off e => by cases e)))
          replace HFX := HFX'
          have HO := hid0 (hown5.other ⟨N, 0, none⟩ (.slice (some ⟨g, 0, none⟩) (E.length + 1) cg) gN)
          have VN := VN5.set (.slice (some ⟨g, 0, none⟩) (E.length + 1) cg)
          obtain ⟨k5, _, _⟩ := hown5.at hX1
          obtain ⟨m5, n5⟩ := VN5
          replace V1 := V1.other ⟨N, 0, none⟩ (.slice (some ⟨g, 0, none⟩) (E.length + 1) cg) (by show N ≠ w.heap.size + 1; omega)
          replace D1 := D1.other ⟨N, 0, none⟩ (.slice (some ⟨g, 0, none⟩) (E.length + 1) cg) (by show N ≠ w.heap.size + 1 + 1; omega)
          replace hB := hB.setCell (p := ⟨N, 0, none⟩) (by show w.heap.size ≤ N; omega) (.slice (some ⟨g, 0, none⟩) (E.length + 1) cg)
          clear HFX' HN5 hgr5 hb5 hb35 hown5 hn ho hown3 hlast q0 f0 qN fN
          obtain ⟨qN, fN⟩ := VN
          obtain ⟨pe, hpe⟩ : ∃ pe, (E ++ [(⟨none, 0, []⟩ : PgE)])[E.length] = pe := ⟨_, rfl⟩
          have hmem : pe ∈ (E ++ [(⟨none, 0, []⟩ : PgE)]) := by rw [← hpe]; exact List.getElem_mem hX1
          obtain ⟨hgc, hgf, hgb⟩ := HO.out.at hX1
          rw [hpe] at hgc hfd HFX
          have HPE := hid0 hpe
          have hii : ((E.length : Nat) : Int) < (((E.length + 1) : Nat) : Int) := by omega
          have hP := HPG.out _ hB pe hmem
          have hP0 := HPG.out w (Below.refl _ _) pe hmem
          obtain ⟨pd1, pd2, pd3⟩ := put_done hfd
          have C28 := pgPut_any pe.a pe.c pe.p d (w5.setCell ⟨N, 0, none⟩ (.slice (some ⟨g, 0, none⟩) (E.length + 1) cg)) hP.out hP.cap hP.len hP.small hD
          unfold PutAns at C28
          rw [pd1, pd2, pd3] at C28
          have HRp := hid0 (show RightP (putR pe.p d) by have := (fitsB_iff _ _).1 hfd; exact putR_right this.1 this)
          obtain ⟨k, hk⟩ : ∃ k, placeP pe.p = k := ⟨_, rfl⟩
          rw [hk] at C28 HFX
          clear pd1 pd2 pd3 hfd hk hP hpe
          go_wp2_with fail
          refine C28.mono ?_
          rintro e w6 ⟨⟨a2, c2, Q, rfl, hc2, hq2, hqe, hAw⟩, hb⟩
          have hsz1 := hB.size
          have F0 : ∀ B, w.heap.size ≤ B → B < (w5.setCell ⟨N, 0, none⟩ (.slice (some ⟨g, 0, none⟩) (E.length + 1) cg)).heap.size → Far a2 Q B := fun B h1 h2 => far_away hAw (far_old hP0.out h1) h2
          have HAW := hid0 hAw
          have hQ : PgAt w6 a2 c2 Q := ⟨hq2, hc2, by rw [hqe]; exact (right_fine HRp.out).1, by rw [hqe]; exact (right_fine HRp.out).2⟩
          have HQE := hid0 hqe
          have hglt : g < (w5.setCell ⟨N, 0, none⟩ (.slice (some ⟨g, 0, none⟩) (E.length + 1) cg)).heap.size := World.block_lt_of_cell? _ _ hgc
          replace V1 := V1.later hb
          replace D1 := D1.later hb
          have VN := (VarAt.mk qN fN).later hb
          replace hB := below_through hb hB.size hB
          replace HO := hid0 (HO.out.kept hb)
          have hgfr := (hb.frozen (p := ⟨g, E.length, none⟩) hglt).trans hgf
          replace hgc := cell_later hb hgc
          have hszb := hb.size
          clear C28 hb qN fN hqe hq2 hc2 hAw hP0 hgf
          have PV := (VarAt.new w6 (.slice a2 Q.length c2) 55).cell
          replace V1 := V1.alloc (Obj.cells #[.slice a2 Q.length c2] 55)
          replace D1 := D1.alloc (Obj.cells #[.slice a2 Q.length c2] 55)
          replace VN := VN.alloc (Obj.cells #[.slice a2 Q.length c2] 55)
          replace hQ := hQ.alloc (Obj.cells #[.slice a2 Q.length c2] 55)
          replace hB := hB.alloc hB.size (Obj.cells #[.slice a2 Q.length c2] 55)
          have hgA : (w6.alloc (Obj.cells #[.slice a2 Q.length c2] 55)).cell? ⟨g, E.length, none⟩ = some (.slice pe.a pe.p.length pe.c) := cell_later ((Below.refl _ _).alloc (Nat.le_refl _) _) hgc
          have hgF : (w6.alloc (Obj.cells #[.slice a2 Q.length c2] 55)).frozen? ⟨g, E.length, none⟩ = false := (((Below.refl _ _).alloc (Nat.le_refl _) _).frozen (p := ⟨g, E.length, none⟩) (by show g < w6.heap.size; omega)).trans hgfr
          have hX9 := hid0 (((((HO.out.alloc (Obj.cells #[.slice a2 Q.length c2] 55)).write E.length ⟨a2, c2, Q⟩).setCell (a := ⟨w.heap.size + 1, 0, none⟩) (by show w.heap.size + 1 < w1.heap.size; omega) (.slice (some ⟨g, 0, none⟩) (E.length + 1) cg)).setCell (a := ⟨w.heap.size + 1 + 1, 0, none⟩) (by show w.heap.size + 1 + 1 < w1.heap.size; omega) (.int .i64 ((E.length : Nat) : Int))).setCell (a := ⟨w.heap.size + 1 + 1, 1, none⟩) (by show w.heap.size + 1 + 1 < w1.heap.size; omega) (.int .i64 (k : Int)))
          have hQ9 := hid0 ((((hQ.setCell g E.length (.slice a2 Q.length c2) (F0 _ (by omega) hglt)).setCell (w.heap.size + 1) 0 (.slice (some ⟨g, 0, none⟩) (E.length + 1) cg) (F0 _ (by omega) (by omega))).setCell (w.heap.size + 1 + 1) 0 (.int .i64 ((E.length : Nat) : Int)) (F0 _ (by omega) (by omega))).setCell (w.heap.size + 1 + 1) 1 (.int .i64 (k : Int)) (F0 _ (by omega) (by omega)))
          have hB9 := hid0 ((((hB.setCell (p := ⟨g, E.length, none⟩) (by show w.heap.size ≤ g; omega) (.slice a2 Q.length c2)).setCell (p := ⟨w.heap.size + 1, 0, none⟩) (by show w.heap.size ≤ w.heap.size + 1; omega) (.slice (some ⟨g, 0, none⟩) (E.length + 1) cg)).setCell (p := ⟨w.heap.size + 1 + 1, 0, none⟩) (by show w.heap.size ≤ w.heap.size + 1 + 1; omega) (.int .i64 ((E.length : Nat) : Int))).setCell (p := ⟨w.heap.size + 1 + 1, 1, none⟩) (by show w.heap.size ≤ w.heap.size + 1 + 1; omega) (.int .i64 (k : Int)))
          have g1 : g ≠ w.heap.size + 1 := by omega
          have g2 : g ≠ w.heap.size + 1 + 1 := by omega
          have X1 := hid0 ((((V1.other ⟨g, E.length, none⟩ (.slice a2 Q.length c2) g1).set (.slice (some ⟨g, 0, none⟩) (E.length + 1) cg)).other ⟨w.heap.size + 1 + 1, 0, none⟩ (.int .i64 ((E.length : Nat) : Int)) (by show w.heap.size + 1 + 1 ≠ w.heap.size + 1; omega)).other ⟨w.heap.size + 1 + 1, 1, none⟩ (.int .i64 (k : Int)) (by show w.heap.size + 1 + 1 ≠ w.heap.size + 1; omega)).cell
          have X2 := hid0 (((D1.other ⟨g, E.length, none⟩ (.slice a2 Q.length c2) g2).other ⟨w.heap.size + 1, 0, none⟩ (.slice (some ⟨g, 0, none⟩) (E.length + 1) cg) (by show w.heap.size + 1 ≠ w.heap.size + 1 + 1; omega)).set ((E.length : Nat) : Int) (k : Int))
          obtain ⟨q1, f1⟩ := V1
          obtain ⟨i0, i1, fi⟩ := D1
          obtain ⟨qN, fN⟩ := VN
          clear hQ hB HO F0 hgc hgfr
          go_wp2_with fail
          refine bodyPost_ret (v := .tuple #[.agg #[(.slice (some ⟨g, 0, none⟩) (E.length + 1) cg)], .agg #[.int .i64 ((E.length : Nat) : Int), .int .i64 (k : Int)], .int .i64 0]) (by simp [results, Try.results5, go_sem, X1.out, X2.out.c0, X2.out.c1]) rfl ?_
          obtain ⟨h1, h2, h3⟩ := HFX.out Q HQE.out
          obtain ⟨e1, e2, e3, e4⟩ := putHE_done HR.out HDL.out h3
          unfold HIdAns
          rw [e1, e2, e3, e4, HX.out, h2]
          refine ⟨⟨some ⟨g, 0, none⟩, cg, (E ++ [(⟨none, 0, []⟩ : PgE)]).set E.length (⟨a2, c2, Q⟩ : PgE), ret_idh (by rw [List.length_set]; simp), ⟨hX9.out.slots, fun e he => ?_, by rw [List.length_set]; exact hcap', by rw [List.length_set]; exact hEl⟩, by rw [hp_set, ← h1], ⟨.inr (fun b' o' e => ?_), fun x hx => ?_⟩⟩, hB9.out⟩
          · rcases List.mem_or_eq_of_mem_set he with he | rfl
            · exact HPG.out _ hB9.out e he
            · exact hQ9.out
          · obtain ⟨rfl, -⟩ : g = b' ∧ 0 = o' := by simpa using e
            omega
          · rcases List.mem_or_eq_of_mem_set hx with hx | rfl
            · exact HPA.out x hx
            · rcases HAW.out with ⟨e1, e2⟩ | h
              · rcases HPA.out pe hmem with ⟨e0, he0, e3, e4⟩ | h
                · exact .inl ⟨e0, he0, e1.trans e3, e2.trans e4⟩
                · exact .inr (fun b off e => h b off (by rw [← e]; exact e1.symm))
              · exact .inr (fun b off e => by have := h b off e; omega)
    · have hli : (1016 : Int) < (d.length : Int) := by omega
      obtain ⟨e1, e2, e3, e4⟩ := putHE_long most HR.out hl
      rw [e1, e2, e3, e4]
      clear e1 e2 e3 e4 hl
      go_enter Try.func5, Try.ntmps5
      go_wp2_with fail
      refine C.mono ?_
      rintro e w1 ⟨rfl, hb⟩
      have V0 := v0.later hb
      have V1 := v1.later hb
      have D1 := d1.later hb
      have hB := below_through hb hB0.size hB0
      have hs1 : w.heap.size + 3 ≤ w1.heap.size := by have := d1.lt; have := hb.size; simp at *; omega
      clear hb v0 v1 d1 hB0 C
      have C26 := hpCopied_any a c E w1 (A.out.later hB).cellsH A.out.len
      obtain ⟨q0, f0⟩ := V0
      go_wp2_with fail
      refine C26.mono ?_
      rintro e w2 ⟨⟨v, rfl, hown⟩, hb⟩
      obtain ⟨a', c', rfl, hcap, _, _⟩ := pgs_owned hown
      have FN := copied_fin A.out (w.heap.size + 1) 3 _ (V1.later hb) (D1.later hb) (below_through hb hB.size hB) (by omega) (by omega : w.heap.size + 1 + 1 < w1.heap.size) hown
      obtain ⟨q1, f1⟩ := V1.later hb
      obtain ⟨i0, i1, fi⟩ := D1.later hb
      clear C26 V1 D1
      go_wp2_with fail
      obtain ⟨x1, ⟨x2, x3, _⟩, x4⟩ := FN.out
      exact bodyPost_ret (v := .tuple #[.agg #[.slice a' E.length c'], .agg #[.int .i64 0, .int .i64 0], .int .i64 3]) (by simp [results, Try.results5, go_sem, x1, x2, x3]) rfl x4
end Go.Proofs.Ytneebnankghhgaa
