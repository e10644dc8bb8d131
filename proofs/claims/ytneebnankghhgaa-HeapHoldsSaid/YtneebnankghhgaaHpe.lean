/- Several of my texts laid together, each as it was: Hpe. Conditions: each names its own. -/
import Derived.Test.YtneebnankghhgaaHpd
/- The project's heap: cutting: a contract of the call, in whatever memory. Conditions: the pages' cells are known. -/
namespace Go.Proofs.Ytneebnankghhgaa
open Go.RowKit

theorem set_keep {W : World} {B o g j : Nat} {u v : Value} (hne : g ≠ B) (h : W.cell? ⟨B, o, none⟩ = some v) : (W.setCell ⟨g, j, none⟩ u).cell? ⟨B, o, none⟩ = some v := by
  rw [World.cell?_setCell_other _ _ _ _ (fun e => hne (by simpa using congrArg Addr.block e))]
  exact h
theorem trimH_prefix : ∀ h : Hp, trimH h = h.take (trimH h).length
  | [] => rfl
  | p :: h => by
    have ih := trimH_prefix h
    unfold trimH
    split
    · split <;> simp
    · rename_i q g e
      rw [e] at ih
      simp only [List.length_cons, List.take_succ_cons] at ih ⊢
      rw [← ih]
theorem ret_heap {a : Option Addr} {m n c : Nat} {x : Value} (h : m = n) : Ending.returned (.tuple #[.agg #[.slice a m c], x]) = .returned (.tuple #[.agg #[.slice a n c], x]) := by rw [h]

set_option maxHeartbeats 4000000 in
set_option maxRecDepth 1000000 in
theorem hpCut_any (a : Option Addr) (c : Nat) (E : List PgE) (x y : Int) (w : World) (h : HpAt w a c E) (hx1 : -9223372036854775808 ≤ x) (hx2 : x ≤ 9223372036854775807) (hy1 : -9223372036854775808 ≤ y) (hy2 : y ≤ 9223372036854775807) :
    Calls Try.prog 7 #[.agg #[.slice a E.length c], .agg #[.int .i64 x, .int .i64 y]] w (HAns w a E (cutHP (hp E) x y) (getHE (hp E) x y)) := by
  have A := hid0 h
  have hlb : E.length ≤ 5864062014805 := by have := h.len; omega
  have v0 := (((VarAt.new w (.slice a E.length c) 25).alloc (Obj.cells #[.int .i64 x, .int .i64 y] 29)).alloc (Obj.cells #[.slice none 0 0] 25))
  have d0 := (IdAt.new (w.alloc (Obj.cells #[.slice a E.length c] 25)) x y 29).alloc (Obj.cells #[.slice none 0 0] 25)
  have r0 := VarAt.new ((w.alloc (Obj.cells #[.slice a E.length c] 25)).alloc (Obj.cells #[.int .i64 x, .int .i64 y] 29)) (.slice none 0 0) 25
  rw [World.size_alloc] at d0
  rw [World.size_alloc, World.size_alloc] at r0
  have hB0 : Below w.heap.size w (((w.alloc (Obj.cells #[.slice a E.length c] 25)).alloc (Obj.cells #[.int .i64 x, .int .i64 y] 29)).alloc (Obj.cells #[.slice none 0 0] 25)) := (((Below.refl _ _).alloc (Nat.le_refl _) _).alloc (by simp) _).alloc (by simp; omega) _
  have C := hpGet_any a c E x y _ (((h.alloc (Obj.cells #[.slice a E.length c] 25)).alloc (Obj.cells #[.int .i64 x, .int .i64 y] 29)).alloc (Obj.cells #[.slice none 0 0] 25)) hx1 hx2 hy1 hy2
  clear h
  rcases getHE_cases (hp E) x y with ⟨hne, hgd, _⟩ | ⟨hr, i, k, rfl, rfl, hi, hk, hg, he0⟩
  · have e1 : cutHP (hp E) x y = hp E := if_neg hne
    rw [e1]
    obtain ⟨er, her⟩ : ∃ er, getHE (hp E) x y = er := ⟨_, rfl⟩
    rw [her] at C hne ⊢
    clear e1 hgd her
    obtain ⟨q0, f0⟩ := v0
    obtain ⟨i0, i1, fi⟩ := d0
    go_enter Try.func7, Try.ntmps7
    go_wp2_with fail
    refine C.mono ?_
    rintro e w1 ⟨rfl, hb⟩
    obtain ⟨q1, f1⟩ := (VarAt.mk q0 f0).later hb
    have R1 := r0.later hb
    have hB1 := below_through hb hB0.size hB0
    have hlR := R1.lt
    have C26 := hpCopied_any a c E w1 (A.out.later hB1).cellsH A.out.len
    clear q0 f0 i0 i1 fi C r0
    go_wp2_with fail
    refine C26.mono ?_
    rintro e w2 ⟨⟨v, rfl, hown⟩, hb2⟩
    obtain ⟨a', c', rfl, hcap, -, -⟩ := pgs_owned hown
    obtain ⟨s1, g1⟩ := R1.later hb2
    have c0 := ((VarAt.mk s1 g1).set (.slice a' E.length c')).cell
    have hB2 := (below_through hb2 hB1.size hB1).setCell (p := ⟨w.heap.size + 1 + 1, 0, none⟩) (by show w.heap.size ≤ w.heap.size + 1 + 1; omega) (.slice a' E.length c')
    have hO := hown.setCell (a := ⟨w.heap.size + 1 + 1, 0, none⟩) hlR (.slice a' E.length c')
    obtain ⟨h1, h2⟩ := hO.heap A.out hB2 hB1.size
    go_wp2
    exact bodyPost_ret (v := .tuple #[.agg #[.slice a' E.length c'], .int .i64 er]) (by simp [results, Try.results7, go_sem, c0]) rfl ⟨⟨a', c', E, rfl, h1, rfl, h2⟩, hB2⟩
  · have hiE : i < E.length := by simpa [hp_len] using hi
    obtain ⟨gd, hgd⟩ : ∃ g, getHD (hp E) (i : Int) (k : Int) = g := ⟨_, rfl⟩
    rw [he0, hgd] at C
    have e1 : cutHP (hp E) (i : Int) (k : Int) = cutHR (hp E) i k := by unfold cutHP; rw [if_pos he0, Int.toNat_natCast, Int.toNat_natCast]
    rw [e1, he0]
    have hk' : k < E[i].p.length := by rw [hp_at hiE] at hk; exact hk
    have hgp : gotP E[i].p k = some gd := by rw [hp_at hiE] at hg; rw [hg, hgd]
    have hRp : RightP E[i].p := hr.pages _ (List.mem_map_of_mem (f := PgE.p) (List.getElem_mem hiE))
    have hcutp : cutP E[i].p (k : Int) = cutR E[i].p k ∧ getE E[i].p (k : Int) = 0 := by
      have h0 := (getE_of hRp hgp).1
      exact ⟨by unfold cutP; rw [if_pos h0, Int.toNat_natCast], h0⟩
    have HC := hid0 hcutp
    have HR := hid0 hr
    have HRP := hid0 hRp
    have HXY := hid0 (And.intro hy1 hy2)
    clear e1 he0 hgd hg hk hgp hRp hcutp hr hi hy1 hy2
    obtain ⟨q0, f0⟩ := v0
    obtain ⟨i0, i1, fi⟩ := d0
    go_enter Try.func7, Try.ntmps7
    go_wp2_with fail
    refine C.mono ?_
    rintro e w1 ⟨rfl, hb⟩
    have V0 := (VarAt.mk q0 f0).later hb
    have R0 := r0.later hb
    have D0 := (IdAt.mk i0 i1 fi).later hb
    have hB := below_through hb hB0.size hB0
    have hs1 := R0.lt
    clear q0 f0 i0 i1 fi r0 hB0 hb C
    have C26 := hpCopied_any a c E w1 (A.out.later hB).cellsH A.out.len
    obtain ⟨q0, f0⟩ := V0
    go_wp2_with fail
    refine C26.mono ?_
    rintro e w2 ⟨⟨v, rfl, hown⟩, hb⟩
    obtain ⟨g, c', rfl, hgb, hcap, -, -⟩ := hown.form (by omega)
    have V0 := (VarAt.mk q0 f0).later hb
    replace R0 := R0.later hb
    replace D0 := D0.later hb
    replace hB := below_through hb hB.size hB
    have hs2 := hb.size
    have hgl : g < w2.heap.size := by obtain ⟨h1, _, _⟩ := hown.at hiE; exact World.block_lt_of_cell? _ _ h1
    have VN := VarAt.new w2 (.slice (some ⟨g, 0, none⟩) E.length c') 25
    replace V0 := V0.alloc (Obj.cells #[.slice (some ⟨g, 0, none⟩) E.length c'] 25)
    replace R0 := R0.alloc (Obj.cells #[.slice (some ⟨g, 0, none⟩) E.length c'] 25)
    replace D0 := D0.alloc (Obj.cells #[.slice (some ⟨g, 0, none⟩) E.length c'] 25)
    replace hB := hB.alloc hB.size (Obj.cells #[.slice (some ⟨g, 0, none⟩) E.length c'] 25)
    replace hown := hown.alloc (Obj.cells #[.slice (some ⟨g, 0, none⟩) E.length c'] 25)
    have gN : g ≠ w2.heap.size := by omega
    have HO := hid0 hown
    clear C26 hb q0 f0 hown
    obtain ⟨q0, f0⟩ := V0
    go_wp2_with fail
    have hNl := VN.lt
    generalize (w2.alloc (Obj.cells #[.slice (some ⟨g, 0, none⟩) E.length c'] 25)) = W at VN R0 D0 q0 f0 hB HO hNl ⊢
    obtain ⟨N, hN⟩ : ∃ N, w2.heap.size = N := ⟨_, rfl⟩
    rw [hN] at VN gN hgl hs2 hNl ⊢
    clear hN
    have hne : E ≠ [] := by intro e; rw [e] at hiE; exact absurd hiE (by simp)
    obtain ⟨b, o, rfl, hcs⟩ := A.out.cells hne
    have hbl : b < w.heap.size := World.block_lt_of_cell? _ _ (hcs i hiE)
    have p1 := ((A.out.later hB).cells hne)
    obtain ⟨b', o', eb, hcs'⟩ := p1
    obtain ⟨rfl, rfl⟩ : b = b' ∧ o = o' := by simpa using eb
    have p1 := hcs' i hiE
    have hPE := A.out.pages _ (List.getElem_mem hiE)
    have hfine := cut_fine (p := E[i].p) ⟨hPE.len, hPE.small⟩ (k : Int)
    have HPE := hid0 hPE
    have HFI := hid0 hfine
    obtain ⟨pe, hpe⟩ : ∃ pe, E[i] = pe := ⟨_, rfl⟩
    have hmem : pe ∈ E := by rw [← hpe]; exact List.getElem_mem hiE
    rw [hpe] at p1 HPE HFI HC HRP
    have C34 := hid0 (fun W (hb : Below w.heap.size w W) => pgCut_any pe.a pe.c pe.p (k : Int) W ((HPE.out.later hb).out) HPE.out.cap HPE.out.len HPE.out.small HXY.out.1 HXY.out.2)
    have HP := hid0 hpe
    have hii : (i : Int) < (E.length : Int) := by omega
    obtain ⟨hgc, hgf, -⟩ := HO.out.at hiE
    rw [hpe] at hgc
    have HG := hid0 (And.intro hgc hgf)
    clear hcs hcs' eb hne hPE hfine hpe hgc hgf
    obtain ⟨i0, i1, fi⟩ := D0
    obtain ⟨n0, fn0⟩ := VN
    have gb : g ≠ b := by omega
    have g0 : g ≠ w.heap.size := by omega
    have g1 : g ≠ w.heap.size + 1 := by omega
    have g2 : g ≠ w.heap.size + 1 + 1 := by omega
    go_region_held3 (fun w' => w'.cell? ⟨N, 0, none⟩ = some (.slice (some ⟨g, 0, none⟩) E.length c') ∧ w'.cell? ⟨w.heap.size, 0, none⟩ = some (.slice (some ⟨b, o, none⟩) E.length c) ∧ w'.cell? ⟨w.heap.size + 1, 0, none⟩ = some (.int .i64 (i : Int)) ∧ w'.cell? ⟨w.heap.size + 1, 1, none⟩ = some (.int .i64 (k : Int)) ∧ w'.cell? ⟨b, o + i, none⟩ = some (.slice pe.a pe.p.length pe.c) ∧ Below w.heap.size w w')
      ((go_split_ands; (try dsimp only); (repeat' apply And.intro); all_goals (first
        | assumption
        | exact cell_later hbn ‹_›
        | exact Below.drew hB
        | exact below_through hbn (Below.size (by assumption)) (by assumption)
        | exact set_keep gN ‹_›
        | exact set_keep g0 ‹_›
        | exact set_keep g1 ‹_›
        | exact set_keep gb ‹_›
        | exact Below.setCell (by assumption) (by show w.heap.size ≤ g; omega) _
        | go_keep)))
      (first
        | (go_at_call 18; (try go_split_ands); refine (C34.out _ (by assumption)).mono ?_; rintro e wn ⟨⟨a2, c2, Q, rfl, hc2, hq2, hqe, hAw⟩, hbn⟩; have HQE := hid0 hqe; clear hqe; have hgn := cell_later hbn HG.out.1; have hgnf := (hbn.frozen (p := ⟨g, i, none⟩) (World.block_lt_of_cell? _ _ HG.out.1)).trans HG.out.2))
    have HH := ‹(wn.setCell ⟨g, i, none⟩ (.slice a2 Q.length c2)).cell? ⟨N, 0, none⟩ = some (.slice (some ⟨g, 0, none⟩) E.length c') ∧ _›
    have hB9 := HH.2.2.2.2.2
    have hbW : Below W.heap.size W wn := (Below.drew (Below.refl _ W)).trans hbn
    have VN := ((VarAt.mk n0 fn0).later hbW).other ⟨g, i, none⟩ (.slice a2 Q.length c2) gN
    have R9 := (R0.later hbW).other ⟨g, i, none⟩ (.slice a2 Q.length c2) g2
    have hsW := hbW.size
    have hQ9 : PgAt (wn.setCell ⟨g, i, none⟩ (.slice a2 Q.length c2)) a2 c2 Q := (show PgAt wn a2 c2 Q from ⟨hq2, hc2, by rw [HQE.out]; exact HFI.out.1, by rw [HQE.out]; exact HFI.out.2⟩).setCell g i _ (far_away hAw (far_old HPE.out.out (by omega)) (by show g < W.heap.size; omega))
    have F0 : ∀ B, w.heap.size ≤ B → B < W.heap.size → Far a2 Q B := fun B h1 h2 => far_away hAw (far_old HPE.out.out h1) h2
    have hO9 := (HO.out.kept hbW).write i ⟨a2, c2, Q⟩
    have hcut : cutHR (hp E) i k = trimH (hp (E.set i ⟨a2, c2, Q⟩)) := by
      have hi' : i < (hp E).length := by rw [hp_len]; exact hiE
      unfold cutHR
      rw [dif_pos hi', hp_set, hp_at hiE, HP.out, HQE.out, HC.out.1]
    have hpg : ∀ e ∈ E.set i ⟨a2, c2, Q⟩, e ∈ E ∨ e = ⟨a2, c2, Q⟩ := fun e he => List.mem_or_eq_of_mem_set he
    have haw := mem_set_away (w := w) (E := E) (i := i) (e := ⟨a2, c2, Q⟩) (by
      rcases hAw with ⟨e1, e2⟩ | h
      · exact .inl ⟨pe, hmem, e1, e2⟩
      · exact .inr (fun b off e => by have h1 := h b off e; have h2 := hB.size; have : W.drew.heap.size = W.heap.size := rfl; omega))
    have hEl : (E.set i ⟨a2, c2, Q⟩).length = E.length := List.length_set
    obtain ⟨E2, hE2⟩ : ∃ E2, E.set i ⟨a2, c2, Q⟩ = E2 := ⟨_, rfl⟩
    rw [hE2] at hO9 hcut hpg haw hEl
    have C35 := hpTrimmed_any (some ⟨g, 0, none⟩) c' E2 (wn.setCell ⟨g, i, none⟩ (.slice a2 Q.length c2)) hO9.slots (by rw [hEl]; exact hcap) (by rw [hEl]; exact A.out.len)
    rw [hEl] at C35 hO9
    obtain ⟨n, hn⟩ : ∃ n, (trimH (hp E2)).length = n := ⟨_, rfl⟩
    rw [hn] at C35
    have hnle : n ≤ E.length := by have := trimH_le (hp E2); rw [hp_len] at this; omega
    have hpre := trimH_prefix (hp E2)
    rw [hn] at hpre
    have HCUT := hid0 (hcut.trans hpre)
    have HPG := hid0 hpg
    have HAE := hid0 haw
    have HO9 := hid0 hO9
    have HQ9 := hid0 hQ9
    have HL := hid0 (And.intro hEl A.out.len)
    obtain ⟨n9, fn9⟩ := VN
    clear hO9 hQ9 hcut hpg haw hE2 hEl hpre hn HH n0 fn0 i0 i1 fi q0 f0 p1 hgn hgnf hq2 hAw hbn hbW HG C34 hB
    go_wp2_with fail
    refine C35.mono ?_
    rintro e w7 ⟨rfl, hb⟩
    have VN := (VarAt.mk n9 fn9).later hb
    have R7 := R9.later hb
    have hB7 := below_through hb hB9.size hB9
    have hO7 := HO9.out.kept hb
    have hQ7 := HQ9.out.later hb
    have hs7 := hb.size
    rw [World.size_setCell] at hs7
    have hNs : N ≠ w.heap.size + 1 + 1 := by omega
    have cN := (VN.set (.slice (some ⟨g, 0, none⟩) n c')).cell
    have R8 := (R7.other ⟨N, 0, none⟩ (.slice (some ⟨g, 0, none⟩) n c') hNs)
    have c0 := hid0 (R8.set (.slice (some ⟨g, 0, none⟩) n c')).cell
    have hBf := hid0 ((hB7.setCell (p := ⟨N, 0, none⟩) (by show w.heap.size ≤ N; omega) (.slice (some ⟨g, 0, none⟩) n c')).setCell (p := ⟨w.heap.size + 1 + 1, 0, none⟩) (by show w.heap.size ≤ w.heap.size + 1 + 1; omega) (.slice (some ⟨g, 0, none⟩) n c'))
    have hOf := hid0 ((hO7.other ⟨N, 0, none⟩ (.slice (some ⟨g, 0, none⟩) n c') gN).other ⟨w.heap.size + 1 + 1, 0, none⟩ (.slice (some ⟨g, 0, none⟩) n c') g2)
    have hQf := hid0 ((hQ7.setCell N 0 (.slice (some ⟨g, 0, none⟩) n c') (F0 _ (by omega) hNl)).setCell (w.heap.size + 1 + 1) 0 (.slice (some ⟨g, 0, none⟩) n c') (F0 _ (by omega) (by omega)))
    obtain ⟨q7, f7⟩ := VN
    obtain ⟨r7, h7⟩ := R7
    obtain ⟨r8, h8⟩ := R8
    clear C35 hb n9 fn9 R9 hB7 hO7 hQ7 HO9 HQ9 hB9
    go_wp2_with fail
    have hql : (E2.take n).length = n := by rw [List.length_take]; have := HL.out.1; omega
    refine bodyPost_ret (v := .tuple #[.agg #[.slice (some ⟨g, 0, none⟩) n c'], .int .i64 0]) (by simp [results, Try.results7, go_sem, c0.out]) rfl ?_
    rw [HCUT.out]
    refine ⟨⟨some ⟨g, 0, none⟩, c', E2.take n, ret_heap hql.symm, ⟨hOf.out.slots.take n, fun e he => ?_, by rw [hql]; omega, by rw [hql]; have := HL.out.2; omega⟩, hp_take E2 n, ⟨.inr (fun b' o' e => ?_), fun e he => HAE.out e (List.mem_of_mem_take he)⟩⟩, hBf.out⟩
    · rcases HPG.out e (List.mem_of_mem_take he) with he | rfl
      · exact (A.out.pages e he).later hBf.out
      · exact hQf.out
    · obtain ⟨rfl, -⟩ : g = b' ∧ 0 = o' := by simpa using e
      omega
end Go.Proofs.Ytneebnankghhgaa
