/- Several of my texts laid together, each as it was: Hx2. Conditions: each names its own. -/
import Derived.Test.YtneebnankghhgaaHxb
import Derived.Test.YtneebnankghhgaaHph
import Derived.Test.YtneebnankghhgaaGF
import Derived.Test.YtneebnankghhgaaZc
import Derived.Test.YtneebnankghhgaaHva
import Derived.Lib.MinMax
import Derived.Deep.OwnRows
import Derived.Deep.CutRange
/- The law HeapHolds, a case of its walk: a row is set. Conditions: those of the walk there. -/
namespace Go.Proofs.Ytneebnankghhgaa
open Go.RowKit Go.Shelf

attribute [local go_sem] Oper.semAt_some
set_option maxRecDepth 1000000 in
set_option maxHeartbeats 16000000 in
theorem heapC2 : heapSkel.2.2.1 := by
  intro awk c L most w hm1 hm2 hlb _ _ _ wr u4 u8 u9 u10 u11 u12 u13 u14 u15 u16 u17 u18 u23 u24 u25 u26 u27 u28 u29 u30 u31 u32 u33 u34 u35 u36 u37 u38 u39 u40 u41 u42 u43 u44 u45 u46 u47 u48 u49 u50 u51 u52 u53 u54 u55 u56 u57 u58 u59 u60 u61 u62 u63 u64 u65 u66 u67 u68 u69 u70 u71 u72 u73 u74 u75 u76 u77 u78 u79 u80 u81 u82 u83 u84 u85 u86 u87 u88 u89 u90 u91 u92 u93 u94 u95 u96 u97 u98 u99 u100 u101 u102 u103 u104 u105 u106 u107 u108 u109 u110 u111 u112 u113 u114 u115 u116 u117 u118 u119 u120 u121 u122 u123 u124 u125 u126 u127 u128 u129 u130 u131 u132 u133 u134 u135 u136 u137 u138 u139 u140 u141 u142 u143 u144 u145 u146 u147 u148 u149 u150 u151 u152 u153 u154 u155 u156 u157 u158 u159 u160 u161 u162 u163 u164 u165 u166 u167 u168 u169 u170 u171 u172 u173 u174 u175 u176 u177 u178 u179 u180 u181 u182 u183 u184 u185 u186 u187 u188 u189 u190 u191 u192 u193 u194 u195 u196 u197 u198 u199 u200 u201 u202 u203 u204 u205 u206 u207 u208 u209 u210 u211 u212 u213 i hi hi2 a' c' E R hR hlt hl2 hne b o A hbw k x y d hk1 hk2 hx1 hx2 hy1 hy2 hdl hii hi200 ra rc hrm n hrc HN _ _ _ _ _ _ _ w1 A1 HS1 q0 q1 q2 q3 P HP v0 vf0 hS1 HSS hw01 e0 e1 e2
  subst e2
  obtain ⟨PH, hPH⟩ : ∃ PH, setHP (hp E) x y d most = PH := ⟨_, rfl⟩
  obtain ⟨X, hX⟩ : ∃ X : Int, setHX (hp E) x y d most = X := ⟨_, rfl⟩
  obtain ⟨Y, hY⟩ : ∃ Y : Int, setHY (hp E) x y d most = Y := ⟨_, rfl⟩
  obtain ⟨ER, hER⟩ : ∃ ER, setHE (hp E) x y d most = ER := ⟨_, rfl⟩
  have CSet : ∀ W, Below w1.heap.size w1 W → Calls Try.prog 9 #[.agg #[.slice a' E.length c'], .agg #[.int .i64 x, .int .i64 y], .string (txt d), .int .i64 most] W (HIdAns W a' E PH X Y ER) := fun W hb => by
    have h := hpSet_any a' c' E x y d most W (A1.out.later hb) hx1 hx2 hy1 hy2 hdl hm1 hm2
    rw [hPH, hX, hY, hER] at h
    exact h
  have ST := hid0 (set_step HS1.out.2.2.1 x y d most HS1.out.2.2.2.2.2.1)
  rw [hPH, hX, hY, hER, HP.out] at ST
  clear hPH hX hY hER
  go_wp2_with fail
  go_cut [14, 15, 16] from 23 to 213 (fun gv xv ev wr2 => ∃ (T U : Nat) (a2 : Option Addr) (c2 : Nat) (E2 : List PgE), gv = .pointer (some ⟨T, 0, none⟩) ∧ xv = .pointer (some ⟨U, 0, none⟩) ∧ ev = .int .i64 ER ∧ w1.heap.size ≤ T ∧ w1.heap.size ≤ U ∧ wr2.cell? ⟨T, 0, none⟩ = some (.slice a2 E2.length c2) ∧ wr2.cell? ⟨U, 0, none⟩ = some (.int .i64 X) ∧ wr2.cell? ⟨U, 1, none⟩ = some (.int .i64 Y) ∧ HpAt wr2 a2 c2 E2 ∧ hp E2 = PH ∧ AwayH w1 a' E a2 E2 ∧ Below w1.heap.size w1 wr2)
  case first =>
      go_region_held (fun w' => w'.cell? ⟨w.heap.size, 0, none⟩ = some (.slice a' E.length c') ∧ w'.cell? ⟨b, o + i * 4 + 1, none⟩ = some (.int .i64 x) ∧ w'.cell? ⟨b, o + i * 4 + 2, none⟩ = some (.int .i64 y) ∧ w'.cell? ⟨b, o + i * 4 + 3, none⟩ = some (.string (txt d)) ∧ Below w1.heap.size w1 w')
        (first
          | with_reducible assumption
          | (repeat (first | with_reducible exact hn | with_reducible exact hS1 | with_reducible assumption | with_reducible refine hold4_drew ?_ | with_reducible refine hold4_alloc ?_ | (with_reducible refine hold4_store HSS.out ?_ ?_; (first | exact Nat.le_refl _ | omega)) | with_reducible refine hold4_call hbn ?_)))
        (first
          | (go_at_call 9; (try go_split_ands); refine (CSet _ (by assumption)).mono ?_; rintro e wn ⟨⟨a2, c2, E2, rfl, hA3, hh3, hw3⟩, hbn⟩; have hn : (wn.cell? ⟨w.heap.size, 0, none⟩ = some (.slice a' E.length c') ∧ wn.cell? ⟨b, o + i * 4 + 1, none⟩ = some (.int .i64 x) ∧ wn.cell? ⟨b, o + i * 4 + 2, none⟩ = some (.int .i64 y) ∧ wn.cell? ⟨b, o + i * 4 + 3, none⟩ = some (.string (txt d)) ∧ Below w1.heap.size w1 wn) := hold4_call hbn (And.intro (by assumption) (And.intro (by assumption) (And.intro (by assumption) (And.intro (by assumption) (by assumption : Below w1.heap.size w1 _))))); have PK := hid0 (And.intro hA3 (And.intro hh3 (And.intro (hw3.less (Below.size (by assumption : Below w1.heap.size w1 _))) (far_new A1.out hw3 hA3)))); clear hA3 hh3 hw3; have hzn := hn.2.2.2.2.size; have hbs := hbn.size; (try (have lt0 : w1.heap.size < wn.heap.size := (by have h := hbn.size; simp at h; omega); have ne0 : wn.heap.size ≠ w1.heap.size := (by omega); have nf0 : wn.heap.size + 1 ≠ w1.heap.size := (by omega))); (try (have lt1 : w1.heap.size + 1 < wn.heap.size := (by have h := hbn.size; simp at h; omega); have ne1 : wn.heap.size ≠ w1.heap.size + 1 := (by omega); have nf1 : wn.heap.size + 1 ≠ w1.heap.size + 1 := (by omega))); (try (have va0 : VarAt wn w1.heap.size (.slice none 0 0) := VarAt.later (by (first | exact VarAt.drew (VarAt.fresh1 _ _ _ _ rfl) | exact VarAt.drew (VarAt.alloc (VarAt.fresh1 _ _ _ _ rfl) _))) hbn; obtain ⟨va0c, va0f⟩ := va0)); (try (have ib0 : IdAt wn w1.heap.size 0 0 := IdAt.later (by (first | exact IdAt.drew (IdAt.fresh1 _ _ _ _ _ rfl) | exact IdAt.drew (IdAt.alloc (IdAt.fresh1 _ _ _ _ _ rfl) _))) hbn; have ib0f0 := ib0.f 0; have ib0f1 := ib0.f 1; obtain ⟨ib0c, ib0d, _⟩ := ib0)); (try (have va1 : VarAt wn (w1.heap.size + 1) (.slice none 0 0) := VarAt.later (by exact VarAt.drew (VarAt.fresh1 _ _ _ _ (World.size_alloc _ _))) hbn; obtain ⟨va1c, va1f⟩ := va1)); (try (have ib1 : IdAt wn (w1.heap.size + 1) 0 0 := IdAt.later (by exact IdAt.drew (IdAt.fresh1 _ _ _ _ _ (World.size_alloc _ _))) hbn; have ib1f0 := ib1.f 0; have ib1f1 := ib1.f 1; obtain ⟨ib1c, ib1d, _⟩ := ib1))))
      all_goals
        have HE := (by assumption : _ ∧ _ ∧ _ ∧ _ ∧ Below w1.heap.size w1 _)
        go_wp2_with fail
        go_meet
        case rel =>
          refine ⟨_, _, a2, c2, E2, rfl, rfl, rfl, by first | exact Nat.le_refl _ | omega, by first | exact Nat.le_refl _ | omega, ?_, ?_, ?_, ?_, PK.out.2.1, PK.out.2.2.1, HE.2.2.2.2⟩
          · first | (go_simp; done) | (simp [go_sem, *]; done) | go_cell
          · first | (go_simp; done) | (simp [go_sem, *]; done) | go_cell
          · first | (go_simp; done) | (simp [go_sem, *]; done) | go_cell
          · have pk := PK.out.2.2.2
            have hA := PK.out.1
            clear PK
            simp at hbs pk
            repeat (first
              | with_reducible exact hA
              | with_reducible refine HpAt.drew ?_
              | with_reducible refine HpAt.alloc ?_ _
              | with_reducible refine HpAt.setCell ?_ _ _ _ (pk _ (by omega) (by first | omega | (simp; omega))))
  case rest =>
    obtain ⟨T, U, a2, c2, E2, rfl, rfl, rfl, hT, hU, cT, cU0, cU1, hA2, hE2, hw2, hBW⟩ := hcut
    generalize wc = W2 at cT cU0 cU1 hA2 hBW ⊢
    have V2 := (VarAt.mk v0 vf0).later hBW
    have v2 := V2.cell
    have q32 := cell_later hBW q3
    have HA2 := hid0 (And.intro hA2 (And.intro hE2 (And.intro hw2 hBW)))
    have hB2 := below_through hBW HS1.out.2.2.2.2.2.2.size HS1.out.2.2.2.2.2.2
    have HB2 := hid0 hB2
    rcases ST.out with ⟨hPv, hER, hPE⟩ | ⟨j, hPv, hj, ⟨hER, hPE⟩ | ⟨hER, hH2, hpl, few2⟩⟩
    · subst hPv
      subst hER
      have CS := refHSame_any a2 a' c2 c' E2 E W2 hA2 (A1.out.later hBW) (hE2.trans hPE)
      have HPE := hid0 hPE
      clear ST CSet hPE hA2 hE2 hw2 hS1 v0 vf0 q3 hB2
      go_wp2_with fail
      refine CS.mono ?_
      rintro e w3 ⟨rfl, hb3⟩
      have cT3 := cell_later hb3 cT
      obtain ⟨v3, vf3⟩ := V2.later hb3
      clear CS cT cU0 cU1 v2 V2 q32
      go_wp2_with fail
      have hA3 := HA2.out.1.later hb3
      refine ⟨⟨i + 1, by omega, by omega, by go_num, ?_⟩, by simp [intOf]; omega⟩
      exact holdsI_set hA3 (VarAt.mk v3 vf3) (hfar_away HA2.out.2.2.1 HS1.out.1 hw01) (far_rows HS1.out.2.1 HS1.out.2.2.2.1 HA2.out.2.2.1) (by rw [HA2.out.2.1, HPE.out]; exact HS1.out.2.2.1) ((HS1.out.2.2.2.1.kept HA2.out.2.2.2).kept hb3) (by omega) (by rw [HA2.out.2.1, HPE.out]; exact HS1.out.2.2.2.2.2.1) (below_through hb3 HB2.out.size HB2.out)
    · subst hPv
      have hj0 : ¬ (j : Int) < 0 := by omega
      have hj1 : (0 : Int) ≤ (j : Int) := by omega
      rcases hER with hER | hER
      · subst hER
        have CS := refHSame_any a2 a' c2 c' E2 E W2 hA2 (A1.out.later hBW) (hE2.trans hPE)
        have HPE := hid0 hPE
        clear ST CSet hPE hA2 hE2 hw2 hS1 v0 vf0 q3 hB2
        go_wp2_with fail
        refine CS.mono ?_
        rintro e w3 ⟨rfl, hb3⟩
        have cT3 := cell_later hb3 cT
        obtain ⟨v3, vf3⟩ := V2.later hb3
        clear CS cT cU0 cU1 v2 V2 q32
        go_wp2_with fail
        have hA3 := HA2.out.1.later hb3
        refine ⟨⟨i + 1, by omega, by omega, by go_num, ?_⟩, by simp [intOf]; omega⟩
        exact holdsI_set hA3 (VarAt.mk v3 vf3) (hfar_away HA2.out.2.2.1 HS1.out.1 hw01) (far_rows HS1.out.2.1 HS1.out.2.2.2.1 HA2.out.2.2.1) (by rw [HA2.out.2.1, HPE.out]; exact HS1.out.2.2.1) ((HS1.out.2.2.2.1.kept HA2.out.2.2.2).kept hb3) (by omega) (by rw [HA2.out.2.1, HPE.out]; exact HS1.out.2.2.2.2.2.1) (below_through hb3 HB2.out.size HB2.out)
      · subst hER
        have CS := refHSame_any a2 a' c2 c' E2 E W2 hA2 (A1.out.later hBW) (hE2.trans hPE)
        have HPE := hid0 hPE
        clear ST CSet hPE hA2 hE2 hw2 hS1 v0 vf0 q3 hB2
        go_wp2_with fail
        refine CS.mono ?_
        rintro e w3 ⟨rfl, hb3⟩
        have cT3 := cell_later hb3 cT
        obtain ⟨v3, vf3⟩ := V2.later hb3
        clear CS cT cU0 cU1 v2 V2 q32
        go_wp2_with fail
        have hA3 := HA2.out.1.later hb3
        refine ⟨⟨i + 1, by omega, by omega, by go_num, ?_⟩, by simp [intOf]; omega⟩
        exact holdsI_set hA3 (VarAt.mk v3 vf3) (hfar_away HA2.out.2.2.1 HS1.out.1 hw01) (far_rows HS1.out.2.1 HS1.out.2.2.2.1 HA2.out.2.2.1) (by rw [HA2.out.2.1, HPE.out]; exact HS1.out.2.2.1) ((HS1.out.2.2.2.1.kept HA2.out.2.2.2).kept hb3) (by omega) (by rw [HA2.out.2.1, HPE.out]; exact HS1.out.2.2.2.2.2.1) (below_through hb3 HB2.out.size HB2.out)
    · subst hPv
      subst hER
      have CW := without_any ra rc R j W2 ((HS1.out.2.2.2.2.1).later hBW) (by rw [HN.out]; exact hrc) (by omega) hj
      rw [HN.out] at CW
      have HST := hid0 (And.intro hH2 few2)
      have hj0 : ¬ (j : Int) < 0 := by omega
      have hj1 : (0 : Int) ≤ (j : Int) := by omega
      obtain ⟨R', hR'⟩ : ∃ R', R.eraseIdx j = R' := ⟨_, rfl⟩
      have hn' : R'.length ≤ i := by rw [← hR']; exact Nat.le_trans (List.Sublist.length_le (List.eraseIdx_sublist R j)) hR
      rw [hR'] at CW HST hpl
      have HPL := hid0 hpl
      have hTl := World.block_lt_of_cell? _ _ cT
      have hUl := World.block_lt_of_cell? _ _ cU0
      have hTU := hid0 (And.intro hTl hUl)
      clear ST CSet hA2 hE2 hw2 hS1 v0 vf0 q3 hB2 hH2 few2 hj hR' hpl hTl hUl
      go_wp2_with fail
      refine CW.mono ?_
      rintro e w3 ⟨⟨v', rfl, O3⟩, hb3⟩
      obtain ⟨ra', rc', rfl, _, _, KA3⟩ := kept_owned O3
      obtain ⟨n', hn2⟩ : ∃ n', R'.length = n' := ⟨_, rfl⟩
      have CP2 := place_any ra' rc' R' X Y w3 KA3 (by omega)
      rw [HPL.out, hn2] at CP2
      have HN2 := hid0 hn2
      rw [hn2] at O3 ⊢
      have HO3 := hid0 O3
      have cT3 := cell_later hb3 cT
      have cU3 := cell_later hb3 cU0
      have cU4 := cell_later hb3 cU1
      have q33 := cell_later hb3 q32
      have V3 := V2.later hb3
      clear CW cT cU0 cU1 v2 V2 q32 O3 KA3 hn2
      go_wp2_with fail
      refine CP2.mono ?_
      rintro e w5 ⟨rfl, hb5⟩
      have cT5 := cell_later hb5 cT3
      have cU5 := cell_later hb5 cU3
      have cU6 := cell_later hb5 cU4
      have q35 := cell_later hb5 q33
      have HV5 := hid0 (V3.later hb5)
      have HO5 := hid0 (HO3.out.kept hb5)
      have hS5 : w5.cell? ⟨U, 0, none⟩ = some (.int .i64 X) ∧ w5.cell? ⟨U, 1, none⟩ = some (.int .i64 Y) ∧ w5.cell? ⟨b, o + i * 4 + 3, none⟩ = some (.string (txt d)) := ⟨cU5, cU6, q35⟩
      have hsz2 : w1.heap.size ≤ W2.heap.size := HA2.out.2.2.2.size
      have hsz3 : W2.heap.size ≤ w3.heap.size := hb3.size
      have hsz5 : w3.heap.size ≤ w5.heap.size := hb5.size
      have HNR : Hid (∀ B, B < W2.heap.size → some B ≠ (Value.slice ra' n' rc').ownBlock) := hid0 (fun B h e => by have := (HO5.out.lt e.symm).1; omega)
      have hnl := HN2.out
      clear CP2 cT3 cU3 cU4 q33 V3
      go_wp2_with fail
      go_region_held_law (fun w' => w'.cell? ⟨U, 0, none⟩ = some (.int .i64 X) ∧ w'.cell? ⟨U, 1, none⟩ = some (.int .i64 Y) ∧ w'.cell? ⟨b, o + i * 4 + 3, none⟩ = some (.string (txt d)))
        (first | with_reducible assumption | exact hS5 | exact hS4 | exact hold3_alloc hS5)
        (first
          | (refine step_kept2 (by rfl) _ _ (by rfl) (by rfl) (HO5.out.alloc (Obj.cells #[.int .i64 X, .int .i64 Y, .string (txt d)] 37)).drew ⟨w5.heap.size, 0, none⟩ 1 1 (by rfl) [⟨X, Y, d⟩] rfl (by omega) (cell_three_new w5 X Y d 37) (by omega) (by simp; omega) _ rfl ?_; intro g4 cap4 w4 hown4 hgrow4 hat4; have hS4 := hold3_grown hgrow4 (HNR.out U hTU.out.2) (HNR.out U hTU.out.2) (HNR.out b (by omega)) (hold3_alloc hS5); have cT4 := (hgrow4.cell_far ⟨T, 0, none⟩ (by have := World.block_lt_of_cell? _ _ cT5; simp at this ⊢; omega) (HNR.out T hTU.out.1)).trans ((World.cell?_alloc_lt _ _ _ (World.block_lt_of_cell? _ _ cT5)).trans cT5); have H4 := hid0 (And.intro hown4 (And.intro hgrow4 hat4)); have v4 := (hgrow4.cell_far ⟨w.heap.size, 0, none⟩ (by simp; omega) (HNR.out _ (by show w.heap.size < _; omega))).trans ((World.cell?_alloc_lt _ _ _ (by show w.heap.size < _; omega)).trans HV5.out.cell); have vf4 := (hgrow4.frozen_far ⟨w.heap.size, 0, none⟩ (by simp; omega) (HNR.out _ (by show w.heap.size < _; omega))).trans (((HV5.out.alloc _).frz)); clear hown4 hgrow4 hat4))
      go_wp2_with fail
      obtain ⟨hown4, hgrow4, hat4⟩ := H4.out
      have hA3 := (HA2.out.1.later hb3).later hb5
      have hFR : ∀ g, (Value.slice ra' n' rc').ownBlock = some g → HFar a2 E2 g := fun g hg => hfar_old HA2.out.1 (HO5.out.lt hg).1
      have hA4 := ((hA3.alloc (Obj.cells #[.int .i64 X, .int .i64 Y, .string (txt d)] 37)).drew).grown hgrow4 (fun B hB => hFR B hB)
      have hB3 := below_through hb3 HB2.out.size HB2.out
      have hB5 := below_through hb5 hB3.size hB3
      have hB3a := Below.drew (hB5.alloc hB5.size (Obj.cells #[.int .i64 X, .int .i64 Y, .string (txt d)] 37))
      have hB4 := hB3a.grown hgrow4 hB3a.size (fun k hk => by have := (HO5.out.lt hk).1; omega)
      rw [HN2.out] at hown4
      refine ⟨⟨i + 1, by omega, by omega, by go_num, ?_⟩, by simp [intOf]; omega⟩
      refine holdsI_set hA4 (VarAt.mk v4 vf4) (hfar_away HA2.out.2.2.1 HS1.out.1 hw01) (fun g hg => ?_) (by rw [HA2.out.2.1]; exact HST.out.1) ⟨row_base hown4.out (by omega)⟩ (by simp; omega) (by rw [HA2.out.2.1]; exact HST.out.2) hB4
      have e : g4 = g := by simpa [Value.ownBlock] using hg
      subst e
      rcases hat4 with h | h
      · exact hFR _ h
      · exact hfar_old hA3 (by rw [h]; show w5.heap.size ≤ (w5.alloc _).heap.size; simp)
end Go.Proofs.Ytneebnankghhgaa
