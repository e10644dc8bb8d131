/- Several of my texts laid together, each as it was: Hx3. Conditions: each names its own. -/
import Derived.Test.YtneebnankghhgaaHxb
import Derived.Test.YtneebnankghhgaaHph
import Derived.Test.YtneebnankghhgaaGF
import Derived.Test.YtneebnankghhgaaZc
import Derived.Test.YtneebnankghhgaaHva
import Derived.Lib.MinMax
import Derived.Deep.OwnRows
import Derived.Deep.CutRange
/- The law HeapHolds, a case of its walk: a row is asked for. Conditions: those of the walk there. -/
namespace Go.Proofs.Ytneebnankghhgaa
open Go.RowKit Go.Shelf

attribute [local go_sem] Oper.semAt_some
set_option maxRecDepth 1000000 in
set_option maxHeartbeats 16000000 in
theorem heapC3 : heapSkel.2.2.2.1 := by
  intro awk c L most w hm1 hm2 hlb _ _ _ wr u4 u8 u9 u10 u11 u12 u13 u14 u15 u16 u17 u18 u23 u24 u25 u26 u27 u28 u29 u30 u31 u32 u33 u34 u35 u36 u37 u38 u39 u40 u41 u42 u43 u44 u45 u46 u47 u48 u49 u50 u51 u52 u53 u54 u55 u56 u57 u58 u59 u60 u61 u62 u63 u64 u65 u66 u67 u68 u69 u70 u71 u72 u73 u74 u75 u76 u77 u78 u79 u80 u81 u82 u83 u84 u85 u86 u87 u88 u89 u90 u91 u92 u93 u94 u95 u96 u97 u98 u99 u100 u101 u102 u103 u104 u105 u106 u107 u108 u109 u110 u111 u112 u113 u114 u115 u116 u117 u118 u119 u120 u121 u122 u123 u124 u125 u126 u127 u128 u129 u130 u131 u132 u133 u134 u135 u136 u137 u138 u139 u140 u141 u142 u143 u144 u145 u146 u147 u148 u149 u150 u151 u152 u153 u154 u155 u156 u157 u158 u159 u160 u161 u162 u163 u164 u165 u166 u167 u168 u169 u170 u171 u172 u173 u174 u175 u176 u177 u178 u179 u180 u181 u182 u183 u184 u185 u186 u187 u188 u189 u190 u191 u192 u193 u194 u195 u196 u197 u198 u199 u200 u201 u202 u203 u204 u205 u206 u207 u208 u209 u210 u211 u212 u213 i hi hi2 a' c' E R hR hlt hl2 hne b o A hbw k x y d hk1 hk2 hx1 hx2 hy1 hy2 hdl hii hi200 ra rc hrm n hrc HN _ _ _ _ _ _ _ w1 A1 HS1 q0 q1 q2 q3 P HP v0 vf0 hS1 HSS hw01 e0 e1 e2
  obtain ⟨D, hD⟩ : ∃ D, getHD (hp E) x y = D := ⟨_, rfl⟩
  obtain ⟨ER, hER⟩ : ∃ ER, getHE (hp E) x y = ER := ⟨_, rfl⟩
  have CGet : ∀ W, Below w1.heap.size w1 W → Calls Try.prog 10 #[.agg #[.slice a' E.length c'], .agg #[.int .i64 x, .int .i64 y]] W fun e w' => e = .returned (.tuple #[.string (txt D), .int .i64 ER]) ∧ Below W.heap.size W w' := fun W hb => by
    have h := hpGet_any a' c' E x y W (A1.out.later hb) hx1 hx2 hy1 hy2
    rw [hD, hER] at h
    exact h
  have hst := get_step HS1.out.2.2.1 x y
  rw [hD, hER, HP.out] at hst
  have fin : ∀ W, Below w1.heap.size w1 W → HoldsI w most (i + 1) (.slice ra n rc) W := fun W hbW =>
    ⟨a', c', E, R, A1.out.later hbW, (VarAt.mk v0 vf0).later hbW, HS1.out.1, HS1.out.2.1, HS1.out.2.2.1, HS1.out.2.2.2.1.kept hbW, by omega, HS1.out.2.2.2.2.2.1, below_through hbW HS1.out.2.2.2.2.2.2.size HS1.out.2.2.2.2.2.2⟩
  have FIN := hid0 fin
  clear hD hER q3 fin
  rcases hst with ⟨hPv, hE18⟩ | ⟨j, hj, hPv, hE0, hDj⟩
  · subst hPv
    subst hE18
    go_wp2_with fail
    go_region_held (fun w' => w'.cell? ⟨w.heap.size, 0, none⟩ = some (.slice a' E.length c') ∧ w'.cell? ⟨b, o + i * 4 + 1, none⟩ = some (.int .i64 x) ∧ w'.cell? ⟨b, o + i * 4 + 2, none⟩ = some (.int .i64 y) ∧ w'.cell? ⟨b, o + i * 4 + 3, none⟩ = some (.string (txt d)) ∧ Below w1.heap.size w1 w')
      (first
    | with_reducible assumption
    | (repeat (first | with_reducible exact hn | with_reducible exact hS1 | with_reducible assumption | with_reducible refine hold4_drew ?_ | with_reducible refine hold4_alloc ?_ | (with_reducible refine hold4_store HSS.out ?_ ?_; (first | exact Nat.le_refl _ | omega)) | with_reducible refine hold4_call hbn ?_)))
      (first
        | (go_at_call 10; (try go_split_ands); refine (CGet _ (by assumption)).mono ?_; rintro e wn ⟨rfl, hbn⟩; have hn : (wn.cell? ⟨w.heap.size, 0, none⟩ = some (.slice a' E.length c') ∧ wn.cell? ⟨b, o + i * 4 + 1, none⟩ = some (.int .i64 x) ∧ wn.cell? ⟨b, o + i * 4 + 2, none⟩ = some (.int .i64 y) ∧ wn.cell? ⟨b, o + i * 4 + 3, none⟩ = some (.string (txt d)) ∧ Below w1.heap.size w1 wn) := hold4_call hbn (And.intro (by assumption) (And.intro (by assumption) (And.intro (by assumption) (And.intro (by assumption) (by assumption : Below w1.heap.size w1 _)))))))
    all_goals
      have HE := (by assumption : _ ∧ _ ∧ _ ∧ _ ∧ Below w1.heap.size w1 _)
      have hbE := HE.2.2.2.2
      go_wp2_with fail
      exact ⟨⟨i + 1, by omega, by omega, by go_num, FIN.out _ hbE⟩, by simp [intOf]; omega⟩
  · subst hPv
    subst hE0
    subst hDj
    obtain ⟨kb, ko, rfl, hkc⟩ := HS1.out.2.2.2.2.1 (by intro e; rw [e] at hj; exact absurd hj (by simp))
    have kd := (hkc j hj).2.2
    have hj0 : (0 : Int) ≤ (j : Int) := by omega
    have hjn : (j : Int) < (n : Int) := by have := HN.out; omega
    obtain ⟨Z, hZ⟩ : ∃ Z, txt R[j].d = Z := ⟨_, rfl⟩
    rw [hZ] at kd CGet
    have HKD := hid0 kd
    clear hkc hZ hj
    go_wp2_with fail
    go_region_held (fun w' => w'.cell? ⟨w.heap.size, 0, none⟩ = some (.slice a' E.length c') ∧ w'.cell? ⟨b, o + i * 4 + 1, none⟩ = some (.int .i64 x) ∧ w'.cell? ⟨b, o + i * 4 + 2, none⟩ = some (.int .i64 y) ∧ w'.cell? ⟨b, o + i * 4 + 3, none⟩ = some (.string (txt d)) ∧ Below w1.heap.size w1 w')
      (first
    | with_reducible assumption
    | (repeat (first | with_reducible exact hn | with_reducible exact hS1 | with_reducible assumption | with_reducible refine hold4_drew ?_ | with_reducible refine hold4_alloc ?_ | (with_reducible refine hold4_store HSS.out ?_ ?_; (first | exact Nat.le_refl _ | omega)) | with_reducible refine hold4_call hbn ?_)))
      (first
        | (go_at_call 10; (try go_split_ands); refine (CGet _ (by assumption)).mono ?_; rintro e wn ⟨rfl, hbn⟩; have hn : (wn.cell? ⟨w.heap.size, 0, none⟩ = some (.slice a' E.length c') ∧ wn.cell? ⟨b, o + i * 4 + 1, none⟩ = some (.int .i64 x) ∧ wn.cell? ⟨b, o + i * 4 + 2, none⟩ = some (.int .i64 y) ∧ wn.cell? ⟨b, o + i * 4 + 3, none⟩ = some (.string (txt d)) ∧ Below w1.heap.size w1 wn) := hold4_call hbn (And.intro (by assumption) (And.intro (by assumption) (And.intro (by assumption) (And.intro (by assumption) (by assumption : Below w1.heap.size w1 _)))))))
    all_goals
      have HE := (by assumption : _ ∧ _ ∧ _ ∧ _ ∧ Below w1.heap.size w1 _)
      have hbE := HE.2.2.2.2
      have kd2 := cell_later hbE HKD.out
      go_wp2_with fail
      exact ⟨⟨i + 1, by omega, by omega, by go_num, FIN.out _ hbE⟩, by simp [intOf]; omega⟩
end Go.Proofs.Ytneebnankghhgaa
