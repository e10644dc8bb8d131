/- Several of my texts laid together, each as it was: Hxb. Conditions: each names its own. -/
import Derived.Test.YtneebnankghhgaaHxa
import Derived.Test.YtneebnankghhgaaHph
import Derived.Test.YtneebnankghhgaaGF
import Derived.Test.YtneebnankghhgaaZc
import Derived.Test.YtneebnankghhgaaHva
import Derived.Lib.MinMax
import Derived.Deep.OwnRows
import Derived.Deep.CutRange
/- The walk of the law HeapHolds: it returns true, and below the heap's end memory is as it was. Conditions: the steps' cells are known (what came in reads so); the document's example stands. -/
namespace Go.Proofs.Ytneebnankghhgaa
open Go.RowKit Go.Shelf

attribute [local go_sem] Oper.semAt_some
structure Piece (p : Prop) : Prop where
  out : p

set_option maxRecDepth 1000000 in
set_option maxHeartbeats 16000000 in
def heapSkel : ((C0 : Prop) ×' ((C1 : Prop) ×' ((C2 : Prop) ×' ((C3 : Prop) ×' ((C4 : Prop) ×' ((C5 : Prop) ×' (Piece C0 → Piece C1 → Piece C2 → Piece C3 → Piece C4 → Piece C5 → ∀ (_awk : ∀ w : World, Calls Try.prog 12 #[] w fun e w' => e = .returned (.bool true) ∧ Below w.heap.size w w') (a : Option Addr) (c : Nat) (L : List OpT) (most : Int) (w : World) (_hL : OpsAt w a L) (_hm1 : -9223372036854775808 ≤ most) (_hm2 : most ≤ 9223372036854775807), Calls Try.prog 3 #[.slice a L.length c, .int .i64 most] w fun e w' => e = .returned (.bool true) ∧ Below w.heap.size w w'))))))) := by
  refine ⟨?C0, ?C1, ?C2, ?C3, ?C4, ?C5, fun s0 s1 s2 s3 s4 s5 awk a c L most w hL hm1 hm2 => ?main⟩
  case main =>
    have A := hid0 hL
    have hlb : L.length ≤ 3518437208807 := by have := hL.len; omega
    have V0 := VarAt.new w (.slice none 0 0) 25
    have hB0 : Below w.heap.size w (w.alloc (.cells #[.slice none 0 0] 25)) := (Below.refl _ w).alloc (Nat.le_refl _) _
    have h0 : HoldsI w most 0 (.slice none 0 0) (w.alloc (.cells #[.slice none 0 0] 25)) := ⟨none, 0, [], [], ⟨fun h => absurd rfl h, fun e he => absurd he (by simp), Nat.le_refl _, by simp⟩, V0, ⟨fun h => absurd rfl h, fun e he => absurd he (by simp)⟩, fun g e => by simp [Value.ownBlock] at e, holds_start, ⟨World.ownsRow_nil _ _ _ _⟩, Nat.le_refl _, .inr rfl, hB0⟩
    clear hL V0 hB0
    go_enter Try.func3, Try.ntmps3
    go_wp2_with fail
    go_loopw [6, 7] (fun rv iv wr => ∃ i : Nat, i ≤ L.length ∧ i ≤ 200 ∧ iv = .int .i64 i ∧ HoldsI w most i rv wr) (fun _ iv _ => 200 - (intOf iv).toNat)
    case atStart => exact ⟨0, Nat.zero_le _, by omega, rfl, h0⟩
    case round =>
      clear h0
      obtain ⟨i, hi, hi2, rfl, ⟨a', c', E, R, A1, V1, F1, G1, H1, O1, hR, few, hB⟩⟩ := hrel
      by_cases hlt : i < L.length ∧ i < 200
      · obtain ⟨hlt, hl2⟩ := hlt
        have hne : L ≠ [] := by intro e; rw [e] at hlt; exact absurd hlt (by simp)
        obtain ⟨b, o, rfl, hc⟩ := (A.out.later hB).cells hne
        obtain ⟨q0, q1, q2, q3⟩ := hc i hlt
        obtain ⟨b', o', eb, hc0⟩ := A.out.cells hne
        obtain ⟨rfl, rfl⟩ : b = b' ∧ o = o' := by simpa using eb
        have hbw : b < w.heap.size := World.block_lt_of_cell? _ _ (hc0 i hlt).1
        clear hc0 eb
        have hin := A.out.inn _ (List.getElem_mem hlt)
        obtain ⟨⟨k, x, y, d⟩, hop⟩ : ∃ t, L[i] = t := ⟨_, rfl⟩
        rw [hop] at q0 q1 q2 q3 hin
        obtain ⟨hk1, hk2, hx1, hx2, hy1, hy2, hdl⟩ := hin
        dsimp only at q0 q1 q2 q3 hk1 hk2 hx1 hx2 hy1 hy2 hdl
        clear hc hop
        have hii : (i : Int) < (L.length : Int) := by omega
        have hi200 : (i : Int) < 200 := by omega
        obtain ⟨ra, rc, hrv, hrc, hrm, KA⟩ := kept_owned O1
        obtain ⟨n, hn⟩ : ∃ n, R.length = n := ⟨_, rfl⟩
        have CP := place_any ra rc R x y wr KA (by omega)
        rw [hn] at CP hrv hrc
        subst hrv
        have HS := hid0 (And.intro A1 (And.intro F1 (And.intro G1 (And.intro H1 (And.intro O1 (And.intro KA (And.intro few hB)))))))
        have HN := hid0 hn
        clear A1 F1 G1 H1 O1 KA few hB hn
        go_wp2_with fail
        refine CP.mono ?_
        rintro e w1 ⟨rfl, hb⟩
        obtain ⟨A1, F1, G1, H1, O1, KA, few, hB⟩ := HS.out
        have hB1 := below_through hb hB.size hB
        replace A1 := hid0 (A1.later hb)
        replace V1 := V1.later hb
        have HS1 := hid0 (And.intro F1 (And.intro G1 (And.intro H1 (And.intro (O1.kept hb) (And.intro (KA.later hb) (And.intro few hB1))))))
        replace q0 := cell_later hb q0
        replace q1 := cell_later hb q1
        replace q2 := cell_later hb q2
        replace q3 := cell_later hb q3
        obtain ⟨P, hP⟩ : ∃ P, placeR R x y = P := ⟨_, rfl⟩
        rw [hP]
        have HP := hid0 hP
        obtain ⟨v0, vf0⟩ := V1
        have hS1 : w1.cell? ⟨w.heap.size, 0, none⟩ = some (.slice a' E.length c') ∧ w1.cell? ⟨b, o + i * 4 + 1, none⟩ = some (.int .i64 x) ∧ w1.cell? ⟨b, o + i * 4 + 2, none⟩ = some (.int .i64 y) ∧ w1.cell? ⟨b, o + i * 4 + 3, none⟩ = some (.string (txt d)) ∧ Below w1.heap.size w1 w1 := ⟨v0, q1, q2, q3, Below.refl _ _⟩
        have HSS := hid0 hS1
        have hw01 : w.heap.size < w1.heap.size := World.block_lt_of_cell? _ _ v0
        clear CP HS F1 G1 H1 O1 KA few hB hB1 hb hP
        by_cases e0 : k = 0
        · (rename_i zz0 zz1 zz2 zz3 zz4 zz5 zz6 zz7 zz8 zz9; revert awk c L most w hm1 hm2 hlb zz0 zz1 zz2 wr u4 u8 u9 u10 u11 u12 u13 u14 u15 u16 u17 u18 u23 u24 u25 u26 u27 u28 u29 u30 u31 u32 u33 u34 u35 u36 u37 u38 u39 u40 u41 u42 u43 u44 u45 u46 u47 u48 u49 u50 u51 u52 u53 u54 u55 u56 u57 u58 u59 u60 u61 u62 u63 u64 u65 u66 u67 u68 u69 u70 u71 u72 u73 u74 u75 u76 u77 u78 u79 u80 u81 u82 u83 u84 u85 u86 u87 u88 u89 u90 u91 u92 u93 u94 u95 u96 u97 u98 u99 u100 u101 u102 u103 u104 u105 u106 u107 u108 u109 u110 u111 u112 u113 u114 u115 u116 u117 u118 u119 u120 u121 u122 u123 u124 u125 u126 u127 u128 u129 u130 u131 u132 u133 u134 u135 u136 u137 u138 u139 u140 u141 u142 u143 u144 u145 u146 u147 u148 u149 u150 u151 u152 u153 u154 u155 u156 u157 u158 u159 u160 u161 u162 u163 u164 u165 u166 u167 u168 u169 u170 u171 u172 u173 u174 u175 u176 u177 u178 u179 u180 u181 u182 u183 u184 u185 u186 u187 u188 u189 u190 u191 u192 u193 u194 u195 u196 u197 u198 u199 u200 u201 u202 u203 u204 u205 u206 u207 u208 u209 u210 u211 u212 u213 i hi hi2 a' c' E R hR hlt hl2 hne b o A hbw k x y d hk1 hk2 hx1 hx2 hy1 hy2 hdl hii hi200 ra rc hrm n hrc HN zz3 zz4 zz5 zz6 zz7 zz8 zz9 w1 A1 HS1 q0 q1 q2 q3 P HP v0 vf0 hS1 HSS hw01 e0; exact s0.out)
        · by_cases e1 : k = 1
          · (rename_i zz0 zz1 zz2 zz3 zz4 zz5 zz6 zz7 zz8 zz9; revert awk c L most w hm1 hm2 hlb zz0 zz1 zz2 wr u4 u8 u9 u10 u11 u12 u13 u14 u15 u16 u17 u18 u23 u24 u25 u26 u27 u28 u29 u30 u31 u32 u33 u34 u35 u36 u37 u38 u39 u40 u41 u42 u43 u44 u45 u46 u47 u48 u49 u50 u51 u52 u53 u54 u55 u56 u57 u58 u59 u60 u61 u62 u63 u64 u65 u66 u67 u68 u69 u70 u71 u72 u73 u74 u75 u76 u77 u78 u79 u80 u81 u82 u83 u84 u85 u86 u87 u88 u89 u90 u91 u92 u93 u94 u95 u96 u97 u98 u99 u100 u101 u102 u103 u104 u105 u106 u107 u108 u109 u110 u111 u112 u113 u114 u115 u116 u117 u118 u119 u120 u121 u122 u123 u124 u125 u126 u127 u128 u129 u130 u131 u132 u133 u134 u135 u136 u137 u138 u139 u140 u141 u142 u143 u144 u145 u146 u147 u148 u149 u150 u151 u152 u153 u154 u155 u156 u157 u158 u159 u160 u161 u162 u163 u164 u165 u166 u167 u168 u169 u170 u171 u172 u173 u174 u175 u176 u177 u178 u179 u180 u181 u182 u183 u184 u185 u186 u187 u188 u189 u190 u191 u192 u193 u194 u195 u196 u197 u198 u199 u200 u201 u202 u203 u204 u205 u206 u207 u208 u209 u210 u211 u212 u213 i hi hi2 a' c' E R hR hlt hl2 hne b o A hbw k x y d hk1 hk2 hx1 hx2 hy1 hy2 hdl hii hi200 ra rc hrm n hrc HN zz3 zz4 zz5 zz6 zz7 zz8 zz9 w1 A1 HS1 q0 q1 q2 q3 P HP v0 vf0 hS1 HSS hw01 e0 e1; exact s1.out)
          · by_cases e2 : k = 2
            · (rename_i zz0 zz1 zz2 zz3 zz4 zz5 zz6 zz7 zz8 zz9; revert awk c L most w hm1 hm2 hlb zz0 zz1 zz2 wr u4 u8 u9 u10 u11 u12 u13 u14 u15 u16 u17 u18 u23 u24 u25 u26 u27 u28 u29 u30 u31 u32 u33 u34 u35 u36 u37 u38 u39 u40 u41 u42 u43 u44 u45 u46 u47 u48 u49 u50 u51 u52 u53 u54 u55 u56 u57 u58 u59 u60 u61 u62 u63 u64 u65 u66 u67 u68 u69 u70 u71 u72 u73 u74 u75 u76 u77 u78 u79 u80 u81 u82 u83 u84 u85 u86 u87 u88 u89 u90 u91 u92 u93 u94 u95 u96 u97 u98 u99 u100 u101 u102 u103 u104 u105 u106 u107 u108 u109 u110 u111 u112 u113 u114 u115 u116 u117 u118 u119 u120 u121 u122 u123 u124 u125 u126 u127 u128 u129 u130 u131 u132 u133 u134 u135 u136 u137 u138 u139 u140 u141 u142 u143 u144 u145 u146 u147 u148 u149 u150 u151 u152 u153 u154 u155 u156 u157 u158 u159 u160 u161 u162 u163 u164 u165 u166 u167 u168 u169 u170 u171 u172 u173 u174 u175 u176 u177 u178 u179 u180 u181 u182 u183 u184 u185 u186 u187 u188 u189 u190 u191 u192 u193 u194 u195 u196 u197 u198 u199 u200 u201 u202 u203 u204 u205 u206 u207 u208 u209 u210 u211 u212 u213 i hi hi2 a' c' E R hR hlt hl2 hne b o A hbw k x y d hk1 hk2 hx1 hx2 hy1 hy2 hdl hii hi200 ra rc hrm n hrc HN zz3 zz4 zz5 zz6 zz7 zz8 zz9 w1 A1 HS1 q0 q1 q2 q3 P HP v0 vf0 hS1 HSS hw01 e0 e1 e2; exact s2.out)
            · (rename_i zz0 zz1 zz2 zz3 zz4 zz5 zz6 zz7 zz8 zz9; revert awk c L most w hm1 hm2 hlb zz0 zz1 zz2 wr u4 u8 u9 u10 u11 u12 u13 u14 u15 u16 u17 u18 u23 u24 u25 u26 u27 u28 u29 u30 u31 u32 u33 u34 u35 u36 u37 u38 u39 u40 u41 u42 u43 u44 u45 u46 u47 u48 u49 u50 u51 u52 u53 u54 u55 u56 u57 u58 u59 u60 u61 u62 u63 u64 u65 u66 u67 u68 u69 u70 u71 u72 u73 u74 u75 u76 u77 u78 u79 u80 u81 u82 u83 u84 u85 u86 u87 u88 u89 u90 u91 u92 u93 u94 u95 u96 u97 u98 u99 u100 u101 u102 u103 u104 u105 u106 u107 u108 u109 u110 u111 u112 u113 u114 u115 u116 u117 u118 u119 u120 u121 u122 u123 u124 u125 u126 u127 u128 u129 u130 u131 u132 u133 u134 u135 u136 u137 u138 u139 u140 u141 u142 u143 u144 u145 u146 u147 u148 u149 u150 u151 u152 u153 u154 u155 u156 u157 u158 u159 u160 u161 u162 u163 u164 u165 u166 u167 u168 u169 u170 u171 u172 u173 u174 u175 u176 u177 u178 u179 u180 u181 u182 u183 u184 u185 u186 u187 u188 u189 u190 u191 u192 u193 u194 u195 u196 u197 u198 u199 u200 u201 u202 u203 u204 u205 u206 u207 u208 u209 u210 u211 u212 u213 i hi hi2 a' c' E R hR hlt hl2 hne b o A hbw k x y d hk1 hk2 hx1 hx2 hy1 hy2 hdl hii hi200 ra rc hrm n hrc HN zz3 zz4 zz5 zz6 zz7 zz8 zz9 w1 A1 HS1 q0 q1 q2 q3 P HP v0 vf0 hS1 HSS hw01 e0 e1 e2; exact s3.out)
      · obtain ⟨ra, rc, rfl, hrc, hrm, KA⟩ := kept_owned O1
        have CL := hpList_any a' c' E wr A1
        have hrt : rightH (hp E) = true := (rightH_iff _).2 H1.right
        have hcount := holds_count H1
        have hlist : listH (hp E) = heapL 0 (hp E) := by unfold listH; rw [hrt]; rfl
        have hll := listH_len (hp E)
        obtain ⟨LL, hLL⟩ : ∃ LL, listH (hp E) = LL := ⟨_, rfl⟩
        rw [hLL] at CL hcount hlist hll
        obtain ⟨N, hN⟩ : ∃ N, LL.length = N := ⟨_, rfl⟩
        rw [hN] at CL hcount hll
        have hmx : ¬ max most 0 < (E.length : Int) := by have := few.max; rw [hp_len] at this; omega
        have HC := hid0 hcount
        have HL := hid0 hlist
        have HN := hid0 hN
        have HK := hid0 (And.intro A1 (And.intro V1 (And.intro H1 (And.intro KA (And.intro hrt hB)))))
        rw [← hcount]
        have v0 := V1.cell
        have hend : (¬ (i : Int) < (L.length : Int)) ∨ ((i : Int) < (L.length : Int) ∧ ¬ (i : Int) < 200) := by omega
        clear hlt A1 V1 F1 G1 H1 O1 few hB KA hrt hcount hlist hLL hN A
        rcases hend with hii | ⟨hii, hi200⟩
        · (rename_i zz0 zz1 zz2; revert awk a c L most w hm1 hm2 hlb zz0 zz1 zz2 wr u4 u8 u9 u10 u11 u12 u13 u14 u15 u16 u17 u18 u23 u24 u25 u26 u27 u28 u29 u30 u31 u32 u33 u34 u35 u36 u37 u38 u39 u40 u41 u42 u43 u44 u45 u46 u47 u48 u49 u50 u51 u52 u53 u54 u55 u56 u57 u58 u59 u60 u61 u62 u63 u64 u65 u66 u67 u68 u69 u70 u71 u72 u73 u74 u75 u76 u77 u78 u79 u80 u81 u82 u83 u84 u85 u86 u87 u88 u89 u90 u91 u92 u93 u94 u95 u96 u97 u98 u99 u100 u101 u102 u103 u104 u105 u106 u107 u108 u109 u110 u111 u112 u113 u114 u115 u116 u117 u118 u119 u120 u121 u122 u123 u124 u125 u126 u127 u128 u129 u130 u131 u132 u133 u134 u135 u136 u137 u138 u139 u140 u141 u142 u143 u144 u145 u146 u147 u148 u149 u150 u151 u152 u153 u154 u155 u156 u157 u158 u159 u160 u161 u162 u163 u164 u165 u166 u167 u168 u169 u170 u171 u172 u173 u174 u175 u176 u177 u178 u179 u180 u181 u182 u183 u184 u185 u186 u187 u188 u189 u190 u191 u192 u193 u194 u195 u196 u197 u198 u199 u200 u201 u202 u203 u204 u205 u206 u207 u208 u209 u210 u211 u212 u213 i hi hi2 a' c' E R hR ra rc hrc hrm LL N hll CL hmx HC HL HN HK v0 hii; exact s4.out)
        · (rename_i zz0 zz1 zz2; revert awk a c L most w hm1 hm2 hlb zz0 zz1 zz2 wr u4 u8 u9 u10 u11 u12 u13 u14 u15 u16 u17 u18 u23 u24 u25 u26 u27 u28 u29 u30 u31 u32 u33 u34 u35 u36 u37 u38 u39 u40 u41 u42 u43 u44 u45 u46 u47 u48 u49 u50 u51 u52 u53 u54 u55 u56 u57 u58 u59 u60 u61 u62 u63 u64 u65 u66 u67 u68 u69 u70 u71 u72 u73 u74 u75 u76 u77 u78 u79 u80 u81 u82 u83 u84 u85 u86 u87 u88 u89 u90 u91 u92 u93 u94 u95 u96 u97 u98 u99 u100 u101 u102 u103 u104 u105 u106 u107 u108 u109 u110 u111 u112 u113 u114 u115 u116 u117 u118 u119 u120 u121 u122 u123 u124 u125 u126 u127 u128 u129 u130 u131 u132 u133 u134 u135 u136 u137 u138 u139 u140 u141 u142 u143 u144 u145 u146 u147 u148 u149 u150 u151 u152 u153 u154 u155 u156 u157 u158 u159 u160 u161 u162 u163 u164 u165 u166 u167 u168 u169 u170 u171 u172 u173 u174 u175 u176 u177 u178 u179 u180 u181 u182 u183 u184 u185 u186 u187 u188 u189 u190 u191 u192 u193 u194 u195 u196 u197 u198 u199 u200 u201 u202 u203 u204 u205 u206 u207 u208 u209 u210 u211 u212 u213 i hi hi2 a' c' E R hR ra rc hrc hrm LL N hll CL hmx HC HL HN HK v0 hii hi200; exact s5.out)
end Go.Proofs.Ytneebnankghhgaa
