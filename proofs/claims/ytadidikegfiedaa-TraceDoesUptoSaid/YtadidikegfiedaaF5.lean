/- Several of my texts laid together, each as it was: T29. Conditions: each names its own. -/
import Derived.Test.YtadidikegfiedaaF4
/- What any log answers: the law's call (TraceDoes), in whatever memory: it is true. Conditions: the log's and the changes' cells are known; the log has at most half a million entries. -/
namespace Go.Proofs.Ytadidikegfiedaa
open Go.RowKit

set_option maxHeartbeats 2000000 in
theorem copied16_any (f : Int) (a : Option Addr) (c : Nat) (L : List Ent) (w : World) (hL : EntsAt w a L) (hfew : L.length ≤ 1000000) :
    Calls Try.prog 5 #[.agg #[.int .i64 f, .slice a L.length c]] w fun e w' => ∃ v, e = .returned (.agg #[.int .i64 f, v]) ∧ MkN w.heap.size w w' v L := by
  have V1 := (VarT.new w [.int .i64 f, .slice a L.length c] 24).alloc (Obj.cells #[.int .i64 0, .slice none 0 0] 24)
  have V2 := VarT.newAt (w.alloc (Obj.cells #[.int .i64 f, .slice a L.length c] 24)) [.int .i64 0, .slice none 0 0] 24 (B := w.heap.size + 1) (by simp)
  have hb1 : Below w.heap.size w ((w.alloc (Obj.cells #[.int .i64 f, .slice a L.length c] 24)).alloc (Obj.cells #[.int .i64 0, .slice none 0 0] 24)) := ((Below.refl _ _).alloc (Nat.le_refl _) _).alloc (by simp) _
  have hsz : ((w.alloc (Obj.cells #[.int .i64 f, .slice a L.length c] 24)).alloc (Obj.cells #[.int .i64 0, .slice none 0 0] 24)).heap.size = w.heap.size + 2 := by simp
  have HL := hid0 hL
  obtain ⟨n, hn⟩ : ∃ n, L.length = n := ⟨_, rfl⟩
  have HN := hid0 hn
  rw [hn] at hfew V1 V2 hb1 hsz ⊢
  clear hL hn
  have a0 := V1.v.cell 0 rfl
  have a1 := V1.v.cell 1 rfl
  have f1 := V1.v.frz 1 (by simp)
  have hM0 : MkN w.heap.size w (((w.alloc (Obj.cells #[.int .i64 f, .slice a n c] 24)).alloc (Obj.cells #[.int .i64 0, .slice none 0 0] 24)).alloc (Obj.cells #[] 49)) (.slice (some ⟨w.heap.size + 2, 0, none⟩) 0 0) [] := by
    rw [← hsz]
    exact ⟨⟨World.ownsRow_made ((w.alloc (Obj.cells #[.int .i64 f, .slice a n c] 24)).alloc (Obj.cells #[.int .i64 0, .slice none 0 0] 24)) #[] 0 hb1.size (by unfold maxLen; omega) rfl⟩, fun _ h => absurd h (by simp), hb1.alloc hb1.size _, Nat.le_refl _⟩
  go_enter Try.func5, Try.ntmps5
  go_wp2_with (first | (at_builtin; go_must (refine wp_appN rfl _ _ rfl rfl hM0 L n HN.out a c rfl (HL.out.1.later hM0.b) (fun e he => (RowG.of (HL.out.2 e he).1 (HL.out.2 e he).2).later hM0.b) ?ln ?_)) | fail)
  case ln => rw [HN.out]; simp; omega
  intro vM W7 hM7 hK7 _
  obtain ⟨a7, c7, rfl, _, _⟩ := hM7.ents
  have V1 := (V1.alloc (Obj.cells #[] 49)).keptT (by decide) hK7
  have V2 := (V2.alloc (Obj.cells #[] 49)).keptT (by decide) hK7
  have hA : MkN w.heap.size w (W7.setCell ⟨w.heap.size, 1, none⟩ (.slice a7 L.length c7)) (.slice a7 L.length c7) L := hM7.puts V1 (Nat.le_refl _) (by decide) (hM7.apart V1 (by decide)) [.slice a7 L.length c7] 1
  have X1 := V1.set (i := 1) (.slice a7 L.length c7) (by simp)
  have X2 : VarT (W7.setCell ⟨w.heap.size, 1, none⟩ (.slice a7 L.length c7)) (w.heap.size + 1) [.int .i64 0, .slice none 0 0] 24 := V2.other (b := w.heap.size) (o := 1) [.slice a7 L.length c7] (by omega)
  have u0 := V1.v.cell 0 rfl
  have u1 := V1.v.cell 1 rfl
  have f1 := V1.v.frz 1 (by simp)
  have y0 := X2.v.frz 0 (by simp)
  have y1 := X2.v.frz 1 (by simp)
  have z0 := X2.v.cell 0 rfl
  have z1 := X2.v.cell 1 rfl
  have q0 := X1.v.cell 0 rfl
  have q1 := X1.v.cell 1 rfl
  have HX := hid0 X2
  have HA := hid0 hA
  clear V1 V2 X1 X2 hA hM7 hK7 hM0 a0 a1 hb1 hsz
  go_wp2_with fail
  refine end_blk (HX.out.v.puts [.int .i64 f, .slice a7 L.length c7] rfl) rfl rfl _ Try.underlying24 rfl sizeLog rfl ?_
  exact ⟨_, rfl, HA.out.puts HX.out (by omega) (by decide) (HA.out.apart HX.out (by decide)) [.int .i64 f, .slice a7 L.length c7]⟩
theorem addM_len (f : Int) (D : List Dat) (scn : Int) (E : List Elem) : (addM f D scn E).1.length ≤ D.length + 4000 := by
  unfold addM
  split
  · split
    · exact Nat.le_add_right _ _
    · rename_i h
      have := entsD_len scn (E.map pr)
      simp only [List.length_append]
      omega
  · exact Nat.le_add_right _ _
theorem sinceM_len (f : Int) (D : List Dat) (scn : Int) : (sinceM f D scn).1.length ≤ D.length := by
  unfold sinceM
  split
  · refine Nat.le_trans (len_ofB _) ?_
    rw [List.length_map]
    exact List.length_filter_le _ _
  · exact Nat.zero_le _
theorem same16 (f : Int) (a1 a2 : Option Addr) (c1 c2 : Nat) (E1 E2 : List Ent) (n1 n2 : Nat) (w : World) (h1 : E1.length = n1) (h2 : E2.length = n2) (hE1 : EntsAt w a1 E1) (hE2 : EntsAt w a2 E2) (hl : n1 ≤ 1100000) (he : E1.map dat = E2.map dat) :
    Calls Try.prog 11 #[.agg #[.int .i64 f, .slice a1 n1 c1], .agg #[.int .i64 f, .slice a2 n2 c2]] w fun e w' => e = .returned (.bool true) ∧ Below w.heap.size w w' := by
  subst h1 h2
  exact refSameN_any f a1 a2 c1 c2 E1 E2 w hE1 hE2 hl he
theorem same04 (a1 a2 : Option Addr) (c1 c2 : Nat) (E1 E2 : List Elem) (n1 n2 : Nat) (w : World) (h1 : E1.length = n1) (h2 : E2.length = n2) (hE1 : ElemsAt w a1 E1) (hE2 : ElemsAt w a2 E2) (hl : n1 ≤ 1000000) (he : E1.map pr = E2.map pr) :
    Calls Try.prog 12 #[.slice a1 n1 c1, .slice a2 n2 c2] w fun e w' => e = .returned (.bool true) ∧ Below w.heap.size w w' := by
  subst h1 h2
  exact refSame_any a1 a2 c1 c2 E1 E2 w hE1 hE2 hl he
set_option maxHeartbeats 8000000 in
set_option maxRecDepth 1000000 in
theorem lawTraceDoes (f : Int) (a : Option Addr) (c : Nat) (L : List Ent) (scn : Int) (a2 : Option Addr) (c2 : Nat) (E : List Elem) (w : World) (hL : EntsAt w a L) (hE : ElemsI w a2 c2 E) (hfew : L.length ≤ 500000) (_ : in64 scn) :
    Calls Try.prog 3 #[.agg #[.int .i64 f, .slice a L.length c], .int .i64 scn, .slice a2 E.length c2] w fun e w' => e = .returned (.bool true) ∧ Below w.heap.size w w' := by
  have CA := hid0 awake16_any
  have C1 := hid0 (fun W (hW : Below w.heap.size w W) => copied16_any f a c L W (hL.later hW) (by omega))
  have C2 := hid0 (fun W (hW : Below w.heap.size w W) => trAdd_any f a c L scn a2 c2 E W (hL.later hW) (hE.later hW) (by omega))
  have C3 := hid0 (fun a7 c7 W (h7 : EntsAt W a7 L) (hW : Below w.heap.size w W) => refAdd16_any f a7 c7 L scn a2 c2 E W h7 (hE.later hW) (by omega))
  have C4 := hid0 (fun W (hW : Below w.heap.size w W) => trSince_any f a c L scn W (hL.later hW) (by omega))
  have C5 := hid0 (fun a7 c7 W (h7 : EntsAt W a7 L) => refSince16_any f a7 c7 L scn W h7 (by omega))
  have C6 := hid0 (fun W (hW : Below w.heap.size w W) => trPurge_any f a c L scn W (hL.later hW) (by omega))
  have C7 := hid0 (fun a7 c7 W (h7 : EntsAt W a7 L) => refPurge16_any f a7 c7 L scn W h7 (by omega))
  have C8 := hid0 (fun W (hW : Below w.heap.size w W) => trRight_any f a c L W (hL.later hW) (by omega))
  have C9 := hid0 (fun a7 c7 W (h7 : EntsAt W a7 L) => refRight16_any f a7 c7 L W h7 (by omega))
  have HL := hid0 hL
  have hB : Below w.heap.size w (w.alloc (Obj.cells #[.int .i64 f, .slice a L.length c] 24)) := (Below.refl _ _).alloc (Nat.le_refl _) _
  have V3 := VarB.new w [.int .i64 f, .slice a L.length c] 24
  obtain ⟨D, hD⟩ : ∃ D, L.map dat = D := ⟨_, rfl⟩
  have HLD := hid0 (show D.length ≤ 500000 by rw [← hD, List.length_map]; exact hfew)
  rw [hD] at C2 C3 C4 C5 C6 C7 C8 C9
  have HRL := hid0 (addM_len f D scn E)
  have HSL := hid0 (sinceM_len f D scn)
  generalize addM f D scn E = R at C2 C3 HRL
  generalize sinceM f D scn = S at C4 C5 HSL
  generalize rightD f D = rd at C8 C9
  obtain ⟨n, hn⟩ : ∃ n, L.length = n := ⟨_, rfl⟩
  obtain ⟨m, hm⟩ : ∃ m, E.length = m := ⟨_, rfl⟩
  have HN := hid0 hn
  rw [hn] at C1 C2 C3 C4 C5 C6 C7 C8 C9 hfew hB V3 ⊢
  rw [hm] at C2 C3 ⊢
  clear hL hE hD hn hm
  obtain ⟨r1, k1⟩ := R
  obtain ⟨s1, x1⟩ := S
  have HRL := hid0 (show r1.length ≤ D.length + 4000 from HRL.out)
  have HSL := hid0 (show s1.length ≤ D.length from HSL.out)
  have p3_0 := V3.cell 0 rfl
  have p3_1 := V3.cell 1 rfl
  go_enter Try.func3, Try.ntmps3
  go_wp2_with fail
  clear p3_0 p3_1
  generalize w.alloc (Obj.cells #[.int .i64 f, .slice a n c] 24) = w1 at *
  refine Calls.mono (C1.out _ hB) ?_
  rintro e w2 ⟨v7, rfl, hM⟩
  replace V3 := V3.below hM.b
  replace hB := below_through hM.b hB.size hB
  obtain ⟨a7, c7, rfl, _, hE7⟩ := hM.ents
  rw [HN.out]
  clear hM
  have bA : Below w2.heap.size w2 (w2.alloc (Obj.cells #[.int .i64 f, .slice a7 n c7] 24)) := (Below.refl _ _).alloc (Nat.le_refl _) _
  replace V3 := V3.below bA
  replace hE7 := hE7.later bA
  replace hB := below_through bA hB.size hB
  have V7 := VarB.new w2 [.int .i64 f, .slice a7 n c7] 24
  clear bA
  have p3_0 := V3.cell 0 rfl
  have p3_1 := V3.cell 1 rfl
  have p7_0 := V7.cell 0 rfl
  have p7_1 := V7.cell 1 rfl
  go_wp2_with fail
  clear p3_0 p3_1 p7_0 p7_1
  generalize w2.alloc (Obj.cells #[.int .i64 f, .slice a7 n c7] 24) = w3 at *
  refine Calls.mono (C2.out _ hB) ?_
  rintro e w4 ⟨v8, F8, rfl, hM, hF8⟩
  replace V3 := V3.below hM.b
  replace V7 := V7.below hM.b
  replace hE7 := hE7.later hM.b
  replace hB := below_through hM.b hB.size hB
  obtain ⟨a8, c8, rfl, _, hE8⟩ := hM.ents
  obtain ⟨n8, hn8⟩ : ∃ n, F8.length = n := ⟨_, rfl⟩
  have HN8 := hid0 hn8
  have HF8 : Hid (F8.map dat = r1) := hid0 hF8
  rw [hn8]
  clear hM hn8 hF8
  have bA : Below w4.heap.size w4 (w4.alloc (Obj.cells #[.int .i64 f, .slice a8 n8 c8] 24)) := (Below.refl _ _).alloc (Nat.le_refl _) _
  replace V3 := V3.below bA
  replace V7 := V7.below bA
  replace hE7 := hE7.later bA
  replace hE8 := hE8.later bA
  replace hB := below_through bA hB.size hB
  have V8 := VarB.new w4 [.int .i64 f, .slice a8 n8 c8] 24
  clear bA
  have p3_0 := V3.cell 0 rfl
  have p3_1 := V3.cell 1 rfl
  have p7_0 := V7.cell 0 rfl
  have p7_1 := V7.cell 1 rfl
  have p8_0 := V8.cell 0 rfl
  have p8_1 := V8.cell 1 rfl
  go_wp2_with fail
  clear p3_0 p3_1 p7_0 p7_1 p8_0 p8_1
  generalize w4.alloc (Obj.cells #[.int .i64 f, .slice a8 n8 c8] 24) = w5 at *
  refine Calls.mono (C3.out _ _ _ hE7 hB) ?_
  rintro e w6 ⟨⟨a10, c10, F10, rfl, hE10, hF10⟩, hb⟩
  replace V3 := V3.below hb
  replace V7 := V7.below hb
  replace V8 := V8.below hb
  replace hE7 := hE7.later hb
  replace hE8 := hE8.later hb
  replace hB := below_through hb hB.size hB
  obtain ⟨n10, hn10⟩ : ∃ n, F10.length = n := ⟨_, rfl⟩
  have HN10 := hid0 hn10
  have HF10 : Hid (F10.map dat = r1) := hid0 hF10
  rw [hn10]
  clear hb hn10 hF10
  have bA : Below w6.heap.size w6 (w6.alloc (Obj.cells #[.int .i64 f, .slice a10 n10 c10] 24)) := (Below.refl _ _).alloc (Nat.le_refl _) _
  replace V3 := V3.below bA
  replace V7 := V7.below bA
  replace V8 := V8.below bA
  replace hE7 := hE7.later bA
  replace hE8 := hE8.later bA
  replace hE10 := hE10.later bA
  replace hB := below_through bA hB.size hB
  have V10 := VarB.new w6 [.int .i64 f, .slice a10 n10 c10] 24
  clear bA
  have p3_0 := V3.cell 0 rfl
  have p3_1 := V3.cell 1 rfl
  have p7_0 := V7.cell 0 rfl
  have p7_1 := V7.cell 1 rfl
  have p8_0 := V8.cell 0 rfl
  have p8_1 := V8.cell 1 rfl
  have p10_0 := V10.cell 0 rfl
  have p10_1 := V10.cell 1 rfl
  go_wp2_with fail
  clear p3_0 p3_1 p7_0 p7_1 p8_0 p8_1 p10_0 p10_1
  generalize w6.alloc (Obj.cells #[.int .i64 f, .slice a10 n10 c10] 24) = w7 at *
  refine Calls.mono (C4.out _ hB) ?_
  rintro e w8 ⟨⟨a12, c12, E12, rfl, _, hE12, hF12⟩, hb⟩
  replace V3 := V3.below hb
  replace V7 := V7.below hb
  replace V8 := V8.below hb
  replace V10 := V10.below hb
  replace hE7 := hE7.later hb
  replace hE8 := hE8.later hb
  replace hE10 := hE10.later hb
  replace hB := below_through hb hB.size hB
  obtain ⟨n12, hn12⟩ : ∃ n, E12.length = n := ⟨_, rfl⟩
  have HN12 := hid0 hn12
  have HF12 : Hid (E12.map pr = s1) := hid0 hF12
  rw [hn12]
  clear hb hn12 hF12
  have p3_0 := V3.cell 0 rfl
  have p3_1 := V3.cell 1 rfl
  have p7_0 := V7.cell 0 rfl
  have p7_1 := V7.cell 1 rfl
  have p8_0 := V8.cell 0 rfl
  have p8_1 := V8.cell 1 rfl
  have p10_0 := V10.cell 0 rfl
  have p10_1 := V10.cell 1 rfl
  go_wp2_with fail
  clear p3_0 p3_1 p7_0 p7_1 p8_0 p8_1 p10_0 p10_1
  refine Calls.mono (C5.out _ _ _ hE7) ?_
  rintro e w9 ⟨⟨a14, c14, E14, rfl, _, hE14, hF14⟩, hb⟩
  replace V3 := V3.below hb
  replace V7 := V7.below hb
  replace V8 := V8.below hb
  replace V10 := V10.below hb
  replace hE7 := hE7.later hb
  replace hE8 := hE8.later hb
  replace hE10 := hE10.later hb
  replace hE12 := hE12.later hb
  replace hB := below_through hb hB.size hB
  obtain ⟨n14, hn14⟩ : ∃ n, E14.length = n := ⟨_, rfl⟩
  have HN14 := hid0 hn14
  have HF14 : Hid (E14.map pr = s1) := hid0 hF14
  rw [hn14]
  clear hb hn14 hF14
  go_wp2_with fail
  replace V3 := V3.below (Below.drew (Below.refl w9.heap.size w9))
  replace V7 := V7.below (Below.drew (Below.refl w9.heap.size w9))
  replace V8 := V8.below (Below.drew (Below.refl w9.heap.size w9))
  replace V10 := V10.below (Below.drew (Below.refl w9.heap.size w9))
  replace hE7 := hE7.later (Below.drew (Below.refl w9.heap.size w9))
  replace hE8 := hE8.later (Below.drew (Below.refl w9.heap.size w9))
  replace hE10 := hE10.later (Below.drew (Below.refl w9.heap.size w9))
  replace hE12 := hE12.later (Below.drew (Below.refl w9.heap.size w9))
  replace hE14 := hE14.later (Below.drew (Below.refl w9.heap.size w9))
  replace hB := below_through (Below.drew (Below.refl w9.heap.size w9)) hB.size hB
  have p3_0 := V3.cell 0 rfl
  have p3_1 := V3.cell 1 rfl
  have p7_0 := V7.cell 0 rfl
  have p7_1 := V7.cell 1 rfl
  have p8_0 := V8.cell 0 rfl
  have p8_1 := V8.cell 1 rfl
  have p10_0 := V10.cell 0 rfl
  have p10_1 := V10.cell 1 rfl
  have HL8 := hid0 (show n8 ≤ 1100000 by have h1 := congrArg List.length HF8.out; have h2 := HRL.out; have h3 := HLD.out; rw [List.length_map, HN8.out] at h1; omega)
  have HL12 := hid0 (show n12 ≤ 1000000 by have h1 := congrArg List.length HF12.out; have h2 := HSL.out; have h3 := HLD.out; rw [List.length_map, HN12.out] at h1; omega)
  have HL0 := hid0 (HL.out.later hB)
  have HE7 := hid0 hE7
  have HE8 := hid0 hE8
  have HE10 := hid0 hE10
  have HE12 := hid0 hE12
  have HE14 := hid0 hE14
  have CP1 := hid0 (fun W (hW : Below w9.drew.heap.size w9.drew W) => C6.out W (below_through hW hB.size hB))
  have CP2 := hid0 (fun W (hW : Below w9.drew.heap.size w9.drew W) => C7.out a7 c7 W (HE7.out.later hW))
  have CR1 := hid0 (fun W (hW : Below w9.drew.heap.size w9.drew W) => C8.out W (below_through hW hB.size hB))
  have CR2 := hid0 (fun W (hW : Below w9.drew.heap.size w9.drew W) => C9.out a7 c7 W (HE7.out.later hW))
  clear V3 V7 V8 V10 hE7 hE8 hE10 hE12 hE14 C1 C2 C3 C4 C5 C6 C7 C8 C9
  refine wp_region_held_drew (S := (fun W => Below w9.drew.heap.size w9.drew W)) (by kernel_rfl) (Below.refl _ _) (fun hHeld => ?_)
  have hB0 : Below w9.drew.heap.size w9.drew w9.drew := Below.refl _ _
  generalize w9.drew = W0 at hB HL0 HE7 HE8 HE10 HE12 HE14 p3_0 p3_1 p7_0 p7_1 p8_0 p8_1 p10_0 p10_1 CR1 CR2 CP1 CP2 hB0 hHeld ⊢
  refine wpAnyH_ready (rs := [0]) (by kernel_rfl) (by simp) ?_
  refine AllReadyH.cons rfl (fun K hK => ?_) AllReadyH.nil
  go_simp
  refine Calls.mono (CA.out _) ?_
  rintro e WA ⟨rfl, hbA⟩
  have hB0 := below_through hbA hB0.size hB0
  clear hbA
  refine hK.out _ _ hB0 (fun hHeld => ?_)
  clear hK K
  (try simp only [Act.put, List.setIfInBounds_toArray, List.set_cons_zero, List.set_cons_succ, List.getElem_toArray, List.getElem_cons_zero, List.getElem_cons_succ])
  refine wpAnyH_take (i := 1) (v := ?_) rfl (by kernel_rfl) (by kernel_rfl) (by kernel_rfl) (fun _ _ _ h => h) (Or.inl ⟨by rfl, ?_⟩) (by assumption) ?_
  rotate_left
  · (intro wx hSw; have x3_0 := cell_later hSw p3_0; have x3_1 := cell_later hSw p3_1; have x7_0 := cell_later hSw p7_0; have x7_1 := cell_later hSw p7_1; have x8_0 := cell_later hSw p8_0; have x8_1 := cell_later hSw p8_1; have x10_0 := cell_later hSw p10_0; have x10_1 := cell_later hSw p10_1; go_simp; (try with_reducible rfl); (try omega))
  (try simp only [Act.put, List.setIfInBounds_toArray, List.set_cons_zero, List.set_cons_succ, List.getElem_toArray, List.getElem_cons_zero, List.getElem_cons_succ])
  refine wpAnyH_take (i := 2) (v := ?_) rfl (by kernel_rfl) (by kernel_rfl) (by kernel_rfl) (fun _ _ _ h => h) (Or.inl ⟨by rfl, ?_⟩) (by assumption) ?_
  rotate_left
  · (intro wx hSw; have x3_0 := cell_later hSw p3_0; have x3_1 := cell_later hSw p3_1; have x7_0 := cell_later hSw p7_0; have x7_1 := cell_later hSw p7_1; have x8_0 := cell_later hSw p8_0; have x8_1 := cell_later hSw p8_1; have x10_0 := cell_later hSw p10_0; have x10_1 := cell_later hSw p10_1; go_simp; (try with_reducible rfl); (try omega))
  (try simp only [Act.put, List.setIfInBounds_toArray, List.set_cons_zero, List.set_cons_succ, List.getElem_toArray, List.getElem_cons_zero, List.getElem_cons_succ])
  refine wpAnyH_take (i := 3) (v := ?_) rfl (by kernel_rfl) (by kernel_rfl) (by kernel_rfl) (fun _ _ _ h => h) (Or.inl ⟨by rfl, ?_⟩) (by assumption) ?_
  rotate_left
  · (intro wx hSw; have x3_0 := cell_later hSw p3_0; have x3_1 := cell_later hSw p3_1; have x7_0 := cell_later hSw p7_0; have x7_1 := cell_later hSw p7_1; have x8_0 := cell_later hSw p8_0; have x8_1 := cell_later hSw p8_1; have x10_0 := cell_later hSw p10_0; have x10_1 := cell_later hSw p10_1; go_simp; (try with_reducible rfl); (try omega))
  (try simp only [Act.put, List.setIfInBounds_toArray, List.set_cons_zero, List.set_cons_succ, List.getElem_toArray, List.getElem_cons_zero, List.getElem_cons_succ])
  refine wpAnyH_ready (rs := [4]) (by kernel_rfl) (by simp) ?_
  refine AllReadyH.cons rfl (fun K hK => ?_) AllReadyH.nil
  go_simp
  refine Calls.mono (same16 f a8 a10 c8 c10 F8 F10 n8 n10 _ HN8.out HN10.out (HE8.out.later hB0) (HE10.out.later hB0) HL8.out (HF8.out.trans HF10.out.symm)) ?_
  rintro e WA ⟨rfl, hbA⟩
  have hB0 := below_through hbA hB0.size hB0
  clear hbA
  refine hK.out _ _ hB0 (fun hHeld => ?_)
  clear hK K
  (try simp only [Act.put, List.setIfInBounds_toArray, List.set_cons_zero, List.set_cons_succ, List.getElem_toArray, List.getElem_cons_zero, List.getElem_cons_succ])
  refine wpAnyH_take (i := 5) (v := ?_) rfl (by kernel_rfl) (by kernel_rfl) (by kernel_rfl) (fun _ _ _ h => h) (Or.inl ⟨by rfl, ?_⟩) (by assumption) ?_
  rotate_left
  · (intro wx hSw; have x3_0 := cell_later hSw p3_0; have x3_1 := cell_later hSw p3_1; have x7_0 := cell_later hSw p7_0; have x7_1 := cell_later hSw p7_1; have x8_0 := cell_later hSw p8_0; have x8_1 := cell_later hSw p8_1; have x10_0 := cell_later hSw p10_0; have x10_1 := cell_later hSw p10_1; go_simp; (try with_reducible rfl); (try omega))
  (try simp only [Act.put, List.setIfInBounds_toArray, List.set_cons_zero, List.set_cons_succ, List.getElem_toArray, List.getElem_cons_zero, List.getElem_cons_succ])
  refine wpAnyH_take (i := 6) (v := ?_) rfl (by kernel_rfl) (by kernel_rfl) (by kernel_rfl) (fun _ _ _ h => h) (Or.inl ⟨by rfl, ?_⟩) (by assumption) ?_
  rotate_left
  · (intro wx hSw; have x3_0 := cell_later hSw p3_0; have x3_1 := cell_later hSw p3_1; have x7_0 := cell_later hSw p7_0; have x7_1 := cell_later hSw p7_1; have x8_0 := cell_later hSw p8_0; have x8_1 := cell_later hSw p8_1; have x10_0 := cell_later hSw p10_0; have x10_1 := cell_later hSw p10_1; go_simp; (try with_reducible rfl); (try omega))
  (try simp only [Act.put, List.setIfInBounds_toArray, List.set_cons_zero, List.set_cons_succ, List.getElem_toArray, List.getElem_cons_zero, List.getElem_cons_succ])
  refine wpAnyH_take (i := 7) (v := ?_) rfl (by kernel_rfl) (by kernel_rfl) (by kernel_rfl) (fun _ _ _ h => h) (Or.inl ⟨by rfl, ?_⟩) (by assumption) ?_
  rotate_left
  · (intro wx hSw; have x3_0 := cell_later hSw p3_0; have x3_1 := cell_later hSw p3_1; have x7_0 := cell_later hSw p7_0; have x7_1 := cell_later hSw p7_1; have x8_0 := cell_later hSw p8_0; have x8_1 := cell_later hSw p8_1; have x10_0 := cell_later hSw p10_0; have x10_1 := cell_later hSw p10_1; go_simp; (try with_reducible rfl); (try omega))
  (try simp only [Act.put, List.setIfInBounds_toArray, List.set_cons_zero, List.set_cons_succ, List.getElem_toArray, List.getElem_cons_zero, List.getElem_cons_succ])
  refine wpAnyH_take (i := 8) (v := ?_) rfl (by kernel_rfl) (by kernel_rfl) (by kernel_rfl) (fun _ _ _ h => h) (Or.inl ⟨by rfl, ?_⟩) (by assumption) ?_
  rotate_left
  · (intro wx hSw; have x3_0 := cell_later hSw p3_0; have x3_1 := cell_later hSw p3_1; have x7_0 := cell_later hSw p7_0; have x7_1 := cell_later hSw p7_1; have x8_0 := cell_later hSw p8_0; have x8_1 := cell_later hSw p8_1; have x10_0 := cell_later hSw p10_0; have x10_1 := cell_later hSw p10_1; go_simp; (try with_reducible rfl); (try omega))
  (try simp only [Act.put, List.setIfInBounds_toArray, List.set_cons_zero, List.set_cons_succ, List.getElem_toArray, List.getElem_cons_zero, List.getElem_cons_succ])
  refine wpAnyH_take (i := 9) (v := .bool true) rfl (by kernel_rfl) (by kernel_rfl) (by kernel_rfl) (fun _ _ _ h => h) (Or.inl ⟨by rfl, ?_⟩) (by assumption) ?_
  · (intro wx hSw; go_simp; (try with_reducible rfl); (try simp))
  (try simp only [Act.put, List.setIfInBounds_toArray, List.set_cons_zero, List.set_cons_succ, List.getElem_toArray, List.getElem_cons_zero, List.getElem_cons_succ])
  refine wpAnyH_take (i := 10) (v := ?_) rfl (by kernel_rfl) (by kernel_rfl) (by kernel_rfl) (fun _ _ _ h => h) (Or.inl ⟨by rfl, ?_⟩) (by assumption) ?_
  rotate_left
  · (intro wx hSw; have x3_0 := cell_later hSw p3_0; have x3_1 := cell_later hSw p3_1; have x7_0 := cell_later hSw p7_0; have x7_1 := cell_later hSw p7_1; have x8_0 := cell_later hSw p8_0; have x8_1 := cell_later hSw p8_1; have x10_0 := cell_later hSw p10_0; have x10_1 := cell_later hSw p10_1; go_simp; (try with_reducible rfl); (try omega))
  (try simp only [Act.put, List.setIfInBounds_toArray, List.set_cons_zero, List.set_cons_succ, List.getElem_toArray, List.getElem_cons_zero, List.getElem_cons_succ])
  refine wpAnyH_take (i := 11) (v := ?_) rfl (by kernel_rfl) (by kernel_rfl) (by kernel_rfl) (fun _ _ _ h => h) (Or.inl ⟨by rfl, ?_⟩) (by assumption) ?_
  rotate_left
  · (intro wx hSw; have x3_0 := cell_later hSw p3_0; have x3_1 := cell_later hSw p3_1; have x7_0 := cell_later hSw p7_0; have x7_1 := cell_later hSw p7_1; have x8_0 := cell_later hSw p8_0; have x8_1 := cell_later hSw p8_1; have x10_0 := cell_later hSw p10_0; have x10_1 := cell_later hSw p10_1; go_simp; (try with_reducible rfl); (try omega))
  (try simp only [Act.put, List.setIfInBounds_toArray, List.set_cons_zero, List.set_cons_succ, List.getElem_toArray, List.getElem_cons_zero, List.getElem_cons_succ])
  refine wpAnyH_take (i := 12) (v := ?_) rfl (by kernel_rfl) (by kernel_rfl) (by kernel_rfl) (fun _ _ _ h => h) (Or.inl ⟨by rfl, ?_⟩) (by assumption) ?_
  rotate_left
  · (intro wx hSw; have x3_0 := cell_later hSw p3_0; have x3_1 := cell_later hSw p3_1; have x7_0 := cell_later hSw p7_0; have x7_1 := cell_later hSw p7_1; have x8_0 := cell_later hSw p8_0; have x8_1 := cell_later hSw p8_1; have x10_0 := cell_later hSw p10_0; have x10_1 := cell_later hSw p10_1; go_simp; (try with_reducible rfl); (try omega))
  (try simp only [Act.put, List.setIfInBounds_toArray, List.set_cons_zero, List.set_cons_succ, List.getElem_toArray, List.getElem_cons_zero, List.getElem_cons_succ])
  refine wpAnyH_take (i := 13) (v := ?_) rfl (by kernel_rfl) (by kernel_rfl) (by kernel_rfl) (fun _ _ _ h => h) (Or.inl ⟨by rfl, ?_⟩) (by assumption) ?_
  rotate_left
  · (intro wx hSw; have x3_0 := cell_later hSw p3_0; have x3_1 := cell_later hSw p3_1; have x7_0 := cell_later hSw p7_0; have x7_1 := cell_later hSw p7_1; have x8_0 := cell_later hSw p8_0; have x8_1 := cell_later hSw p8_1; have x10_0 := cell_later hSw p10_0; have x10_1 := cell_later hSw p10_1; go_simp; (try with_reducible rfl); (try omega))
  (try simp only [Act.put, List.setIfInBounds_toArray, List.set_cons_zero, List.set_cons_succ, List.getElem_toArray, List.getElem_cons_zero, List.getElem_cons_succ])
  refine wpAnyH_ready (rs := [14]) (by kernel_rfl) (by simp) ?_
  refine AllReadyH.cons rfl (fun K hK => ?_) AllReadyH.nil
  go_simp
  refine Calls.mono (same04 a12 a14 c12 c14 E12 E14 n12 n14 _ HN12.out HN14.out (HE12.out.later hB0) (HE14.out.later hB0) HL12.out (HF12.out.trans HF14.out.symm)) ?_
  rintro e WA ⟨rfl, hbA⟩
  have hB0 := below_through hbA hB0.size hB0
  clear hbA
  refine hK.out _ _ hB0 (fun hHeld => ?_)
  clear hK K
  (try simp only [Act.put, List.setIfInBounds_toArray, List.set_cons_zero, List.set_cons_succ, List.getElem_toArray, List.getElem_cons_zero, List.getElem_cons_succ])
  refine wpAnyH_take (i := 15) (v := ?_) rfl (by kernel_rfl) (by kernel_rfl) (by kernel_rfl) (fun _ _ _ h => h) (Or.inl ⟨by rfl, ?_⟩) (by assumption) ?_
  rotate_left
  · (intro wx hSw; have x3_0 := cell_later hSw p3_0; have x3_1 := cell_later hSw p3_1; have x7_0 := cell_later hSw p7_0; have x7_1 := cell_later hSw p7_1; have x8_0 := cell_later hSw p8_0; have x8_1 := cell_later hSw p8_1; have x10_0 := cell_later hSw p10_0; have x10_1 := cell_later hSw p10_1; go_simp; (try with_reducible rfl); (try omega))
  (try simp only [Act.put, List.setIfInBounds_toArray, List.set_cons_zero, List.set_cons_succ, List.getElem_toArray, List.getElem_cons_zero, List.getElem_cons_succ])
  refine wpAnyH_take (i := 16) (v := ?_) rfl (by kernel_rfl) (by kernel_rfl) (by kernel_rfl) (fun _ _ _ h => h) (Or.inl ⟨by rfl, ?_⟩) (by assumption) ?_
  rotate_left
  · (intro wx hSw; have x3_0 := cell_later hSw p3_0; have x3_1 := cell_later hSw p3_1; have x7_0 := cell_later hSw p7_0; have x7_1 := cell_later hSw p7_1; have x8_0 := cell_later hSw p8_0; have x8_1 := cell_later hSw p8_1; have x10_0 := cell_later hSw p10_0; have x10_1 := cell_later hSw p10_1; go_simp; (try with_reducible rfl); (try omega))
  (try simp only [Act.put, List.setIfInBounds_toArray, List.set_cons_zero, List.set_cons_succ, List.getElem_toArray, List.getElem_cons_zero, List.getElem_cons_succ])
  refine wpAnyH_take (i := 17) (v := ?_) rfl (by kernel_rfl) (by kernel_rfl) (by kernel_rfl) (fun _ _ _ h => h) (Or.inl ⟨by rfl, ?_⟩) (by assumption) ?_
  rotate_left
  · (intro wx hSw; have x3_0 := cell_later hSw p3_0; have x3_1 := cell_later hSw p3_1; have x7_0 := cell_later hSw p7_0; have x7_1 := cell_later hSw p7_1; have x8_0 := cell_later hSw p8_0; have x8_1 := cell_later hSw p8_1; have x10_0 := cell_later hSw p10_0; have x10_1 := cell_later hSw p10_1; go_simp; (try with_reducible rfl); (try omega))
  (try simp only [Act.put, List.setIfInBounds_toArray, List.set_cons_zero, List.set_cons_succ, List.getElem_toArray, List.getElem_cons_zero, List.getElem_cons_succ])
  refine wpAnyH_take (i := 18) (v := ?_) rfl (by kernel_rfl) (by kernel_rfl) (by kernel_rfl) (fun _ _ _ h => h) (Or.inl ⟨by rfl, ?_⟩) (by assumption) ?_
  rotate_left
  · (intro wx hSw; have x3_0 := cell_later hSw p3_0; have x3_1 := cell_later hSw p3_1; have x7_0 := cell_later hSw p7_0; have x7_1 := cell_later hSw p7_1; have x8_0 := cell_later hSw p8_0; have x8_1 := cell_later hSw p8_1; have x10_0 := cell_later hSw p10_0; have x10_1 := cell_later hSw p10_1; go_simp; (try with_reducible rfl); (try omega))
  (try simp only [Act.put, List.setIfInBounds_toArray, List.set_cons_zero, List.set_cons_succ, List.getElem_toArray, List.getElem_cons_zero, List.getElem_cons_succ])
  refine wpAnyH_take (i := 19) (v := .bool true) rfl (by kernel_rfl) (by kernel_rfl) (by kernel_rfl) (fun _ _ _ h => h) (Or.inl ⟨by rfl, ?_⟩) (by assumption) ?_
  · (intro wx hSw; go_simp; (try with_reducible rfl); (try simp))
  (try simp only [Act.put, List.setIfInBounds_toArray, List.set_cons_zero, List.set_cons_succ, List.getElem_toArray, List.getElem_cons_zero, List.getElem_cons_succ])
  refine wpAnyH_take (i := 20) (v := ?_) rfl (by kernel_rfl) (by kernel_rfl) (by kernel_rfl) (fun _ _ _ h => h) (Or.inl ⟨by rfl, ?_⟩) (by assumption) ?_
  rotate_left
  · (intro wx hSw; have x3_0 := cell_later hSw p3_0; have x3_1 := cell_later hSw p3_1; have x7_0 := cell_later hSw p7_0; have x7_1 := cell_later hSw p7_1; have x8_0 := cell_later hSw p8_0; have x8_1 := cell_later hSw p8_1; have x10_0 := cell_later hSw p10_0; have x10_1 := cell_later hSw p10_1; go_simp; (try with_reducible rfl); (try omega))
  (try simp only [Act.put, List.setIfInBounds_toArray, List.set_cons_zero, List.set_cons_succ, List.getElem_toArray, List.getElem_cons_zero, List.getElem_cons_succ])
  refine wpAnyH_take (i := 21) (v := ?_) rfl (by kernel_rfl) (by kernel_rfl) (by kernel_rfl) (fun _ _ _ h => h) (Or.inl ⟨by rfl, ?_⟩) (by assumption) ?_
  rotate_left
  · (intro wx hSw; have x3_0 := cell_later hSw p3_0; have x3_1 := cell_later hSw p3_1; have x7_0 := cell_later hSw p7_0; have x7_1 := cell_later hSw p7_1; have x8_0 := cell_later hSw p8_0; have x8_1 := cell_later hSw p8_1; have x10_0 := cell_later hSw p10_0; have x10_1 := cell_later hSw p10_1; go_simp; (try with_reducible rfl); (try omega))
  (try simp only [Act.put, List.setIfInBounds_toArray, List.set_cons_zero, List.set_cons_succ, List.getElem_toArray, List.getElem_cons_zero, List.getElem_cons_succ])
  refine wpAnyH_take (i := 22) (v := ?_) rfl (by kernel_rfl) (by kernel_rfl) (by kernel_rfl) (fun _ _ _ h => h) (Or.inl ⟨by rfl, ?_⟩) (by assumption) ?_
  rotate_left
  · (intro wx hSw; have x3_0 := cell_later hSw p3_0; have x3_1 := cell_later hSw p3_1; have x7_0 := cell_later hSw p7_0; have x7_1 := cell_later hSw p7_1; have x8_0 := cell_later hSw p8_0; have x8_1 := cell_later hSw p8_1; have x10_0 := cell_later hSw p10_0; have x10_1 := cell_later hSw p10_1; go_simp; (try with_reducible rfl); (try omega))
  (try simp only [Act.put, List.setIfInBounds_toArray, List.set_cons_zero, List.set_cons_succ, List.getElem_toArray, List.getElem_cons_zero, List.getElem_cons_succ])
  refine wpAnyH_take (i := 23) (v := ?_) rfl (by kernel_rfl) (by kernel_rfl) (by kernel_rfl) (fun _ _ _ h => h) (Or.inl ⟨by rfl, ?_⟩) (by assumption) ?_
  rotate_left
  · (intro wx hSw; have x3_0 := cell_later hSw p3_0; have x3_1 := cell_later hSw p3_1; have x7_0 := cell_later hSw p7_0; have x7_1 := cell_later hSw p7_1; have x8_0 := cell_later hSw p8_0; have x8_1 := cell_later hSw p8_1; have x10_0 := cell_later hSw p10_0; have x10_1 := cell_later hSw p10_1; go_simp; (try with_reducible rfl); (try omega))
  (try simp only [Act.put, List.setIfInBounds_toArray, List.set_cons_zero, List.set_cons_succ, List.getElem_toArray, List.getElem_cons_zero, List.getElem_cons_succ])
  refine wpAnyH_take (i := 25) (v := ?_) rfl (by kernel_rfl) (by kernel_rfl) (by kernel_rfl) (fun _ _ _ h => h) (Or.inl ⟨by rfl, ?_⟩) (by assumption) ?_
  rotate_left
  · (intro wx hSw; have x3_0 := cell_later hSw p3_0; have x3_1 := cell_later hSw p3_1; have x7_0 := cell_later hSw p7_0; have x7_1 := cell_later hSw p7_1; have x8_0 := cell_later hSw p8_0; have x8_1 := cell_later hSw p8_1; have x10_0 := cell_later hSw p10_0; have x10_1 := cell_later hSw p10_1; go_simp; (try with_reducible rfl); (try omega))
  (try simp only [Act.put, List.setIfInBounds_toArray, List.set_cons_zero, List.set_cons_succ, List.getElem_toArray, List.getElem_cons_zero, List.getElem_cons_succ])
  refine wpAnyH_take (i := 26) (v := ?_) rfl (by kernel_rfl) (by kernel_rfl) (by kernel_rfl) (fun _ _ _ h => h) (Or.inl ⟨by rfl, ?_⟩) (by assumption) ?_
  rotate_left
  · (intro wx hSw; have x3_0 := cell_later hSw p3_0; have x3_1 := cell_later hSw p3_1; have x7_0 := cell_later hSw p7_0; have x7_1 := cell_later hSw p7_1; have x8_0 := cell_later hSw p8_0; have x8_1 := cell_later hSw p8_1; have x10_0 := cell_later hSw p10_0; have x10_1 := cell_later hSw p10_1; go_simp; (try with_reducible rfl); (try omega))
  (try simp only [Act.put, List.setIfInBounds_toArray, List.set_cons_zero, List.set_cons_succ, List.getElem_toArray, List.getElem_cons_zero, List.getElem_cons_succ])
  refine wpAnyH_ready (rs := [24]) (by kernel_rfl) (by simp) ?_
  refine AllReadyH.cons rfl (fun K hK => ?_) AllReadyH.nil
  go_simp
  refine Calls.mono (CP1.out _ hB0) ?_
  rintro e WP15 ⟨v15, F15, rfl, hM15, hF15⟩
  have hB0 := below_through hM15.b hB0.size hB0
  obtain ⟨a15, c15, rfl, _, hE15⟩ := hM15.ents
  obtain ⟨n15, hn15⟩ : ∃ n, F15.length = n := ⟨_, rfl⟩
  rw [hn15]
  have HN15 := hid0 hn15
  have HF15 := hid0 hF15
  clear hM15 hn15 hF15
  refine hK.out _ _ hB0 (fun hHeld => ?_)
  clear hK K
  (try simp only [Act.put, List.setIfInBounds_toArray, List.set_cons_zero, List.set_cons_succ, List.getElem_toArray, List.getElem_cons_zero, List.getElem_cons_succ])
  refine wpAnyH_ready (rs := [27]) (by kernel_rfl) (by simp) ?_
  refine AllReadyH.cons rfl (fun K hK => ?_) AllReadyH.nil
  go_simp
  refine Calls.mono (CP2.out _ hB0) ?_
  rintro e WP16 ⟨v16, F16, rfl, hM16, hF16⟩
  have hB0 := below_through hM16.b hB0.size hB0
  have hE15 := hE15.later hM16.b
  obtain ⟨a16, c16, rfl, _, hE16⟩ := hM16.ents
  obtain ⟨n16, hn16⟩ : ∃ n, F16.length = n := ⟨_, rfl⟩
  rw [hn16]
  have HN16 := hid0 hn16
  have HF16 := hid0 hF16
  clear hM16 hn16 hF16
  refine hK.out _ _ hB0 (fun hHeld => ?_)
  clear hK K
  (try simp only [Act.put, List.setIfInBounds_toArray, List.set_cons_zero, List.set_cons_succ, List.getElem_toArray, List.getElem_cons_zero, List.getElem_cons_succ])
  refine wpAnyH_ready (rs := [28]) (by kernel_rfl) (by simp) ?_
  refine AllReadyH.cons rfl (fun K hK => ?_) AllReadyH.nil
  go_simp
  refine Calls.mono (same16 f a15 a16 c15 c16 F15 F16 n15 n16 _ HN15.out HN16.out hE15 hE16 (by have h1 := congrArg List.length HF15.out; have h2 := List.length_filter_le (fun x => decide (scn < x.1)) D; have h3 := HLD.out; rw [List.length_map, HN15.out] at h1; unfold keepD at h1; omega) (HF15.out.trans HF16.out.symm)) ?_
  rintro e WA ⟨rfl, hbA⟩
  have hB0 := below_through hbA hB0.size hB0
  clear hbA
  clear hE15 hE16 HN15 HN16 HF15 HF16
  refine hK.out _ _ hB0 (fun hHeld => ?_)
  clear hK K
  (try simp only [Act.put, List.setIfInBounds_toArray, List.set_cons_zero, List.set_cons_succ, List.getElem_toArray, List.getElem_cons_zero, List.getElem_cons_succ])
  refine wpAnyH_take (i := 29) (v := ?_) rfl (by kernel_rfl) (by kernel_rfl) (by kernel_rfl) (fun _ _ _ h => h) (Or.inl ⟨by rfl, ?_⟩) (by assumption) ?_
  rotate_left
  · (intro wx hSw; have x3_0 := cell_later hSw p3_0; have x3_1 := cell_later hSw p3_1; have x7_0 := cell_later hSw p7_0; have x7_1 := cell_later hSw p7_1; have x8_0 := cell_later hSw p8_0; have x8_1 := cell_later hSw p8_1; have x10_0 := cell_later hSw p10_0; have x10_1 := cell_later hSw p10_1; go_simp; (try with_reducible rfl); (try omega))
  (try simp only [Act.put, List.setIfInBounds_toArray, List.set_cons_zero, List.set_cons_succ, List.getElem_toArray, List.getElem_cons_zero, List.getElem_cons_succ])
  refine wpAnyH_take (i := 30) (v := ?_) rfl (by kernel_rfl) (by kernel_rfl) (by kernel_rfl) (fun _ _ _ h => h) (Or.inl ⟨by rfl, ?_⟩) (by assumption) ?_
  rotate_left
  · (intro wx hSw; have x3_0 := cell_later hSw p3_0; have x3_1 := cell_later hSw p3_1; have x7_0 := cell_later hSw p7_0; have x7_1 := cell_later hSw p7_1; have x8_0 := cell_later hSw p8_0; have x8_1 := cell_later hSw p8_1; have x10_0 := cell_later hSw p10_0; have x10_1 := cell_later hSw p10_1; go_simp; (try with_reducible rfl); (try omega))
  (try simp only [Act.put, List.setIfInBounds_toArray, List.set_cons_zero, List.set_cons_succ, List.getElem_toArray, List.getElem_cons_zero, List.getElem_cons_succ])
  refine wpAnyH_take (i := 31) (v := ?_) rfl (by kernel_rfl) (by kernel_rfl) (by kernel_rfl) (fun _ _ _ h => h) (Or.inl ⟨by rfl, ?_⟩) (by assumption) ?_
  rotate_left
  · (intro wx hSw; have x3_0 := cell_later hSw p3_0; have x3_1 := cell_later hSw p3_1; have x7_0 := cell_later hSw p7_0; have x7_1 := cell_later hSw p7_1; have x8_0 := cell_later hSw p8_0; have x8_1 := cell_later hSw p8_1; have x10_0 := cell_later hSw p10_0; have x10_1 := cell_later hSw p10_1; go_simp; (try with_reducible rfl); (try omega))
  (try simp only [Act.put, List.setIfInBounds_toArray, List.set_cons_zero, List.set_cons_succ, List.getElem_toArray, List.getElem_cons_zero, List.getElem_cons_succ])
  refine wpAnyH_take (i := 33) (v := ?_) rfl (by kernel_rfl) (by kernel_rfl) (by kernel_rfl) (fun _ _ _ h => h) (Or.inl ⟨by rfl, ?_⟩) (by assumption) ?_
  rotate_left
  · (intro wx hSw; have x3_0 := cell_later hSw p3_0; have x3_1 := cell_later hSw p3_1; have x7_0 := cell_later hSw p7_0; have x7_1 := cell_later hSw p7_1; have x8_0 := cell_later hSw p8_0; have x8_1 := cell_later hSw p8_1; have x10_0 := cell_later hSw p10_0; have x10_1 := cell_later hSw p10_1; go_simp; (try with_reducible rfl); (try omega))
  (try simp only [Act.put, List.setIfInBounds_toArray, List.set_cons_zero, List.set_cons_succ, List.getElem_toArray, List.getElem_cons_zero, List.getElem_cons_succ])
  refine wpAnyH_ready (rs := [32]) (by kernel_rfl) (by simp) ?_
  refine AllReadyH.cons rfl (fun K hK => ?_) AllReadyH.nil
  go_simp
  refine Calls.mono (CR1.out _ hB0) ?_
  rintro e WA ⟨rfl, hbA⟩
  have hB0 := below_through hbA hB0.size hB0
  clear hbA
  refine hK.out _ _ hB0 (fun hHeld => ?_)
  clear hK K
  (try simp only [Act.put, List.setIfInBounds_toArray, List.set_cons_zero, List.set_cons_succ, List.getElem_toArray, List.getElem_cons_zero, List.getElem_cons_succ])
  refine wpAnyH_ready (rs := [34]) (by kernel_rfl) (by simp) ?_
  refine AllReadyH.cons rfl (fun K hK => ?_) AllReadyH.nil
  go_simp
  refine Calls.mono (CR2.out _ hB0) ?_
  rintro e WA ⟨rfl, hbA⟩
  have hB0 := below_through hbA hB0.size hB0
  clear hbA
  refine hK.out _ _ hB0 (fun hHeld => ?_)
  clear hK K
  (try simp only [Act.put, List.setIfInBounds_toArray, List.set_cons_zero, List.set_cons_succ, List.getElem_toArray, List.getElem_cons_zero, List.getElem_cons_succ])
  refine wpAnyH_take (i := 35) (v := .bool true) rfl (by kernel_rfl) (by kernel_rfl) (by kernel_rfl) (fun _ _ _ h => h) (Or.inl ⟨by rfl, ?_⟩) (by assumption) ?_
  · (intro wx hSw; go_simp; (try with_reducible rfl); (try simp))
  (try simp only [Act.put, List.setIfInBounds_toArray, List.set_cons_zero, List.set_cons_succ, List.getElem_toArray, List.getElem_cons_zero, List.getElem_cons_succ])
  refine wpAnyH_take (i := 36) (v := ?_) rfl (by kernel_rfl) (by kernel_rfl) (by kernel_rfl) (fun _ _ _ h => h) (Or.inl ⟨by rfl, ?_⟩) (by assumption) ?_
  rotate_left
  · (intro wx hSw; have x3_0 := cell_later hSw p3_0; have x3_1 := cell_later hSw p3_1; have x7_0 := cell_later hSw p7_0; have x7_1 := cell_later hSw p7_1; have x8_0 := cell_later hSw p8_0; have x8_1 := cell_later hSw p8_1; have x10_0 := cell_later hSw p10_0; have x10_1 := cell_later hSw p10_1; go_simp; (try with_reducible rfl); (try omega))
  (try simp only [Act.put, List.setIfInBounds_toArray, List.set_cons_zero, List.set_cons_succ, List.getElem_toArray, List.getElem_cons_zero, List.getElem_cons_succ])
  refine wpAnyH_take (i := 37) (v := ?_) rfl (by kernel_rfl) (by kernel_rfl) (by kernel_rfl) (fun _ _ _ h => h) (Or.inl ⟨by rfl, ?_⟩) (by assumption) ?_
  rotate_left
  · (intro wx hSw; have x3_0 := cell_later hSw p3_0; have x3_1 := cell_later hSw p3_1; have x7_0 := cell_later hSw p7_0; have x7_1 := cell_later hSw p7_1; have x8_0 := cell_later hSw p8_0; have x8_1 := cell_later hSw p8_1; have x10_0 := cell_later hSw p10_0; have x10_1 := cell_later hSw p10_1; go_simp; (try with_reducible rfl); (try omega))
  (try simp only [Act.put, List.setIfInBounds_toArray, List.set_cons_zero, List.set_cons_succ, List.getElem_toArray, List.getElem_cons_zero, List.getElem_cons_succ])
  refine wpAnyH_take (i := 38) (v := ?_) rfl (by kernel_rfl) (by kernel_rfl) (by kernel_rfl) (fun _ _ _ h => h) (Or.inl ⟨by rfl, ?_⟩) (by assumption) ?_
  rotate_left
  · (intro wx hSw; have x3_0 := cell_later hSw p3_0; have x3_1 := cell_later hSw p3_1; have x7_0 := cell_later hSw p7_0; have x7_1 := cell_later hSw p7_1; have x8_0 := cell_later hSw p8_0; have x8_1 := cell_later hSw p8_1; have x10_0 := cell_later hSw p10_0; have x10_1 := cell_later hSw p10_1; go_simp; (try with_reducible rfl); (try omega))
  (try simp only [Act.put, List.setIfInBounds_toArray, List.set_cons_zero, List.set_cons_succ, List.getElem_toArray, List.getElem_cons_zero, List.getElem_cons_succ])
  refine wpAnyH_take (i := 39) (v := ?_) rfl (by kernel_rfl) (by kernel_rfl) (by kernel_rfl) (fun _ _ _ h => h) (Or.inl ⟨by rfl, ?_⟩) (by assumption) ?_
  rotate_left
  · (intro wx hSw; have x3_0 := cell_later hSw p3_0; have x3_1 := cell_later hSw p3_1; have x7_0 := cell_later hSw p7_0; have x7_1 := cell_later hSw p7_1; have x8_0 := cell_later hSw p8_0; have x8_1 := cell_later hSw p8_1; have x10_0 := cell_later hSw p10_0; have x10_1 := cell_later hSw p10_1; go_simp; (try with_reducible rfl); (try omega))
  (try simp only [Act.put, List.setIfInBounds_toArray, List.set_cons_zero, List.set_cons_succ, List.getElem_toArray, List.getElem_cons_zero, List.getElem_cons_succ])
  refine wpAnyH_ready (rs := [40]) (by kernel_rfl) (by simp) ?_
  refine AllReadyH.cons rfl (fun K hK => ?_) AllReadyH.nil
  go_simp
  refine Calls.mono (same16 f a a7 c c7 L L n n _ HN.out HN.out (HL0.out.later hB0) (HE7.out.later hB0) (by omega) rfl) ?_
  rintro e WA ⟨rfl, hbA⟩
  have hB0 := below_through hbA hB0.size hB0
  clear hbA
  refine hK.out _ _ hB0 (fun hHeld => ?_)
  clear hK K
  (try simp only [Act.put, List.setIfInBounds_toArray, List.set_cons_zero, List.set_cons_succ, List.getElem_toArray, List.getElem_cons_zero, List.getElem_cons_succ])
  refine wpAnyH_take (i := 41) (v := ?_) rfl (by kernel_rfl) (by kernel_rfl) (by kernel_rfl) (fun _ _ _ h => h) (Or.inl ⟨by rfl, ?_⟩) (by assumption) ?_
  rotate_left
  · (intro wx hSw; have x3_0 := cell_later hSw p3_0; have x3_1 := cell_later hSw p3_1; have x7_0 := cell_later hSw p7_0; have x7_1 := cell_later hSw p7_1; have x8_0 := cell_later hSw p8_0; have x8_1 := cell_later hSw p8_1; have x10_0 := cell_later hSw p10_0; have x10_1 := cell_later hSw p10_1; go_simp; (try with_reducible rfl); (try omega))
  (try simp only [Act.put, List.setIfInBounds_toArray, List.set_cons_zero, List.set_cons_succ, List.getElem_toArray, List.getElem_cons_zero, List.getElem_cons_succ])
  refine wpAnyH_take (i := 42) (v := ?_) rfl (by kernel_rfl) (by kernel_rfl) (by kernel_rfl) (fun _ _ _ h => h) (Or.inl ⟨by rfl, ?_⟩) (by assumption) ?_
  rotate_left
  · (intro wx hSw; have x3_0 := cell_later hSw p3_0; have x3_1 := cell_later hSw p3_1; have x7_0 := cell_later hSw p7_0; have x7_1 := cell_later hSw p7_1; have x8_0 := cell_later hSw p8_0; have x8_1 := cell_later hSw p8_1; have x10_0 := cell_later hSw p10_0; have x10_1 := cell_later hSw p10_1; go_simp; (try with_reducible rfl); (try omega))
  (try simp only [Act.put, List.setIfInBounds_toArray, List.set_cons_zero, List.set_cons_succ, List.getElem_toArray, List.getElem_cons_zero, List.getElem_cons_succ])
  refine wpAnyH_take (i := 43) (v := ?_) rfl (by kernel_rfl) (by kernel_rfl) (by kernel_rfl) (fun _ _ _ h => h) (Or.inl ⟨by rfl, ?_⟩) (by assumption) ?_
  rotate_left
  · (intro wx hSw; have x3_0 := cell_later hSw p3_0; have x3_1 := cell_later hSw p3_1; have x7_0 := cell_later hSw p7_0; have x7_1 := cell_later hSw p7_1; have x8_0 := cell_later hSw p8_0; have x8_1 := cell_later hSw p8_1; have x10_0 := cell_later hSw p10_0; have x10_1 := cell_later hSw p10_1; go_simp; (try with_reducible rfl); (try omega))
  (try simp only [Act.put, List.setIfInBounds_toArray, List.set_cons_zero, List.set_cons_succ, List.getElem_toArray, List.getElem_cons_zero, List.getElem_cons_succ])
  refine wpAnyH_take (i := 45) (v := ?_) rfl (by kernel_rfl) (by kernel_rfl) (by kernel_rfl) (fun _ _ _ h => h) (Or.inl ⟨by rfl, ?_⟩) (by assumption) ?_
  rotate_left
  · (intro wx hSw; have x3_0 := cell_later hSw p3_0; have x3_1 := cell_later hSw p3_1; have x7_0 := cell_later hSw p7_0; have x7_1 := cell_later hSw p7_1; have x8_0 := cell_later hSw p8_0; have x8_1 := cell_later hSw p8_1; have x10_0 := cell_later hSw p10_0; have x10_1 := cell_later hSw p10_1; go_simp; (try with_reducible rfl); (try omega))
  (try simp only [Act.put, List.setIfInBounds_toArray, List.set_cons_zero, List.set_cons_succ, List.getElem_toArray, List.getElem_cons_zero, List.getElem_cons_succ])
  refine wpAnyH_ready (rs := [44]) (by kernel_rfl) (by simp) ?_
  refine AllReadyH.cons rfl (fun K hK => ?_) AllReadyH.nil
  go_simp
  refine Calls.mono (trNew_any scn _) ?_
  rintro e WA ⟨rfl, hbA⟩
  have hB0 := below_through hbA hB0.size hB0
  clear hbA
  refine hK.out _ _ hB0 (fun hHeld => ?_)
  clear hK K
  (try simp only [Act.put, List.setIfInBounds_toArray, List.set_cons_zero, List.set_cons_succ, List.getElem_toArray, List.getElem_cons_zero, List.getElem_cons_succ])
  refine wpAnyH_ready (rs := [46]) (by kernel_rfl) (by simp) ?_
  refine AllReadyH.cons rfl (fun K hK => ?_) AllReadyH.nil
  go_simp
  refine Calls.mono (refNew16_any scn _) ?_
  rintro e WA ⟨rfl, hbA⟩
  have hB0 := below_through hbA hB0.size hB0
  clear hbA
  refine hK.out _ _ hB0 (fun hHeld => ?_)
  clear hK K
  (try simp only [Act.put, List.setIfInBounds_toArray, List.set_cons_zero, List.set_cons_succ, List.getElem_toArray, List.getElem_cons_zero, List.getElem_cons_succ])
  refine wpAnyH_ready (rs := [47]) (by kernel_rfl) (by simp) ?_
  refine AllReadyH.cons rfl (fun K hK => ?_) AllReadyH.nil
  go_simp
  refine Calls.mono (same16 scn none none 0 0 [] [] 0 0 _ rfl rfl (EntsAt.nil _ _) (EntsAt.nil _ _) (by omega) rfl) ?_
  rintro e WA ⟨rfl, hbA⟩
  have hB0 := below_through hbA hB0.size hB0
  clear hbA
  refine hK.out _ _ hB0 (fun hHeld => ?_)
  clear hK K
  (try simp only [Act.put, List.setIfInBounds_toArray, List.set_cons_zero, List.set_cons_succ, List.getElem_toArray, List.getElem_cons_zero, List.getElem_cons_succ])
  refine wpAnyH_take (i := 48) (v := ?_) rfl (by kernel_rfl) (by kernel_rfl) (by kernel_rfl) (fun _ _ _ h => h) (Or.inl ⟨by rfl, ?_⟩) (by assumption) ?_
  rotate_left
  · (intro wx hSw; have x3_0 := cell_later hSw p3_0; have x3_1 := cell_later hSw p3_1; have x7_0 := cell_later hSw p7_0; have x7_1 := cell_later hSw p7_1; have x8_0 := cell_later hSw p8_0; have x8_1 := cell_later hSw p8_1; have x10_0 := cell_later hSw p10_0; have x10_1 := cell_later hSw p10_1; go_simp; (try with_reducible rfl); (try omega))
  (try simp only [Act.put, List.setIfInBounds_toArray, List.set_cons_zero, List.set_cons_succ, List.getElem_toArray, List.getElem_cons_zero, List.getElem_cons_succ])
  refine wpAnyH_take (i := 49) (v := ?_) rfl (by kernel_rfl) (by kernel_rfl) (by kernel_rfl) (fun _ _ _ h => h) (Or.inl ⟨by rfl, ?_⟩) (by assumption) ?_
  rotate_left
  · (intro wx hSw; have x3_0 := cell_later hSw p3_0; have x3_1 := cell_later hSw p3_1; have x7_0 := cell_later hSw p7_0; have x7_1 := cell_later hSw p7_1; have x8_0 := cell_later hSw p8_0; have x8_1 := cell_later hSw p8_1; have x10_0 := cell_later hSw p10_0; have x10_1 := cell_later hSw p10_1; go_simp; (try with_reducible rfl); (try omega))
  (try simp only [Act.put, List.setIfInBounds_toArray, List.set_cons_zero, List.set_cons_succ, List.getElem_toArray, List.getElem_cons_zero, List.getElem_cons_succ])
  refine wpAnyH_done (by kernel_rfl) ?_ _
  go_wp2_with fail
  go_ret
  exact ⟨rfl, below_through hB0 hB.size hB⟩
end Go.Proofs.Ytadidikegfiedaa
