/- Several of my texts laid together, each as it was: T23, T24. Conditions: each names its own. -/
import Derived.Test.YtadidikegfiedaaC9
import Derived.Test.YtadidikegfiedaaD1
/- Whether any log may be (the reference's Right): a contract of the call, in whatever memory. Conditions: the log's cells are known. -/
namespace Go.Proofs.Ytadidikegfiedaa
open Go.RowKit

theorem ok_go {f la s m : Int} {r : List Val} {X : Bool} (h1 : m = 1 ∨ m = -1) (h2 : f < s) (h3 : la ≤ s) : (okD f (s, m, r) && decide (la ≤ s) && X) = X := by
  have e1 : okD f (s, m, r) = true := by
    unfold okD
    rw [Bool.and_eq_true, decide_eq_true_eq, decide_eq_true_eq]
    exact ⟨h1, h2⟩
  have e2 : decide (la ≤ s) = true := by simpa using h3
  rw [e1, e2]
  rfl
set_option maxHeartbeats 8000000 in
theorem refRight16_any (f : Int) (a : Option Addr) (c : Nat) (E : List Ent) (w : World) (h : EntsAt w a E) (hfew : E.length ≤ 1100000) :
    Calls Try.prog 16 #[.agg #[.int .i64 f, .slice a E.length c]] w fun e w' => e = .returned (.bool (rightD f (E.map dat))) ∧ Below w.heap.size w w' := by
  have hL := logB_new w f (.slice a E.length c) 24
  have hb1 : Below w.heap.size w (w.alloc (Obj.cells #[.int .i64 f, .slice a E.length c] 24)) := (Below.refl _ _).alloc (Nat.le_refl _) _
  have A := hid0 (h.1.later hb1)
  obtain ⟨R, hR⟩ : ∃ R, rightD f (E.map dat) = R := ⟨_, rfl⟩
  have HR := hid0 hR
  rw [hR]
  obtain ⟨n, hn⟩ : ∃ n, E.length = n := ⟨_, rfl⟩
  have HN := hid0 hn
  rw [hn] at hL hb1 hfew A ⊢
  have HB1 := hid0 hb1
  have l0 := hL.v.cell 0 rfl
  have l1 := hL.v.cell 1 rfl
  clear h hR hn
  by_cases hf : f < 0
  · have HF := hid0 (show false = R by rw [← HR.out]; unfold rightD; simp; intro h; omega)
    go_enter Try.func16, Try.ntmps16
    go_wp2
    go_ret
    exact ⟨ret_bool HF.out, HB1.out⟩
  · have HST := hid0 (show rightD f (E.map dat) = okFrom f f ((E.drop 0).map dat) by unfold rightD; rw [show decide (0 ≤ f) = true by simp; omega]; rfl)
    go_enter Try.func16, Try.ntmps16
    go_wp2_with fail
    generalize w.alloc (Obj.cells #[.int .i64 f, .slice a n c] 24) = w1 at *
    clear l0 l1 hb1
    go_loopw [3, 4] (fun lv iv wr => ∃ (i : Nat) (la : Int), i ≤ n ∧ lv = .int .i64 la ∧ iv = .int .i64 i ∧ Hid (rightD f (E.map dat) = okFrom f la ((E.drop i).map dat)) ∧ Below w1.heap.size w1 wr) (fun _ iv _ => n - (intOf iv).toNat)
    case atStart => exact ⟨0, f, Nat.zero_le _, rfl, rfl, HST, Below.refl _ _⟩
    case round =>
      obtain ⟨i, la, hi, rfl, rfl, hO, hB⟩ := hrel
      clear HST
      have l0 := (hL.v.below hB).cell 0 rfl
      have l1 := (hL.v.below hB).cell 1 rfl
      by_cases hlt : i < n
      rotate_left
      · have hie : ¬ (i : Int) < n := by omega
        have HF := hid0 (show true = R by rw [← HR.out, hO.out, List.drop_eq_nil_of_le (by rw [HN.out]; omega)]; rfl)
        go_wp2
        go_ret
        exact ⟨ret_bool HF.out, below_through hB HB1.out.size HB1.out⟩
      have hiE : i < E.length := by rw [HN.out]; exact hlt
      obtain ⟨b1, o1, rfl, hc1⟩ := (A.out.later hB) (by intro e; rw [e] at hiE; exact absurd hiE (by simp))
      obtain ⟨q0, q1, q2⟩ := hc1 i hiE
      have HSTEP := hid0 (show rightD f (E.map dat) = (okD f (dat E[i]) && decide (la ≤ (dat E[i]).1) && okFrom f (dat E[i]).1 ((E.drop (i + 1)).map dat)) by
        rw [hO.out, List.drop_eq_getElem_cons hiE, List.map_cons, okFrom])
      clear hc1 hO
      generalize E[i] = x at q0 q1 q2 HSTEP
      obtain ⟨s, m, y, k, r⟩ := x
      have HSTEP : Hid (rightD f (E.map dat) = (okD f (s, m, r) && decide (la ≤ s) && okFrom f s ((E.drop (i + 1)).map dat))) := HSTEP
      dsimp only at q0 q1 q2
      by_cases h1 : m = 1
      · subst h1
        by_cases hf2 : s ≤ f
        · have hd : decide (s ≤ f) = true := by simpa using hf2
          have HF := hid0 (show false = R by rw [← HR.out, HSTEP.out]; simp [okD]; omega)
          clear HSTEP
          have V := VarB.new wr [.int .i64 s, .int .i64 1, .slice y r.length k] 49
          have v0 := V.cell 0 rfl
          have v1 := V.cell 1 rfl
          have hBx := hB.alloc hB.size (Obj.cells #[.int .i64 s, .int .i64 1, .slice y r.length k] 49)
          have hlt8 : w.heap.size < wr.heap.size := (hL.v.below hB).lt
          have HBx := hid0 hBx
          clear V hB hBx
          go_wp2
          go_ret
          exact ⟨ret_bool HF.out, below_through HBx.out HB1.out.size HB1.out⟩
        · have hd : decide (s ≤ f) = false := by simpa using hf2
          by_cases hl2 : s < la
          · have hd2 : decide (s < la) = true := by simpa using hl2
            have HF := hid0 (show false = R by rw [← HR.out, HSTEP.out]; simp [okD]; omega)
            clear HSTEP
            have V := VarB.new wr [.int .i64 s, .int .i64 1, .slice y r.length k] 49
            have v0 := V.cell 0 rfl
            have v1 := V.cell 1 rfl
            have hBx := hB.alloc hB.size (Obj.cells #[.int .i64 s, .int .i64 1, .slice y r.length k] 49)
            have hlt8 : w.heap.size < wr.heap.size := (hL.v.below hB).lt
            have HBx := hid0 hBx
            clear V hB hBx
            go_wp2
            go_ret
            exact ⟨ret_bool HF.out, below_through HBx.out HB1.out.size HB1.out⟩
          · have hd2 : decide (s < la) = false := by simpa using hl2
            have HN2 := hid0 (show rightD f (E.map dat) = okFrom f s ((E.drop (i + 1)).map dat) from HSTEP.out.trans (ok_go (by simp) (by omega) (by omega)))
            clear HSTEP
            have V := VarB.new wr [.int .i64 s, .int .i64 1, .slice y r.length k] 49
            have v0 := V.cell 0 rfl
            have v1 := V.cell 1 rfl
            have hBx := hB.alloc hB.size (Obj.cells #[.int .i64 s, .int .i64 1, .slice y r.length k] 49)
            have hlt8 : w.heap.size < wr.heap.size := (hL.v.below hB).lt
            have HBx := hid0 hBx
            clear V hB hBx
            go_wp2
            exact ⟨⟨i + 1, s, by omega, rfl, by go_num, HN2, HBx.out⟩, by simp [intOf]; omega⟩
      by_cases h2 : m = (-1)
      · subst h2
        by_cases hf2 : s ≤ f
        · have hd : decide (s ≤ f) = true := by simpa using hf2
          have HF := hid0 (show false = R by rw [← HR.out, HSTEP.out]; simp [okD]; omega)
          clear HSTEP
          have V := VarB.new wr [.int .i64 s, .int .i64 (-1), .slice y r.length k] 49
          have v0 := V.cell 0 rfl
          have v1 := V.cell 1 rfl
          have hBx := hB.alloc hB.size (Obj.cells #[.int .i64 s, .int .i64 (-1), .slice y r.length k] 49)
          have hlt8 : w.heap.size < wr.heap.size := (hL.v.below hB).lt
          have HBx := hid0 hBx
          clear V hB hBx
          go_wp2
          go_ret
          exact ⟨ret_bool HF.out, below_through HBx.out HB1.out.size HB1.out⟩
        · have hd : decide (s ≤ f) = false := by simpa using hf2
          by_cases hl2 : s < la
          · have hd2 : decide (s < la) = true := by simpa using hl2
            have HF := hid0 (show false = R by rw [← HR.out, HSTEP.out]; simp [okD]; omega)
            clear HSTEP
            have V := VarB.new wr [.int .i64 s, .int .i64 (-1), .slice y r.length k] 49
            have v0 := V.cell 0 rfl
            have v1 := V.cell 1 rfl
            have hBx := hB.alloc hB.size (Obj.cells #[.int .i64 s, .int .i64 (-1), .slice y r.length k] 49)
            have hlt8 : w.heap.size < wr.heap.size := (hL.v.below hB).lt
            have HBx := hid0 hBx
            clear V hB hBx
            go_wp2
            go_ret
            exact ⟨ret_bool HF.out, below_through HBx.out HB1.out.size HB1.out⟩
          · have hd2 : decide (s < la) = false := by simpa using hl2
            have HN2 := hid0 (show rightD f (E.map dat) = okFrom f s ((E.drop (i + 1)).map dat) from HSTEP.out.trans (ok_go (by simp) (by omega) (by omega)))
            clear HSTEP
            have V := VarB.new wr [.int .i64 s, .int .i64 (-1), .slice y r.length k] 49
            have v0 := V.cell 0 rfl
            have v1 := V.cell 1 rfl
            have hBx := hB.alloc hB.size (Obj.cells #[.int .i64 s, .int .i64 (-1), .slice y r.length k] 49)
            have hlt8 : w.heap.size < wr.heap.size := (hL.v.below hB).lt
            have HBx := hid0 hBx
            clear V hB hBx
            go_wp2
            exact ⟨⟨i + 1, s, by omega, rfl, by go_num, HN2, HBx.out⟩, by simp [intOf]; omega⟩
      have e1 : (m == 1) = false := by simpa using h1
      have e2 : (m == -1) = false := by simpa using h2
      have HF := hid0 (show false = R by rw [← HR.out, HSTEP.out]; simp [okD, h1, h2])
      clear HSTEP
      have V := VarB.new wr [.int .i64 s, .int .i64 m, .slice y r.length k] 49
      have v0 := V.cell 0 rfl
      have v1 := V.cell 1 rfl
      have hBx := hB.alloc hB.size (Obj.cells #[.int .i64 s, .int .i64 m, .slice y r.length k] 49)
      have hlt8 : w.heap.size < wr.heap.size := (hL.v.below hB).lt
      have HBx := hid0 hBx
      clear V hB hBx
      go_wp2
      go_ret
      exact ⟨ret_bool HF.out, below_through HBx.out HB1.out.size HB1.out⟩
end Go.Proofs.Ytadidikegfiedaa

/- The reference's New, Low, Purge and Since of logs: contracts of the calls, in whatever memory. Conditions: what they read is known. -/
namespace Go.Proofs.Ytadidikegfiedaa
open Go.RowKit

theorem refNew16_any (f : Int) (w : World) : Calls Try.prog 18 #[.int .i64 f] w fun e w' => e = .returned (.agg #[.int .i64 f, .slice none 0 0]) ∧ Below w.heap.size w w' := by
  go_enter Try.func18, Try.ntmps18
  go_wp2
  exact end_blk (VarB.new w [.int .i64 f, .slice none 0 0] 24) rfl rfl _ Try.underlying24 rfl sizeLog rfl ⟨rfl, (Below.refl _ _).alloc (Nat.le_refl _) _⟩
set_option maxHeartbeats 1000000 in
theorem refLow16_any (a : Option Addr) (c : Nat) (l : List Int) (now : Int) (w : World) (h : IntsAt w a l) (hl : l.length ≤ 4398046511104) :
    Calls Try.prog 20 #[.slice a l.length c, .int .i64 now] w fun e w' => e = .returned (.int .i64 (lowI l now)) ∧ Below w.heap.size w w' := by
  have A := hid0 h
  clear h
  go_enter Try.func20, Try.ntmps20
  go_wp2
  go_loopw [1, 5] (fun nv iv wr => ∃ i : Nat, i ≤ l.length ∧ nv = .int .i64 (lowI (l.take i) now) ∧ iv = .int .i64 i ∧ Below w.heap.size w wr) (fun _ iv _ => l.length - (intOf iv).toNat)
  case atStart => exact ⟨0, Nat.zero_le _, rfl, rfl, Below.refl _ _⟩
  case round =>
    obtain ⟨i, hi, rfl, rfl, hB⟩ := hrel
    by_cases hlt : i < l.length
    rotate_left
    · have hie : ¬ (i : Int) < l.length := by omega
      have e : l.take i = l := List.take_of_length_le (by omega)
      rw [e]
      go_wp2
      go_ret
      exact ⟨rfl, hB⟩
    · obtain ⟨b1, o1, rfl, hc1⟩ := (A.out.later hB) (by intro e; rw [e] at hlt; exact absurd hlt (by simp))
      have q0 := hc1 i hlt
      have HS := hid0 (show lowI (l.take (i + 1)) now = if l[i] < lowI (l.take i) now then l[i] else lowI (l.take i) now by rw [List.take_succ_eq_append_getElem hlt, lowI_snoc])
      clear hc1
      generalize l[i] = x at q0 HS
      generalize lowI (l.take i) now = m at HS ⊢
      by_cases hx : x < m
      · have HS2 := hid0 (HS.out.trans (if_pos hx))
        clear HS
        go_wp2
        exact ⟨⟨i + 1, by omega, by rw [HS2.out], by go_num, hB⟩, by simp [intOf]; omega⟩
      · have HS2 := hid0 (HS.out.trans (if_neg hx))
        clear HS
        go_wp2
        exact ⟨⟨i + 1, by omega, by rw [HS2.out], by go_num, hB⟩, by simp [intOf]; omega⟩
theorem keepN_next (k : Int) (L : List Ent) (i : Nat) (h : i < L.length) : keepN k (L.take (i + 1)) = keepN k (L.take i) ++ (if L[i].s ≤ k then [] else [L[i]]) := by
  unfold keepN
  rw [List.take_succ_eq_append_getElem h, List.filter_append]
  congr 1
  by_cases hx : L[i].s ≤ k
  · rw [if_pos hx]; simp [hx]
  · rw [if_neg hx]; simp [hx]
set_option maxHeartbeats 8000000 in
set_option maxRecDepth 1000000 in
theorem refPurge16_any (f : Int) (a : Option Addr) (c : Nat) (L : List Ent) (k : Int) (w : World) (hL : EntsAt w a L) (hfew : L.length ≤ 1000000) :
    Calls Try.prog 14 #[.agg #[.int .i64 f, .slice a L.length c], .int .i64 k] w fun e w' => ∃ v F, e = .returned (.agg #[.int .i64 f, v]) ∧ MkN w.heap.size w w' v F ∧ F.map dat = keepD k (L.map dat) := by
  have V2 := (VarT.new w [.int .i64 f, .slice a L.length c] 24).alloc (Obj.cells #[.int .i64 0, .slice none 0 0] 24)
  have V4 := VarT.newAt (w.alloc (Obj.cells #[.int .i64 f, .slice a L.length c] 24)) [.int .i64 0, .slice none 0 0] 24 (B := w.heap.size + 1) (by simp)
  have hb1 : Below w.heap.size w ((w.alloc (Obj.cells #[.int .i64 f, .slice a L.length c] 24)).alloc (Obj.cells #[.int .i64 0, .slice none 0 0] 24)) := ((Below.refl _ _).alloc (Nat.le_refl _) _).alloc (by simp) _
  have HL := hid0 hL
  have hM0 : MkN w.heap.size w _ (.slice none 0 0) [] := MkN.nil hb1 (Nat.le_refl _)
  have HK := hid0 (keepN_dat k L)
  obtain ⟨n, hn⟩ : ∃ n, L.length = n := ⟨_, rfl⟩
  have HN := hid0 hn
  rw [hn] at V2 V4 hb1 hfew hM0 ⊢
  clear hL hn hb1
  go_enter Try.func14, Try.ntmps14
  go_wp2_with fail
  generalize ((w.alloc (Obj.cells #[.int .i64 f, .slice a n c] 24)).alloc (Obj.cells #[.int .i64 0, .slice none 0 0] 24)) = w1 at *
  go_loopw [5, 6] (fun ov iv wr => ∃ i : Nat, i ≤ n ∧ iv = .int .i64 i ∧ MkN w.heap.size w wr ov (keepN k (L.take i)) ∧ VarT wr w.heap.size [.int .i64 f, .slice a n c] 24 ∧ VarT wr (w.heap.size + 1) [.int .i64 0, .slice none 0 0] 24) (fun _ iv _ => n - (intOf iv).toNat)
  case atStart => exact ⟨0, Nat.zero_le _, rfl, by simpa [keepN] using hM0, V2, V4⟩
  case round =>
    obtain ⟨i, hi, rfl, hM, W2, W4⟩ := hrel
    clear hM0 V2 V4
    have c1 := W2.v.cell 1 rfl
    by_cases hlt : i < n
    rotate_left
    · have hie : ¬ (i : Int) < n := by omega
      have e : L.take i = L := List.take_of_length_le (by rw [HN.out]; omega)
      rw [e] at hM
      obtain ⟨a3, c3, hv, _, _⟩ := hM.ents
      obtain ⟨n3, hn3⟩ : ∃ n3, (keepN k L).length = n3 := ⟨_, rfl⟩
      rw [hn3] at hv
      subst hv
      have c0 := W2.v.cell 0 rfl
      have f1 := W2.v.frz 1 (by simp)
      have z0 := W4.v.cell 0 rfl
      have z1 := W4.v.cell 1 rfl
      have y0 := W4.v.frz 0 (by simp)
      have y1 := W4.v.frz 1 (by simp)
      have hne : w.heap.size + 1 ≠ w.heap.size := by omega
      have HM2 := hid0 ((hM.puts W2 (Nat.le_refl _) (by decide) (hM.apart W2 (by decide)) [.slice a3 n3 c3] 1).puts (W4.other (b := w.heap.size) (o := 1) [.slice a3 n3 c3] hne) (by omega) (by decide) ((hM.puts W2 (Nat.le_refl _) (by decide) (hM.apart W2 (by decide)) [.slice a3 n3 c3] 1).apart (W4.other (b := w.heap.size) (o := 1) [.slice a3 n3 c3] hne) (by decide)) [.int .i64 f, .slice a3 n3 c3])
      have HV4 := hid0 ((W4.other (b := w.heap.size) (o := 1) [.slice a3 n3 c3] hne).v.puts [.int .i64 f, .slice a3 n3 c3] rfl)
      clear hM W2 W4 hn3 hne
      go_wp2_with fail
      exact end_blk HV4.out rfl rfl _ Try.underlying24 rfl sizeLog rfl ⟨_, rfl, _, HM2.out, HK.out⟩
    · have hiL : i < L.length := by rw [HN.out]; exact hlt
      obtain ⟨b1, o1, rfl, hcL⟩ := HL.out.1 (by intro e; rw [e] at hiL; exact absurd hiL (by simp))
      obtain ⟨x0, x1, x2⟩ := hcL i hiL
      have x0 := cell_later hM.b x0
      have x1 := cell_later hM.b x1
      have x2 := cell_later hM.b x2
      have rx := HL.out.2 _ (List.getElem_mem hiL)
      have HR := hid0 ((RowG.of rx.1 rx.2).later hM.b)
      have HKN := hid0 (keepN_next k L i hiL)
      have HLN := hid0 (show (keepN k (L.take i)).length ≤ 1000000 from Nat.le_trans (List.length_filter_le ..) (by rw [List.length_take]; omega))
      clear hcL rx
      generalize L[i] = x at x0 x1 x2 HR HKN
      by_cases hgt : k < x.s
      · have hd : decide (k < x.s) = true := by simpa using hgt
        have HK1 := hid0 (show keepN k (L.take (i + 1)) = keepN k (L.take i) ++ [x] by rw [HKN.out, if_neg (by omega)])
        have hM2 := fun o => hM.alloc o
        have HW2 := hid0 (fun o => W2.alloc o)
        have HW4 := hid0 (fun o => W4.alloc o)
        clear hM HKN W2 W4
        go_wp2_with (first | (at_builtin; go_must (refine wp_appN rfl _ _ rfl rfl (hM2 _) [x] 1 rfl (some ⟨wr.heap.size, 0, none⟩) 1 rfl ?cl ?rg ?ln ?_)) | fail)
        case cl => exact one_ent (by go_cell) (by go_cell) (by go_cell)
        case rg => intro e he; obtain rfl := List.mem_singleton.1 he; exact HR.out.later ((Below.refl _ _).alloc (Nat.le_refl _) _)
        case ln => have := HLN.out; simp; omega
        intro v3 w3 hM3 hK3 _
        have W2 := (HW2.out (Obj.cells #[.int .i64 x.s, .int .i64 x.n, .slice x.a x.r.length x.c] 49)).keptT (by decide) hK3
        have W4 := (HW4.out (Obj.cells #[.int .i64 x.s, .int .i64 x.n, .slice x.a x.r.length x.c] 49)).keptT (by decide) hK3
        rw [← HK1.out] at hM3
        clear hM2 hK3 c1 x0 x1 x2
        go_wp2
        exact ⟨⟨i + 1, by omega, by go_num, hM3, W2, W4⟩, by simp [intOf]; omega⟩
      · have hd : decide (k < x.s) = false := by simpa using hgt
        have HK1 := hid0 (show keepN k (L.take (i + 1)) = keepN k (L.take i) by rw [HKN.out, if_pos (by omega), List.append_nil])
        rw [← HK1.out] at hM
        have HM := hid0 hM
        have HW2 := hid0 W2
        have HW4 := hid0 W4
        clear hM W2 W4 HKN
        go_wp2_with fail
        exact ⟨⟨i + 1, by omega, by go_num, HM.out, HW2.out, HW4.out⟩, by simp [intOf]; omega⟩
set_option maxHeartbeats 8000000 in
set_option maxRecDepth 1000000 in
theorem refSince16_any (f : Int) (a : Option Addr) (c : Nat) (L : List Ent) (scn : Int) (w : World) (hL : EntsAt w a L) (hfew : L.length ≤ 1000000) :
    Calls Try.prog 9 #[.agg #[.int .i64 f, .slice a L.length c], .int .i64 scn] w (SinceAns w (sinceM f (L.map dat) scn)) := by
  have V := VarB.new w [.int .i64 f, .slice a L.length c] 24
  have hb1 : Below w.heap.size w (w.alloc (Obj.cells #[.int .i64 f, .slice a L.length c] 24)) := (Below.refl _ _).alloc (Nat.le_refl _) _
  have CR := hid0 (refRight16_any f a c L _ (hL.later hb1) (by omega))
  have HL := hid0 (hL.later hb1)
  have HK := hid0 (keepN_dat scn L)
  have HKL := hid0 (show (keepN scn L).length ≤ 1000000 from Nat.le_trans (List.length_filter_le ..) hfew)
  obtain ⟨D, hD⟩ : ∃ D, L.map dat = D := ⟨_, rfl⟩
  rw [hD] at CR HK ⊢
  obtain ⟨n, hn⟩ : ∃ n, L.length = n := ⟨_, rfl⟩
  have HN := hid0 hn
  rw [hn] at V hb1 CR HL hfew ⊢
  clear hL hD hn
  have a0 := V.cell 0 rfl
  have a1 := V.cell 1 rfl
  go_enter Try.func9, Try.ntmps9
  go_wp2_with fail
  generalize w.alloc (Obj.cells #[.int .i64 f, .slice a n c] 24) = w1 at *
  refine Calls.mono CR.out ?_
  rintro e w2 ⟨rfl, hb2⟩
  have hB2 := below_through hb2 hb1.size hb1
  have V2 := V.below hb2
  have HL := hid0 (HL.out.later hb2)
  have a0 := V2.cell 0 rfl
  have a1 := V2.cell 1 rfl
  clear hb1 hb2 V CR
  obtain ⟨rd, hrd⟩ : ∃ rd, rightD f D = rd := ⟨_, rfl⟩
  rw [hrd]
  cases rd with
  | false =>
    have hmod : sinceM f D scn = ([], false) := by unfold sinceM; rw [if_neg (by rw [hrd]; simp)]
    rw [hmod]
    go_wp2_with fail
    go_returns
    exact ⟨⟨none, 0, [], by rw [hmod]; rfl, Nat.le_refl _, ElemsAt.nil _ _, by rw [hmod]; rfl⟩, hB2⟩
  | true =>
    by_cases hf : scn < f
    · have hmod : sinceM f D scn = ([], false) := by unfold sinceM; rw [if_neg (by intro h; omega)]
      have hd : decide (scn < f) = true := by simpa using hf
      rw [hmod]
      go_wp2_with fail
      go_returns
      exact ⟨⟨none, 0, [], by rw [hmod]; rfl, Nat.le_refl _, ElemsAt.nil _ _, by rw [hmod]; rfl⟩, hB2⟩
    · have HMD := hid0 (show sinceM f D scn = (ofB ((keepN scn L).map dat |>.map pairD), true) by unfold sinceM; rw [if_pos ⟨hrd, by omega⟩, HK.out])
      have HABS := hid0 (show absS (((keepN scn L).map entE).map pr) ≤ 1000000 by
        rw [entE_pr, absS_ents _ (fun x hx => by
          rw [HK.out] at hx
          exact (okD_lt (((rightD_iff f D).1 hrd).2.1 x (List.mem_filter.1 hx).1)).2), List.length_map]
        have := HKL.out; omega)
      have hd : decide (scn < f) = false := by simpa using hf
      have HB2 := hid0 hB2
      have HV := hid0 V2
      clear hrd hf hB2 V2
      go_wp2_with fail
      clear a0 a1
      go_loopw [6, 7] (fun ov iv wr => ∃ i : Nat, i ≤ n ∧ iv = .int .i64 i ∧ OwnB wr w2.heap.size ov ((keepN scn (L.take i)).map entE) ∧ Below w2.heap.size w2 wr) (fun _ iv _ => n - (intOf iv).toNat)
      case atStart => exact ⟨0, Nat.zero_le _, rfl, by simpa [keepN] using OwnB.nil _ _, Below.refl _ _⟩
      case round =>
        obtain ⟨i, hi, rfl, hown, hB⟩ := hrel
        have c1 := HV.out.cell 1 rfl
        have c1r := cell_later hB c1
        by_cases hlt : i < n
        rotate_left
        · have hie : ¬ (i : Int) < n := by omega
          have e : L.take i = L := List.take_of_length_le (by rw [HN.out]; omega)
          rw [e] at hown
          obtain ⟨a', c', rfl, hcap, _, hcl⟩ := elems_owned hown.out
          have hE : ElemsAt wr a' ((keepN scn L).map entE) := ⟨hcl, entE_in (fun e he => (HL.out.later hB).2 e (List.mem_filter.1 he).1)⟩
          have hC := refOf2_all _ a' c' ((keepN scn L).map entE) wr (Nat.le_refl _) hE hcap (by rw [List.length_map]; exact HKL.out) (by have := HABS.out; omega)
          obtain ⟨n5, hn5⟩ : ∃ n5, ((keepN scn L).map entE).length = n5 := ⟨_, rfl⟩
          rw [hn5] at hC ⊢
          have HC := hid0 hC
          have HB := hid0 hB
          clear hown hcl hE hC hcap hn5 hB c1
          go_wp2_with (first | (go_at_call 30; go_must (refine HC.out.mono ?_; rintro e w9 ⟨⟨a2, c2, E2, rfl, h1, h2, h3, _, _⟩, hb⟩)) | fail)
          go_returns
          exact ⟨⟨a2, c2, E2, by rw [HMD.out]; rfl, h1, h2, by rw [HMD.out, h3, entE_pr]⟩, below_through (below_through hb HB.out.size HB.out) HB2.out.size HB2.out⟩
        · have hiL : i < L.length := by rw [HN.out]; exact hlt
          obtain ⟨b1, o1, rfl, hcL⟩ := HL.out.1 (by intro e; rw [e] at hiL; exact absurd hiL (by simp))
          obtain ⟨q0, q1, q2⟩ := hcL i hiL
          have q0r := cell_later hB q0
          have HKN := hid0 (keepN_next scn L i hiL)
          have HLen := hid0 (show ((keepN scn (L.take i)).map entE).length ≤ 1000000 by rw [List.length_map]; exact Nat.le_trans (List.length_filter_le ..) (by rw [List.length_take]; omega))
          clear hcL
          generalize L[i] = x at q0 q1 q2 q0r HKN
          obtain ⟨s, m, y, k9, r⟩ := x
          dsimp only at q0 q1 q2 q0r HKN
          by_cases hgt : scn < s
          rotate_left
          · have hd : decide (scn < s) = false := by simpa using hgt
            have HK1 := hid0 (show keepN scn (L.take (i + 1)) = keepN scn (L.take i) by rw [HKN.out, if_pos (by omega), List.append_nil])
            rw [← HK1.out] at hown
            have HO := hid0 hown
            have HB := hid0 hB
            clear hown hB HKN q0 q1 q2
            go_wp2_with fail
            exact ⟨⟨i + 1, by omega, by go_num, HO.out, HB.out⟩, by simp [intOf]; omega⟩
          have hd : decide (scn < s) = true := by simpa using hgt
          have HK1 := hid0 (show (keepN scn (L.take (i + 1))).map entE = (keepN scn (L.take i)).map entE ++ [⟨y, k9, r, m⟩] by rw [HKN.out, if_neg (by omega), List.map_append]; rfl)
          have HO := hid0 hown
          have HB := hid0 hB
          clear hown hB HKN q0
          go_wp2_with fail
          have hown := HO.out
          have hB := HB.out
          clear HO HB q0r c1r
          refine wp_region_held_drew (S := (fun W => Below w2.heap.size w2 W)) (by kernel_rfl) (Below.drew hB) (fun hHeld => ?_)
          have hB := Below.drew hB
          have hown := hown.drew
          generalize wr.drew = W0 at hB hown hHeld ⊢
          refine wpAnyH_take (i := 0) (v := ?_) rfl (by kernel_rfl) (by kernel_rfl) (by kernel_rfl) (fun _ _ _ h => h) (Or.inl ⟨by rfl, ?_⟩) (by assumption) ?_
          rotate_left
          · (intro wx hSw; have l1 := cell_later hSw c1; have q1 := cell_later hSw q1; have q2 := cell_later hSw q2; go_simp; (try with_reducible rfl); (try omega))
          (try simp only [Act.put, List.setIfInBounds_toArray, List.set_cons_zero, List.set_cons_succ, List.getElem_toArray, List.getElem_cons_zero])
          refine wpAnyH_take (i := 1) (v := ?_) rfl (by kernel_rfl) (by kernel_rfl) (by kernel_rfl) (fun _ _ _ h => h) (Or.inl ⟨by rfl, ?_⟩) (by assumption) ?_
          rotate_left
          · (intro wx hSw; have l1 := cell_later hSw c1; have q1 := cell_later hSw q1; have q2 := cell_later hSw q2; go_simp; (try with_reducible rfl); (try omega))
          (try simp only [Act.put, List.setIfInBounds_toArray, List.set_cons_zero, List.set_cons_succ, List.getElem_toArray, List.getElem_cons_zero, List.getElem_cons_succ])
          refine wpAnyH_take (i := 2) (v := ?_) rfl (by kernel_rfl) (by kernel_rfl) (by kernel_rfl) (fun _ _ _ h => h) (Or.inl ⟨by rfl, ?_⟩) (by assumption) ?_
          rotate_left
          · (intro wx hSw; have l1 := cell_later hSw c1; have q1 := cell_later hSw q1; have q2 := cell_later hSw q2; go_simp; (try with_reducible rfl); (try omega))
          (try simp only [Act.put, List.setIfInBounds_toArray, List.set_cons_zero, List.set_cons_succ, List.getElem_toArray, List.getElem_cons_zero, List.getElem_cons_succ])
          refine wpAnyH_take (i := 3) (v := ?_) rfl (by kernel_rfl) (by kernel_rfl) (by kernel_rfl) (fun _ _ _ h => h) (Or.inl ⟨by rfl, ?_⟩) (by assumption) ?_
          rotate_left
          · (intro wx hSw; have l1 := cell_later hSw c1; have q1 := cell_later hSw q1; have q2 := cell_later hSw q2; go_simp; (try with_reducible rfl); (try omega))
          (try simp only [Act.put, List.setIfInBounds_toArray, List.set_cons_zero, List.set_cons_succ, List.getElem_toArray, List.getElem_cons_zero, List.getElem_cons_succ])
          refine wpAnyH_take (i := 4) (v := ?_) rfl (by kernel_rfl) (by kernel_rfl) (by kernel_rfl) (fun _ _ _ h => h) (Or.inl ⟨by rfl, ?_⟩) (by assumption) ?_
          rotate_left
          · (intro wx hSw; have l1 := cell_later hSw c1; have q1 := cell_later hSw q1; have q2 := cell_later hSw q2; go_simp; (try with_reducible rfl); (try omega))
          (try simp only [Act.put, List.setIfInBounds_toArray, List.set_cons_zero, List.set_cons_succ, List.getElem_toArray, List.getElem_cons_zero, List.getElem_cons_succ])
          refine wpAnyH_take (i := 5) (v := ?_) rfl (by kernel_rfl) (by kernel_rfl) (by kernel_rfl) (fun _ _ _ h => h) (Or.inl ⟨by rfl, ?_⟩) (by assumption) ?_
          rotate_left
          · (intro wx hSw; have l1 := cell_later hSw c1; have q1 := cell_later hSw q1; have q2 := cell_later hSw q2; go_simp; (try with_reducible rfl); (try omega))
          (try simp only [Act.put, List.setIfInBounds_toArray, List.set_cons_zero, List.set_cons_succ, List.getElem_toArray, List.getElem_cons_zero, List.getElem_cons_succ])
          refine wpAnyH_take (i := 6) (v := ?_) rfl (by kernel_rfl) (by kernel_rfl) (by kernel_rfl) (fun _ _ _ h => h) (Or.inl ⟨by rfl, ?_⟩) (by assumption) ?_
          rotate_left
          · (intro wx hSw; have l1 := cell_later hSw c1; have q1 := cell_later hSw q1; have q2 := cell_later hSw q2; go_simp; (try with_reducible rfl); (try omega))
          (try simp only [Act.put, List.setIfInBounds_toArray, List.set_cons_zero, List.set_cons_succ, List.getElem_toArray, List.getElem_cons_zero, List.getElem_cons_succ])
          refine wpAnyH_take (i := 7) (v := ?_) rfl (by kernel_rfl) (by kernel_rfl) (by kernel_rfl) (fun _ _ _ h => h) (Or.inl ⟨by rfl, ?_⟩) (by assumption) ?_
          rotate_left
          · (intro wx hSw; have l1 := cell_later hSw c1; have q1 := cell_later hSw q1; have q2 := cell_later hSw q2; go_simp; (try with_reducible rfl); (try omega))
          (try simp only [Act.put, List.setIfInBounds_toArray, List.set_cons_zero, List.set_cons_succ, List.getElem_toArray, List.getElem_cons_zero, List.getElem_cons_succ])
          refine wpAnyH_take (i := 8) (v := ?_) rfl (by kernel_rfl) (by kernel_rfl) (by kernel_rfl) (fun _ _ _ h => h) (Or.inl ⟨by rfl, ?_⟩) (by assumption) ?_
          rotate_left
          · (intro wx hSw; have l1 := cell_later hSw c1; have q1 := cell_later hSw q1; have q2 := cell_later hSw q2; go_simp; (try with_reducible rfl); (try omega))
          (try simp only [Act.put, List.setIfInBounds_toArray, List.set_cons_zero, List.set_cons_succ, List.getElem_toArray, List.getElem_cons_zero, List.getElem_cons_succ])
          refine wpAnyH_take (i := 9) (v := ?_) rfl (by kernel_rfl) (by kernel_rfl) (by kernel_rfl) (fun _ _ _ h => h) (Or.inl ⟨by rfl, ?_⟩) (by assumption) ?_
          rotate_left
          · (intro wx hSw; have l1 := cell_later hSw c1; have q1 := cell_later hSw q1; have q2 := cell_later hSw q2; go_simp; (try with_reducible rfl); (try omega))
          (try simp only [Act.put, List.setIfInBounds_toArray, List.set_cons_zero, List.set_cons_succ, List.getElem_toArray, List.getElem_cons_zero, List.getElem_cons_succ])
          refine wpAnyH_take (i := 10) (v := ?_) rfl (by kernel_rfl) (by kernel_rfl) (by kernel_rfl) (fun _ _ _ h => h) (Or.inl ⟨by rfl, ?_⟩) (by assumption) ?_
          rotate_left
          · (intro wx hSw; have l1 := cell_later hSw c1; have q1 := cell_later hSw q1; have q2 := cell_later hSw q2; go_simp; (try with_reducible rfl); (try omega))
          (try simp only [Act.put, List.setIfInBounds_toArray, List.set_cons_zero, List.set_cons_succ, List.getElem_toArray, List.getElem_cons_zero, List.getElem_cons_succ])
          refine wpAnyH_take (i := 11) (v := ?_) rfl (by kernel_rfl) (by kernel_rfl) (by kernel_rfl) (fun _ _ _ h => h) (Or.inl ⟨by rfl, ?_⟩) (by assumption) ?_
          rotate_left
          · (intro wx hSw; have l1 := cell_later hSw c1; have q1 := cell_later hSw q1; have q2 := cell_later hSw q2; go_simp; (try with_reducible rfl); (try omega))
          (try simp only [Act.put, List.setIfInBounds_toArray, List.set_cons_zero, List.set_cons_succ, List.getElem_toArray, List.getElem_cons_zero, List.getElem_cons_succ])
          refine wpAnyH_take (i := 12) (v := ?_) rfl (by kernel_rfl) (by kernel_rfl) (by kernel_rfl) (fun _ _ _ h => h) (Or.inl ⟨by rfl, ?_⟩) (by assumption) ?_
          rotate_left
          · (intro wx hSw; have l1 := cell_later hSw c1; have q1 := cell_later hSw q1; have q2 := cell_later hSw q2; go_simp; (try with_reducible rfl); (try omega))
          (try simp only [Act.put, List.setIfInBounds_toArray, List.set_cons_zero, List.set_cons_succ, List.getElem_toArray, List.getElem_cons_zero, List.getElem_cons_succ])
          refine wpAnyH_take (i := 13) (v := ?_) rfl (by kernel_rfl) (by kernel_rfl) (by kernel_rfl) (fun _ _ _ h => h) (Or.inl ⟨by rfl, ?_⟩) (by assumption) ?_
          rotate_left
          · (intro wx hSw; have l1 := cell_later hSw c1; have q1 := cell_later hSw q1; have q2 := cell_later hSw q2; go_simp; (try with_reducible rfl); (try omega))
          (try simp only [Act.put, List.setIfInBounds_toArray, List.set_cons_zero, List.set_cons_succ, List.getElem_toArray, List.getElem_cons_zero, List.getElem_cons_succ])
          refine wpAnyH_ready (rs := [14]) (by kernel_rfl) (by simp) ?_
          refine AllReadyH.cons rfl (fun K hK => ?_) AllReadyH.nil
          go_simp
          have hx0 := elem_new W0 (.slice y r.length k9) (.int .i64 m) 46
          have hB := hB.alloc hB.size (Obj.cells #[.slice y r.length k9, .int .i64 m] 46)
          have hown := hown.alloc (Obj.cells #[.slice y r.length k9, .int .i64 m] 46)
          generalize W0.alloc (Obj.cells #[.slice y r.length k9, .int .i64 m] 46) = W1 at hx0 hB hown ⊢
          generalize W0.heap.size = bx at hx0 ⊢
          refine hK.out _ _ hB (fun hHeld => ?_)
          clear hK K
          (try simp only [Act.put, List.setIfInBounds_toArray, List.set_cons_zero, List.set_cons_succ, List.getElem_toArray, List.getElem_cons_zero, List.getElem_cons_succ])
          refine wpAnyH_ready (rs := [15]) (by kernel_rfl) (by simp) ?_
          refine AllReadyH.cons rfl (fun K hK => ?_) AllReadyH.nil
          refine step_bag2 (by rfl) _ _ (by rfl) (by rfl) hown ⟨y, k9, r, m⟩ bx (by rfl) hx0.1 hx0.2 (by have := HLen.out; omega) hB.size ?_
          intro v1 W2 hown1 hK1 _
          have hB := hB.trans hK1.below
          refine hK.out _ _ hB (fun hHeld => ?_)
          clear hK K
          (try simp only [Act.put, List.setIfInBounds_toArray, List.set_cons_zero, List.set_cons_succ, List.getElem_toArray, List.getElem_cons_zero, List.getElem_cons_succ])
          refine wpAnyH_take (i := 16) (v := ?_) rfl (by kernel_rfl) (by kernel_rfl) (by kernel_rfl) (fun _ _ _ h => h) (Or.inl ⟨by rfl, ?_⟩) (by assumption) ?_
          rotate_left
          · (intro wx hSw; have l1 := cell_later hSw c1; have q1 := cell_later hSw q1; have q2 := cell_later hSw q2; go_simp; (try with_reducible rfl); (try omega))
          (try simp only [Act.put, List.setIfInBounds_toArray, List.set_cons_zero, List.set_cons_succ, List.getElem_toArray, List.getElem_cons_zero, List.getElem_cons_succ])
          refine wpAnyH_done (by kernel_rfl) ?_ _
          rw [← HK1.out] at hown1
          have HB := hid0 hB
          clear hB hHeld
          go_wp2
          exact ⟨⟨i + 1, by omega, by go_num, hown1, HB.out⟩, by simp [intOf]; omega⟩
end Go.Proofs.Ytadidikegfiedaa
