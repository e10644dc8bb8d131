/- GraphCycles: the law, in whatever memory: the contract of the call. Conditions: the list's cells are known. -/
import Derived.Test.YtadlelhdjakmmaaN24
namespace Go.Proofs.Ytadlelhdjakmmaa
open Go.RowKit

theorem fresh_nm {w6 W7 W8 : World} {p b7 : Nat} (h7 : w6.alloc (.cells #[.int .u8 (97 + (p : Int))] 5) = W7) (hb : W7.heap.size = b7) (h8 : W7.alloc (.cells #[.string (nm p)] 9) = W8) :
    Below w6.heap.size w6 W8 ∧ ∀ s : ByteArray, s.size ≤ maxLen → NodeOk W8 ⟨s, some ⟨b7, 0, none⟩, 1, [nm p]⟩ ∧ TagS W8 (some ⟨b7, 0, none⟩) := by
  have hb7 : Below w6.heap.size w6 W7 := by rw [← h7]; exact (Below.refl _ _).alloc (Nat.le_refl _) _
  refine ⟨by rw [← h8]; exact hb7.alloc hb7.size _, fun s hs => ⟨⟨?_, Nat.le_refl _, show 1 ≤ 1048576 by decide, hs⟩, fun ad e => ?_⟩⟩
  · rw [← h8, ← hb]
    exact one_new W7 (nm p) 9 (nm_small p)
  · obtain rfl := Option.some.inj e
    rw [← h8, ← hb]
    exact ⟨_, _, heap_alloc_new W7 _⟩
theorem OnceAt.relay1 {w W : World} {g n c : Nat} {x : Nn} {L : List Nn} (h : OnceAt w W (.slice (some ⟨g, 0, none⟩) n c) (x :: L)) (hn : (x :: L).length = n) (a : Option Addr) (d : Nat) (y : ByteArray) (hr : NodeOk W ⟨x.s, a, d, [y]⟩ ∧ TagS W a) :
    OnceAt w (W.setCell ⟨g, 1, none⟩ (.slice a 1 d)) (.slice (some ⟨g, 0, none⟩) n c) (⟨x.s, a, d, [y]⟩ :: L) := h.relay hn a d [y] hr
theorem check_round {w W9 W : World} {g n cl p : Nat} {x : Nn} {L : List Nn} {ad : Option Addr} {d : Nat} (hm : Made (x :: L) n) (hn : n ≤ 16) (hp : n = p + 1) (h : OnceAt w W9 (.slice (some ⟨g, 0, none⟩) n cl) (⟨x.s, ad, d, [nm p]⟩ :: L)) (hW : Below W9.heap.size W9 W) :
    Calls Try.prog 9 #[.slice (some ⟨g, 0, none⟩) n cl] W fun e w' => e = .returned (.int .i64 20) ∧ Below W.heap.size W w' := by
  have hl := hm.len
  rw [List.length_cons] at hl
  obtain ⟨a', c', e, hN⟩ := (h.below hW).nodes (by rw [List.length_cons]; omega)
  have hC := check_any a' c' _ W hN
  rw [← e] at hC
  rw [hm.round hn ⟨x.s, ad, d, [nm p]⟩ rfl (by show [nm p] = [nm (n - 1)]; rw [hp]; rfl)] at hC
  exact hC
set_option maxHeartbeats 16000000 in
set_option maxRecDepth 1000000 in
theorem lawGraphCycles (a : Option Addr) (c : Nat) (rf : List Int) (n : Int) (w : World) (hr : RowC w 1 a (rf.map fun x => [Value.int .u16 x])) (hrf : rf.length ≤ 9223372036854775807) (hrx : ∀ x ∈ rf, 0 ≤ x ∧ x ≤ 65535) (hn0 : 0 ≤ n) :
    Calls Try.prog 6 #[.slice a rf.length c, .int .u8 n] w fun e w' => e = .returned (.bool true) ∧ Below w.heap.size w w' := by
  have CA := hid0 (fun (W : World) (_ : Below w.heap.size w W) => awake17_any W)
  have A := hid0 hr
  have HRX := hid0 hrx
  obtain ⟨m, hm⟩ : ∃ m, rf.length = m := ⟨_, rfl⟩
  have HM := hid0 hm
  rw [hm] at hrf ⊢
  obtain ⟨k, hk⟩ : ∃ k : Nat, n % 17 = (k : Int) := ⟨(n % 17).toNat, by omega⟩
  have hk16 : k ≤ 16 := by omega
  have hmod : n.tmod 17 = (k : Int) := by rw [Int.tmod_eq_emod_of_nonneg hn0]; exact hk
  have hw1 : IntKind.u8.wrap (k : Int) = (k : Int) := IntWalk.u8_in _ (by omega)
  have hw2 : IntKind.i64.wrap (k : Int) = (k : Int) := IntWalk.i64_in _ (by omega)
  have hM0 := hid0 (OnceAt.nil (Below.refl w.heap.size w))
  clear hr hrx hm hk
  go_enter Try.func6, Try.ntmps6
  go_wp2_with fail
  clear hmod hw1 hw2 hn0
  go_loopw [6, 7] (fun lv iv wr => ∃ (i : Nat) (L : List Nn), i ≤ k ∧ iv = .int .i64 i ∧ OnceAt w wr lv L ∧ Hid (Made L i)) (fun _ iv _ => k - (intOf iv).toNat)
  case atStart => exact ⟨0, [], Nat.zero_le _, rfl, hM0.out, hid0 Made.nil⟩
  case round =>
    clear hM0
    obtain ⟨i, L, hi, rfl, hL, hT⟩ := hrel
    by_cases hlt : i < k
    · have g0 : (i : Int) < (k : Int) := by omega
      obtain ⟨w4, hw4⟩ : ∃ W, wr = W := ⟨_, rfl⟩
      rw [hw4] at hL ⊢
      clear hw4
      have HL := hid0 hL
      have hs1 : IntKind.i64.wrap (97 + (i : Int)) = 97 + (i : Int) := IntWalk.i64_in _ (by omega)
      have hs2 : IntKind.u8.wrap (97 + (i : Int)) = 97 + (i : Int) := IntWalk.u8_in _ (by omega)
      have hcv := conv_nm w4 i (by omega)
      obtain ⟨W1, hW1⟩ : ∃ W, w4.alloc (.cells #[.int .u8 (97 + (i : Int))] 5) = W := ⟨_, rfl⟩
      rw [hW1] at hcv
      have hbW1 : Below w4.heap.size w4 W1 := by rw [← hW1]; exact (Below.refl _ _).alloc (Nat.le_refl _) _
      obtain ⟨bx, hbx⟩ : ∃ b, W1.heap.size = b := ⟨_, rfl⟩
      have V0 : VarB (W1.alloc (Obj.cells #[.string ⟨#[]⟩, .slice none 0 0] 35)) bx zNn := by rw [← hbx]; exact VarB.new W1 zNn 35
      have h1' := (⟨nm i, none, 0, []⟩ : Nn).one
      have hus : (⟨nm i, none, 0, []⟩ : Nn).cells = [.string (nm i), .slice none 0 0] := rfl
      rw [hus] at h1'
      have hlo : w4.heap.size ≤ bx := by rw [← hbx]; exact hbW1.size
      have HBX := hid0 (fun (W : World) (hb : Below bx (W1.alloc (Obj.cells #[.string ⟨#[]⟩, .slice none 0 0] 35)) W) => show Below w4.heap.size w4 W from ((hbW1.alloc hbW1.size _).trans (hb.mono hlo)))
      clear hus hL
      go_wp2_with (first | ((with_reducible refine wp_putB V0 h1' ?_ ?_ ?_ ?_ ?_); (rfl); (exact infoNode); (rfl); (rfl); intro w5 hV5 hw5; (have hB5 := hid0 (show BoxR w4 bx (nm i) (.slice none 0 0) [] w5 from ⟨hV5, World.ownsRow_nil _ _ _ _, (fun e => by cases e), HBX.out _ (by rw [hw5.out]; exact below_setCells _ 0 (Below.refl _ _) (Nat.le_refl _)), hlo⟩)); clear hw5 V0 hV5; simp only [Act.put]) | fail)
      clear hs1 hs2 hcv HBX hW1 h1'
      go_loopw [9] (fun jv wr => ∃ (j : Nat) (v : Value) (rs : List ByteArray), j ≤ i ∧ jv = .int .i64 j ∧ BoxR w4 bx (nm i) v rs wr ∧ rs.length ≤ j ∧ Hid (∀ r ∈ rs, ∃ t, t < j ∧ r = nm t) ∧ Hid (j = i → 0 < i → rs ≠ [])) (fun jv _ => i - (intOf jv).toNat)
      case atStart => exact ⟨0, _, [], Nat.zero_le _, rfl, hB5.out, Nat.le_refl _, hid0 (fun r hr => absurd hr (by simp)), hid0 (fun e h => by omega)⟩
      case round =>
        clear hB5
        obtain ⟨j, v, rs, hj, rfl, hBx, hrl, hR, hNE⟩ := hrel
        by_cases hltj : j < i
        · have g1 : (j : Int) < (i : Int) := by omega
          have c1 := hBx.box.cell 1 rfl
          have HBx := hid0 hBx
          have hsub : IntKind.i64.wrap ((i : Int) - 1) = (i : Int) - 1 := IntWalk.i64_in _ (by omega)
          clear hBx
          have ht1 : IntKind.i64.wrap (97 + (j : Int)) = 97 + (j : Int) := IntWalk.i64_in _ (by omega)
          have ht2 : IntKind.u8.wrap (97 + (j : Int)) = 97 + (j : Int) := IntWalk.u8_in _ (by omega)
          have hcv2 := conv_nm wr j (by omega)
          obtain ⟨A1, hA1⟩ : ∃ W, wr.alloc (.cells #[.int .u8 (97 + (j : Int))] 5) = W := ⟨_, rfl⟩
          rw [hA1] at hcv2
          have hbA1 : Below wr.heap.size wr A1 := by rw [← hA1]; exact (Below.refl _ _).alloc (Nat.le_refl _) _
          have HBA := hid0 (HBx.out.below hbA1)
          have d1 := HBA.out.box.cell 1 rfl
          clear hbA1
          by_cases hlast0 : i = j + 1
          · have gj : ((j : Int) == (i : Int) - 1) = true := by simp; omega
            have hlast := hid0 hlast0
            clear hlast0
            go_wp2_with (first | (at_builtin; go_must (refine wp_box (v := v) rfl _ _ rfl rfl (HBA.out.below ((Below.refl _ _).alloc (Nat.le_refl _) _)) _ rfl (nm j) (one_new _ (nm j) _ (nm_small j)) (by omega) ?_; intro v6 w6 hV6 hO6 hne6 hb6; (obtain ⟨a6, c6, ev6, hc6⟩ := own_shapeD hO6); generalize (rs ++ [nm j]).length = r6 at ev6 hc6; subst ev6; (have e1 := hV6.cell 1 rfl); (have f1 := hV6.frz 1 (by simp)); (have H6 := hid0 (BoxR.laid hV6 hO6 hne6 hb6 hlo)); clear hV6 hO6 hne6 hb6)) | fail)
            exact ⟨⟨j + 1, .slice a6 r6 c6, rs ++ [nm j], by omega, by go_num, H6.out, by rw [List.length_append]; simp; omega, hid0 (fun r hr => by
              rcases List.mem_append.1 hr with h | h
              · obtain ⟨t, ht, e⟩ := hR.out r h; exact ⟨t, by omega, e⟩
              · exact ⟨j, by omega, List.mem_singleton.1 h⟩), hid0 (fun _ _ h => by simp at h)⟩, by simp [intOf]; omega⟩
          · have gj : ((j : Int) == (i : Int) - 1) = false := by simp; omega
            have hlast := hid0 hlast0
            clear hlast0
            by_cases him : i < m
            · have g2 : (i : Int) < (m : Int) := by omega
              have g3 : i < rf.length := by rw [HM.out]; exact him
              have hbw : Below w.heap.size w wr := below_through HBx.out.b HL.out.b.size HL.out.b
              obtain ⟨b1, o1, rfl, _, hRR⟩ := (A.out.later hbw).out i (by simpa using g3)
              have q0 : wr.cell? ⟨b1, o1 + i, none⟩ = some (.int .u16 rf[i]) := by
                have := hRR 0 (.int .u16 rf[i]) (by simp)
                simpa using this
              obtain ⟨x0, x1⟩ := HRX.out _ (List.getElem_mem g3)
              generalize rf[i] = x at q0 x0 x1
              clear hRR hbw
              by_cases hX : (x / 2 ^ j).tmod 2 = 1
              · have gx : ((x / 2 ^ j).tmod 2 == 1) = true := by simpa using hX
                clear hX
                go_wp2_with (first | (at_builtin; go_must (refine wp_box (v := v) rfl _ _ rfl rfl (HBA.out.below ((Below.refl _ _).alloc (Nat.le_refl _) _)) _ rfl (nm j) (one_new _ (nm j) _ (nm_small j)) (by omega) ?_; intro v6 w6 hV6 hO6 hne6 hb6; (obtain ⟨a6, c6, ev6, hc6⟩ := own_shapeD hO6); generalize (rs ++ [nm j]).length = r6 at ev6 hc6; subst ev6; (have e1 := hV6.cell 1 rfl); (have f1 := hV6.frz 1 (by simp)); (have H6 := hid0 (BoxR.laid hV6 hO6 hne6 hb6 hlo)); clear hV6 hO6 hne6 hb6)) | fail)
                exact ⟨⟨j + 1, .slice a6 r6 c6, rs ++ [nm j], by omega, by go_num, H6.out, by rw [List.length_append]; simp; omega, hid0 (fun r hr => by
                  rcases List.mem_append.1 hr with h | h
                  · obtain ⟨t, ht, e⟩ := hR.out r h; exact ⟨t, by omega, e⟩
                  · exact ⟨j, by omega, List.mem_singleton.1 h⟩), hid0 (fun _ _ h => by simp at h)⟩, by simp [intOf]; omega⟩
              · have gx : ((x / 2 ^ j).tmod 2 == 1) = false := by simpa using hX
                clear hX
                go_wp2_with fail
                exact ⟨⟨j + 1, v, rs, by omega, by go_num, HBx.out, by omega, hid0 (fun r hr => by obtain ⟨t, ht, e⟩ := hR.out r hr; exact ⟨t, by omega, e⟩), hid0 (fun e _ => absurd e.symm hlast.out)⟩, by simp [intOf]; omega⟩
            · have g2 : ¬ ((i : Int) < (m : Int)) := by omega
              go_wp2_with fail
              exact ⟨⟨j + 1, v, rs, by omega, by go_num, HBx.out, by omega, hid0 (fun r hr => by obtain ⟨t, ht, e⟩ := hR.out r hr; exact ⟨t, by omega, e⟩), hid0 (fun e _ => absurd e.symm hlast.out)⟩, by simp [intOf]; omega⟩
        · have hie : ¬ (j : Int) < (i : Int) := by omega
          obtain rfl : j = i := by omega
          obtain ⟨ar, cr, rfl, hcr, hSr⟩ := strs_owned hBx.own rfl (fun s hs => by obtain ⟨t, _, rfl⟩ := hR.out s hs; exact nm_small t)
          have htag := tag_own hBx.own
          have HNK := hid0 (show NodeOk wr ⟨nm j, ar, cr, rs⟩ ∧ TagS wr ar from ⟨⟨hSr, hcr, by show rs.length ≤ _; omega, nm_small j⟩, htag⟩)
          have HLW := hid0 (HL.out.below hBx.b)
          have HMD := hid0 (hT.out.snoc (x := ⟨nm j, ar, cr, rs⟩) rfl hR.out (fun h => hNE.out rfl h))
          have hLl := hT.out.len
          have hRg := hBx.box.at_
          obtain ⟨rn, hrn⟩ : ∃ r, rs.length = r := ⟨_, rfl⟩
          have HRN := hid0 hrn
          rw [hrn] at hRg
          have hlen8 : (L.length + 1) * 40 ≤ 140737488355328 := by omega
          clear hBx hcr hSr htag hR hNE hrn
          go_wp2_with (first | ((with_reducible refine wp_getB hRg Try.underlying35 ?_ ?_ ?_ ?_); (rfl); (exact infoNode); (rfl); simp only [Act.put]) | (at_builtin; go_must (refine wp_nn rfl _ _ rfl rfl (HLW.out.below ((Below.refl _ _).alloc (Nat.le_refl _) _)) ⟨nm j, ar, cr, rs⟩ wr.heap.size rfl (two_new _ _ _ _).1 (by rw [HRN.out]; exact (two_new _ _ _ _).2) ⟨HNK.out.1.later ((Below.refl _ _).alloc (Nat.le_refl _) _), HNK.out.2.later ((Below.refl _ _).alloc (Nat.le_refl _) _)⟩ hlen8 ?_; intro v8 w8 hM9; (have HM9 := hid0 hM9); clear hM9)) | fail)
          exact ⟨⟨j + 1, L ++ [⟨nm j, ar, cr, rs⟩], by omega, by go_num, HM9.out, HMD⟩, by simp [intOf]; omega⟩
    · have hie : ¬ (i : Int) < (k : Int) := by omega
      obtain rfl : i = k := by omega
      have hLl := hT.out.len
      have HCK := hid0 (hT.out.check hk16)
      have HB := hid0 hL.b
      obtain ⟨al, cl, rfl, hNN⟩ := hL.nodes (by omega)
      have HL := hid0 hL
      have C1 := check_any al cl L wr hNN
      rw [HCK.out] at C1
      have hNN0 := hNN
      clear hNN
      rcases Nat.eq_zero_or_pos i with h0 | h0
      · subst h0
        have CC := hid0 (fun (W : World) (hW : Below wr.heap.size wr W) => by
          have h := check_any al cl L W (hNN0.later hW)
          rw [HCK.out, hLl] at h
          exact h)
        rw [hLl] at C1 ⊢
        clear hNN0 hLl HL hT
        go_wp2_with (first | (go_at_call 9; go_must (first | ((with_reducible refine C1.mono ?_); rintro e w6 ⟨rfl, hb6⟩; (have HB6 := hid0 (below_through hb6 HB.out.size HB.out)); (have H6 := hid0 hb6); clear hb6 C1) | ((with_reducible refine (CC.out _ H7.out).mono ?_); rintro e w8 ⟨rfl, hb8⟩; (have HB8 := hid0 (below_through hb8 HB7.out.size HB7.out)); clear hb8))) | (go_at_call 8; go_must ((with_reducible refine (CA.out _ HB6.out).mono ?_); rintro e w7 ⟨rfl, hb7⟩; (have HB7 := hid0 (below_through hb7 HB6.out.size HB6.out)); (have H7 := hid0 (below_through hb7 H6.out.size H6.out)); clear hb7)) | fail)
        go_ret
        exact ⟨rfl, HB8.out⟩
      · obtain ⟨p, hp⟩ : ∃ t, i = t + 1 := ⟨i - 1, by omega⟩
        have HP := hid0 hp
        have hs3 : IntKind.i64.wrap (97 + (i : Int)) = 97 + (i : Int) := IntWalk.i64_in _ (by omega)
        have hs4 : IntKind.i64.wrap (97 + (i : Int) - 1) = 97 + (p : Int) := by rw [IntWalk.i64_in _ (by omega)]; omega
        have hs5 : IntKind.u8.wrap (97 + (p : Int)) = 97 + (p : Int) := IntWalk.u8_in _ (by omega)
        have hp16 : p ≤ 16 := by omega
        have gpos : (i : Int) > 0 := by omega
        have HMD := hid0 hT.out
        clear hp hNN0
        obtain ⟨x, L, rfl⟩ : ∃ x L', L = x :: L' := by
          cases L with
          | nil => simp at hLl; omega
          | cons x t => exact ⟨x, t, rfl⟩
        have HXS := hid0 (show x.s.size ≤ maxLen from (HL.out.ok x (by simp)).1.small)
        obtain ⟨g, rfl⟩ : ∃ g, al = some ⟨g, 0, none⟩ := by
          rcases HL.out.own.2 with ⟨e, _⟩ | ⟨g, cap, cur, e, _⟩
          · simp at e
          · cases e; exact ⟨_, rfl⟩
        have HLl := hid0 hLl
        rw [hLl] at C1 HL ⊢
        clear hLl
        go_wp2_with (first | (go_at_call 9; with_reducible refine C1.mono ?_; rintro e w6 ⟨rfl, hb6⟩; (have HL6 := hid0 (HL.out.below hb6)); (have HB6 := hid0 (below_through hb6 HB.out.size HB.out)); (have hcv := conv_nm w6 p hp16); (obtain ⟨W7, hW7⟩ : ∃ W, w6.alloc (.cells #[.int .u8 (97 + (p : Int))] 5) = W := ⟨_, rfl⟩); rw [hW7] at hcv; (obtain ⟨b7, hb7⟩ : ∃ b, W7.heap.size = b := ⟨_, rfl⟩); (obtain ⟨W8, hW8⟩ : ∃ W, W7.alloc (.cells #[.string (nm p)] 9) = W := ⟨_, rfl⟩); (obtain ⟨hb8, hN8⟩ := fresh_nm hW7 hb7 hW8); (have HL8 := hid0 (HL6.out.below hb8)); (have V8 := varB_ownN HL8.out.own (g := g) rfl); (have c8 := V8.cell 1 (u := .slice x.a x.rs.length x.c) rfl); (have f8 := V8.frz 1 (by rw [cellsNn_len, List.length_cons]; omega)); (have HL9 := hid0 (show OnceAt w (W8.setCell ⟨g, 1, none⟩ (.slice (some ⟨b7, 0, none⟩) 1 1)) (.slice (some ⟨g, 0, none⟩) i cl) (⟨x.s, some ⟨b7, 0, none⟩, 1, [nm p]⟩ :: L) from HL8.out.relay1 HLl.out (some ⟨b7, 0, none⟩) 1 (nm p) (hN8 x.s HXS.out))); (have CC := hid0 (fun (W : World) (hW : Below (W8.setCell ⟨g, 1, none⟩ (.slice (some ⟨b7, 0, none⟩) 1 1)).heap.size (W8.setCell ⟨g, 1, none⟩ (.slice (some ⟨b7, 0, none⟩) 1 1)) W) => check_round HMD.out hk16 HP.out HL9.out hW)); clear V8 hb6 hb8 hN8 C1 HL6) | (go_at_call 8; go_must ((with_reducible refine (CA.out _ HL9.out.b).mono ?_); rintro e w10 ⟨rfl, hb10⟩; (have H10 := hid0 hb10); (have HB10 := hid0 (below_through hb10 HL9.out.b.size HL9.out.b)); clear hb10)) | (go_at_call 9; go_must ((with_reducible refine (CC.out _ H10.out).mono ?_); rintro e w11 ⟨rfl, hb11⟩; (have HB11 := hid0 (below_through hb11 HB10.out.size HB10.out)); clear hb11)) | fail)
        go_ret
        exact ⟨rfl, HB11.out⟩
end Go.Proofs.Ytadlelhdjakmmaa
