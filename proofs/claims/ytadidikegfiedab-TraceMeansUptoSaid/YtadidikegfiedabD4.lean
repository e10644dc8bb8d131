/- Several of my texts laid together, each as it was: T22. Conditions: each names its own. -/
import Derived.Test.YtadidikegfiedabD3
import Derived.Test.YtadidikegfiedabE1
/- Steps played (play): a log behind them, the bag at each time, up to when it was purged: a contract of the call, in whatever memory. Conditions: the steps' cells are known. -/
namespace Go.Proofs.Ytadidikegfiedab
open Go.RowKit

theorem sizePl16 : (Try.prog.info? 28).map (·.size) = some 4 := by kernel_rfl
set_option maxHeartbeats 8000000 in
set_option maxRecDepth 1000000 in
theorem play_any (a : Option Addr) (c : Nat) (S : List StX) (w : World) (h : StepsAt w a S) :
    Calls Try.prog 6 #[.slice a S.length c] w (PlayAns w) := by
  have HS := hid0 h
  have hfew := h.few
  obtain ⟨N, hN⟩ : ∃ N, S.length = N := ⟨_, rfl⟩
  have HN := hid0 hN
  rw [hN] at hfew ⊢
  have V2 := VarT.new w [.int .i64 0, .slice none 0 0, .slice none 0 0, .int .i64 0] 28
  have hb1 : Below w.heap.size w (w.alloc (Obj.cells #[.int .i64 0, .slice none 0 0, .slice none 0 0, .int .i64 0] 28)) := (Below.refl _ _).alloc (Nat.le_refl _) _
  have hsz : (w.alloc (Obj.cells #[.int .i64 0, .slice none 0 0, .slice none 0 0, .int .i64 0] 28)).heap.size = w.heap.size + 1 := by simp
  clear h hN
  go_enter Try.func6, Try.ntmps6
  go_wp2_with fail
  generalize w.alloc (Obj.cells #[.int .i64 0, .slice none 0 0, .slice none 0 0, .int .i64 0] 28) = w1 at *
  refine Calls.mono (trNew_any _ _) ?_
  rintro e w2 ⟨rfl, hb2⟩
  have V2 := V2.below hb2
  have hb2 := below_through hb2 hb1.size hb1
  have hsz2 : w.heap.size < w2.heap.size := by have := V2.v.lt; omega
  clear hb1 hsz
  have V2 := (V2.alloc (Obj.cells #[.slice none 0 0] 32)).alloc (Obj.cells #[.int .i64 0, .slice none 0 0, .slice (some ⟨w2.heap.size, 0, none⟩) 1 1, .int .i64 0] 28)
  have V4 := VarT.newAt (w2.alloc (Obj.cells #[.slice none 0 0] 32)) [.int .i64 0, .slice none 0 0, .slice (some ⟨w2.heap.size, 0, none⟩) 1 1, .int .i64 0] 28 (B := w2.heap.size + 1) (by simp)
  have hG0 : MkG w (w2.alloc (Obj.cells #[.slice none 0 0] 32)) (.slice (some ⟨w2.heap.size, 0, none⟩) 1 1) [⟨none, 0, []⟩] := ⟨World.ownsRow_lit w2 #[.slice none 0 0] 1 hb2.size (by unfold maxLen; omega) rfl, fun e he => by
    obtain rfl := List.mem_singleton.1 he
    exact BagG.nil _ _ _ _, hb2.alloc hb2.size _⟩
  have hG0 := hG0.alloc (Obj.cells #[.int .i64 0, .slice none 0 0, .slice (some ⟨w2.heap.size, 0, none⟩) 1 1, .int .i64 0] 28)
  have hP0 : SPm w w.heap.size (w2.heap.size + 1) none 0 0 [] (some ⟨w2.heap.size, 0, none⟩) 1 1 [⟨none, 0, []⟩] ((0 : Nat) : Int) _ := ⟨V2, V4, LogG.nil _ _ _, hG0, rfl, rfl, by omega⟩
  clear V2 V4 hG0 hb2
  go_wp2_with fail
  generalize ((w2.alloc (Obj.cells #[.slice none 0 0] 32)).alloc (Obj.cells #[.int .i64 0, .slice none 0 0, .slice (some ⟨w2.heap.size, 0, none⟩) 1 1, .int .i64 0] 28)) = w3 at *
  obtain ⟨b4, hb4⟩ : ∃ b4, w2.heap.size + 1 = b4 := ⟨_, rfl⟩
  rw [hb4] at hP0 ⊢
  clear hb4 hsz2
  have HI0 := hid0 (show InvT 0 (([] : List Ent).map dat) ([(⟨none, 0, []⟩ : Bg)].map Bg.prs) 0 from InvT.start)
  go_loopw [5] (fun iv wr => ∃ (i : Nat) (la : Option Addr) (n lc : Nat) (L : List Ent) (ba : Option Addr) (nb cb : Nat) (Bs : List Bg) (low : Nat), i ≤ N ∧ i ≤ 60 ∧ iv = .int .i64 i ∧ SPm w w.heap.size b4 la n lc L ba nb cb Bs (low : Int) wr ∧ Hid (InvT i (L.map dat) (Bs.map Bg.prs) low)) (fun iv _ => N - (intOf iv).toNat)
  case atStart => exact ⟨0, none, 0, 0, [], _, 1, 1, _, 0, Nat.zero_le _, by omega, rfl, hP0, HI0⟩
  case round =>
    obtain ⟨i, la, n, lc, L, ba, nb, cb, Bs, low, hi, hi60, rfl, hP, HI⟩ := hrel
    clear hP0 HI0
    have c0 := hP.v4.v.cell 0 rfl
    have c1 := hP.v4.v.cell 1 rfl
    have c2 := hP.v4.v.cell 2 rfl
    have c3 := hP.v4.v.cell 3 rfl
    have fin : i = N ∨ i = 60 → True := fun _ => trivial
    clear fin
    by_cases hlt : i < N
    rotate_left
    · have z0 := hP.v2.v.cell 0 rfl
      have z1 := hP.v2.v.cell 1 rfl
      have z2 := hP.v2.v.cell 2 rfl
      have z3 := hP.v2.v.cell 3 rfl
      have y0 := hP.v2.v.frz 0 (by simp)
      have y1 := hP.v2.v.frz 1 (by simp)
      have y2 := hP.v2.v.frz 2 (by simp)
      have y3 := hP.v2.v.frz 3 (by simp)
      have HP := hid0 hP
      clear hP
      go_wp2_with fail
      exact end_vt (HP.out.v2.v.puts [.int .i64 0, .slice la n lc, .slice ba nb cb, .int .i64 low] rfl) rfl rfl rfl _ Try.underlying28 rfl sizePl16 rfl (HP.out.ended hi60 HI.out [.int .i64 0, .slice la n lc, .slice ba nb cb, .int .i64 low])
    by_cases h60 : i < 60
    rotate_left
    · have z0 := hP.v2.v.cell 0 rfl
      have z1 := hP.v2.v.cell 1 rfl
      have z2 := hP.v2.v.cell 2 rfl
      have z3 := hP.v2.v.cell 3 rfl
      have y0 := hP.v2.v.frz 0 (by simp)
      have y1 := hP.v2.v.frz 1 (by simp)
      have y2 := hP.v2.v.frz 2 (by simp)
      have y3 := hP.v2.v.frz 3 (by simp)
      have HP := hid0 hP
      clear hP
      go_wp2_with fail
      exact end_vt (HP.out.v2.v.puts [.int .i64 0, .slice la n lc, .slice ba nb cb, .int .i64 low] rfl) rfl rfl rfl _ Try.underlying28 rfl sizePl16 rfl (HP.out.ended hi60 HI.out [.int .i64 0, .slice la n lc, .slice ba nb cb, .int .i64 low])
    · have hnb : nb = i + 1 := by have h1 := HI.out.len; rw [List.length_map, hP.bn] at h1; exact h1
      obtain ⟨bb, ob, rfl, hbag⟩ := hP.bag (nb - 1) (by rw [hP.bn]; omega)
      have hiS : i < S.length := by rw [HN.out]; exact hlt
      obtain ⟨sb, so, rfl, hst⟩ := HS.out.at_ (by intro e; rw [e] at hiS; exact absurd hiS (by simp))
      obtain ⟨s0w, s1w, s2w⟩ := hst i hiS
      have s0 := cell_later hP.b s0w
      have HSC := hid0 (fun (W : World) (hW : Below w.heap.size w W) => And.intro (cell_later hW s1w) (cell_later hW s2w))
      clear s0w s1w s2w
      have hel := HS.out.el _ (List.getElem_mem hiS)
      have hbn : nb - 1 < Bs.length := by rw [hP.bn]; omega
      have hX := hP.bg.g _ (List.getElem_mem hbn)
      have hXS : Hid (absS (Bs[nb - 1].E.map pr) ≤ 240000 ∧ Bs[nb - 1].E.length ≤ 240000) := hid0 (by
        have hk : nb - 1 < (Bs.map Bg.prs).length := by simpa using hbn
        have h1 := HI.out.small (nb - 1) hk
        have h2 := len_abs (HI.out.rises (nb - 1) hk)
        have e : (Bs.map Bg.prs)[nb - 1] = Bs[nb - 1].E.map pr := by rw [List.getElem_map]; rfl
        rw [e] at h1 h2
        rw [List.length_map] at h2
        omega)
      have HXI : Hid (∀ (R B : List Pair), absS R ≤ 4000 → B = ofB (Bs[nb - 1].E.map pr ++ R) → InvT (i + 1) (L.map dat ++ entsD ((i + 1 : Nat) : Int) R) (Bs.map Bg.prs ++ [B]) low) := hid0 (fun R B hR hB => HI.out.add hR (by
        rw [hB]
        have e : (Bs.map Bg.prs)[i]'(by rw [List.length_map, hP.bn]; omega) = Bs[nb - 1].E.map pr := by
          rw [List.getElem_map]
          have : i = nb - 1 := by omega
          subst this
          rfl
        rw [e]))
      have HST := hid0 (show S[i] ∈ S from List.getElem_mem hiS)
      clear hst
      generalize S[i] = st at s0 HSC hel HST
      generalize Bs[nb - 1] = x at hbag hX hXS HXI
      have HXS := hXS
      have HNB := hid0 hnb
      have HBL := hid0 (show Bs.length ≤ 61 by rw [hP.bn]; omega)
      have hnb1 : 0 < nb := by omega
      have hnb2 : nb ≤ 61 := by omega
      have HP := hid0 hP
      have HX := hid0 hX
      have HEL := hid0 hel
      obtain ⟨ne, hne⟩ : ∃ ne, st.E.length = ne := ⟨_, rfl⟩
      have HNE := hid0 hne
      have CO := refOfW_all st.E.length st.a st.c st.E wr (Nat.le_refl _) (hel.1.at_.later hP.b) hel.1.cap hel.2.1 (fun e he => (hel.1.i e he).2.1)
      rw [hne] at CO s0
      have HCO := hid0 CO
      obtain ⟨nx, hnx⟩ : ∃ nx, x.E.length = nx := ⟨_, rfl⟩
      have HNX := hid0 hnx
      rw [hnx] at hbag
      clear hP hX hel hne CO hXS hbn hiS hnx hnb c1 c3
      go_wp2_with fail
      refine Calls.mono HCO.out ?_
      rintro e W5 ⟨⟨r1, k1, R1, rfl, hk1, hR1, hS1, ht1, hg1⟩, hb5⟩
      have hRI : ElemsI W5 r1 k1 R1 := ⟨hR1, fun e he => by
        obtain ⟨⟨y, hy, hyr⟩, hn⟩ := hS1.of e he
        refine ⟨?_, hn, (hg1 e he).1⟩
        rw [hyr]
        exact (HEL.out.1.i y hy).1, by have := hS1.few; have := HEL.out.2.1; omega, hk1⟩
      have hP := HP.out.below hb5
      have hX := HX.out.below hb5
      have HRI := hid0 hRI
      have HRG := hid0 (bagG_of (c := k1) w.heap.size hR1 ht1 hg1)
      have c2 := hP.v4.v.cell 2 rfl
      have HP5 := hid0 hP
      have HX5 := hid0 hX
      have CB := hid0 (refBagRight_all r1 k1 R1 W5 hRI)
      obtain ⟨m1, hm1⟩ : ∃ m1, R1.length = m1 := ⟨_, rfl⟩
      have HM1 := hid0 hm1
      rw [hm1] at CB ⊢
      clear hR1 hS1 ht1 hg1 hk1 hb5 hRI hP hX hm1 HCO HP HX s0 hbag c0 c2
      go_wp2_with fail
      refine Calls.mono CB.out ?_
      rintro e W7 ⟨rfl, hb7⟩
      have hP := HP5.out.below hb7
      have hX := HX5.out.below hb7
      obtain ⟨rb, hrb⟩ : ∃ rb, rightE R1 = rb := ⟨_, rfl⟩
      rw [hrb]
      cases rb with
      | false =>
        clear CB HP5 HX5 HRI hb7 hrb HM1 HRG
        have hRG : BagG W7 w.heap.size ⟨none, 0, []⟩ := BagG.nil _ _ _ _
        have hRI : ElemsI W7 none 0 [] := ⟨ElemsAt.nil _ _, fun e he => absurd he (by simp), by simp, by simp⟩
        have hRR : rightE [] = true := rfl
        have hRS : absS (([] : List Elem).map pr) ≤ 4000 := by simp [absS]
        have HRL := hid0 (show ([] : List Elem).length ≤ 4000 by simp)
        have c0 := hP.v4.v.cell 0 rfl
        have c1 := hP.v4.v.cell 1 rfl
        have c2 := hP.v4.v.cell 2 rfl
        have HP := hid0 hP
        have hA0 := trAdd_any 0 la lc L nb none 0 [] W7 hP.lg.ents hRI (by have := HI.out.few; rw [List.length_map] at this; omega)
        have hadd := play_add HI.out hRR hRS
        rw [← HNB.out] at hadd
        rw [hP.ln, hadd, List.length_nil] at hA0
        have HA0 := hid0 hA0
        have HADD := hid0 (fun (W : World) (hx : BagG W w.heap.size x) (hr : BagG W w.heap.size ⟨none, 0, []⟩) => (show Calls Try.prog 10 #[.slice x.a nx x.c, .slice none 0 0] W (OfAns2 W (x.E.map pr ++ [].map pr)) from by
          have h := refAdd2 x.a none x.c 0 x.E [] W hx.elems hr.elems (by have := HXS.out.2; have := HRL.out; omega) (by rw [absS_append]; have := HXS.out.1; omega)
          rwa [HNX.out, List.length_nil] at h))
        have HRS := hid0 hRS
        have HX7b := hid0 hX
        have HR7 := hid0 hRG
        clear hRG hP hA0 hRI hRR hRS hX hadd
        go_wp2_with fail
        refine Calls.mono HA0.out ?_
        rintro e W8 ⟨v8, F8, rfl, hM8, hF8⟩
        have hP := HP.out.below hM8.b
        have hb78 := hM8.b
        obtain ⟨a8, c8, rfl, _, _⟩ := hM8.ents
        have hG8 := hM8.logG w.heap.size
        obtain ⟨n8, hn8⟩ : ∃ n8, F8.length = n8 := ⟨_, rfl⟩
        have HN8 := hid0 hn8
        have HF8 := hid0 (show F8.map dat = L.map dat ++ entsD (nb : Int) ([].map pr) from hF8)
        rw [hn8]
        have hP8 := hP
        clear hM8 hF8 hn8 hP HP
        have c0 := hP8.v4.v.cell 0 rfl
        have c1 := hP8.v4.v.cell 1 rfl
        have y0 := hP8.v4.v.frz 0 (by simp)
        have y1 := hP8.v4.v.frz 1 (by simp)
        have hlt8 := hP8.v4.v.lt
        have hP9 := hP8.setLog (c' := c8) hG8 HN8.out
        have V8 := VarB.new W8 [.int .i64 0, .slice a8 n8 c8] 25
        have z0 := V8.cell 0 rfl
        have z1 := V8.cell 1 rfl
        have hKK : KeptK w.heap.size W8 ((W8.setCell ⟨b4, 0, none⟩ (.int .i64 0)).setCell ⟨b4, 1, none⟩ (.slice a8 n8 c8)) := KeptK.puts hP8.v4 (by have := hP8.lo; omega) played3 0 [.int .i64 0, .slice a8 n8 c8]
        have hAl : Below ((W8.setCell ⟨b4, 0, none⟩ (.int .i64 0)).setCell ⟨b4, 1, none⟩ (.slice a8 n8 c8)).heap.size ((W8.setCell ⟨b4, 0, none⟩ (.int .i64 0)).setCell ⟨b4, 1, none⟩ (.slice a8 n8 c8)) (((W8.setCell ⟨b4, 0, none⟩ (.int .i64 0)).setCell ⟨b4, 1, none⟩ (.slice a8 n8 c8)).alloc (Obj.cells #[.int .i64 0, .slice a8 n8 c8] 25)) := (Below.refl _ _).alloc (Nat.le_refl _) _
        have hP10 := hP9.below hAl
        have HX10 := hid0 (((HX7b.out.below hb78).keptK hKK).below hAl)
        have HR10 := hid0 (((HR7.out.below hb78).keptK hKK).below hAl)
        have HP10 := hid0 hP10
        clear hP8 hP9 hG8 V8 hP10 hb78 hKK hAl HX7b HR7 HA0
        go_wp2_with fail
        clear y0 y1 z0 z1 c0 c1 hlt8
        have hA := HP10.out.a
        generalize ((W8.setCell ⟨b4, 0, none⟩ (.int .i64 0)).setCell ⟨b4, 1, none⟩ (.slice a8 n8 c8)).alloc (Obj.cells #[.int .i64 0, .slice a8 n8 c8] 25) = WX at hA HX10 HR10 HP10 ⊢
        refine wp_region_last (S := (fun W' => VarB W' b4 [.int .i64 0, .slice a8 n8 c8, .slice (some ⟨bb, ob, none⟩) nb cb, .int .i64 low])) 8 (by kernel_rfl) (by kernel_rfl) hA.v4.v.drew (fun hHeld => ?_)
        have hA := hA.below (Below.drew (Below.refl _ _))
        have HXY := hid0 (HX10.out.below (Below.drew (Below.refl _ _)))
        have HRY := hid0 (HR10.out.below (Below.drew (Below.refl _ _)))
        generalize WX.drew = WY at hA hHeld HXY HRY ⊢
        simp only [List.take_succ_cons, List.take_zero, List.drop_succ_cons, List.drop_zero]
        refine wpAnyH_take (i := 0) (v := ?_) rfl (by kernel_rfl) (by kernel_rfl) (by kernel_rfl) (fun _ _ _ h => h) (Or.inl ⟨by rfl, ?_⟩) (by assumption) ?_
        rotate_left
        · (intro wx hSw; have u2 := hSw.cell 2 rfl; go_simp; (try with_reducible rfl); (try omega))
        (try simp only [Act.put, List.setIfInBounds_toArray, List.set_cons_zero, List.set_cons_succ, List.getElem_toArray, List.getElem_cons_zero])
        refine wpAnyH_take (i := 1) (v := ?_) rfl (by kernel_rfl) (by kernel_rfl) (by kernel_rfl) (fun _ _ _ h => h) (Or.inl ⟨by rfl, ?_⟩) (by assumption) ?_
        rotate_left
        · (intro wx hSw; have u2 := hSw.cell 2 rfl; go_simp; (try with_reducible rfl); (try omega))
        (try simp only [Act.put, List.setIfInBounds_toArray, List.set_cons_zero, List.set_cons_succ, List.getElem_toArray, List.getElem_cons_zero, List.getElem_cons_succ])
        refine wpAnyH_take (i := 2) (v := ?_) rfl (by kernel_rfl) (by kernel_rfl) (by kernel_rfl) (fun _ _ _ h => h) (Or.inl ⟨by rfl, ?_⟩) (by assumption) ?_
        rotate_left
        · (intro wx hSw; have u2 := hSw.cell 2 rfl; go_simp; (try with_reducible rfl); (try omega))
        (try simp only [Act.put, List.setIfInBounds_toArray, List.set_cons_zero, List.set_cons_succ, List.getElem_toArray, List.getElem_cons_zero, List.getElem_cons_succ])
        refine wpAnyH_take (i := 3) (v := ?_) rfl (by kernel_rfl) (by kernel_rfl) (by kernel_rfl) (fun _ _ _ h => h) (Or.inl ⟨by rfl, ?_⟩) (by assumption) ?_
        rotate_left
        · (intro wx hSw; have u2 := hSw.cell 2 rfl; go_simp; (try with_reducible rfl); (try omega))
        (try simp only [Act.put, List.setIfInBounds_toArray, List.set_cons_zero, List.set_cons_succ, List.getElem_toArray, List.getElem_cons_zero, List.getElem_cons_succ])
        refine wpAnyH_ready (rs := [4]) (by kernel_rfl) (by simp) ?_
        refine AllReadyH.cons rfl (fun K hK => ?_) AllReadyH.nil
        go_simp
        refine (HADD.out _ HXY.out HRY.out).mono ?_
        rintro e W9 ⟨⟨a9, c9, E9, rfl, _, hE9, hm9, ht9, hg9⟩, hb9⟩
        have hA := hA.below hb9
        have HBG := hid0 (bagG_of (c := c9) w.heap.size hE9 ht9 hg9)
        have HM9 := hid0 hm9
        obtain ⟨n9, hn9⟩ : ∃ n9, E9.length = n9 := ⟨_, rfl⟩
        have HN9 := hid0 hn9
        rw [hn9]
        clear hb9 hE9 hm9 ht9 hg9 hn9
        refine hK.out _ _ hA.v4.v (fun hHeld => ?_)
        clear hK K
        (try simp only [Act.put, List.setIfInBounds_toArray, List.set_cons_zero, List.set_cons_succ, List.getElem_toArray, List.getElem_cons_zero, List.getElem_cons_succ])
        refine wpAnyH_ready (rs := [5]) (by kernel_rfl) (by simp) ?_
        refine AllReadyH.cons rfl (fun K hK => ?_) AllReadyH.nil
        go_simp
        have hA := hA.below ((Below.refl _ _).alloc (Nat.le_refl _) (Obj.cells #[.slice a9 n9 c9] 32))
        have HBG := hid0 (HBG.out.below ((Below.refl _ _).alloc (Nat.le_refl _) (Obj.cells #[.slice a9 n9 c9] 32)))
        have hX := (VarB.new W9 [.slice a9 n9 c9] 32).cell 0 rfl
        generalize W9.alloc (Obj.cells #[.slice a9 n9 c9] 32) = WA at hA HBG hX ⊢
        generalize W9.heap.size = bx at hX ⊢
        refine hK.out _ _ hA.v4.v (fun hHeld => ?_)
        clear hK K
        (try simp only [Act.put, List.setIfInBounds_toArray, List.set_cons_zero, List.set_cons_succ, List.getElem_toArray, List.getElem_cons_zero, List.getElem_cons_succ])
        refine wpAnyH_ready (rs := [6]) (by kernel_rfl) (by simp) ?_
        refine AllReadyH.cons rfl (fun K hK => ?_) AllReadyH.nil
        refine step_appG (by rfl) _ _ (by rfl) (by rfl) hA.bg ⟨a9, c9, E9⟩ bx (by rfl) (by rw [HN9.out]; exact hX) HBG.out (by have := HBL.out; omega) ?_
        intro vB WB hMB hKB
        have hA := hA.app hMB hKB
        obtain ⟨aB, cB, hvB, _, _⟩ := hMB.bags
        obtain ⟨mB, hmB⟩ : ∃ mB, (Bs ++ [(⟨a9, c9, E9⟩ : Bg)]).length = mB := ⟨_, rfl⟩
        rw [hmB] at hvB
        subst hvB
        have HMB := hid0 hmB
        clear hMB hKB hX hmB
        refine hK.out _ _ hA.v4.v (fun hHeld => ?_)
        clear hK K
        (try simp only [Act.put, List.setIfInBounds_toArray, List.set_cons_zero, List.set_cons_succ, List.getElem_toArray, List.getElem_cons_zero, List.getElem_cons_succ])
        refine wpAnyH_take (i := 7) (v := ?_) rfl (by kernel_rfl) (by kernel_rfl) (by kernel_rfl) (fun _ _ _ h => h) (Or.inl ⟨by rfl, ?_⟩) (by assumption) ?_
        rotate_left
        · (intro wx hSw; have u2 := hSw.cell 2 rfl; go_simp; (try with_reducible rfl); (try omega))
        (try simp only [Act.put, List.setIfInBounds_toArray, List.set_cons_zero, List.set_cons_succ, List.getElem_toArray, List.getElem_cons_zero, List.getElem_cons_succ])
        refine wpAnyH_done (by kernel_rfl) ?_ _
        show wpList _ _ _ _ _ _
        have f2 := hA.v4.v.frz 2 (by simp)
        have u2 := hA.v4.v.cell 2 rfl
        have HA := hid0 hA
        clear hA hHeld
        have hQ := HA.out.stored HMB.out
        have HINV := hid0 (show InvT (i + 1) (F8.map dat) ((Bs ++ [(⟨a9, c9, E9⟩ : Bg)]).map Bg.prs) low by
          rw [HF8.out, HNB.out, List.map_append]
          exact HXI.out _ _ HRS.out HM9.out)
        obtain ⟨s1, s2⟩ := HSC.out _ hQ.b
        have hin := HEL.out.2.2
        obtain ⟨sl, hsl⟩ : ∃ sl, st.l = sl := ⟨_, rfl⟩
        rw [hsl] at s2 hin
        clear hsl
        cases hpp : st.p with
        | false =>
          rw [hpp] at s1
          clear hpp
          go_wp2_with fail
          exact ⟨⟨i + 1, a8, n8, c8, F8, aB, mB, cB, Bs ++ [⟨a9, c9, E9⟩], low, by omega, by omega, by go_num, hQ, HINV⟩, by simp [intOf]; omega⟩
        | true =>
          rw [hpp] at s1
          clear hpp
          have HQ := hid0 hQ
          have HM2 := hid0 (show mB = i + 2 by rw [← HMB.out, List.length_append]; have := HINV.out.len; rw [List.length_map, List.length_append] at this; simp at this ⊢; omega)
          clear hQ
          go_wp2_with fail
          have hQ := HQ.out
          generalize WB.setCell ⟨b4, 2, none⟩ (.slice aB mB cB) = WP at hQ s1 s2 ⊢
          clear HQ s1 f2 u2
          have q2 := hQ.v4.v.cell 2 rfl
          obtain ⟨u, hu1⟩ : ∃ u : Nat, IntKind.u64.wrap sl = (u : Int) := ⟨(IntKind.u64.wrap sl).toNat, by rw [IntKind.wrap_u64]; omega⟩
          have hmB := HM2.out
          have hmB0 : 0 < mB := by omega
          have hu2 : IntKind.u64.wrap (mB : Int) = (mB : Int) := IntWalk.u64_in _ (by omega)
          have hu0 : ¬ mB = 0 := by omega
          obtain ⟨k, hk⟩ : ∃ k, u % mB = k := ⟨_, rfl⟩
          have HKL := hid0 (show k < mB by rw [← hk]; exact Nat.mod_lt _ hmB0)
          have hu3 : (u : Int).tmod (mB : Int) = (k : Int) := by rw [← hk]; rfl
          have hkm := HKL.out
          have hu4 : IntKind.i64.wrap (k : Int) = (k : Int) := IntWalk.i64_in _ (by omega)
          clear hk hmB hkm hmB0
          refine wp_region_held_drew (S := (fun W' => Below WP.drew.heap.size WP.drew W')) (by kernel_rfl) (Below.refl _ _) (fun hHeld => ?_)
          have hQ := hQ.drew
          have s2 : WP.drew.cell? _ = _ := s2
          have q2 : WP.drew.cell? _ = _ := q2
          have hB0 : Below WP.drew.heap.size WP.drew WP.drew := Below.refl _ _
          generalize WP.drew = W0 at hQ s2 q2 hB0 hHeld ⊢
          refine wpAnyH_take (i := 0) (v := ?_) rfl (by kernel_rfl) (by kernel_rfl) (by kernel_rfl) (fun _ _ _ h => h) (Or.inl ⟨by rfl, ?_⟩) (by assumption) ?_
          rotate_left
          · (intro wx hSw; have qq := cell_later hSw s2; have q2 := cell_later hSw q2; go_simp; (try with_reducible rfl); (try omega))
          (try simp only [Act.put, List.setIfInBounds_toArray, List.set_cons_zero, List.set_cons_succ, List.getElem_toArray, List.getElem_cons_zero])
          refine wpAnyH_take (i := 1) (v := ?_) rfl (by kernel_rfl) (by kernel_rfl) (by kernel_rfl) (fun _ _ _ h => h) (Or.inl ⟨by rfl, ?_⟩) (by assumption) ?_
          rotate_left
          · (intro wx hSw; have qq := cell_later hSw s2; have q2 := cell_later hSw q2; go_simp; (try with_reducible rfl); (try omega))
          (try simp only [Act.put, List.setIfInBounds_toArray, List.set_cons_zero, List.set_cons_succ, List.getElem_toArray, List.getElem_cons_zero, List.getElem_cons_succ])
          refine wpAnyH_take (i := 2) (v := ?_) rfl (by kernel_rfl) (by kernel_rfl) (by kernel_rfl) (fun _ _ _ h => h) (Or.inl ⟨by rfl, ?_⟩) (by assumption) ?_
          rotate_left
          · (intro wx hSw; have qq := cell_later hSw s2; have q2 := cell_later hSw q2; go_simp; (try with_reducible rfl); (try omega))
          (try simp only [Act.put, List.setIfInBounds_toArray, List.set_cons_zero, List.set_cons_succ, List.getElem_toArray, List.getElem_cons_zero, List.getElem_cons_succ])
          refine wpAnyH_take (i := 3) (v := ?_) rfl (by kernel_rfl) (by kernel_rfl) (by kernel_rfl) (fun _ _ _ h => h) (Or.inl ⟨by rfl, ?_⟩) (by assumption) ?_
          rotate_left
          · (intro wx hSw; have qq := cell_later hSw s2; have q2 := cell_later hSw q2; go_simp; (try with_reducible rfl); (try omega))
          (try simp only [Act.put, List.setIfInBounds_toArray, List.set_cons_zero, List.set_cons_succ, List.getElem_toArray, List.getElem_cons_zero, List.getElem_cons_succ])
          refine wpAnyH_take (i := 4) (v := ?_) rfl (by kernel_rfl) (by kernel_rfl) (by kernel_rfl) (fun _ _ _ h => h) (Or.inl ⟨by rfl, ?_⟩) (by assumption) ?_
          rotate_left
          · (intro wx hSw; have qq := cell_later hSw s2; have q2 := cell_later hSw q2; go_simp; (try with_reducible rfl); (try omega))
          (try simp only [Act.put, List.setIfInBounds_toArray, List.set_cons_zero, List.set_cons_succ, List.getElem_toArray, List.getElem_cons_zero, List.getElem_cons_succ])
          refine wpAnyH_take (i := 5) (v := ?_) rfl (by kernel_rfl) (by kernel_rfl) (by kernel_rfl) (fun _ _ _ h => h) (Or.inl ⟨by rfl, ?_⟩) (by assumption) ?_
          rotate_left
          · (intro wx hSw; have qq := cell_later hSw s2; have q2 := cell_later hSw q2; go_simp; (try with_reducible rfl); (try omega))
          (try simp only [Act.put, List.setIfInBounds_toArray, List.set_cons_zero, List.set_cons_succ, List.getElem_toArray, List.getElem_cons_zero, List.getElem_cons_succ])
          refine wpAnyH_take (i := 6) (v := ?_) rfl (by kernel_rfl) (by kernel_rfl) (by kernel_rfl) (fun _ _ _ h => h) (Or.inl ⟨by rfl, ?_⟩) (by assumption) ?_
          rotate_left
          · (intro wx hSw; have qq := cell_later hSw s2; have q2 := cell_later hSw q2; go_simp; (try with_reducible rfl); (try omega))
          (try simp only [Act.put, List.setIfInBounds_toArray, List.set_cons_zero, List.set_cons_succ, List.getElem_toArray, List.getElem_cons_zero, List.getElem_cons_succ])
          refine wpAnyH_take (i := 7) (v := ?_) rfl (by kernel_rfl) (by kernel_rfl) (by kernel_rfl) (fun _ _ _ h => h) (Or.inl ⟨by rfl, ?_⟩) (by assumption) ?_
          rotate_left
          · (intro wx hSw; have qq := cell_later hSw s2; have q2 := cell_later hSw q2; go_simp; (try with_reducible rfl); (try omega))
          (try simp only [Act.put, List.setIfInBounds_toArray, List.set_cons_zero, List.set_cons_succ, List.getElem_toArray, List.getElem_cons_zero, List.getElem_cons_succ])
          refine wpAnyH_take (i := 8) (v := ?_) rfl (by kernel_rfl) (by kernel_rfl) (by kernel_rfl) (fun _ _ _ h => h) (Or.inl ⟨by rfl, ?_⟩) (by assumption) ?_
          rotate_left
          · (intro wx hSw; have qq := cell_later hSw s2; have q2 := cell_later hSw q2; go_simp; (try with_reducible rfl); (try omega))
          (try simp only [Act.put, List.setIfInBounds_toArray, List.set_cons_zero, List.set_cons_succ, List.getElem_toArray, List.getElem_cons_zero, List.getElem_cons_succ])
          refine wpAnyH_take (i := 9) (v := ?_) rfl (by kernel_rfl) (by kernel_rfl) (by kernel_rfl) (fun _ _ _ h => h) (Or.inl ⟨by rfl, ?_⟩) (by assumption) ?_
          rotate_left
          · (intro wx hSw; have qq := cell_later hSw s2; have q2 := cell_later hSw q2; go_simp; (try with_reducible rfl); (try omega))
          (try simp only [Act.put, List.setIfInBounds_toArray, List.set_cons_zero, List.set_cons_succ, List.getElem_toArray, List.getElem_cons_zero, List.getElem_cons_succ])
          refine wpAnyH_take (i := 10) (v := ?_) rfl (by kernel_rfl) (by kernel_rfl) (by kernel_rfl) (fun _ _ _ h => h) (Or.inl ⟨by rfl, ?_⟩) (by assumption) ?_
          rotate_left
          · (intro wx hSw; have qq := cell_later hSw s2; have q2 := cell_later hSw q2; go_simp; (try with_reducible rfl); (try omega))
          (try simp only [Act.put, List.setIfInBounds_toArray, List.set_cons_zero, List.set_cons_succ, List.getElem_toArray, List.getElem_cons_zero, List.getElem_cons_succ])
          refine wpAnyH_take (i := 11) (v := ?_) rfl (by kernel_rfl) (by kernel_rfl) (by kernel_rfl) (fun _ _ _ h => h) (Or.inl ⟨by rfl, ?_⟩) (by assumption) ?_
          rotate_left
          · (intro wx hSw; have qq := cell_later hSw s2; have q2 := cell_later hSw q2; go_simp; (try with_reducible rfl); (try omega))
          (try simp only [Act.put, List.setIfInBounds_toArray, List.set_cons_zero, List.set_cons_succ, List.getElem_toArray, List.getElem_cons_zero, List.getElem_cons_succ])
          refine wpAnyH_take (i := 12) (v := ?_) rfl (by kernel_rfl) (by kernel_rfl) (by kernel_rfl) (fun _ _ _ h => h) (Or.inl ⟨by rfl, ?_⟩) (by assumption) ?_
          rotate_left
          · (intro wx hSw; have qq := cell_later hSw s2; have q2 := cell_later hSw q2; go_simp; (try with_reducible rfl); (try omega))
          (try simp only [Act.put, List.setIfInBounds_toArray, List.set_cons_zero, List.set_cons_succ, List.getElem_toArray, List.getElem_cons_zero, List.getElem_cons_succ])
          refine wpAnyH_done (by kernel_rfl) ?_ _
          clear hu0 hu1 hu2 hu3 hu4 s2 hB0
          have q0 := hQ.v4.v.cell 0 rfl
          have q1 := hQ.v4.v.cell 1 rfl
          have CP := trPurge_any 0 a8 c8 F8 k W0 hQ.lg.ents (by have := HINV.out.few; rw [List.length_map] at this; omega)
          rw [hQ.ln] at CP
          have HCP := hid0 CP
          have HQ := hid0 hQ
          clear hQ CP q2
          go_wp2_with fail
          refine Calls.mono HCP.out ?_
          rintro e WR ⟨vR, FR, rfl, hMR, hFR⟩
          have hQ := HQ.out.below hMR.b
          obtain ⟨aR, cR, rfl, _, _⟩ := hMR.ents
          have hGR := hMR.logG w.heap.size
          obtain ⟨nR, hnR⟩ : ∃ nR, FR.length = nR := ⟨_, rfl⟩
          have HFR := hid0 hFR
          obtain ⟨mx, hmx⟩ : ∃ mx : Nat, max low k = mx := ⟨_, rfl⟩
          have hmi : max (low : Int) (k : Int) = (mx : Int) := by rw [← hmx, Int.max_def, Nat.max_def]; split <;> split <;> omega
          have hZ := hid0 ((hQ.setLog (c' := cR) hGR hnR).setLow (mx : Int))
          have HMX := hid0 hmx
          have HIN2 := hid0 (show InvT (i + 1) (FR.map dat) ((Bs ++ [(⟨a9, c9, E9⟩ : Bg)]).map Bg.prs) mx by
            rw [HFR.out, ← HMX.out]
            exact HINV.out.purge (by have := HKL.out; have := HM2.out; omega))
          have q0 := hQ.v4.v.cell 0 rfl
          have q1 := hQ.v4.v.cell 1 rfl
          have q3 := hQ.v4.v.cell 3 rfl
          have y0 := hQ.v4.v.frz 0 (by simp)
          have y1 := hQ.v4.v.frz 1 (by simp)
          have y3 := hQ.v4.v.frz 3 (by simp)
          rw [hnR]
          clear hQ hMR hGR hFR HQ HCP hmx hnR
          go_wp2_with fail
          exact ⟨⟨i + 1, aR, nR, cR, FR, aB, mB, cB, Bs ++ [⟨a9, c9, E9⟩], mx, by omega, by omega, by go_num, hZ.out, HIN2⟩, by simp [intOf]; omega⟩
      | true =>
        have HRB := hid0 hrb
        have HRI := hid0 (HRI.out.later hb7)
        have HRG := hid0 (HRG.out.below hb7)
        have CZ : Calls Try.prog 19 #[.slice r1 m1 k1] W7 fun e w' => e = .returned (.int .i64 (sizeS (R1.map pr))) ∧ Below W7.heap.size W7 w' := by
          have h := refSize16_any r1 k1 R1 W7 HRI.out.at_ HRI.out.few (rightE_small hrb)
          rwa [HM1.out] at h
        have CZ := hid0 CZ
        have HP7 := hid0 hP
        have HX7 := hid0 hX
        have c2 := hP.v4.v.cell 2 rfl
        clear CB HP5 HX5 hb7 hrb hP hX c2
        go_wp2_with fail
        refine Calls.mono CZ.out ?_
        rintro e W7 ⟨rfl, hb7⟩
        have hP := HP7.out.below hb7
        have hX := HX7.out.below hb7
        have HRI := hid0 (HRI.out.later hb7)
        have HRG := hid0 (HRG.out.below hb7)
        by_cases hbig : 4000 < absS (R1.map pr)
        · have hz : 4000 < sizeS (R1.map pr) := sizeS_le.2 hbig
          generalize sizeS (R1.map pr) = z at hz ⊢
          have hd : decide (4000 < z) = true := by simpa using hz
          clear hb7 HP7 HX7 CZ HRI HRB HM1 hbig HRG
          have hRG : BagG W7 w.heap.size ⟨none, 0, []⟩ := BagG.nil _ _ _ _
          have hRI : ElemsI W7 none 0 [] := ⟨ElemsAt.nil _ _, fun e he => absurd he (by simp), by simp, by simp⟩
          have hRR : rightE [] = true := rfl
          have hRS : absS (([] : List Elem).map pr) ≤ 4000 := by simp [absS]
          have HRL := hid0 (show ([] : List Elem).length ≤ 4000 by simp)
          have c0 := hP.v4.v.cell 0 rfl
          have c1 := hP.v4.v.cell 1 rfl
          have c2 := hP.v4.v.cell 2 rfl
          have HP := hid0 hP
          have hA0 := trAdd_any 0 la lc L nb none 0 [] W7 hP.lg.ents hRI (by have := HI.out.few; rw [List.length_map] at this; omega)
          have hadd := play_add HI.out hRR hRS
          rw [← HNB.out] at hadd
          rw [hP.ln, hadd, List.length_nil] at hA0
          have HA0 := hid0 hA0
          have HADD := hid0 (fun (W : World) (hx : BagG W w.heap.size x) (hr : BagG W w.heap.size ⟨none, 0, []⟩) => (show Calls Try.prog 10 #[.slice x.a nx x.c, .slice none 0 0] W (OfAns2 W (x.E.map pr ++ [].map pr)) from by
            have h := refAdd2 x.a none x.c 0 x.E [] W hx.elems hr.elems (by have := HXS.out.2; have := HRL.out; omega) (by rw [absS_append]; have := HXS.out.1; omega)
            rwa [HNX.out, List.length_nil] at h))
          have HRS := hid0 hRS
          have HX7b := hid0 hX
          have HR7 := hid0 hRG
          clear hRG hP hA0 hRI hRR hRS hX hadd
          go_wp2_with fail
          refine Calls.mono HA0.out ?_
          rintro e W8 ⟨v8, F8, rfl, hM8, hF8⟩
          have hP := HP.out.below hM8.b
          have hb78 := hM8.b
          obtain ⟨a8, c8, rfl, _, _⟩ := hM8.ents
          have hG8 := hM8.logG w.heap.size
          obtain ⟨n8, hn8⟩ : ∃ n8, F8.length = n8 := ⟨_, rfl⟩
          have HN8 := hid0 hn8
          have HF8 := hid0 (show F8.map dat = L.map dat ++ entsD (nb : Int) ([].map pr) from hF8)
          rw [hn8]
          have hP8 := hP
          clear hM8 hF8 hn8 hP HP
          have c0 := hP8.v4.v.cell 0 rfl
          have c1 := hP8.v4.v.cell 1 rfl
          have y0 := hP8.v4.v.frz 0 (by simp)
          have y1 := hP8.v4.v.frz 1 (by simp)
          have hlt8 := hP8.v4.v.lt
          have hP9 := hP8.setLog (c' := c8) hG8 HN8.out
          have V8 := VarB.new W8 [.int .i64 0, .slice a8 n8 c8] 25
          have z0 := V8.cell 0 rfl
          have z1 := V8.cell 1 rfl
          have hKK : KeptK w.heap.size W8 ((W8.setCell ⟨b4, 0, none⟩ (.int .i64 0)).setCell ⟨b4, 1, none⟩ (.slice a8 n8 c8)) := KeptK.puts hP8.v4 (by have := hP8.lo; omega) played3 0 [.int .i64 0, .slice a8 n8 c8]
          have hAl : Below ((W8.setCell ⟨b4, 0, none⟩ (.int .i64 0)).setCell ⟨b4, 1, none⟩ (.slice a8 n8 c8)).heap.size ((W8.setCell ⟨b4, 0, none⟩ (.int .i64 0)).setCell ⟨b4, 1, none⟩ (.slice a8 n8 c8)) (((W8.setCell ⟨b4, 0, none⟩ (.int .i64 0)).setCell ⟨b4, 1, none⟩ (.slice a8 n8 c8)).alloc (Obj.cells #[.int .i64 0, .slice a8 n8 c8] 25)) := (Below.refl _ _).alloc (Nat.le_refl _) _
          have hP10 := hP9.below hAl
          have HX10 := hid0 (((HX7b.out.below hb78).keptK hKK).below hAl)
          have HR10 := hid0 (((HR7.out.below hb78).keptK hKK).below hAl)
          have HP10 := hid0 hP10
          clear hP8 hP9 hG8 V8 hP10 hb78 hKK hAl HX7b HR7 HA0
          go_wp2_with fail
          clear y0 y1 z0 z1 c0 c1 hlt8
          have hA := HP10.out.a
          generalize ((W8.setCell ⟨b4, 0, none⟩ (.int .i64 0)).setCell ⟨b4, 1, none⟩ (.slice a8 n8 c8)).alloc (Obj.cells #[.int .i64 0, .slice a8 n8 c8] 25) = WX at hA HX10 HR10 HP10 ⊢
          refine wp_region_last (S := (fun W' => VarB W' b4 [.int .i64 0, .slice a8 n8 c8, .slice (some ⟨bb, ob, none⟩) nb cb, .int .i64 low])) 8 (by kernel_rfl) (by kernel_rfl) hA.v4.v.drew (fun hHeld => ?_)
          have hA := hA.below (Below.drew (Below.refl _ _))
          have HXY := hid0 (HX10.out.below (Below.drew (Below.refl _ _)))
          have HRY := hid0 (HR10.out.below (Below.drew (Below.refl _ _)))
          generalize WX.drew = WY at hA hHeld HXY HRY ⊢
          simp only [List.take_succ_cons, List.take_zero, List.drop_succ_cons, List.drop_zero]
          refine wpAnyH_take (i := 0) (v := ?_) rfl (by kernel_rfl) (by kernel_rfl) (by kernel_rfl) (fun _ _ _ h => h) (Or.inl ⟨by rfl, ?_⟩) (by assumption) ?_
          rotate_left
          · (intro wx hSw; have u2 := hSw.cell 2 rfl; go_simp; (try with_reducible rfl); (try omega))
          (try simp only [Act.put, List.setIfInBounds_toArray, List.set_cons_zero, List.set_cons_succ, List.getElem_toArray, List.getElem_cons_zero])
          refine wpAnyH_take (i := 1) (v := ?_) rfl (by kernel_rfl) (by kernel_rfl) (by kernel_rfl) (fun _ _ _ h => h) (Or.inl ⟨by rfl, ?_⟩) (by assumption) ?_
          rotate_left
          · (intro wx hSw; have u2 := hSw.cell 2 rfl; go_simp; (try with_reducible rfl); (try omega))
          (try simp only [Act.put, List.setIfInBounds_toArray, List.set_cons_zero, List.set_cons_succ, List.getElem_toArray, List.getElem_cons_zero, List.getElem_cons_succ])
          refine wpAnyH_take (i := 2) (v := ?_) rfl (by kernel_rfl) (by kernel_rfl) (by kernel_rfl) (fun _ _ _ h => h) (Or.inl ⟨by rfl, ?_⟩) (by assumption) ?_
          rotate_left
          · (intro wx hSw; have u2 := hSw.cell 2 rfl; go_simp; (try with_reducible rfl); (try omega))
          (try simp only [Act.put, List.setIfInBounds_toArray, List.set_cons_zero, List.set_cons_succ, List.getElem_toArray, List.getElem_cons_zero, List.getElem_cons_succ])
          refine wpAnyH_take (i := 3) (v := ?_) rfl (by kernel_rfl) (by kernel_rfl) (by kernel_rfl) (fun _ _ _ h => h) (Or.inl ⟨by rfl, ?_⟩) (by assumption) ?_
          rotate_left
          · (intro wx hSw; have u2 := hSw.cell 2 rfl; go_simp; (try with_reducible rfl); (try omega))
          (try simp only [Act.put, List.setIfInBounds_toArray, List.set_cons_zero, List.set_cons_succ, List.getElem_toArray, List.getElem_cons_zero, List.getElem_cons_succ])
          refine wpAnyH_ready (rs := [4]) (by kernel_rfl) (by simp) ?_
          refine AllReadyH.cons rfl (fun K hK => ?_) AllReadyH.nil
          go_simp
          refine (HADD.out _ HXY.out HRY.out).mono ?_
          rintro e W9 ⟨⟨a9, c9, E9, rfl, _, hE9, hm9, ht9, hg9⟩, hb9⟩
          have hA := hA.below hb9
          have HBG := hid0 (bagG_of (c := c9) w.heap.size hE9 ht9 hg9)
          have HM9 := hid0 hm9
          obtain ⟨n9, hn9⟩ : ∃ n9, E9.length = n9 := ⟨_, rfl⟩
          have HN9 := hid0 hn9
          rw [hn9]
          clear hb9 hE9 hm9 ht9 hg9 hn9
          refine hK.out _ _ hA.v4.v (fun hHeld => ?_)
          clear hK K
          (try simp only [Act.put, List.setIfInBounds_toArray, List.set_cons_zero, List.set_cons_succ, List.getElem_toArray, List.getElem_cons_zero, List.getElem_cons_succ])
          refine wpAnyH_ready (rs := [5]) (by kernel_rfl) (by simp) ?_
          refine AllReadyH.cons rfl (fun K hK => ?_) AllReadyH.nil
          go_simp
          have hA := hA.below ((Below.refl _ _).alloc (Nat.le_refl _) (Obj.cells #[.slice a9 n9 c9] 32))
          have HBG := hid0 (HBG.out.below ((Below.refl _ _).alloc (Nat.le_refl _) (Obj.cells #[.slice a9 n9 c9] 32)))
          have hX := (VarB.new W9 [.slice a9 n9 c9] 32).cell 0 rfl
          generalize W9.alloc (Obj.cells #[.slice a9 n9 c9] 32) = WA at hA HBG hX ⊢
          generalize W9.heap.size = bx at hX ⊢
          refine hK.out _ _ hA.v4.v (fun hHeld => ?_)
          clear hK K
          (try simp only [Act.put, List.setIfInBounds_toArray, List.set_cons_zero, List.set_cons_succ, List.getElem_toArray, List.getElem_cons_zero, List.getElem_cons_succ])
          refine wpAnyH_ready (rs := [6]) (by kernel_rfl) (by simp) ?_
          refine AllReadyH.cons rfl (fun K hK => ?_) AllReadyH.nil
          refine step_appG (by rfl) _ _ (by rfl) (by rfl) hA.bg ⟨a9, c9, E9⟩ bx (by rfl) (by rw [HN9.out]; exact hX) HBG.out (by have := HBL.out; omega) ?_
          intro vB WB hMB hKB
          have hA := hA.app hMB hKB
          obtain ⟨aB, cB, hvB, _, _⟩ := hMB.bags
          obtain ⟨mB, hmB⟩ : ∃ mB, (Bs ++ [(⟨a9, c9, E9⟩ : Bg)]).length = mB := ⟨_, rfl⟩
          rw [hmB] at hvB
          subst hvB
          have HMB := hid0 hmB
          clear hMB hKB hX hmB
          refine hK.out _ _ hA.v4.v (fun hHeld => ?_)
          clear hK K
          (try simp only [Act.put, List.setIfInBounds_toArray, List.set_cons_zero, List.set_cons_succ, List.getElem_toArray, List.getElem_cons_zero, List.getElem_cons_succ])
          refine wpAnyH_take (i := 7) (v := ?_) rfl (by kernel_rfl) (by kernel_rfl) (by kernel_rfl) (fun _ _ _ h => h) (Or.inl ⟨by rfl, ?_⟩) (by assumption) ?_
          rotate_left
          · (intro wx hSw; have u2 := hSw.cell 2 rfl; go_simp; (try with_reducible rfl); (try omega))
          (try simp only [Act.put, List.setIfInBounds_toArray, List.set_cons_zero, List.set_cons_succ, List.getElem_toArray, List.getElem_cons_zero, List.getElem_cons_succ])
          refine wpAnyH_done (by kernel_rfl) ?_ _
          show wpList _ _ _ _ _ _
          have f2 := hA.v4.v.frz 2 (by simp)
          have u2 := hA.v4.v.cell 2 rfl
          have HA := hid0 hA
          clear hA hHeld
          have hQ := HA.out.stored HMB.out
          have HINV := hid0 (show InvT (i + 1) (F8.map dat) ((Bs ++ [(⟨a9, c9, E9⟩ : Bg)]).map Bg.prs) low by
            rw [HF8.out, HNB.out, List.map_append]
            exact HXI.out _ _ HRS.out HM9.out)
          obtain ⟨s1, s2⟩ := HSC.out _ hQ.b
          have hin := HEL.out.2.2
          obtain ⟨sl, hsl⟩ : ∃ sl, st.l = sl := ⟨_, rfl⟩
          rw [hsl] at s2 hin
          clear hsl
          cases hpp : st.p with
          | false =>
            rw [hpp] at s1
            clear hpp
            go_wp2_with fail
            exact ⟨⟨i + 1, a8, n8, c8, F8, aB, mB, cB, Bs ++ [⟨a9, c9, E9⟩], low, by omega, by omega, by go_num, hQ, HINV⟩, by simp [intOf]; omega⟩
          | true =>
            rw [hpp] at s1
            clear hpp
            have HQ := hid0 hQ
            have HM2 := hid0 (show mB = i + 2 by rw [← HMB.out, List.length_append]; have := HINV.out.len; rw [List.length_map, List.length_append] at this; simp at this ⊢; omega)
            clear hQ
            go_wp2_with fail
            have hQ := HQ.out
            generalize WB.setCell ⟨b4, 2, none⟩ (.slice aB mB cB) = WP at hQ s1 s2 ⊢
            clear HQ s1 f2 u2
            have q2 := hQ.v4.v.cell 2 rfl
            obtain ⟨u, hu1⟩ : ∃ u : Nat, IntKind.u64.wrap sl = (u : Int) := ⟨(IntKind.u64.wrap sl).toNat, by rw [IntKind.wrap_u64]; omega⟩
            have hmB := HM2.out
            have hmB0 : 0 < mB := by omega
            have hu2 : IntKind.u64.wrap (mB : Int) = (mB : Int) := IntWalk.u64_in _ (by omega)
            have hu0 : ¬ mB = 0 := by omega
            obtain ⟨k, hk⟩ : ∃ k, u % mB = k := ⟨_, rfl⟩
            have HKL := hid0 (show k < mB by rw [← hk]; exact Nat.mod_lt _ hmB0)
            have hu3 : (u : Int).tmod (mB : Int) = (k : Int) := by rw [← hk]; rfl
            have hkm := HKL.out
            have hu4 : IntKind.i64.wrap (k : Int) = (k : Int) := IntWalk.i64_in _ (by omega)
            clear hk hmB hkm hmB0
            refine wp_region_held_drew (S := (fun W' => Below WP.drew.heap.size WP.drew W')) (by kernel_rfl) (Below.refl _ _) (fun hHeld => ?_)
            have hQ := hQ.drew
            have s2 : WP.drew.cell? _ = _ := s2
            have q2 : WP.drew.cell? _ = _ := q2
            have hB0 : Below WP.drew.heap.size WP.drew WP.drew := Below.refl _ _
            generalize WP.drew = W0 at hQ s2 q2 hB0 hHeld ⊢
            refine wpAnyH_take (i := 0) (v := ?_) rfl (by kernel_rfl) (by kernel_rfl) (by kernel_rfl) (fun _ _ _ h => h) (Or.inl ⟨by rfl, ?_⟩) (by assumption) ?_
            rotate_left
            · (intro wx hSw; have qq := cell_later hSw s2; have q2 := cell_later hSw q2; go_simp; (try with_reducible rfl); (try omega))
            (try simp only [Act.put, List.setIfInBounds_toArray, List.set_cons_zero, List.set_cons_succ, List.getElem_toArray, List.getElem_cons_zero])
            refine wpAnyH_take (i := 1) (v := ?_) rfl (by kernel_rfl) (by kernel_rfl) (by kernel_rfl) (fun _ _ _ h => h) (Or.inl ⟨by rfl, ?_⟩) (by assumption) ?_
            rotate_left
            · (intro wx hSw; have qq := cell_later hSw s2; have q2 := cell_later hSw q2; go_simp; (try with_reducible rfl); (try omega))
            (try simp only [Act.put, List.setIfInBounds_toArray, List.set_cons_zero, List.set_cons_succ, List.getElem_toArray, List.getElem_cons_zero, List.getElem_cons_succ])
            refine wpAnyH_take (i := 2) (v := ?_) rfl (by kernel_rfl) (by kernel_rfl) (by kernel_rfl) (fun _ _ _ h => h) (Or.inl ⟨by rfl, ?_⟩) (by assumption) ?_
            rotate_left
            · (intro wx hSw; have qq := cell_later hSw s2; have q2 := cell_later hSw q2; go_simp; (try with_reducible rfl); (try omega))
            (try simp only [Act.put, List.setIfInBounds_toArray, List.set_cons_zero, List.set_cons_succ, List.getElem_toArray, List.getElem_cons_zero, List.getElem_cons_succ])
            refine wpAnyH_take (i := 3) (v := ?_) rfl (by kernel_rfl) (by kernel_rfl) (by kernel_rfl) (fun _ _ _ h => h) (Or.inl ⟨by rfl, ?_⟩) (by assumption) ?_
            rotate_left
            · (intro wx hSw; have qq := cell_later hSw s2; have q2 := cell_later hSw q2; go_simp; (try with_reducible rfl); (try omega))
            (try simp only [Act.put, List.setIfInBounds_toArray, List.set_cons_zero, List.set_cons_succ, List.getElem_toArray, List.getElem_cons_zero, List.getElem_cons_succ])
            refine wpAnyH_take (i := 4) (v := ?_) rfl (by kernel_rfl) (by kernel_rfl) (by kernel_rfl) (fun _ _ _ h => h) (Or.inl ⟨by rfl, ?_⟩) (by assumption) ?_
            rotate_left
            · (intro wx hSw; have qq := cell_later hSw s2; have q2 := cell_later hSw q2; go_simp; (try with_reducible rfl); (try omega))
            (try simp only [Act.put, List.setIfInBounds_toArray, List.set_cons_zero, List.set_cons_succ, List.getElem_toArray, List.getElem_cons_zero, List.getElem_cons_succ])
            refine wpAnyH_take (i := 5) (v := ?_) rfl (by kernel_rfl) (by kernel_rfl) (by kernel_rfl) (fun _ _ _ h => h) (Or.inl ⟨by rfl, ?_⟩) (by assumption) ?_
            rotate_left
            · (intro wx hSw; have qq := cell_later hSw s2; have q2 := cell_later hSw q2; go_simp; (try with_reducible rfl); (try omega))
            (try simp only [Act.put, List.setIfInBounds_toArray, List.set_cons_zero, List.set_cons_succ, List.getElem_toArray, List.getElem_cons_zero, List.getElem_cons_succ])
            refine wpAnyH_take (i := 6) (v := ?_) rfl (by kernel_rfl) (by kernel_rfl) (by kernel_rfl) (fun _ _ _ h => h) (Or.inl ⟨by rfl, ?_⟩) (by assumption) ?_
            rotate_left
            · (intro wx hSw; have qq := cell_later hSw s2; have q2 := cell_later hSw q2; go_simp; (try with_reducible rfl); (try omega))
            (try simp only [Act.put, List.setIfInBounds_toArray, List.set_cons_zero, List.set_cons_succ, List.getElem_toArray, List.getElem_cons_zero, List.getElem_cons_succ])
            refine wpAnyH_take (i := 7) (v := ?_) rfl (by kernel_rfl) (by kernel_rfl) (by kernel_rfl) (fun _ _ _ h => h) (Or.inl ⟨by rfl, ?_⟩) (by assumption) ?_
            rotate_left
            · (intro wx hSw; have qq := cell_later hSw s2; have q2 := cell_later hSw q2; go_simp; (try with_reducible rfl); (try omega))
            (try simp only [Act.put, List.setIfInBounds_toArray, List.set_cons_zero, List.set_cons_succ, List.getElem_toArray, List.getElem_cons_zero, List.getElem_cons_succ])
            refine wpAnyH_take (i := 8) (v := ?_) rfl (by kernel_rfl) (by kernel_rfl) (by kernel_rfl) (fun _ _ _ h => h) (Or.inl ⟨by rfl, ?_⟩) (by assumption) ?_
            rotate_left
            · (intro wx hSw; have qq := cell_later hSw s2; have q2 := cell_later hSw q2; go_simp; (try with_reducible rfl); (try omega))
            (try simp only [Act.put, List.setIfInBounds_toArray, List.set_cons_zero, List.set_cons_succ, List.getElem_toArray, List.getElem_cons_zero, List.getElem_cons_succ])
            refine wpAnyH_take (i := 9) (v := ?_) rfl (by kernel_rfl) (by kernel_rfl) (by kernel_rfl) (fun _ _ _ h => h) (Or.inl ⟨by rfl, ?_⟩) (by assumption) ?_
            rotate_left
            · (intro wx hSw; have qq := cell_later hSw s2; have q2 := cell_later hSw q2; go_simp; (try with_reducible rfl); (try omega))
            (try simp only [Act.put, List.setIfInBounds_toArray, List.set_cons_zero, List.set_cons_succ, List.getElem_toArray, List.getElem_cons_zero, List.getElem_cons_succ])
            refine wpAnyH_take (i := 10) (v := ?_) rfl (by kernel_rfl) (by kernel_rfl) (by kernel_rfl) (fun _ _ _ h => h) (Or.inl ⟨by rfl, ?_⟩) (by assumption) ?_
            rotate_left
            · (intro wx hSw; have qq := cell_later hSw s2; have q2 := cell_later hSw q2; go_simp; (try with_reducible rfl); (try omega))
            (try simp only [Act.put, List.setIfInBounds_toArray, List.set_cons_zero, List.set_cons_succ, List.getElem_toArray, List.getElem_cons_zero, List.getElem_cons_succ])
            refine wpAnyH_take (i := 11) (v := ?_) rfl (by kernel_rfl) (by kernel_rfl) (by kernel_rfl) (fun _ _ _ h => h) (Or.inl ⟨by rfl, ?_⟩) (by assumption) ?_
            rotate_left
            · (intro wx hSw; have qq := cell_later hSw s2; have q2 := cell_later hSw q2; go_simp; (try with_reducible rfl); (try omega))
            (try simp only [Act.put, List.setIfInBounds_toArray, List.set_cons_zero, List.set_cons_succ, List.getElem_toArray, List.getElem_cons_zero, List.getElem_cons_succ])
            refine wpAnyH_take (i := 12) (v := ?_) rfl (by kernel_rfl) (by kernel_rfl) (by kernel_rfl) (fun _ _ _ h => h) (Or.inl ⟨by rfl, ?_⟩) (by assumption) ?_
            rotate_left
            · (intro wx hSw; have qq := cell_later hSw s2; have q2 := cell_later hSw q2; go_simp; (try with_reducible rfl); (try omega))
            (try simp only [Act.put, List.setIfInBounds_toArray, List.set_cons_zero, List.set_cons_succ, List.getElem_toArray, List.getElem_cons_zero, List.getElem_cons_succ])
            refine wpAnyH_done (by kernel_rfl) ?_ _
            clear hu0 hu1 hu2 hu3 hu4 s2 hB0
            have q0 := hQ.v4.v.cell 0 rfl
            have q1 := hQ.v4.v.cell 1 rfl
            have CP := trPurge_any 0 a8 c8 F8 k W0 hQ.lg.ents (by have := HINV.out.few; rw [List.length_map] at this; omega)
            rw [hQ.ln] at CP
            have HCP := hid0 CP
            have HQ := hid0 hQ
            clear hQ CP q2
            go_wp2_with fail
            refine Calls.mono HCP.out ?_
            rintro e WR ⟨vR, FR, rfl, hMR, hFR⟩
            have hQ := HQ.out.below hMR.b
            obtain ⟨aR, cR, rfl, _, _⟩ := hMR.ents
            have hGR := hMR.logG w.heap.size
            obtain ⟨nR, hnR⟩ : ∃ nR, FR.length = nR := ⟨_, rfl⟩
            have HFR := hid0 hFR
            obtain ⟨mx, hmx⟩ : ∃ mx : Nat, max low k = mx := ⟨_, rfl⟩
            have hmi : max (low : Int) (k : Int) = (mx : Int) := by rw [← hmx, Int.max_def, Nat.max_def]; split <;> split <;> omega
            have hZ := hid0 ((hQ.setLog (c' := cR) hGR hnR).setLow (mx : Int))
            have HMX := hid0 hmx
            have HIN2 := hid0 (show InvT (i + 1) (FR.map dat) ((Bs ++ [(⟨a9, c9, E9⟩ : Bg)]).map Bg.prs) mx by
              rw [HFR.out, ← HMX.out]
              exact HINV.out.purge (by have := HKL.out; have := HM2.out; omega))
            have q0 := hQ.v4.v.cell 0 rfl
            have q1 := hQ.v4.v.cell 1 rfl
            have q3 := hQ.v4.v.cell 3 rfl
            have y0 := hQ.v4.v.frz 0 (by simp)
            have y1 := hQ.v4.v.frz 1 (by simp)
            have y3 := hQ.v4.v.frz 3 (by simp)
            rw [hnR]
            clear hQ hMR hGR hFR HQ HCP hmx hnR
            go_wp2_with fail
            exact ⟨⟨i + 1, aR, nR, cR, FR, aB, mB, cB, Bs ++ [⟨a9, c9, E9⟩], mx, by omega, by omega, by go_num, hZ.out, HIN2⟩, by simp [intOf]; omega⟩
        · have hz : ¬ 4000 < sizeS (R1.map pr) := fun h => hbig (sizeS_le.1 h)
          have hRS : absS (R1.map pr) ≤ 4000 := by omega
          generalize sizeS (R1.map pr) = z at hz ⊢
          have hd : decide (4000 < z) = false := by simpa using hz
          have hRI := HRI.out
          have hRR := HRB.out
          have hRG := HRG.out
          have HRL := hid0 (show R1.length ≤ 4000 by have := len_abs (rightE_rises hRR); rw [List.length_map] at this; omega)
          clear hb7 HP7 HX7 CZ HRI HRB hbig HRG
          have c0 := hP.v4.v.cell 0 rfl
          have c1 := hP.v4.v.cell 1 rfl
          have c2 := hP.v4.v.cell 2 rfl
          have HP := hid0 hP
          have hA0 := trAdd_any 0 la lc L nb r1 k1 R1 W7 hP.lg.ents hRI (by have := HI.out.few; rw [List.length_map] at this; omega)
          have hadd := play_add HI.out hRR hRS
          rw [← HNB.out] at hadd
          rw [hP.ln, hadd, HM1.out] at hA0
          have HA0 := hid0 hA0
          have HADD := hid0 (fun (W : World) (hx : BagG W w.heap.size x) (hr : BagG W w.heap.size ⟨r1, k1, R1⟩) => (show Calls Try.prog 10 #[.slice x.a nx x.c, .slice r1 m1 k1] W (OfAns2 W (x.E.map pr ++ R1.map pr)) from by
            have h := refAdd2 x.a r1 x.c k1 x.E R1 W hx.elems hr.elems (by have := HXS.out.2; have := HRL.out; omega) (by rw [absS_append]; have := HXS.out.1; omega)
            rwa [HNX.out, HM1.out] at h))
          have HRS := hid0 hRS
          have HX7b := hid0 hX
          have HR7 := hid0 hRG
          clear hRG hP hA0 hRI hRR hRS hX hadd
          go_wp2_with fail
          refine Calls.mono HA0.out ?_
          rintro e W8 ⟨v8, F8, rfl, hM8, hF8⟩
          have hP := HP.out.below hM8.b
          have hb78 := hM8.b
          obtain ⟨a8, c8, rfl, _, _⟩ := hM8.ents
          have hG8 := hM8.logG w.heap.size
          obtain ⟨n8, hn8⟩ : ∃ n8, F8.length = n8 := ⟨_, rfl⟩
          have HN8 := hid0 hn8
          have HF8 := hid0 (show F8.map dat = L.map dat ++ entsD (nb : Int) (R1.map pr) from hF8)
          rw [hn8]
          have hP8 := hP
          clear hM8 hF8 hn8 hP HP
          have c0 := hP8.v4.v.cell 0 rfl
          have c1 := hP8.v4.v.cell 1 rfl
          have y0 := hP8.v4.v.frz 0 (by simp)
          have y1 := hP8.v4.v.frz 1 (by simp)
          have hlt8 := hP8.v4.v.lt
          have hP9 := hP8.setLog (c' := c8) hG8 HN8.out
          have V8 := VarB.new W8 [.int .i64 0, .slice a8 n8 c8] 25
          have z0 := V8.cell 0 rfl
          have z1 := V8.cell 1 rfl
          have hKK : KeptK w.heap.size W8 ((W8.setCell ⟨b4, 0, none⟩ (.int .i64 0)).setCell ⟨b4, 1, none⟩ (.slice a8 n8 c8)) := KeptK.puts hP8.v4 (by have := hP8.lo; omega) played3 0 [.int .i64 0, .slice a8 n8 c8]
          have hAl : Below ((W8.setCell ⟨b4, 0, none⟩ (.int .i64 0)).setCell ⟨b4, 1, none⟩ (.slice a8 n8 c8)).heap.size ((W8.setCell ⟨b4, 0, none⟩ (.int .i64 0)).setCell ⟨b4, 1, none⟩ (.slice a8 n8 c8)) (((W8.setCell ⟨b4, 0, none⟩ (.int .i64 0)).setCell ⟨b4, 1, none⟩ (.slice a8 n8 c8)).alloc (Obj.cells #[.int .i64 0, .slice a8 n8 c8] 25)) := (Below.refl _ _).alloc (Nat.le_refl _) _
          have hP10 := hP9.below hAl
          have HX10 := hid0 (((HX7b.out.below hb78).keptK hKK).below hAl)
          have HR10 := hid0 (((HR7.out.below hb78).keptK hKK).below hAl)
          have HP10 := hid0 hP10
          clear hP8 hP9 hG8 V8 hP10 hb78 hKK hAl HX7b HR7 HA0
          go_wp2_with fail
          clear y0 y1 z0 z1 c0 c1 hlt8
          have hA := HP10.out.a
          generalize ((W8.setCell ⟨b4, 0, none⟩ (.int .i64 0)).setCell ⟨b4, 1, none⟩ (.slice a8 n8 c8)).alloc (Obj.cells #[.int .i64 0, .slice a8 n8 c8] 25) = WX at hA HX10 HR10 HP10 ⊢
          refine wp_region_last (S := (fun W' => VarB W' b4 [.int .i64 0, .slice a8 n8 c8, .slice (some ⟨bb, ob, none⟩) nb cb, .int .i64 low])) 8 (by kernel_rfl) (by kernel_rfl) hA.v4.v.drew (fun hHeld => ?_)
          have hA := hA.below (Below.drew (Below.refl _ _))
          have HXY := hid0 (HX10.out.below (Below.drew (Below.refl _ _)))
          have HRY := hid0 (HR10.out.below (Below.drew (Below.refl _ _)))
          generalize WX.drew = WY at hA hHeld HXY HRY ⊢
          simp only [List.take_succ_cons, List.take_zero, List.drop_succ_cons, List.drop_zero]
          refine wpAnyH_take (i := 0) (v := ?_) rfl (by kernel_rfl) (by kernel_rfl) (by kernel_rfl) (fun _ _ _ h => h) (Or.inl ⟨by rfl, ?_⟩) (by assumption) ?_
          rotate_left
          · (intro wx hSw; have u2 := hSw.cell 2 rfl; go_simp; (try with_reducible rfl); (try omega))
          (try simp only [Act.put, List.setIfInBounds_toArray, List.set_cons_zero, List.set_cons_succ, List.getElem_toArray, List.getElem_cons_zero])
          refine wpAnyH_take (i := 1) (v := ?_) rfl (by kernel_rfl) (by kernel_rfl) (by kernel_rfl) (fun _ _ _ h => h) (Or.inl ⟨by rfl, ?_⟩) (by assumption) ?_
          rotate_left
          · (intro wx hSw; have u2 := hSw.cell 2 rfl; go_simp; (try with_reducible rfl); (try omega))
          (try simp only [Act.put, List.setIfInBounds_toArray, List.set_cons_zero, List.set_cons_succ, List.getElem_toArray, List.getElem_cons_zero, List.getElem_cons_succ])
          refine wpAnyH_take (i := 2) (v := ?_) rfl (by kernel_rfl) (by kernel_rfl) (by kernel_rfl) (fun _ _ _ h => h) (Or.inl ⟨by rfl, ?_⟩) (by assumption) ?_
          rotate_left
          · (intro wx hSw; have u2 := hSw.cell 2 rfl; go_simp; (try with_reducible rfl); (try omega))
          (try simp only [Act.put, List.setIfInBounds_toArray, List.set_cons_zero, List.set_cons_succ, List.getElem_toArray, List.getElem_cons_zero, List.getElem_cons_succ])
          refine wpAnyH_take (i := 3) (v := ?_) rfl (by kernel_rfl) (by kernel_rfl) (by kernel_rfl) (fun _ _ _ h => h) (Or.inl ⟨by rfl, ?_⟩) (by assumption) ?_
          rotate_left
          · (intro wx hSw; have u2 := hSw.cell 2 rfl; go_simp; (try with_reducible rfl); (try omega))
          (try simp only [Act.put, List.setIfInBounds_toArray, List.set_cons_zero, List.set_cons_succ, List.getElem_toArray, List.getElem_cons_zero, List.getElem_cons_succ])
          refine wpAnyH_ready (rs := [4]) (by kernel_rfl) (by simp) ?_
          refine AllReadyH.cons rfl (fun K hK => ?_) AllReadyH.nil
          go_simp
          refine (HADD.out _ HXY.out HRY.out).mono ?_
          rintro e W9 ⟨⟨a9, c9, E9, rfl, _, hE9, hm9, ht9, hg9⟩, hb9⟩
          have hA := hA.below hb9
          have HBG := hid0 (bagG_of (c := c9) w.heap.size hE9 ht9 hg9)
          have HM9 := hid0 hm9
          obtain ⟨n9, hn9⟩ : ∃ n9, E9.length = n9 := ⟨_, rfl⟩
          have HN9 := hid0 hn9
          rw [hn9]
          clear hb9 hE9 hm9 ht9 hg9 hn9
          refine hK.out _ _ hA.v4.v (fun hHeld => ?_)
          clear hK K
          (try simp only [Act.put, List.setIfInBounds_toArray, List.set_cons_zero, List.set_cons_succ, List.getElem_toArray, List.getElem_cons_zero, List.getElem_cons_succ])
          refine wpAnyH_ready (rs := [5]) (by kernel_rfl) (by simp) ?_
          refine AllReadyH.cons rfl (fun K hK => ?_) AllReadyH.nil
          go_simp
          have hA := hA.below ((Below.refl _ _).alloc (Nat.le_refl _) (Obj.cells #[.slice a9 n9 c9] 32))
          have HBG := hid0 (HBG.out.below ((Below.refl _ _).alloc (Nat.le_refl _) (Obj.cells #[.slice a9 n9 c9] 32)))
          have hX := (VarB.new W9 [.slice a9 n9 c9] 32).cell 0 rfl
          generalize W9.alloc (Obj.cells #[.slice a9 n9 c9] 32) = WA at hA HBG hX ⊢
          generalize W9.heap.size = bx at hX ⊢
          refine hK.out _ _ hA.v4.v (fun hHeld => ?_)
          clear hK K
          (try simp only [Act.put, List.setIfInBounds_toArray, List.set_cons_zero, List.set_cons_succ, List.getElem_toArray, List.getElem_cons_zero, List.getElem_cons_succ])
          refine wpAnyH_ready (rs := [6]) (by kernel_rfl) (by simp) ?_
          refine AllReadyH.cons rfl (fun K hK => ?_) AllReadyH.nil
          refine step_appG (by rfl) _ _ (by rfl) (by rfl) hA.bg ⟨a9, c9, E9⟩ bx (by rfl) (by rw [HN9.out]; exact hX) HBG.out (by have := HBL.out; omega) ?_
          intro vB WB hMB hKB
          have hA := hA.app hMB hKB
          obtain ⟨aB, cB, hvB, _, _⟩ := hMB.bags
          obtain ⟨mB, hmB⟩ : ∃ mB, (Bs ++ [(⟨a9, c9, E9⟩ : Bg)]).length = mB := ⟨_, rfl⟩
          rw [hmB] at hvB
          subst hvB
          have HMB := hid0 hmB
          clear hMB hKB hX hmB
          refine hK.out _ _ hA.v4.v (fun hHeld => ?_)
          clear hK K
          (try simp only [Act.put, List.setIfInBounds_toArray, List.set_cons_zero, List.set_cons_succ, List.getElem_toArray, List.getElem_cons_zero, List.getElem_cons_succ])
          refine wpAnyH_take (i := 7) (v := ?_) rfl (by kernel_rfl) (by kernel_rfl) (by kernel_rfl) (fun _ _ _ h => h) (Or.inl ⟨by rfl, ?_⟩) (by assumption) ?_
          rotate_left
          · (intro wx hSw; have u2 := hSw.cell 2 rfl; go_simp; (try with_reducible rfl); (try omega))
          (try simp only [Act.put, List.setIfInBounds_toArray, List.set_cons_zero, List.set_cons_succ, List.getElem_toArray, List.getElem_cons_zero, List.getElem_cons_succ])
          refine wpAnyH_done (by kernel_rfl) ?_ _
          show wpList _ _ _ _ _ _
          have f2 := hA.v4.v.frz 2 (by simp)
          have u2 := hA.v4.v.cell 2 rfl
          have HA := hid0 hA
          clear hA hHeld
          have hQ := HA.out.stored HMB.out
          have HINV := hid0 (show InvT (i + 1) (F8.map dat) ((Bs ++ [(⟨a9, c9, E9⟩ : Bg)]).map Bg.prs) low by
            rw [HF8.out, HNB.out, List.map_append]
            exact HXI.out _ _ HRS.out HM9.out)
          obtain ⟨s1, s2⟩ := HSC.out _ hQ.b
          have hin := HEL.out.2.2
          obtain ⟨sl, hsl⟩ : ∃ sl, st.l = sl := ⟨_, rfl⟩
          rw [hsl] at s2 hin
          clear hsl
          cases hpp : st.p with
          | false =>
            rw [hpp] at s1
            clear hpp
            go_wp2_with fail
            exact ⟨⟨i + 1, a8, n8, c8, F8, aB, mB, cB, Bs ++ [⟨a9, c9, E9⟩], low, by omega, by omega, by go_num, hQ, HINV⟩, by simp [intOf]; omega⟩
          | true =>
            rw [hpp] at s1
            clear hpp
            have HQ := hid0 hQ
            have HM2 := hid0 (show mB = i + 2 by rw [← HMB.out, List.length_append]; have := HINV.out.len; rw [List.length_map, List.length_append] at this; simp at this ⊢; omega)
            clear hQ
            go_wp2_with fail
            have hQ := HQ.out
            generalize WB.setCell ⟨b4, 2, none⟩ (.slice aB mB cB) = WP at hQ s1 s2 ⊢
            clear HQ s1 f2 u2
            have q2 := hQ.v4.v.cell 2 rfl
            obtain ⟨u, hu1⟩ : ∃ u : Nat, IntKind.u64.wrap sl = (u : Int) := ⟨(IntKind.u64.wrap sl).toNat, by rw [IntKind.wrap_u64]; omega⟩
            have hmB := HM2.out
            have hmB0 : 0 < mB := by omega
            have hu2 : IntKind.u64.wrap (mB : Int) = (mB : Int) := IntWalk.u64_in _ (by omega)
            have hu0 : ¬ mB = 0 := by omega
            obtain ⟨k, hk⟩ : ∃ k, u % mB = k := ⟨_, rfl⟩
            have HKL := hid0 (show k < mB by rw [← hk]; exact Nat.mod_lt _ hmB0)
            have hu3 : (u : Int).tmod (mB : Int) = (k : Int) := by rw [← hk]; rfl
            have hkm := HKL.out
            have hu4 : IntKind.i64.wrap (k : Int) = (k : Int) := IntWalk.i64_in _ (by omega)
            clear hk hmB hkm hmB0
            refine wp_region_held_drew (S := (fun W' => Below WP.drew.heap.size WP.drew W')) (by kernel_rfl) (Below.refl _ _) (fun hHeld => ?_)
            have hQ := hQ.drew
            have s2 : WP.drew.cell? _ = _ := s2
            have q2 : WP.drew.cell? _ = _ := q2
            have hB0 : Below WP.drew.heap.size WP.drew WP.drew := Below.refl _ _
            generalize WP.drew = W0 at hQ s2 q2 hB0 hHeld ⊢
            refine wpAnyH_take (i := 0) (v := ?_) rfl (by kernel_rfl) (by kernel_rfl) (by kernel_rfl) (fun _ _ _ h => h) (Or.inl ⟨by rfl, ?_⟩) (by assumption) ?_
            rotate_left
            · (intro wx hSw; have qq := cell_later hSw s2; have q2 := cell_later hSw q2; go_simp; (try with_reducible rfl); (try omega))
            (try simp only [Act.put, List.setIfInBounds_toArray, List.set_cons_zero, List.set_cons_succ, List.getElem_toArray, List.getElem_cons_zero])
            refine wpAnyH_take (i := 1) (v := ?_) rfl (by kernel_rfl) (by kernel_rfl) (by kernel_rfl) (fun _ _ _ h => h) (Or.inl ⟨by rfl, ?_⟩) (by assumption) ?_
            rotate_left
            · (intro wx hSw; have qq := cell_later hSw s2; have q2 := cell_later hSw q2; go_simp; (try with_reducible rfl); (try omega))
            (try simp only [Act.put, List.setIfInBounds_toArray, List.set_cons_zero, List.set_cons_succ, List.getElem_toArray, List.getElem_cons_zero, List.getElem_cons_succ])
            refine wpAnyH_take (i := 2) (v := ?_) rfl (by kernel_rfl) (by kernel_rfl) (by kernel_rfl) (fun _ _ _ h => h) (Or.inl ⟨by rfl, ?_⟩) (by assumption) ?_
            rotate_left
            · (intro wx hSw; have qq := cell_later hSw s2; have q2 := cell_later hSw q2; go_simp; (try with_reducible rfl); (try omega))
            (try simp only [Act.put, List.setIfInBounds_toArray, List.set_cons_zero, List.set_cons_succ, List.getElem_toArray, List.getElem_cons_zero, List.getElem_cons_succ])
            refine wpAnyH_take (i := 3) (v := ?_) rfl (by kernel_rfl) (by kernel_rfl) (by kernel_rfl) (fun _ _ _ h => h) (Or.inl ⟨by rfl, ?_⟩) (by assumption) ?_
            rotate_left
            · (intro wx hSw; have qq := cell_later hSw s2; have q2 := cell_later hSw q2; go_simp; (try with_reducible rfl); (try omega))
            (try simp only [Act.put, List.setIfInBounds_toArray, List.set_cons_zero, List.set_cons_succ, List.getElem_toArray, List.getElem_cons_zero, List.getElem_cons_succ])
            refine wpAnyH_take (i := 4) (v := ?_) rfl (by kernel_rfl) (by kernel_rfl) (by kernel_rfl) (fun _ _ _ h => h) (Or.inl ⟨by rfl, ?_⟩) (by assumption) ?_
            rotate_left
            · (intro wx hSw; have qq := cell_later hSw s2; have q2 := cell_later hSw q2; go_simp; (try with_reducible rfl); (try omega))
            (try simp only [Act.put, List.setIfInBounds_toArray, List.set_cons_zero, List.set_cons_succ, List.getElem_toArray, List.getElem_cons_zero, List.getElem_cons_succ])
            refine wpAnyH_take (i := 5) (v := ?_) rfl (by kernel_rfl) (by kernel_rfl) (by kernel_rfl) (fun _ _ _ h => h) (Or.inl ⟨by rfl, ?_⟩) (by assumption) ?_
            rotate_left
            · (intro wx hSw; have qq := cell_later hSw s2; have q2 := cell_later hSw q2; go_simp; (try with_reducible rfl); (try omega))
            (try simp only [Act.put, List.setIfInBounds_toArray, List.set_cons_zero, List.set_cons_succ, List.getElem_toArray, List.getElem_cons_zero, List.getElem_cons_succ])
            refine wpAnyH_take (i := 6) (v := ?_) rfl (by kernel_rfl) (by kernel_rfl) (by kernel_rfl) (fun _ _ _ h => h) (Or.inl ⟨by rfl, ?_⟩) (by assumption) ?_
            rotate_left
            · (intro wx hSw; have qq := cell_later hSw s2; have q2 := cell_later hSw q2; go_simp; (try with_reducible rfl); (try omega))
            (try simp only [Act.put, List.setIfInBounds_toArray, List.set_cons_zero, List.set_cons_succ, List.getElem_toArray, List.getElem_cons_zero, List.getElem_cons_succ])
            refine wpAnyH_take (i := 7) (v := ?_) rfl (by kernel_rfl) (by kernel_rfl) (by kernel_rfl) (fun _ _ _ h => h) (Or.inl ⟨by rfl, ?_⟩) (by assumption) ?_
            rotate_left
            · (intro wx hSw; have qq := cell_later hSw s2; have q2 := cell_later hSw q2; go_simp; (try with_reducible rfl); (try omega))
            (try simp only [Act.put, List.setIfInBounds_toArray, List.set_cons_zero, List.set_cons_succ, List.getElem_toArray, List.getElem_cons_zero, List.getElem_cons_succ])
            refine wpAnyH_take (i := 8) (v := ?_) rfl (by kernel_rfl) (by kernel_rfl) (by kernel_rfl) (fun _ _ _ h => h) (Or.inl ⟨by rfl, ?_⟩) (by assumption) ?_
            rotate_left
            · (intro wx hSw; have qq := cell_later hSw s2; have q2 := cell_later hSw q2; go_simp; (try with_reducible rfl); (try omega))
            (try simp only [Act.put, List.setIfInBounds_toArray, List.set_cons_zero, List.set_cons_succ, List.getElem_toArray, List.getElem_cons_zero, List.getElem_cons_succ])
            refine wpAnyH_take (i := 9) (v := ?_) rfl (by kernel_rfl) (by kernel_rfl) (by kernel_rfl) (fun _ _ _ h => h) (Or.inl ⟨by rfl, ?_⟩) (by assumption) ?_
            rotate_left
            · (intro wx hSw; have qq := cell_later hSw s2; have q2 := cell_later hSw q2; go_simp; (try with_reducible rfl); (try omega))
            (try simp only [Act.put, List.setIfInBounds_toArray, List.set_cons_zero, List.set_cons_succ, List.getElem_toArray, List.getElem_cons_zero, List.getElem_cons_succ])
            refine wpAnyH_take (i := 10) (v := ?_) rfl (by kernel_rfl) (by kernel_rfl) (by kernel_rfl) (fun _ _ _ h => h) (Or.inl ⟨by rfl, ?_⟩) (by assumption) ?_
            rotate_left
            · (intro wx hSw; have qq := cell_later hSw s2; have q2 := cell_later hSw q2; go_simp; (try with_reducible rfl); (try omega))
            (try simp only [Act.put, List.setIfInBounds_toArray, List.set_cons_zero, List.set_cons_succ, List.getElem_toArray, List.getElem_cons_zero, List.getElem_cons_succ])
            refine wpAnyH_take (i := 11) (v := ?_) rfl (by kernel_rfl) (by kernel_rfl) (by kernel_rfl) (fun _ _ _ h => h) (Or.inl ⟨by rfl, ?_⟩) (by assumption) ?_
            rotate_left
            · (intro wx hSw; have qq := cell_later hSw s2; have q2 := cell_later hSw q2; go_simp; (try with_reducible rfl); (try omega))
            (try simp only [Act.put, List.setIfInBounds_toArray, List.set_cons_zero, List.set_cons_succ, List.getElem_toArray, List.getElem_cons_zero, List.getElem_cons_succ])
            refine wpAnyH_take (i := 12) (v := ?_) rfl (by kernel_rfl) (by kernel_rfl) (by kernel_rfl) (fun _ _ _ h => h) (Or.inl ⟨by rfl, ?_⟩) (by assumption) ?_
            rotate_left
            · (intro wx hSw; have qq := cell_later hSw s2; have q2 := cell_later hSw q2; go_simp; (try with_reducible rfl); (try omega))
            (try simp only [Act.put, List.setIfInBounds_toArray, List.set_cons_zero, List.set_cons_succ, List.getElem_toArray, List.getElem_cons_zero, List.getElem_cons_succ])
            refine wpAnyH_done (by kernel_rfl) ?_ _
            clear hu0 hu1 hu2 hu3 hu4 s2 hB0
            have q0 := hQ.v4.v.cell 0 rfl
            have q1 := hQ.v4.v.cell 1 rfl
            have CP := trPurge_any 0 a8 c8 F8 k W0 hQ.lg.ents (by have := HINV.out.few; rw [List.length_map] at this; omega)
            rw [hQ.ln] at CP
            have HCP := hid0 CP
            have HQ := hid0 hQ
            clear hQ CP q2
            go_wp2_with fail
            refine Calls.mono HCP.out ?_
            rintro e WR ⟨vR, FR, rfl, hMR, hFR⟩
            have hQ := HQ.out.below hMR.b
            obtain ⟨aR, cR, rfl, _, _⟩ := hMR.ents
            have hGR := hMR.logG w.heap.size
            obtain ⟨nR, hnR⟩ : ∃ nR, FR.length = nR := ⟨_, rfl⟩
            have HFR := hid0 hFR
            obtain ⟨mx, hmx⟩ : ∃ mx : Nat, max low k = mx := ⟨_, rfl⟩
            have hmi : max (low : Int) (k : Int) = (mx : Int) := by rw [← hmx, Int.max_def, Nat.max_def]; split <;> split <;> omega
            have hZ := hid0 ((hQ.setLog (c' := cR) hGR hnR).setLow (mx : Int))
            have HMX := hid0 hmx
            have HIN2 := hid0 (show InvT (i + 1) (FR.map dat) ((Bs ++ [(⟨a9, c9, E9⟩ : Bg)]).map Bg.prs) mx by
              rw [HFR.out, ← HMX.out]
              exact HINV.out.purge (by have := HKL.out; have := HM2.out; omega))
            have q0 := hQ.v4.v.cell 0 rfl
            have q1 := hQ.v4.v.cell 1 rfl
            have q3 := hQ.v4.v.cell 3 rfl
            have y0 := hQ.v4.v.frz 0 (by simp)
            have y1 := hQ.v4.v.frz 1 (by simp)
            have y3 := hQ.v4.v.frz 3 (by simp)
            rw [hnR]
            clear hQ hMR hGR hFR HQ HCP hmx hnR
            go_wp2_with fail
            exact ⟨⟨i + 1, aR, nR, cR, FR, aB, mB, cB, Bs ++ [⟨a9, c9, E9⟩], mx, by omega, by omega, by go_num, hZ.out, HIN2⟩, by simp [intOf]; omega⟩
end Go.Proofs.Ytadidikegfiedab
