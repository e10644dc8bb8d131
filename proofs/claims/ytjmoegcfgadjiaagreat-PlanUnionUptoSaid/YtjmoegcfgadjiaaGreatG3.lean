/- Several of my texts laid together, each as it was: Q7, Q8. Conditions: each names its own. -/
import Derived.Test.YtjmoegcfgadjiaaGreatG2
/- slices.rotateCmpFunc over a list of one's own: a contract of the call, in whatever memory. Conditions: the list's cells are known; the pieces lie in it. -/
namespace Go.Proofs.YtjmoegcfgadjiaaGreat
open Go.RowKit

set_option maxHeartbeats 4000000 in
set_option maxRecDepth 1000000 in
theorem rot_any (w0 w1 : World) (g n cap vb : Nat) (pv : Value) (E0 P X Y S : List Elem) (a m b : Nat) (w : World) (hS : St w0 w1 g n cap vb pv E0 (P ++ X ++ Y ++ S) w) (ha : P.length = a) (hm : a + X.length = m) (hb : m + Y.length = b) (h1 : a < m) (h2 : m < b) (hn : n ≤ 1000000) :
    Calls Tryz.prog 300 #[.slice (some ⟨g, 0, none⟩) n cap, .int .i64 a, .int .i64 m, .int .i64 b, .func (.func 187) #[] #[.pointer (some ⟨vb, 0, none⟩)]] w fun e w' => e = .returned (.tuple #[]) ∧ St w0 w1 g n cap vb pv E0 (P ++ Y ++ X ++ S) w' := by
  have hbn : b ≤ n := by
    have := hS.len
    simp only [List.length_append] at this
    omega
  obtain ⟨T, hT⟩ : ∃ T, P ++ Y ++ X ++ S = T := ⟨_, rfl⟩
  rw [hT]
  have HS := hid0 hS
  have HR := hid0 (show Rot T m (m - a) (b - m) (P ++ X ++ Y ++ S) P X Y S from ⟨rfl, hT.symm, by omega, by omega, by omega⟩)
  have hw1 : IntKind.i64.wrap ((m : Int) - a) = ((m - a : Nat) : Int) := by rw [IntWalk.i64_in _ (by omega)]; omega
  have hw2 : IntKind.i64.wrap ((b : Int) - m) = ((b - m : Nat) : Int) := by rw [IntWalk.i64_in _ (by omega)]; omega
  have hi0 : 0 < m - a := by omega
  have hj0 : 0 < b - m := by omega
  have hij : (m - a) + (b - m) ≤ n := by omega
  have him : m - a ≤ m := by omega
  have hmj : m + (b - m) ≤ n := by omega
  generalize m - a = i0 at HR hw1 hi0 hij him
  generalize b - m = j0 at HR hw2 hj0 hij hmj
  clear hS ha hm hb h1 h2 hT
  go_enter Tryz.func300, Tryz.ntmps300
  go_wp2
  go_loopw [10, 11] (fun iv jv wr => ∃ (i j : Nat) (F P1 X1 Y1 S1 : List Elem), 0 < i ∧ 0 < j ∧ i ≤ m ∧ m + j ≤ n ∧ iv = .int .i64 i ∧ jv = .int .i64 j ∧ Hid (Rot T m i j F P1 X1 Y1 S1) ∧ Hid (St w0 w1 g n cap vb pv E0 F wr)) (fun iv jv _ => (intOf iv).toNat + (intOf jv).toNat)
  case atStart => exact ⟨i0, j0, _, P, X, Y, S, hi0, hj0, him, hmj, rfl, rfl, HR, HS⟩
  case round =>
    clear HS HR hw1 hw2 hi0 hj0 hij him hmj
    obtain ⟨i, j, F, P1, X1, Y1, S1, hi, hj, him, hmj, rfl, rfl, hR, hS⟩ := hrel
    obtain ⟨p, hp⟩ : ∃ p, m - i = p := ⟨_, rfl⟩
    have hwp : IntKind.i64.wrap ((m : Int) - i) = (p : Int) := by rw [IntWalk.i64_in _ (by omega)]; omega
    have hpl : P1.length = p := by have := hR.out.m; omega
    have hlx := hR.out.li
    have hly := hR.out.lj
    rcases Nat.lt_trichotomy i j with hlt | heq | hgt
    · obtain ⟨e1, hR2⟩ := hR.out.right hlt
      obtain ⟨q, hq⟩ : ∃ q, m + j = q := ⟨_, rfl⟩
      obtain ⟨r, hr⟩ : ∃ r, q - i = r := ⟨_, rfl⟩
      have hwq : IntKind.i64.wrap ((m : Int) + j) = (q : Int) := by rw [IntWalk.i64_in _ (by omega)]; omega
      have hwr : IntKind.i64.wrap ((q : Int) - i) = (r : Int) := by rw [IntWalk.i64_in _ (by omega)]; omega
      have hwj : IntKind.i64.wrap ((j : Int) - i) = ((j - i : Nat) : Int) := by rw [IntWalk.i64_in _ (by omega)]; omega
      have CA := swR_any w0 w1 g n cap vb pv E0 P1 X1 (Y1.take (j - i)) (Y1.drop (j - i)) S1 p r i wr (by rw [← e1]; exact hS.out) hpl hlx (by rw [List.length_drop]; omega) (by rw [List.length_take]; omega) hn
      rw [swR_all _ _ _ _ _ i hlx (by rw [List.length_drop]; omega)] at CA
      have HC := hid0 CA
      have HR2 := hid0 hR2
      have hne : ¬ (i : Int) = (j : Int) := by omega
      have hng : decide ((j : Int) < (i : Int)) = false := by simp; omega
      have hnl : ¬ (j : Int) < (i : Int) := by omega
      clear CA hR2 e1 hR hS hpl hlx hly hp hr hq
      have hji : 0 < j - i := by omega
      have hmj2 : m + (j - i) ≤ n := by omega
      have hlt2 : i + (j - i) < i + j := by omega
      generalize j - i = j2 at HR2 HC hwj hji hmj2 hlt2
      clear hlt
      go_wp2_with (first | (go_at_call 319; go_must (refine HC.out.mono ?_; rintro e w2 ⟨rfl, hS2⟩; (have hS2 := hid0 hS2))) | fail)
      exact ⟨⟨i, j2, _, _, _, _, _, hi, hji, him, hmj2, rfl, by go_num, HR2, hS2⟩, by simp [intOf]; omega⟩
    · subst heq
      obtain ⟨e1, e2⟩ := hR.out.last
      have CA := swR_any w0 w1 g n cap vb pv E0 P1 X1 [] Y1 S1 p m i wr (by rw [← e1]; exact hS.out) hpl hlx hly (by simp; omega) hn
      rw [swR_all _ _ _ _ _ i hlx hly, ← e2] at CA
      have HC := hid0 CA
      clear CA e1 e2 hR hS hpl hlx hly hp
      go_wp2_with (first | (go_at_call 319; go_must (refine HC.out.mono ?_; rintro e w2 ⟨rfl, hS2⟩; (have hS2 := hid0 hS2))) | fail)
      go_returns
      exact ⟨rfl, hS2.out⟩
    · obtain ⟨e1, hR2⟩ := hR.out.left hgt
      have hwi : IntKind.i64.wrap ((i : Int) - j) = ((i - j : Nat) : Int) := by rw [IntWalk.i64_in _ (by omega)]; omega
      have CA := swR_any w0 w1 g n cap vb pv E0 P1 (X1.take j) (X1.drop j) Y1 S1 p m j wr (by rw [← e1]; exact hS.out) hpl (by rw [List.length_take]; omega) hly (by rw [List.length_drop]; omega) hn
      rw [swR_all _ _ _ _ _ j (by rw [List.length_take]; omega) hly] at CA
      have HC := hid0 CA
      have HR2 := hid0 hR2
      have hne : ¬ (i : Int) = (j : Int) := by omega
      have hng : (j : Int) < (i : Int) := by omega
      clear CA hR2 e1 hR hS hpl hlx hly hp
      have hji : 0 < i - j := by omega
      have him2 : i - j ≤ m := by omega
      have hlt2 : (i - j) + j < i + j := by omega
      generalize i - j = i2 at HR2 hwi hji him2 hlt2
      clear hgt
      go_wp2_with (first | (go_at_call 319; go_must (refine HC.out.mono ?_; rintro e w2 ⟨rfl, hS2⟩; (have hS2 := hid0 hS2))) | fail)
      exact ⟨⟨i2, j, _, _, _, _, _, hji, hj, him2, hmj, by go_num, rfl, HR2, hS2⟩, by simp [intOf]; omega⟩
end Go.Proofs.YtjmoegcfgadjiaaGreat

/- slices.insertionSortCmpFunc over a list of one's own: a contract of the call, in whatever memory. Conditions: the list's cells are known; the order answers whenever it is asked. -/
namespace Go.Proofs.YtjmoegcfgadjiaaGreat
open Go.RowKit

theorem at_mid {P U R : List Elem} {x : Elem} {j : Nat} (hj : P.length + U.length = j) (h : j < (P ++ U ++ x :: R).length) : (P ++ U ++ x :: R)[j] = x := by
  subst hj
  rw [List.getElem_append_right (by rw [List.length_append]; omega)]
  simp
theorem ins_swap {P U R : List Elem} {u x : Elem} {j jm : Nat} (hj : P.length + U.length + 1 = j) (hm : P.length + U.length = jm) (h1 : j < (P ++ (U ++ [u]) ++ x :: R).length) (h2 : jm < (P ++ (U ++ [u]) ++ x :: R).length) :
    swp (P ++ (U ++ [u]) ++ x :: R) j jm h1 h2 = P ++ U ++ x :: (u :: R) := by
  rw [swp_comm _ _ _ _ _ (by omega)]
  have e : P ++ (U ++ [u]) ++ x :: R = (P ++ U) ++ u :: ([] ++ x :: R) := by simp
  revert h1 h2
  rw [e]
  intro h1 h2
  rw [swp_app (P ++ U) [] R u x jm j (by rw [List.length_append]; omega) (by rw [List.length_append]; simp; omega)]
  simp
/-- While one is laid into its place: what is ahead of it, what is behind. -/
structure InsI (gs : List Int) (P A S : List Elem) (a k j : Nat) (x : Elem) (U V : List Elem) (F : List Elem) : Prop where
  eq : F = P ++ U ++ x :: (V ++ (A.drop (k + 1) ++ S))
  so : srt (leE gs) (A.take k) = U ++ V
  j : a + U.length = j
  gt : ∀ v ∈ V, leE gs v x = false
theorem InsI.done {gs : List Int} {P A S : List Elem} {a k j : Nat} {x : Elem} {U V F : List Elem} (h : InsI gs P A S a k j x U V F) (hk : k < A.length) (hx : A[k] = x) (hu : ∀ u ∈ U, leE gs u x = true) : F = P ++ srt (leE gs) (A.take (k + 1)) ++ A.drop (k + 1) ++ S := by
  have e : srt (leE gs) (A.take (k + 1)) = U ++ x :: V := by
    rw [List.take_succ_eq_append_getElem hk, hx, ← srt_srt_app (leE_LeT gs), h.so]
    exact ins_behind (leE_LeT gs) (by rw [← h.so]; exact srt_srd (leE_LeT gs) _) hu h.gt
  rw [e, h.eq]; simp
set_option maxHeartbeats 8000000 in
set_option maxRecDepth 1000000 in
theorem insS_any (w0 w1 : World) (g n cap vb : Nat) (pv : Value) (gs : List Int) (E0 P A S : List Elem) (a b : Nat) (w : World) (hO : OrdS w0 vb pv gs E0) (hS : St w0 w1 g n cap vb pv E0 (P ++ A ++ S) w) (ha : P.length = a) (hb : a + A.length = b) (hn : n ≤ 1000000) :
    Calls Tryz.prog 281 #[.slice (some ⟨g, 0, none⟩) n cap, .int .i64 a, .int .i64 b, .func (.func 187) #[] #[.pointer (some ⟨vb, 0, none⟩)]] w fun e w' => e = .returned (.tuple #[]) ∧ St w0 w1 g n cap vb pv E0 (P ++ srt (leE gs) A ++ S) w' := by
  have hbn : b ≤ n := by
    have := hS.len
    simp only [List.length_append] at this
    omega
  have HO := hid0 hO
  have HA := hid0 ha
  have HB := hid0 hb
  have HS : Hid (St w0 w1 g n cap vb pv E0 (P ++ srt (leE gs) (A.take 1) ++ A.drop 1 ++ S) w) := hid0 (by
    have e : srt (leE gs) (A.take 1) ++ A.drop 1 = A := by
      cases A with
      | nil => rfl
      | cons x A => rfl
    rw [List.append_assoc P, e]; exact hS)
  have hab : a ≤ b := by omega
  obtain ⟨RR, hRR⟩ : ∃ RR, P ++ srt (leE gs) A ++ S = RR := ⟨_, rfl⟩
  rw [hRR]
  have HRR := hid0 hRR
  clear hS hO ha hb hRR
  have hw0 : IntKind.i64.wrap ((a : Int) + 1) = ((a + 1 : Nat) : Int) := by rw [IntWalk.i64_in _ (by omega)]; omega
  go_enter Tryz.func281, Tryz.ntmps281
  go_wp2
  go_loopw [8] (fun iv wr => ∃ i k : Nat, Hid (a + k = i) ∧ a < i ∧ i ≤ b + 1 ∧ iv = .int .i64 i ∧ Hid (St w0 w1 g n cap vb pv E0 (P ++ srt (leE gs) (A.take k) ++ A.drop k ++ S) wr)) (fun iv _ => b + 1 - (intOf iv).toNat)
  case atStart => exact ⟨a + 1, 1, hid0 rfl, by omega, by omega, rfl, HS⟩
  case round =>
    clear HS hw0
    obtain ⟨i, k, HK, hai, hi, rfl, hT⟩ := hrel
    by_cases hlt : i < b
    · have hk : k < A.length := by have := HK.out; have := HB.out; omega
      have HKL := hid0 hk
      obtain ⟨x, hx⟩ : ∃ x, A[k] = x := ⟨_, rfl⟩
      have hF0 : P ++ srt (leE gs) (A.take k) ++ A.drop k ++ S = P ++ srt (leE gs) (A.take k) ++ x :: ([] ++ (A.drop (k + 1) ++ S)) := by
        have e : A.drop k = x :: A.drop (k + 1) := by rw [← hx]; exact List.drop_eq_getElem_cons hk
        rw [e]; simp
      have hT0 := hT.out
      have hxm : x ∈ E0 := hT0.mem x (by rw [hF0]; simp)
      have HI := hid0 (show InsI gs P A S a k i x (srt (leE gs) (A.take k)) [] (P ++ srt (leE gs) (A.take k) ++ A.drop k ++ S) from ⟨hF0, by simp, by rw [srt_len, List.length_take]; have := HK.out; omega, fun v hv => absurd hv (by simp)⟩)
      have HX := hid0 hx
      have hin : (i : Int) < (b : Int) := by omega
      have hw1 : IntKind.i64.wrap ((i : Int) + 1) = ((i + 1 : Nat) : Int) := by rw [IntWalk.i64_in _ (by omega)]; omega
      clear hT0 hF0 hk hx
      go_wp2_with fail
      go_loopw [9] (fun jv wr => ∃ (j : Nat) (U V F : List Elem), a ≤ j ∧ j ≤ i ∧ jv = .int .i64 j ∧ Hid (InsI gs P A S a k j x U V F) ∧ Hid (St w0 w1 g n cap vb pv E0 F wr)) (fun jv _ => (intOf jv).toNat)
      case atStart => exact ⟨i, _, _, _, by omega, Nat.le_refl _, rfl, HI, hT⟩
      case round =>
        clear HI hT
        obtain ⟨j, U, V, F, haj, hji, rfl, HI, hT⟩ := hrel
        by_cases hj : a < j
        · obtain ⟨jm, hjm⟩ : ∃ jm, jm + 1 = j := ⟨j - 1, by omega⟩
          have hUl := HI.out.j
          obtain ⟨U1, u, hU⟩ : ∃ U1 u, U = U1 ++ [u] := by
            rcases List.eq_nil_or_concat U with e | ⟨U1, u, e⟩
            · rw [e] at hUl; simp at hUl; omega
            · exact ⟨U1, u, by rw [e, List.concat_eq_append]⟩
          subst hU
          simp only [List.length_append, List.length_singleton] at hUl
          have hF := HI.out.eq
          have hTD := hT.out.drew
          have hlen := hTD.len
          have hjF : j < F.length := by omega
          have hmF : jm < F.length := by omega
          have ej : F[j] = x := by
            have : ∀ h : j < (P ++ (U1 ++ [u]) ++ x :: (V ++ (A.drop (k + 1) ++ S))).length, (P ++ (U1 ++ [u]) ++ x :: (V ++ (A.drop (k + 1) ++ S)))[j] = x := fun h => at_mid (by rw [HA.out]; simp; omega) h
            simp only [hF]; exact this _
          have em : F[jm] = u := by
            have e2 : F = P ++ U1 ++ u :: (x :: (V ++ (A.drop (k + 1) ++ S))) := by rw [hF]; simp
            simp only [e2]; exact at_mid (by rw [HA.out]; omega) _
          have hum : u ∈ E0 := by rw [← em]; exact hTD.mem _ (List.getElem_mem hmF)
          have hS := hTD.two hjF hmF
          rw [ej, em] at hS
          have HSP := hid0 (show swp F j jm hjF hmF = P ++ U1 ++ x :: (u :: (V ++ (A.drop (k + 1) ++ S))) by
            simp only [hF]; exact ins_swap (by rw [HA.out]; omega) (by rw [HA.out]; omega) _ _)
          have HNX := hid0 (fun (hlx : leE gs u x = false) => (show InsI gs P A S a k jm x U1 (u :: V) (swp F j jm hjF hmF) from ⟨by rw [HSP.out]; simp, by have := HI.out.so; rw [this]; simp, by omega, fun v hv => by
            rcases List.mem_cons.1 hv with rfl | hv
            · exact hlx
            · exact HI.out.gt v hv⟩))
          have HDN := hid0 (fun (hlx : leE gs u x = true) => HI.out.done HKL.out HX.out (fun y hy => by
            rcases List.mem_append.1 hy with hy | hy
            · have hs : Srd (leE gs) (U1 ++ [u] ++ V) := by rw [← HI.out.so]; exact srt_srd (leE_LeT gs) _
              have := (List.pairwise_append.1 (List.pairwise_append.1 hs).1).2.2 y hy u (by simp)
              exact (leE_LeT gs).trans _ _ _ this hlx
            · obtain rfl := List.mem_singleton.1 hy; exact hlx))
          have HSW := hid0 (fun (W : World) (hW : St w0 w1 g n cap vb pv E0 F W) => hW.swap hjF hmF)
          have HKU := hid0 (lt_leE (gs := gs) (x := x) (y := u))
          have HEJ := hid0 ej
          have HEM := hid0 em
          obtain ⟨kx, hkx⟩ : ∃ kx, keyA gs x.r u.r = kx := ⟨_, rfl⟩
          have HKX := hid0 hkx
          have hda : decide ((a : Int) < (j : Int)) = true := by simp; omega
          have hwj : IntKind.i64.wrap ((j : Int) - 1) = (jm : Int) := by rw [IntWalk.i64_in _ (by omega)]; omega
          have hjn : (j : Int) < (n : Int) := by omega
          have hmn : (jm : Int) < (n : Int) := by omega
          have hmi : jm ≤ i := by omega
          have hma : a ≤ jm := by omega
          have hmlt : jm < j := by omega
          have hjN : j < n := by omega
          have hmN : jm < n := by omega
          have HHJ := hid0 hjm
          clear hUl hF hTD hlen ej em hkx hjm
          go_wp2_with fail
          refine wp_region_held_drew (S := StC w0 w1 g n cap vb pv E0 F j x jm u) (by kernel_rfl) hS (fun hHeld => ?_)
          refine wpAnyH_take (i := 0) (v := ?_) rfl (by kernel_rfl) (by kernel_rfl) (by kernel_rfl) (fun _ _ _ h => h) (Or.inl ⟨by rfl, ?_⟩) (by assumption) ?_
          rotate_left
          · (intro wx hSw; have z0 := hSw.x0; have z1 := hSw.x1; have z2 := hSw.y0; have z3 := hSw.y1; go_simp; (try with_reducible rfl); (try omega))
          (try simp only [Act.put, List.setIfInBounds_toArray, List.set_cons_zero, List.set_cons_succ, List.getElem_toArray, List.getElem_cons_zero])
          refine wpAnyH_take (i := 1) (v := ?_) rfl (by kernel_rfl) (by kernel_rfl) (by kernel_rfl) (fun _ _ _ h => h) (Or.inl ⟨by rfl, ?_⟩) (by assumption) ?_
          rotate_left
          · (intro wx hSw; have z0 := hSw.x0; have z1 := hSw.x1; have z2 := hSw.y0; have z3 := hSw.y1; go_simp; (try with_reducible rfl); (try omega))
          (try simp only [Act.put, List.setIfInBounds_toArray, List.set_cons_zero, List.set_cons_succ, List.getElem_toArray, List.getElem_cons_zero, List.getElem_cons_succ])
          refine wpAnyH_take (i := 2) (v := ?_) rfl (by kernel_rfl) (by kernel_rfl) (by kernel_rfl) (fun _ _ _ h => h) (Or.inl ⟨by rfl, ?_⟩) (by assumption) ?_
          rotate_left
          · (intro wx hSw; have z0 := hSw.x0; have z1 := hSw.x1; have z2 := hSw.y0; have z3 := hSw.y1; go_simp; (try with_reducible rfl); (try omega))
          (try simp only [Act.put, List.setIfInBounds_toArray, List.set_cons_zero, List.set_cons_succ, List.getElem_toArray, List.getElem_cons_zero, List.getElem_cons_succ])
          refine wpAnyH_take (i := 3) (v := ?_) rfl (by kernel_rfl) (by kernel_rfl) (by kernel_rfl) (fun _ _ _ h => h) (Or.inl ⟨by rfl, ?_⟩) (by assumption) ?_
          rotate_left
          · (intro wx hSw; have z0 := hSw.x0; have z1 := hSw.x1; have z2 := hSw.y0; have z3 := hSw.y1; go_simp; (try with_reducible rfl); (try omega))
          (try simp only [Act.put, List.setIfInBounds_toArray, List.set_cons_zero, List.set_cons_succ, List.getElem_toArray, List.getElem_cons_zero, List.getElem_cons_succ])
          refine wpAnyH_take (i := 4) (v := ?_) rfl (by kernel_rfl) (by kernel_rfl) (by kernel_rfl) (fun _ _ _ h => h) (Or.inl ⟨by rfl, ?_⟩) (by assumption) ?_
          rotate_left
          · (intro wx hSw; have z0 := hSw.x0; have z1 := hSw.x1; have z2 := hSw.y0; have z3 := hSw.y1; go_simp; (try with_reducible rfl); (try omega))
          (try simp only [Act.put, List.setIfInBounds_toArray, List.set_cons_zero, List.set_cons_succ, List.getElem_toArray, List.getElem_cons_zero, List.getElem_cons_succ])
          refine wpAnyH_take (i := 5) (v := ?_) rfl (by kernel_rfl) (by kernel_rfl) (by kernel_rfl) (fun _ _ _ h => h) (Or.inl ⟨by rfl, ?_⟩) (by assumption) ?_
          rotate_left
          · (intro wx hSw; have z0 := hSw.x0; have z1 := hSw.x1; have z2 := hSw.y0; have z3 := hSw.y1; go_simp; (try with_reducible rfl); (try omega))
          (try simp only [Act.put, List.setIfInBounds_toArray, List.set_cons_zero, List.set_cons_succ, List.getElem_toArray, List.getElem_cons_zero, List.getElem_cons_succ])
          refine wpAnyH_take (i := 6) (v := ?_) rfl (by kernel_rfl) (by kernel_rfl) (by kernel_rfl) (fun _ _ _ h => h) (Or.inl ⟨by rfl, ?_⟩) (by assumption) ?_
          rotate_left
          · (intro wx hSw; have z0 := hSw.x0; have z1 := hSw.x1; have z2 := hSw.y0; have z3 := hSw.y1; go_simp; (try with_reducible rfl); (try omega))
          (try simp only [Act.put, List.setIfInBounds_toArray, List.set_cons_zero, List.set_cons_succ, List.getElem_toArray, List.getElem_cons_zero, List.getElem_cons_succ])
          refine wpAnyH_take (i := 7) (v := ?_) rfl (by kernel_rfl) (by kernel_rfl) (by kernel_rfl) (fun _ _ _ h => h) (Or.inl ⟨by rfl, ?_⟩) (by assumption) ?_
          rotate_left
          · (intro wx hSw; have z0 := hSw.x0; have z1 := hSw.x1; have z2 := hSw.y0; have z3 := hSw.y1; go_simp; (try with_reducible rfl); (try omega))
          (try simp only [Act.put, List.setIfInBounds_toArray, List.set_cons_zero, List.set_cons_succ, List.getElem_toArray, List.getElem_cons_zero, List.getElem_cons_succ])
          refine wpAnyH_take (i := 8) (v := ?_) rfl (by kernel_rfl) (by kernel_rfl) (by kernel_rfl) (fun _ _ _ h => h) (Or.inl ⟨by rfl, ?_⟩) (by assumption) ?_
          rotate_left
          · (intro wx hSw; have z0 := hSw.x0; have z1 := hSw.x1; have z2 := hSw.y0; have z3 := hSw.y1; go_simp; (try with_reducible rfl); (try omega))
          (try simp only [Act.put, List.setIfInBounds_toArray, List.set_cons_zero, List.set_cons_succ, List.getElem_toArray, List.getElem_cons_zero, List.getElem_cons_succ])
          refine wpAnyH_take (i := 9) (v := ?_) rfl (by kernel_rfl) (by kernel_rfl) (by kernel_rfl) (fun _ _ _ h => h) (Or.inl ⟨by rfl, ?_⟩) (by assumption) ?_
          rotate_left
          · (intro wx hSw; have z0 := hSw.x0; have z1 := hSw.x1; have z2 := hSw.y0; have z3 := hSw.y1; go_simp; (try with_reducible rfl); (try omega))
          (try simp only [Act.put, List.setIfInBounds_toArray, List.set_cons_zero, List.set_cons_succ, List.getElem_toArray, List.getElem_cons_zero, List.getElem_cons_succ])
          refine wpAnyH_take (i := 10) (v := ?_) rfl (by kernel_rfl) (by kernel_rfl) (by kernel_rfl) (fun _ _ _ h => h) (Or.inl ⟨by rfl, ?_⟩) (by assumption) ?_
          rotate_left
          · (intro wx hSw; have z0 := hSw.x0; have z1 := hSw.x1; have z2 := hSw.y0; have z3 := hSw.y1; go_simp; (try with_reducible rfl); (try omega))
          (try simp only [Act.put, List.setIfInBounds_toArray, List.set_cons_zero, List.set_cons_succ, List.getElem_toArray, List.getElem_cons_zero, List.getElem_cons_succ])
          refine wpAnyH_take (i := 11) (v := ?_) rfl (by kernel_rfl) (by kernel_rfl) (by kernel_rfl) (fun _ _ _ h => h) (Or.inl ⟨by rfl, ?_⟩) (by assumption) ?_
          rotate_left
          · (intro wx hSw; have z0 := hSw.x0; have z1 := hSw.x1; have z2 := hSw.y0; have z3 := hSw.y1; go_simp; (try with_reducible rfl); (try omega))
          (try simp only [Act.put, List.setIfInBounds_toArray, List.set_cons_zero, List.set_cons_succ, List.getElem_toArray, List.getElem_cons_zero, List.getElem_cons_succ])
          refine wpAnyH_take (i := 12) (v := ?_) rfl (by kernel_rfl) (by kernel_rfl) (by kernel_rfl) (fun _ _ _ h => h) (Or.inl ⟨by rfl, ?_⟩) (by assumption) ?_
          rotate_left
          · (intro wx hSw; have z0 := hSw.x0; have z1 := hSw.x1; have z2 := hSw.y0; have z3 := hSw.y1; go_simp; (try with_reducible rfl); (try omega))
          (try simp only [Act.put, List.setIfInBounds_toArray, List.set_cons_zero, List.set_cons_succ, List.getElem_toArray, List.getElem_cons_zero, List.getElem_cons_succ])
          refine wpAnyH_take (i := 13) (v := ?_) rfl (by kernel_rfl) (by kernel_rfl) (by kernel_rfl) (fun _ _ _ h => h) (Or.inl ⟨by rfl, ?_⟩) (by assumption) ?_
          rotate_left
          · (intro wx hSw; have z0 := hSw.x0; have z1 := hSw.x1; have z2 := hSw.y0; have z3 := hSw.y1; go_simp; (try with_reducible rfl); (try omega))
          (try simp only [Act.put, List.setIfInBounds_toArray, List.set_cons_zero, List.set_cons_succ, List.getElem_toArray, List.getElem_cons_zero, List.getElem_cons_succ])
          refine wpAnyH_ready (rs := [14]) (by kernel_rfl) (by simp) ?_
          refine AllReadyH.cons rfl (fun K hK => ?_) AllReadyH.nil
          go_simp
          refine (HO.out.call hxm hum hS).mono ?_
          rintro e w5 ⟨rfl, hb5⟩
          have hS := hS.below hb5
          refine hK.out _ _ hS (fun hHeld => ?_)
          clear hK K
          (try simp only [Act.put, List.setIfInBounds_toArray, List.set_cons_zero, List.set_cons_succ, List.getElem_toArray, List.getElem_cons_zero, List.getElem_cons_succ])
          rw [HKX.out]
          by_cases hk0 : kx < 0
          · have hkd : decide (kx < 0) = true := by simpa using hk0
            refine wpAnyH_take (i := 15) (v := ?_) rfl (by kernel_rfl) (by kernel_rfl) (by kernel_rfl) (fun _ _ _ h => h) (Or.inl ⟨by rfl, ?_⟩) (by assumption) ?_
            rotate_left
            · (intro wx hSw; have z0 := hSw.x0; have z1 := hSw.x1; have z2 := hSw.y0; have z3 := hSw.y1; go_simp; (try with_reducible rfl); (try omega))
            (try simp only [Act.put, List.setIfInBounds_toArray, List.set_cons_zero, List.set_cons_succ, List.getElem_toArray, List.getElem_cons_zero, List.getElem_cons_succ])
            refine wpAnyH_take (i := 16) (v := ?_) rfl (by kernel_rfl) (by kernel_rfl) (by kernel_rfl) (fun _ _ _ h => h) (Or.inl ⟨by rfl, ?_⟩) (by assumption) ?_
            rotate_left
            · (intro wx hSw; have z0 := hSw.x0; have z1 := hSw.x1; have z2 := hSw.y0; have z3 := hSw.y1; go_simp; (try with_reducible rfl); (try omega))
            (try simp only [Act.put, List.setIfInBounds_toArray, List.set_cons_zero, List.set_cons_succ, List.getElem_toArray, List.getElem_cons_zero, List.getElem_cons_succ])
            refine wpAnyH_done (by kernel_rfl) ?_ _
            have hTD := hS.st.drew
            have qs := hS.below (Below.drew (Below.refl _ _))
            have qx0 := qs.x0
            have qx1 := qs.x1
            have qy0 := qs.y0
            have qy1 := qs.y1
            have thx := hTD.there (i := j) hjN
            have thy := hTD.there (i := jm) hmN
            have HSW2 := hid0 (HSW.out _ hTD)
            rw [HEJ.out, HEM.out] at HSW2
            have HNX2 := hid0 (HNX.out (HKU.out.1 (by rw [HKX.out]; exact hk0)))
            clear hHeld hS HSW HNX HDN HKU HKX HI HSP qs hTD hT
            go_wp2_with fail
            refine wp_region_held_drew (S := fun _ : World => True) (by kernel_rfl) trivial (fun hHeld => ?_)
            refine wpAnyH_take (i := 0) (v := ?_) rfl (by kernel_rfl) (by kernel_rfl) (by kernel_rfl) (fun _ _ _ h => h) (Or.inl ⟨by rfl, ?_⟩) (by assumption) ?_
            rotate_left
            · (intro wx hSw; go_simp; (try with_reducible rfl); (try omega))
            (try simp only [Act.put, List.setIfInBounds_toArray, List.set_cons_zero, List.set_cons_succ, List.getElem_toArray, List.getElem_cons_zero])
            refine wpAnyH_take (i := 1) (v := ?_) rfl (by kernel_rfl) (by kernel_rfl) (by kernel_rfl) (fun _ _ _ h => h) (Or.inl ⟨by rfl, ?_⟩) (by assumption) ?_
            rotate_left
            · (intro wx hSw; go_simp; (try with_reducible rfl); (try omega))
            (try simp only [Act.put, List.setIfInBounds_toArray, List.set_cons_zero, List.set_cons_succ, List.getElem_toArray, List.getElem_cons_zero, List.getElem_cons_succ])
            refine wpAnyH_take (i := 2) (v := ?_) rfl (by kernel_rfl) (by kernel_rfl) (by kernel_rfl) (fun _ _ _ h => h) (Or.inl ⟨by rfl, ?_⟩) (by assumption) ?_
            rotate_left
            · (intro wx hSw; go_simp; (try with_reducible rfl); (try omega))
            (try simp only [Act.put, List.setIfInBounds_toArray, List.set_cons_zero, List.set_cons_succ, List.getElem_toArray, List.getElem_cons_zero, List.getElem_cons_succ])
            refine wpAnyH_take (i := 3) (v := ?_) rfl (by kernel_rfl) (by kernel_rfl) (by kernel_rfl) (fun _ _ _ h => h) (Or.inl ⟨by rfl, ?_⟩) (by assumption) ?_
            rotate_left
            · (intro wx hSw; go_simp; (try with_reducible rfl); (try omega))
            (try simp only [Act.put, List.setIfInBounds_toArray, List.set_cons_zero, List.set_cons_succ, List.getElem_toArray, List.getElem_cons_zero, List.getElem_cons_succ])
            refine wpAnyH_take (i := 4) (v := ?_) rfl (by kernel_rfl) (by kernel_rfl) (by kernel_rfl) (fun _ _ _ h => h) (Or.inl ⟨by rfl, ?_⟩) (by assumption) ?_
            rotate_left
            · (intro wx hSw; go_simp; (try with_reducible rfl); (try omega))
            (try simp only [Act.put, List.setIfInBounds_toArray, List.set_cons_zero, List.set_cons_succ, List.getElem_toArray, List.getElem_cons_zero, List.getElem_cons_succ])
            refine wpAnyH_take (i := 5) (v := ?_) rfl (by kernel_rfl) (by kernel_rfl) (by kernel_rfl) (fun _ _ _ h => h) (Or.inl ⟨by rfl, ?_⟩) (by assumption) ?_
            rotate_left
            · (intro wx hSw; go_simp; (try with_reducible rfl); (try omega))
            (try simp only [Act.put, List.setIfInBounds_toArray, List.set_cons_zero, List.set_cons_succ, List.getElem_toArray, List.getElem_cons_zero, List.getElem_cons_succ])
            refine wpAnyH_take (i := 6) (v := ?_) rfl (by kernel_rfl) (by kernel_rfl) (by kernel_rfl) (fun _ _ _ h => h) (Or.inl ⟨by rfl, ?_⟩) (by assumption) ?_
            rotate_left
            · (intro wx hSw; go_simp; (try with_reducible rfl); (try omega))
            (try simp only [Act.put, List.setIfInBounds_toArray, List.set_cons_zero, List.set_cons_succ, List.getElem_toArray, List.getElem_cons_zero, List.getElem_cons_succ])
            refine wpAnyH_take (i := 7) (v := ?_) rfl (by kernel_rfl) (by kernel_rfl) (by kernel_rfl) (fun _ _ _ h => h) (Or.inl ⟨by rfl, ?_⟩) (by assumption) ?_
            rotate_left
            · (intro wx hSw; go_simp; (try with_reducible rfl); (try omega))
            (try simp only [Act.put, List.setIfInBounds_toArray, List.set_cons_zero, List.set_cons_succ, List.getElem_toArray, List.getElem_cons_zero, List.getElem_cons_succ])
            refine wpAnyH_take (i := 8) (v := ?_) rfl (by kernel_rfl) (by kernel_rfl) (by kernel_rfl) (fun _ _ _ h => h) (Or.inl ⟨by rfl, ?_⟩) (by assumption) ?_
            rotate_left
            · (intro wx hSw; go_simp; (try with_reducible rfl); (try omega))
            (try simp only [Act.put, List.setIfInBounds_toArray, List.set_cons_zero, List.set_cons_succ, List.getElem_toArray, List.getElem_cons_zero, List.getElem_cons_succ])
            refine wpAnyH_take (i := 10) (v := ?_) rfl (by kernel_rfl) (by kernel_rfl) (by kernel_rfl) (fun _ _ _ h => h) (Or.inl ⟨by rfl, ?_⟩) (by assumption) ?_
            rotate_left
            · (intro wx hSw; go_simp; (try with_reducible rfl); (try omega))
            (try simp only [Act.put, List.setIfInBounds_toArray, List.set_cons_zero, List.set_cons_succ, List.getElem_toArray, List.getElem_cons_zero, List.getElem_cons_succ])
            refine wpAnyH_take (i := 11) (v := ?_) rfl (by kernel_rfl) (by kernel_rfl) (by kernel_rfl) (fun _ _ _ h => h) (Or.inl ⟨by rfl, ?_⟩) (by assumption) ?_
            rotate_left
            · (intro wx hSw; go_simp; (try with_reducible rfl); (try omega))
            (try simp only [Act.put, List.setIfInBounds_toArray, List.set_cons_zero, List.set_cons_succ, List.getElem_toArray, List.getElem_cons_zero, List.getElem_cons_succ])
            refine wpAnyH_take (i := 12) (v := ?_) rfl (by kernel_rfl) (by kernel_rfl) (by kernel_rfl) (fun _ _ _ h => h) (Or.inl ⟨by rfl, ?_⟩) (by assumption) ?_
            rotate_left
            · (intro wx hSw; go_simp; (try with_reducible rfl); (try omega))
            (try simp only [Act.put, List.setIfInBounds_toArray, List.set_cons_zero, List.set_cons_succ, List.getElem_toArray, List.getElem_cons_zero, List.getElem_cons_succ])
            refine wpAnyH_ready (rs := [9, 13]) (by kernel_rfl) (by simp) ?_
            refine AllReadyH.cons rfl (fun K hK => ?_) ?_
            · (try simp only [Act.put, List.setIfInBounds_toArray, List.set_cons_zero, List.set_cons_succ, List.getElem_toArray, List.getElem_cons_zero, List.getElem_cons_succ])
              go_simp
              refine hK.out _ _ trivial (fun hHeld => ?_)
              clear hK K
              (try simp only [Act.put, List.setIfInBounds_toArray, List.set_cons_zero, List.set_cons_succ, List.getElem_toArray, List.getElem_cons_zero, List.getElem_cons_succ])
              refine wpAnyH_ready (rs := [13]) (by kernel_rfl) (by simp) ?_
              refine AllReadyH.cons rfl (fun K hK => ?_) ?_
              · (try simp only [Act.put, List.setIfInBounds_toArray, List.set_cons_zero, List.set_cons_succ, List.getElem_toArray, List.getElem_cons_zero, List.getElem_cons_succ])
                go_simp
                refine hK.out _ _ trivial (fun hHeld => ?_)
                clear hK K
                (try simp only [Act.put, List.setIfInBounds_toArray, List.set_cons_zero, List.set_cons_succ, List.getElem_toArray, List.getElem_cons_zero, List.getElem_cons_succ])
                refine wpAnyH_take (i := 14) (v := ?_) rfl (by kernel_rfl) (by kernel_rfl) (by kernel_rfl) (fun _ _ _ h => h) (Or.inl ⟨by rfl, ?_⟩) (by assumption) ?_
                rotate_left
                · (intro wx hSw; go_simp; (try with_reducible rfl); (try omega))
                (try simp only [Act.put, List.setIfInBounds_toArray, List.set_cons_zero, List.set_cons_succ, List.getElem_toArray, List.getElem_cons_zero, List.getElem_cons_succ])
                refine wpAnyH_ready (rs := [15]) (by kernel_rfl) (by simp) ?_
                refine AllReadyH.cons rfl (fun K hK => ?_) ?_
                · (try simp only [Act.put, List.getElem_toArray, List.getElem_cons_zero, List.getElem_cons_succ])
                  refine wp_storeQ _ _ _ rfl g (j * 2) [.slice u.a u.r.length u.c, .int .i64 u.n] rfl rfl thx sizeMany (by intro v hv; simp at hv; rcases hv with rfl | rfl <;> rfl) ?_
                  intro wsa hwsa
                  have thy : wsa.there g (jm * 2) 2 := by rw [hwsa]; exact World.there_setCells thy g (j * 2) [.slice u.a u.r.length u.c, .int .i64 u.n]
                  have Hwsa := hid0 hwsa
                  clear hwsa
                  refine hK.out _ _ trivial (fun hHeld => ?_)
                  clear hK K
                  (try simp only [Act.put])
                  refine wpAnyH_take (i := 16) (v := ?_) rfl (by kernel_rfl) (by kernel_rfl) (by kernel_rfl) (fun _ _ _ h => h) (Or.inl ⟨by rfl, ?_⟩) (by assumption) ?_
                  rotate_left
                  · (intro wx hSw; go_simp; (try with_reducible rfl); (try omega))
                  (try simp only [Act.put, List.setIfInBounds_toArray, List.set_cons_zero, List.set_cons_succ, List.getElem_toArray, List.getElem_cons_zero, List.getElem_cons_succ])
                  refine wpAnyH_ready (rs := [17]) (by kernel_rfl) (by simp) ?_
                  refine AllReadyH.cons rfl (fun K hK => ?_) ?_
                  · (try simp only [Act.put, List.getElem_toArray, List.getElem_cons_zero, List.getElem_cons_succ])
                    refine wp_storeQ _ _ _ rfl g (jm * 2) [.slice x.a x.r.length x.c, .int .i64 x.n] rfl rfl thy sizeMany (by intro v hv; simp at hv; rcases hv with rfl | rfl <;> rfl) ?_
                    intro wsb hwsb
                    have Hwsb := hid0 hwsb
                    clear hwsb
                    refine hK.out _ _ trivial (fun hHeld => ?_)
                    clear hK K
                    (try simp only [Act.put])
                    refine wpAnyH_done (by kernel_rfl) ?_ _
                    clear hHeld
                    clear hjn hmn hda hkd
                    go_wp2_with fail
                    exact ⟨⟨jm, _, _, _, hma, hmi, by go_num, HNX2, hid0 (by have := HSW2.out; rw [Hwsb.out, Hwsa.out]; exact this)⟩, by simp [intOf]; omega⟩
                  exact AllReadyH.nil
                exact AllReadyH.nil
              exact AllReadyH.nil
            refine AllReadyH.cons rfl (fun K hK => ?_) ?_
            · (try simp only [Act.put, List.setIfInBounds_toArray, List.set_cons_zero, List.set_cons_succ, List.getElem_toArray, List.getElem_cons_zero, List.getElem_cons_succ])
              go_simp
              refine hK.out _ _ trivial (fun hHeld => ?_)
              clear hK K
              (try simp only [Act.put, List.setIfInBounds_toArray, List.set_cons_zero, List.set_cons_succ, List.getElem_toArray, List.getElem_cons_zero, List.getElem_cons_succ])
              refine wpAnyH_ready (rs := [9]) (by kernel_rfl) (by simp) ?_
              refine AllReadyH.cons rfl (fun K hK => ?_) ?_
              · (try simp only [Act.put, List.setIfInBounds_toArray, List.set_cons_zero, List.set_cons_succ, List.getElem_toArray, List.getElem_cons_zero, List.getElem_cons_succ])
                go_simp
                refine hK.out _ _ trivial (fun hHeld => ?_)
                clear hK K
                (try simp only [Act.put, List.setIfInBounds_toArray, List.set_cons_zero, List.set_cons_succ, List.getElem_toArray, List.getElem_cons_zero, List.getElem_cons_succ])
                refine wpAnyH_take (i := 14) (v := ?_) rfl (by kernel_rfl) (by kernel_rfl) (by kernel_rfl) (fun _ _ _ h => h) (Or.inl ⟨by rfl, ?_⟩) (by assumption) ?_
                rotate_left
                · (intro wx hSw; go_simp; (try with_reducible rfl); (try omega))
                (try simp only [Act.put, List.setIfInBounds_toArray, List.set_cons_zero, List.set_cons_succ, List.getElem_toArray, List.getElem_cons_zero, List.getElem_cons_succ])
                refine wpAnyH_ready (rs := [15]) (by kernel_rfl) (by simp) ?_
                refine AllReadyH.cons rfl (fun K hK => ?_) ?_
                · (try simp only [Act.put, List.getElem_toArray, List.getElem_cons_zero, List.getElem_cons_succ])
                  refine wp_storeQ _ _ _ rfl g (j * 2) [.slice u.a u.r.length u.c, .int .i64 u.n] rfl rfl thx sizeMany (by intro v hv; simp at hv; rcases hv with rfl | rfl <;> rfl) ?_
                  intro wsa hwsa
                  have thy : wsa.there g (jm * 2) 2 := by rw [hwsa]; exact World.there_setCells thy g (j * 2) [.slice u.a u.r.length u.c, .int .i64 u.n]
                  have Hwsa := hid0 hwsa
                  clear hwsa
                  refine hK.out _ _ trivial (fun hHeld => ?_)
                  clear hK K
                  (try simp only [Act.put])
                  refine wpAnyH_take (i := 16) (v := ?_) rfl (by kernel_rfl) (by kernel_rfl) (by kernel_rfl) (fun _ _ _ h => h) (Or.inl ⟨by rfl, ?_⟩) (by assumption) ?_
                  rotate_left
                  · (intro wx hSw; go_simp; (try with_reducible rfl); (try omega))
                  (try simp only [Act.put, List.setIfInBounds_toArray, List.set_cons_zero, List.set_cons_succ, List.getElem_toArray, List.getElem_cons_zero, List.getElem_cons_succ])
                  refine wpAnyH_ready (rs := [17]) (by kernel_rfl) (by simp) ?_
                  refine AllReadyH.cons rfl (fun K hK => ?_) ?_
                  · (try simp only [Act.put, List.getElem_toArray, List.getElem_cons_zero, List.getElem_cons_succ])
                    refine wp_storeQ _ _ _ rfl g (jm * 2) [.slice x.a x.r.length x.c, .int .i64 x.n] rfl rfl thy sizeMany (by intro v hv; simp at hv; rcases hv with rfl | rfl <;> rfl) ?_
                    intro wsb hwsb
                    have Hwsb := hid0 hwsb
                    clear hwsb
                    refine hK.out _ _ trivial (fun hHeld => ?_)
                    clear hK K
                    (try simp only [Act.put])
                    refine wpAnyH_done (by kernel_rfl) ?_ _
                    clear hHeld
                    clear hjn hmn hda hkd
                    go_wp2_with fail
                    exact ⟨⟨jm, _, _, _, hma, hmi, by go_num, HNX2, hid0 (by have := HSW2.out; rw [Hwsb.out, Hwsa.out]; exact this)⟩, by simp [intOf]; omega⟩
                  exact AllReadyH.nil
                exact AllReadyH.nil
              exact AllReadyH.nil
            exact AllReadyH.nil
          · have hkd : decide (kx < 0) = false := by simpa using hk0
            refine wpAnyH_take (i := 15) (v := ?_) rfl (by kernel_rfl) (by kernel_rfl) (by kernel_rfl) (fun _ _ _ h => h) (Or.inl ⟨by rfl, ?_⟩) (by assumption) ?_
            rotate_left
            · (intro wx hSw; have z0 := hSw.x0; have z1 := hSw.x1; have z2 := hSw.y0; have z3 := hSw.y1; go_simp; (try with_reducible rfl); (try omega))
            (try simp only [Act.put, List.setIfInBounds_toArray, List.set_cons_zero, List.set_cons_succ, List.getElem_toArray, List.getElem_cons_zero, List.getElem_cons_succ])
            refine wpAnyH_take (i := 16) (v := ?_) rfl (by kernel_rfl) (by kernel_rfl) (by kernel_rfl) (fun _ _ _ h => h) (Or.inl ⟨by rfl, ?_⟩) (by assumption) ?_
            rotate_left
            · (intro wx hSw; have z0 := hSw.x0; have z1 := hSw.x1; have z2 := hSw.y0; have z3 := hSw.y1; go_simp; (try with_reducible rfl); (try omega))
            (try simp only [Act.put, List.setIfInBounds_toArray, List.set_cons_zero, List.set_cons_succ, List.getElem_toArray, List.getElem_cons_zero, List.getElem_cons_succ])
            refine wpAnyH_done (by kernel_rfl) ?_ _
            have HF2 := hid0 (HDN.out (by
              cases hq : leE gs u x with
              | true => rfl
              | false => exact absurd (HKU.out.2 hq) (by rw [HKX.out]; exact hk0)))
            have hst := hS.st
            rw [HF2.out] at hst
            have HT2 := hid0 hst
            clear hst HF2
            clear hHeld hS HSW HNX HDN HKU HKX HI HSP hT
            go_wp2_with fail
            exact ⟨⟨i + 1, k + 1, hid0 (by have := HK.out; omega), by omega, by omega, by go_num, HT2⟩, by simp [intOf]; omega⟩
        · have hda : decide ((a : Int) < (j : Int)) = false := by simp; omega
          have hU : U = [] := by have := HI.out.j; exact List.length_eq_zero_iff.1 (by omega)
          have HF2 := hid0 (HI.out.done HKL.out HX.out (fun y hy => by rw [hU] at hy; simp at hy))
          have hst := hT.out.drew
          rw [HF2.out] at hst
          have HT2 := hid0 hst
          clear hst HF2
          have hS : True := trivial
          clear HI hT hU
          go_wp2_with fail
          refine wp_region_held_drew (S := fun _ : World => True) (by kernel_rfl) hS (fun hHeld => ?_)
          refine wpAnyH_take (i := 0) (v := ?_) rfl (by kernel_rfl) (by kernel_rfl) (by kernel_rfl) (fun _ _ _ h => h) (Or.inl ⟨by rfl, ?_⟩) (by assumption) ?_
          rotate_left
          · (intro wx hSw; go_simp; (try with_reducible rfl); (try omega))
          (try simp only [Act.put, List.setIfInBounds_toArray, List.set_cons_zero, List.set_cons_succ, List.getElem_toArray, List.getElem_cons_zero])
          refine wpAnyH_take (i := 1) (v := ?_) rfl (by kernel_rfl) (by kernel_rfl) (by kernel_rfl) (fun _ _ _ h => h) (Or.inl ⟨by rfl, ?_⟩) (by assumption) ?_
          rotate_left
          · (intro wx hSw; go_simp; (try with_reducible rfl); (try omega))
          (try simp only [Act.put, List.setIfInBounds_toArray, List.set_cons_zero, List.set_cons_succ, List.getElem_toArray, List.getElem_cons_zero, List.getElem_cons_succ])
          refine wpAnyH_take (i := 2) (v := ?_) rfl (by kernel_rfl) (by kernel_rfl) (by kernel_rfl) (fun _ _ _ h => h) (Or.inl ⟨by rfl, ?_⟩) (by assumption) ?_
          rotate_left
          · (intro wx hSw; go_simp; (try with_reducible rfl); (try omega))
          (try simp only [Act.put, List.setIfInBounds_toArray, List.set_cons_zero, List.set_cons_succ, List.getElem_toArray, List.getElem_cons_zero, List.getElem_cons_succ])
          refine wpAnyH_take (i := 3) (v := ?_) rfl (by kernel_rfl) (by kernel_rfl) (by kernel_rfl) (fun _ _ _ h => h) (Or.inl ⟨by rfl, ?_⟩) (by assumption) ?_
          rotate_left
          · (intro wx hSw; go_simp; (try with_reducible rfl); (try omega))
          (try simp only [Act.put, List.setIfInBounds_toArray, List.set_cons_zero, List.set_cons_succ, List.getElem_toArray, List.getElem_cons_zero, List.getElem_cons_succ])
          refine wpAnyH_take (i := 4) (v := undef) rfl (by kernel_rfl) (by kernel_rfl) (by kernel_rfl) (fun _ _ _ h => h) (Or.inr ⟨by rfl, rfl⟩) (by assumption) ?_
          (try simp only [Act.put, List.setIfInBounds_toArray, List.set_cons_zero, List.set_cons_succ, List.getElem_toArray, List.getElem_cons_zero, List.getElem_cons_succ])
          refine wpAnyH_take (i := 5) (v := undef) rfl (by kernel_rfl) (by kernel_rfl) (by kernel_rfl) (fun _ _ _ h => h) (Or.inr ⟨by rfl, rfl⟩) (by assumption) ?_
          (try simp only [Act.put, List.setIfInBounds_toArray, List.set_cons_zero, List.set_cons_succ, List.getElem_toArray, List.getElem_cons_zero, List.getElem_cons_succ])
          refine wpAnyH_take (i := 6) (v := undef) rfl (by kernel_rfl) (by kernel_rfl) (by kernel_rfl) (fun _ _ _ h => h) (Or.inr ⟨by rfl, rfl⟩) (by assumption) ?_
          (try simp only [Act.put, List.setIfInBounds_toArray, List.set_cons_zero, List.set_cons_succ, List.getElem_toArray, List.getElem_cons_zero, List.getElem_cons_succ])
          refine wpAnyH_take (i := 7) (v := undef) rfl (by kernel_rfl) (by kernel_rfl) (by kernel_rfl) (fun _ _ _ h => h) (Or.inr ⟨by rfl, rfl⟩) (by assumption) ?_
          (try simp only [Act.put, List.setIfInBounds_toArray, List.set_cons_zero, List.set_cons_succ, List.getElem_toArray, List.getElem_cons_zero, List.getElem_cons_succ])
          refine wpAnyH_take (i := 8) (v := undef) rfl (by kernel_rfl) (by kernel_rfl) (by kernel_rfl) (fun _ _ _ h => h) (Or.inr ⟨by rfl, rfl⟩) (by assumption) ?_
          (try simp only [Act.put, List.setIfInBounds_toArray, List.set_cons_zero, List.set_cons_succ, List.getElem_toArray, List.getElem_cons_zero, List.getElem_cons_succ])
          refine wpAnyH_take (i := 9) (v := undef) rfl (by kernel_rfl) (by kernel_rfl) (by kernel_rfl) (fun _ _ _ h => h) (Or.inr ⟨by rfl, rfl⟩) (by assumption) ?_
          (try simp only [Act.put, List.setIfInBounds_toArray, List.set_cons_zero, List.set_cons_succ, List.getElem_toArray, List.getElem_cons_zero, List.getElem_cons_succ])
          refine wpAnyH_take (i := 10) (v := undef) rfl (by kernel_rfl) (by kernel_rfl) (by kernel_rfl) (fun _ _ _ h => h) (Or.inr ⟨by rfl, rfl⟩) (by assumption) ?_
          (try simp only [Act.put, List.setIfInBounds_toArray, List.set_cons_zero, List.set_cons_succ, List.getElem_toArray, List.getElem_cons_zero, List.getElem_cons_succ])
          refine wpAnyH_take (i := 11) (v := undef) rfl (by kernel_rfl) (by kernel_rfl) (by kernel_rfl) (fun _ _ _ h => h) (Or.inr ⟨by rfl, rfl⟩) (by assumption) ?_
          (try simp only [Act.put, List.setIfInBounds_toArray, List.set_cons_zero, List.set_cons_succ, List.getElem_toArray, List.getElem_cons_zero, List.getElem_cons_succ])
          refine wpAnyH_take (i := 12) (v := undef) rfl (by kernel_rfl) (by kernel_rfl) (by kernel_rfl) (fun _ _ _ h => h) (Or.inr ⟨by rfl, rfl⟩) (by assumption) ?_
          (try simp only [Act.put, List.setIfInBounds_toArray, List.set_cons_zero, List.set_cons_succ, List.getElem_toArray, List.getElem_cons_zero, List.getElem_cons_succ])
          refine wpAnyH_take (i := 13) (v := undef) rfl (by kernel_rfl) (by kernel_rfl) (by kernel_rfl) (fun _ _ _ h => h) (Or.inr ⟨by rfl, rfl⟩) (by assumption) ?_
          (try simp only [Act.put, List.setIfInBounds_toArray, List.set_cons_zero, List.set_cons_succ, List.getElem_toArray, List.getElem_cons_zero, List.getElem_cons_succ])
          refine wpAnyH_take (i := 14) (v := undef) rfl (by kernel_rfl) (by kernel_rfl) (by kernel_rfl) (fun _ _ _ h => h) (Or.inr ⟨by rfl, rfl⟩) (by assumption) ?_
          (try simp only [Act.put, List.setIfInBounds_toArray, List.set_cons_zero, List.set_cons_succ, List.getElem_toArray, List.getElem_cons_zero, List.getElem_cons_succ])
          refine wpAnyH_take (i := 15) (v := undef) rfl (by kernel_rfl) (by kernel_rfl) (by kernel_rfl) (fun _ _ _ h => h) (Or.inr ⟨by rfl, rfl⟩) (by assumption) ?_
          (try simp only [Act.put, List.setIfInBounds_toArray, List.set_cons_zero, List.set_cons_succ, List.getElem_toArray, List.getElem_cons_zero, List.getElem_cons_succ])
          refine wpAnyH_take (i := 16) (v := ?_) rfl (by kernel_rfl) (by kernel_rfl) (by kernel_rfl) (fun _ _ _ h => h) (Or.inl ⟨by rfl, ?_⟩) (by assumption) ?_
          rotate_left
          · (intro wx hSw; go_simp; (try with_reducible rfl); (try omega))
          (try simp only [Act.put, List.setIfInBounds_toArray, List.set_cons_zero, List.set_cons_succ, List.getElem_toArray, List.getElem_cons_zero, List.getElem_cons_succ])
          refine wpAnyH_done (by kernel_rfl) ?_ _
          clear hHeld
          go_wp2_with fail
          exact ⟨⟨i + 1, k + 1, hid0 (by have := HK.out; omega), by omega, by omega, by go_num, HT2⟩, by simp [intOf]; omega⟩
    · have hie : ¬ (i : Int) < (b : Int) := by omega
      have HT2 := hid0 (show St w0 w1 g n cap vb pv E0 RR wr by
        have := hT.out
        rw [← HRR.out]
        have h1 := HK.out
        have h2 := HB.out
        rwa [List.take_of_length_le (by omega), List.drop_of_length_le (by omega), List.append_nil] at this)
      clear hT
      go_wp2
      go_returns
      exact ⟨rfl, HT2.out⟩
end Go.Proofs.YtjmoegcfgadjiaaGreat
