/- Several of my texts laid together, each as it was: R3. Conditions: each names its own. -/
import Derived.Test.YtjmoegcfgadjiaaGreatG4
import Derived.Test.YtjmoegcfgadjiaaGreatG5
import Derived.Test.YtjmoegcfgadjiaaGreatG3
import Derived.Deep.CutRange
/- slices.symMergeCmpFunc over a list of one's own: a contract of the call, in whatever memory. Conditions: the list's cells are known; the order answers whenever it is asked; the pieces are sorted. -/
namespace Go.Proofs.YtjmoegcfgadjiaaGreat
open Go.RowKit

theorem wsub {m a q : Nat} (h : a + q = m) (hb : m ≤ 4000000) : IntKind.i64.wrap ((m : Int) - a) = (q : Int) := by rw [IntWalk.i64_in _ (by omega)]; omega
theorem wadd {a b q : Nat} (h : a + b = q) (hb : q ≤ 4000000) : IntKind.i64.wrap ((a : Int) + b) = (q : Int) := by rw [IntWalk.i64_in _ (by omega)]; omega
theorem wsub1 {m q : Nat} (h : q + 1 = m) (hb : m ≤ 4000000) : IntKind.i64.wrap ((m : Int) - 1) = (q : Int) := by rw [IntWalk.i64_in _ (by omega)]; omega
theorem wadd1 {a q : Nat} (h : a + 1 = q) (hb : q ≤ 4000000) : IntKind.i64.wrap ((a : Int) + 1) = (q : Int) := by rw [IntWalk.i64_in _ (by omega)]; omega
/-- What merging in place answers, of pieces up to a length. -/
structure SymH (w0 w1 : World) (g n cap vb : Nat) (pv : Value) (gs : List Int) (E0 : List Elem) (N : Nat) : Prop where
  out : ∀ (P A B S : List Elem) (a m b : Nat) (w : World), b ≤ a + N → Two (leE gs) (P ++ A ++ B ++ S) P A B S a m b → St w0 w1 g n cap vb pv E0 (P ++ A ++ B ++ S) w →
    Calls Tryz.prog 282 #[.slice (some ⟨g, 0, none⟩) n cap, .int .i64 a, .int .i64 m, .int .i64 b, .func (.func 187) #[] #[.pointer (some ⟨vb, 0, none⟩)]] w fun e w' => e = .returned (.tuple #[]) ∧ St w0 w1 g n cap vb pv E0 (P ++ srt (leE gs) (A ++ B) ++ S) w'
theorem srt_nil_app {gs : List Int} {A B : List Elem} (hA : Srd (leE gs) A) (hB : Srd (leE gs) B) (h : A = [] ∨ B = []) : srt (leE gs) (A ++ B) = A ++ B := by
  rcases h with rfl | rfl
  · exact srt_of_srd (by simpa using hB)
  · exact srt_of_srd (by simpa using hA)
theorem srd_parts {gs : List Int} {A B : List Elem} (h : Srd (leE gs) (A ++ B)) : Srd (leE gs) A ∧ Srd (leE gs) B := ⟨(List.pairwise_append.1 h).1, (List.pairwise_append.1 h).2.1⟩
set_option maxHeartbeats 16000000 in
set_option maxRecDepth 1000000 in
theorem sym_step (w0 w1 : World) (g n cap vb : Nat) (pv : Value) (gs : List Int) (E0 P A B S : List Elem) (a m b : Nat) (w : World) (hO : OrdS w0 vb pv gs E0) (hT : Two (leE gs) (P ++ A ++ B ++ S) P A B S a m b) (h1 : A.length ≠ 1) (h2 : B.length ≠ 1) (hS : St w0 w1 g n cap vb pv E0 (P ++ A ++ B ++ S) w) (hn : n ≤ 1000000) (hR : ∀ N, a + N < b → SymH w0 w1 g n cap vb pv gs E0 N) :
    Calls Tryz.prog 282 #[.slice (some ⟨g, 0, none⟩) n cap, .int .i64 a, .int .i64 m, .int .i64 b, .func (.func 187) #[] #[.pointer (some ⟨vb, 0, none⟩)]] w fun e w' => e = .returned (.tuple #[]) ∧ St w0 w1 g n cap vb pv E0 (P ++ srt (leE gs) (A ++ B) ++ S) w' := by
  have hlen := hT.len
  rw [hS.len] at hlen
  have ham := hT.am
  have hmb := hT.mb
  have hbn : b ≤ n := by omega
  have hA1 := hT.em
  have hB1 := hT.eb
  have hSO := so_le ham hmb
  obtain ⟨F, hF⟩ : ∃ F, P ++ A ++ B ++ S = F := ⟨_, rfl⟩
  have HF := hid0 hF
  rw [hF] at hT hS
  have hFn := hS.len
  have HT := hid0 hT
  have HS := hid0 hS
  have HO := hid0 hO
  have HR := hid0 hR
  obtain ⟨RR, hRR⟩ : ∃ RR, P ++ srt (leE gs) (A ++ B) ++ S = RR := ⟨_, rfl⟩
  rw [hRR]
  have HRR := hid0 hRR
  obtain ⟨mid, hmid⟩ : ∃ mid, (a + b) / 2 = mid := ⟨_, rfl⟩
  obtain ⟨nn, hnn⟩ : ∃ nn, mid + m = nn := ⟨_, rfl⟩
  obtain ⟨p, hp⟩ : ∃ p, nn - 1 = p := ⟨_, rfl⟩
  obtain ⟨s0, hs0⟩ : ∃ s0, s0of a m b = s0 := ⟨_, rfl⟩
  obtain ⟨r0, hr0⟩ : ∃ r0, r0of a m b = r0 := ⟨_, rfl⟩
  have HS0 := hid0 (show if mid < m then s0 = nn - b ∧ r0 = mid else s0 = a ∧ r0 = m by
    rw [← hs0, ← hr0]
    unfold s0of r0of
    rw [hmid, hnn]
    split
    · exact ⟨rfl, rfl⟩
    · exact ⟨rfl, rfl⟩)
  rw [hmid, hnn, hs0, hr0] at hSO
  obtain ⟨z1, z2, z3, z4, z5, z6⟩ := hSO
  have HMID := hid0 hmid
  have HNN := hid0 hnn
  have HSR := hid0 (show s0of a m b = s0 ∧ r0of a m b = r0 from ⟨hs0, hr0⟩)
  obtain ⟨q0, hq0⟩ : ∃ q0, m - a = q0 := ⟨_, rfl⟩
  obtain ⟨q1, hq1⟩ : ∃ q1, b - m = q1 := ⟨_, rfl⟩
  have hx1 : ((q0 : Int) == 1) = false := by simp; omega
  have hx2 : (q0 == 1) = false := by simp; omega
  have hx3 : ((q1 : Int) == 1) = false := by simp; omega
  have hx4 : (q1 == 1) = false := by simp; omega
  have hsm : ((a : Int) + (b : Int)) / 2 = (mid : Int) := by omega
  have hp1 : p + 1 = nn := by omega
  have HP1 := hid0 hp1
  have hmidm : a < mid ∧ mid < b := by omega
  have hf0 : a + q0 = m := by omega
  have hf1 : m + q1 = b := by omega
  have hg0 : m ≤ 4000000 := by omega
  have hg1 : b ≤ 4000000 := by omega
  have hg2 : nn ≤ 4000000 := by omega
  have hp4 : p ≤ 4000000 := by omega
  have hwb : Hid (mid < m → b + s0 = nn) := hid0 (fun hc => by
    have := HS0.out
    rw [if_pos hc] at this
    omega)
  have HG2 := hid0 hg2
  have hw0 := hid0 (wsub hf0 hg0)
  have hw2 := hid0 (wsub hf1 hg1)
  have hw3 := hid0 (wadd hnn hg2)
  have hw4 := hid0 (wsub1 hp1 hg2)
  clear hf0 hf1 hg0 hg1 hg2 hp1
  replace hw0 := hw0.out
  replace hw2 := hw2.out
  replace hw3 := hw3.out
  clear hT hS hO hF hlen h1 h2 hq0 hq1 hRR hmid hnn hp hs0 hr0 hR hA1 hB1
  go_enter Tryz.func282, Tryz.ntmps282
  go_upto_if 140 with fail
  go_cut [20, 21] from 25 (fun sv rv wr => sv = .int .i64 s0 ∧ rv = .int .i64 r0 ∧ w = wr)
  case first =>
    as_aux_lemma =>
      by_cases hc : mid < m
      · have hci : (mid : Int) < (m : Int) := by omega
        have hwc := wsub (hwb.out hc) HG2.out
        have hq := HS0.out
        rw [if_pos hc] at hq
        obtain ⟨-, rfl⟩ := hq
        clear hc
        go_wp2
        go_meet
        case rel => exact ⟨rfl, rfl, rfl⟩
      · have hci : ¬ (mid : Int) < (m : Int) := by omega
        have hq := HS0.out
        rw [if_neg hc] at hq
        obtain ⟨rfl, rfl⟩ := hq
        clear hc
        go_wp2
        go_meet
        case rel => exact ⟨rfl, rfl, rfl⟩
  case rest =>
    obtain ⟨rfl, rfl, rfl⟩ := hcut
    clear hwb HS0 hw0 hw2 hsm hw3 hx1 hx2 hx3 hx4
    have hw5 := hw4.out
    have hB0 : Hid (Bis (leE gs) F nn s0 r0 s0 r0) := hid0 (Bis.start _ _ _ _ z1)
    go_wp2
    go_loopw [20, 21] (fun sv rv wr => ∃ s r : Nat, s0 ≤ s ∧ s ≤ r ∧ r ≤ r0 ∧ sv = .int .i64 s ∧ rv = .int .i64 r ∧ Hid (Bis (leE gs) F nn s0 r0 s r) ∧ Hid (St w0 w1 g n cap vb pv E0 F wr)) (fun sv rv _ => (intOf rv).toNat - (intOf sv).toNat)
    case atStart => exact ⟨s0, r0, Nat.le_refl _, z1, Nat.le_refl _, rfl, rfl, hB0, HS⟩
    case round =>
      clear HS hB0 hw5 hw4
      obtain ⟨s, r, hs0, hsr, hr0, rfl, rfl, hB, hS0⟩ := hrel
      by_cases hlt : s < r
      · obtain ⟨c, hc⟩ : ∃ c, (s + r) / 2 = c := ⟨_, rfl⟩
        have hsc : s ≤ c := by omega
        have hcr : c < r := by omega
        obtain ⟨d, hd⟩ : ∃ d, p - c = d := ⟨_, rfl⟩
        have hpc : c ≤ p := by have := HP1.out; have := HNN.out; omega
        have hdF : d < F.length := by have := HP1.out; omega
        have hcF : c < F.length := by omega
        have hii : (s : Int) < (r : Int) := by omega
        have hsum : ((s : Int) + (r : Int)) / 2 = (c : Int) := by omega
        have hcd : c + d = p := by omega
        have hc4 : c + 1 ≤ 4000000 := by omega
        have HC4 := hid0 hc4
        have hS := hS0.out.drew.two hdF hcF
        have HLQ := hid0 (show lq (leE gs) F c (nn - 1 - c) = some (leE gs F[c] F[d]) by
          have := HP1.out
          have e : nn - 1 - c = d := by omega
          rw [e]; exact lq_of hcF hdF)
        have hxm : F[d] ∈ E0 := hS0.out.mem _ (List.getElem_mem hdF)
        have hym : F[c] ∈ E0 := hS0.out.mem _ (List.getElem_mem hcF)
        generalize F[c] = y at hS HLQ hym
        generalize F[d] = x at hS HLQ hxm
        have HKU := hid0 (lt_leE (gs := gs) (x := x) (y := y))
        obtain ⟨kx, hkx⟩ : ∃ kx, keyA gs x.r y.r = kx := ⟨_, rfl⟩
        have HKX := hid0 hkx
        have hcn : (c : Int) < (n : Int) := by omega
        have hdn : (d : Int) < (n : Int) := by omega
        have HH := hid0 hc
        have hwd := wsub hcd hp4
        clear hkx hS0 hc hd hpc hcd hc4
        go_wp2_with fail
        refine wp_region_held_drew (S := StC w0 w1 g n cap vb pv E0 F d x c y) (by kernel_rfl) hS (fun hHeld => ?_)
        refine wpAnyH_take (i := 0) (v := ?_) rfl (by kernel_rfl) (by kernel_rfl) (by kernel_rfl) (fun _ _ _ h => h) (Or.inl ⟨by rfl, ?_⟩) (by assumption) ?_
        rotate_left
        · (intro wx hSw; have z0 := hSw.x0; have z1 := hSw.x1; have z2 := hSw.y0; have z3 := hSw.y1; go_simp; (try with_reducible rfl); (try omega))
        (try simp only [Act.put, List.setIfInBounds_toArray, List.set_cons_zero, List.set_cons_succ, List.getElem_toArray, List.getElem_cons_zero])
        refine wpAnyH_take (i := 1) (v := ?_) rfl (by kernel_rfl) (by kernel_rfl) (by kernel_rfl) (fun _ _ _ h => h) (Or.inl ⟨by rfl, ?_⟩) (by assumption) ?_
        rotate_left
        · (intro wx hSw; have z0 := hSw.x0; have z1 := hSw.x1; have z2 := hSw.y0; have z3 := hSw.y1; go_simp; (try with_reducible rfl); (try omega))
        (try simp only [Act.put, List.setIfInBounds_toArray, List.set_cons_zero, List.set_cons_succ, List.getElem_toArray, List.getElem_cons_zero, List.getElem_cons_succ])
        refine wpAnyH_take (i := 2) (v := ?_) rfl (by kernel_rfl) (by kernel_rfl) (by kernel_rfl) (fun _ _ _ h => h) (Or.inl ⟨by rfl, ?_⟩) (by assumption) ?_
        rotate_left
        · (intro wx hSw; have z0 := hSw.x0; have z1 := hSw.x1; have z2 := hSw.y0; have z3 := hSw.y1; go_simp; (try with_reducible rfl); (try omega))
        (try simp only [Act.put, List.setIfInBounds_toArray, List.set_cons_zero, List.set_cons_succ, List.getElem_toArray, List.getElem_cons_zero, List.getElem_cons_succ])
        refine wpAnyH_take (i := 3) (v := ?_) rfl (by kernel_rfl) (by kernel_rfl) (by kernel_rfl) (fun _ _ _ h => h) (Or.inl ⟨by rfl, ?_⟩) (by assumption) ?_
        rotate_left
        · (intro wx hSw; have z0 := hSw.x0; have z1 := hSw.x1; have z2 := hSw.y0; have z3 := hSw.y1; go_simp; (try with_reducible rfl); (try omega))
        (try simp only [Act.put, List.setIfInBounds_toArray, List.set_cons_zero, List.set_cons_succ, List.getElem_toArray, List.getElem_cons_zero, List.getElem_cons_succ])
        refine wpAnyH_take (i := 4) (v := ?_) rfl (by kernel_rfl) (by kernel_rfl) (by kernel_rfl) (fun _ _ _ h => h) (Or.inl ⟨by rfl, ?_⟩) (by assumption) ?_
        rotate_left
        · (intro wx hSw; have z0 := hSw.x0; have z1 := hSw.x1; have z2 := hSw.y0; have z3 := hSw.y1; go_simp; (try with_reducible rfl); (try omega))
        (try simp only [Act.put, List.setIfInBounds_toArray, List.set_cons_zero, List.set_cons_succ, List.getElem_toArray, List.getElem_cons_zero, List.getElem_cons_succ])
        refine wpAnyH_take (i := 5) (v := ?_) rfl (by kernel_rfl) (by kernel_rfl) (by kernel_rfl) (fun _ _ _ h => h) (Or.inl ⟨by rfl, ?_⟩) (by assumption) ?_
        rotate_left
        · (intro wx hSw; have z0 := hSw.x0; have z1 := hSw.x1; have z2 := hSw.y0; have z3 := hSw.y1; go_simp; (try with_reducible rfl); (try omega))
        (try simp only [Act.put, List.setIfInBounds_toArray, List.set_cons_zero, List.set_cons_succ, List.getElem_toArray, List.getElem_cons_zero, List.getElem_cons_succ])
        refine wpAnyH_take (i := 6) (v := ?_) rfl (by kernel_rfl) (by kernel_rfl) (by kernel_rfl) (fun _ _ _ h => h) (Or.inl ⟨by rfl, ?_⟩) (by assumption) ?_
        rotate_left
        · (intro wx hSw; have z0 := hSw.x0; have z1 := hSw.x1; have z2 := hSw.y0; have z3 := hSw.y1; go_simp; (try with_reducible rfl); (try omega))
        (try simp only [Act.put, List.setIfInBounds_toArray, List.set_cons_zero, List.set_cons_succ, List.getElem_toArray, List.getElem_cons_zero, List.getElem_cons_succ])
        refine wpAnyH_take (i := 7) (v := ?_) rfl (by kernel_rfl) (by kernel_rfl) (by kernel_rfl) (fun _ _ _ h => h) (Or.inl ⟨by rfl, ?_⟩) (by assumption) ?_
        rotate_left
        · (intro wx hSw; have z0 := hSw.x0; have z1 := hSw.x1; have z2 := hSw.y0; have z3 := hSw.y1; go_simp; (try with_reducible rfl); (try omega))
        (try simp only [Act.put, List.setIfInBounds_toArray, List.set_cons_zero, List.set_cons_succ, List.getElem_toArray, List.getElem_cons_zero, List.getElem_cons_succ])
        refine wpAnyH_take (i := 8) (v := ?_) rfl (by kernel_rfl) (by kernel_rfl) (by kernel_rfl) (fun _ _ _ h => h) (Or.inl ⟨by rfl, ?_⟩) (by assumption) ?_
        rotate_left
        · (intro wx hSw; have z0 := hSw.x0; have z1 := hSw.x1; have z2 := hSw.y0; have z3 := hSw.y1; go_simp; (try with_reducible rfl); (try omega))
        (try simp only [Act.put, List.setIfInBounds_toArray, List.set_cons_zero, List.set_cons_succ, List.getElem_toArray, List.getElem_cons_zero, List.getElem_cons_succ])
        refine wpAnyH_take (i := 9) (v := ?_) rfl (by kernel_rfl) (by kernel_rfl) (by kernel_rfl) (fun _ _ _ h => h) (Or.inl ⟨by rfl, ?_⟩) (by assumption) ?_
        rotate_left
        · (intro wx hSw; have z0 := hSw.x0; have z1 := hSw.x1; have z2 := hSw.y0; have z3 := hSw.y1; go_simp; (try with_reducible rfl); (try omega))
        (try simp only [Act.put, List.setIfInBounds_toArray, List.set_cons_zero, List.set_cons_succ, List.getElem_toArray, List.getElem_cons_zero, List.getElem_cons_succ])
        refine wpAnyH_take (i := 10) (v := ?_) rfl (by kernel_rfl) (by kernel_rfl) (by kernel_rfl) (fun _ _ _ h => h) (Or.inl ⟨by rfl, ?_⟩) (by assumption) ?_
        rotate_left
        · (intro wx hSw; have z0 := hSw.x0; have z1 := hSw.x1; have z2 := hSw.y0; have z3 := hSw.y1; go_simp; (try with_reducible rfl); (try omega))
        (try simp only [Act.put, List.setIfInBounds_toArray, List.set_cons_zero, List.set_cons_succ, List.getElem_toArray, List.getElem_cons_zero, List.getElem_cons_succ])
        refine wpAnyH_ready (rs := [11]) (by kernel_rfl) (by simp) ?_
        refine AllReadyH.cons rfl (fun K hK => ?_) AllReadyH.nil
        go_simp
        refine (HO.out.call hxm hym hS).mono ?_
        rintro e w5 ⟨rfl, hb5⟩
        have hS := hS.below hb5
        refine hK.out _ _ hS (fun hHeld => ?_)
        clear hK K
        (try simp only [Act.put, List.setIfInBounds_toArray, List.set_cons_zero, List.set_cons_succ, List.getElem_toArray, List.getElem_cons_zero, List.getElem_cons_succ])
        rw [HKX.out]
        by_cases hk0 : kx < 0
        · as_aux_lemma =>
            have hkd : decide (kx < 0) = true := by simpa using hk0
            refine wpAnyH_take (i := 12) (v := ?_) rfl (by kernel_rfl) (by kernel_rfl) (by kernel_rfl) (fun _ _ _ h => h) (Or.inl ⟨by rfl, ?_⟩) (by assumption) ?_
            rotate_left
            · (intro wx hSw; have z0 := hSw.x0; have z1 := hSw.x1; have z2 := hSw.y0; have z3 := hSw.y1; go_simp; (try with_reducible rfl); (try omega))
            (try simp only [Act.put, List.setIfInBounds_toArray, List.set_cons_zero, List.set_cons_succ, List.getElem_toArray, List.getElem_cons_zero, List.getElem_cons_succ])
            refine wpAnyH_take (i := 13) (v := ?_) rfl (by kernel_rfl) (by kernel_rfl) (by kernel_rfl) (fun _ _ _ h => h) (Or.inl ⟨by rfl, ?_⟩) (by assumption) ?_
            rotate_left
            · (intro wx hSw; have z0 := hSw.x0; have z1 := hSw.x1; have z2 := hSw.y0; have z3 := hSw.y1; go_simp; (try with_reducible rfl); (try omega))
            (try simp only [Act.put, List.setIfInBounds_toArray, List.set_cons_zero, List.set_cons_succ, List.getElem_toArray, List.getElem_cons_zero, List.getElem_cons_succ])
            refine wpAnyH_done (by kernel_rfl) ?_ _
            have hS2 := hid0 hS.st
            have hB2 := hid0 (hB.out.down hsc hcr (by rw [HLQ.out, HKU.out.1 (by rw [HKX.out]; exact hk0)]))
            clear hHeld hS hB HLQ HKU HKX hwd hcn hdn
            go_wp2_with fail
            exact ⟨⟨s, c, by omega, by omega, by omega, rfl, rfl, hB2, hS2⟩, by simp [intOf]; omega⟩
        · as_aux_lemma =>
            have hkd : decide (kx < 0) = false := by simpa using hk0
            refine wpAnyH_take (i := 12) (v := ?_) rfl (by kernel_rfl) (by kernel_rfl) (by kernel_rfl) (fun _ _ _ h => h) (Or.inl ⟨by rfl, ?_⟩) (by assumption) ?_
            rotate_left
            · (intro wx hSw; have z0 := hSw.x0; have z1 := hSw.x1; have z2 := hSw.y0; have z3 := hSw.y1; go_simp; (try with_reducible rfl); (try omega))
            (try simp only [Act.put, List.setIfInBounds_toArray, List.set_cons_zero, List.set_cons_succ, List.getElem_toArray, List.getElem_cons_zero, List.getElem_cons_succ])
            refine wpAnyH_take (i := 13) (v := ?_) rfl (by kernel_rfl) (by kernel_rfl) (by kernel_rfl) (fun _ _ _ h => h) (Or.inl ⟨by rfl, ?_⟩) (by assumption) ?_
            rotate_left
            · (intro wx hSw; have z0 := hSw.x0; have z1 := hSw.x1; have z2 := hSw.y0; have z3 := hSw.y1; go_simp; (try with_reducible rfl); (try omega))
            (try simp only [Act.put, List.setIfInBounds_toArray, List.set_cons_zero, List.set_cons_succ, List.getElem_toArray, List.getElem_cons_zero, List.getElem_cons_succ])
            refine wpAnyH_done (by kernel_rfl) ?_ _
            have hS2 := hid0 hS.st
            have hB2 := hid0 (hB.out.up hsc hcr (by
              rw [HLQ.out]
              cases hq : leE gs y x with
              | true => rfl
              | false => exact absurd (HKU.out.2 hq) (by rw [HKX.out]; exact hk0)))
            clear hHeld hS hB HLQ HKU HKX hwd hcn hdn
            obtain ⟨c1, hc1⟩ : ∃ c1, c + 1 = c1 := ⟨_, rfl⟩
            have hw1 := wadd1 hc1 (hc1 ▸ HC4.out)
            rw [hc1] at hB2
            have h7 : s0 ≤ c1 ∧ c1 ≤ r ∧ s < c1 := by omega
            clear hc1
            go_wp2_with fail
            exact ⟨⟨c1, r, h7.1, h7.2.1, hr0, by go_num, rfl, hB2, hS2⟩, by simp [intOf]; omega⟩
      · obtain rfl : s = r := by omega
        have hie : ¬ (s : Int) < (s : Int) := by omega
        obtain ⟨e, he⟩ : ∃ e, nn - s = e := ⟨_, rfl⟩
        have hfound := sym_found (leE_LeT gs) HT.out (s := s) (by rw [HMID.out, HNN.out, HSR.out.1, HSR.out.2]; exact hB.out)
        rw [HMID.out, HNN.out, he] at hfound
        obtain ⟨A1, A2, B1, B2, eA, eB, l1, l2, l3, l4, l5, eS⟩ := hfound
        have hP := HT.out.ea
        have hsA := HT.out.sa
        have hsB := HT.out.sb
        rw [eA] at hsA
        rw [eB] at hsB
        have hnn := HNN.out
        have hme : m ≤ e := by omega
        have heb : e ≤ b := by omega
        have hsmid : s ≤ mid := by omega
        have hmide : mid ≤ e := by omega
        have has : a ≤ s := by omega
        have hsm' : s ≤ m := by omega
        have hse : s + e = nn := by omega
        have hwe := hid0 (wsub hse HG2.out)
        have hT0 : Hid (St w0 w1 g n cap vb pv E0 ((P ++ A1) ++ A2 ++ B1 ++ (B2 ++ S)) wr) := hid0 (by
          have e2 : (P ++ A1) ++ A2 ++ B1 ++ (B2 ++ S) = F := by rw [← HF.out, eA, eB]; simp only [List.append_assoc]
          rw [e2]; exact hS0.out)
        -- what the three steps leave
        have HROT := hid0 (fun (hc1 : s < m) (hc2 : m < e) (W : World) (hW : St w0 w1 g n cap vb pv E0 ((P ++ A1) ++ A2 ++ B1 ++ (B2 ++ S)) W) => rot_any w0 w1 g n cap vb pv E0 (P ++ A1) A2 B1 (B2 ++ S) s m e W hW (by rw [List.length_append, hP]; exact l1) (by omega) (by omega) hc1 hc2 hn)
        have HNOR := hid0 (fun (hc : s = m ∨ m = e) => show (P ++ A1) ++ A2 ++ B1 ++ (B2 ++ S) = (P ++ A1) ++ B1 ++ A2 ++ (B2 ++ S) from by
          rcases hc with hc | hc
          · have : A2 = [] := List.length_eq_zero_iff.1 (by omega)
            rw [this]; simp
          · have : B1 = [] := List.length_eq_zero_iff.1 (by omega)
            rw [this]; simp)
        obtain ⟨F1, hF1⟩ : ∃ F1, (P ++ A1) ++ B1 ++ A2 ++ (B2 ++ S) = F1 := ⟨_, rfl⟩
        rw [hF1] at HROT HNOR
        have e1 : F1 = P ++ A1 ++ B1 ++ (A2 ++ B2 ++ S) := by rw [← hF1]; simp only [List.append_assoc]
        have HLEFT := hid0 (fun (hc1 : a < s) (hc2 : s < mid) (W : World) (hW : St w0 w1 g n cap vb pv E0 F1 W) => (HR.out (mid - a) (by omega)).out P A1 B1 (A2 ++ B2 ++ S) a s mid W (by omega) ⟨rfl, hP, l1, by omega, (srd_parts hsA).1, (srd_parts hsB).1, hc1, hc2⟩ (by rw [← e1]; exact hW))
        have HNOL := hid0 (fun (hc : a = s ∨ s = mid) => show F1 = P ++ srt (leE gs) (A1 ++ B1) ++ (A2 ++ B2 ++ S) from by
          rw [srt_nil_app (srd_parts hsA).1 (srd_parts hsB).1 (by
            rcases hc with hc | hc
            · exact Or.inl (List.length_eq_zero_iff.1 (by omega))
            · exact Or.inr (List.length_eq_zero_iff.1 (by omega))), e1]
          simp only [List.append_assoc])
        obtain ⟨F2, hF2⟩ : ∃ F2, P ++ srt (leE gs) (A1 ++ B1) ++ (A2 ++ B2 ++ S) = F2 := ⟨_, rfl⟩
        rw [hF2] at HLEFT HNOL
        have e3 : F2 = (P ++ srt (leE gs) (A1 ++ B1)) ++ A2 ++ B2 ++ S := by rw [← hF2]; simp only [List.append_assoc]
        have e4 : (P ++ srt (leE gs) (A1 ++ B1)) ++ srt (leE gs) (A2 ++ B2) ++ S = RR := by rw [← HRR.out, eS]; simp only [List.append_assoc]
        have HRIGHT := hid0 (fun (hc1 : mid < e) (hc2 : e < b) (W : World) (hW : St w0 w1 g n cap vb pv E0 F2 W) => (HR.out (b - mid) (by omega)).out (P ++ srt (leE gs) (A1 ++ B1)) A2 B2 S mid e b W (by omega) ⟨rfl, by rw [List.length_append, srt_len, List.length_append, hP]; omega, by omega, by omega, (srd_parts hsA).2, (srd_parts hsB).2, hc1, hc2⟩ (by rw [← e3]; exact hW))
        rw [e4] at HRIGHT
        have HNOE := hid0 (fun (hc : mid = e ∨ e = b) => show F2 = RR from by
          rw [← e4, srt_nil_app (srd_parts hsA).2 (srd_parts hsB).2 (by
            rcases hc with hc | hc
            · exact Or.inl (List.length_eq_zero_iff.1 (by omega))
            · exact Or.inr (List.length_eq_zero_iff.1 (by omega))), e3]
          simp only [List.append_assoc])
        clear hB hS0 eA eB eS hP hsA hsB l1 l2 l3 l4 l5 hF1 hF2 e1 e3 e4 he hnn hse
        replace hwe := hwe.out
        obtain ⟨b1, hb1⟩ : ∃ b1, (decide (s < m) && decide (m < e)) = b1 := ⟨_, rfl⟩
        have Hb1 := hid0 hb1
        clear hb1
        go_upto_region 39 with fail
        go_cut [24, 185] from 25 (fun ev tv wq => ev = .int .i64 e ∧ tv = .bool b1 ∧ wr = wq)
        case first =>
          as_aux_lemma =>
            by_cases hc1 : s < m
            · have hd1 : decide ((s : Int) < (m : Int)) = true := by simp; omega
              have hd1n : decide (s < m) = true := by simpa using hc1
              by_cases hc2 : m < e
              · have hd2 : decide ((m : Int) < (e : Int)) = true := by simp; omega
                have hd2n : decide (m < e) = true := by simpa using hc2
                have hbe := Hb1.out
                simp only [hd1n, hd2n, Bool.and_self] at hbe
                subst hbe
                clear hc1 hc2 Hb1
                go_wp2
                go_meet
                case rel => exact ⟨rfl, rfl, rfl⟩
              · have hd2 : decide ((m : Int) < (e : Int)) = false := by simp; omega
                have hd2n : decide (m < e) = false := by simpa using hc2
                have hbe := Hb1.out
                simp only [hd2n, Bool.and_false] at hbe
                subst hbe
                clear hc1 hc2 Hb1
                go_wp2
                go_meet
                case rel => exact ⟨rfl, rfl, rfl⟩
            · have hd1 : decide ((s : Int) < (m : Int)) = false := by simp; omega
              have hd1n : decide (s < m) = false := by simpa using hc1
              have hbe := Hb1.out
              simp only [hd1n, Bool.false_and] at hbe
              subst hbe
              clear hc1 Hb1
              go_wp2
              go_meet
              case rel => exact ⟨rfl, rfl, rfl⟩
        case rest =>
          obtain ⟨rfl, rfl, rfl⟩ := hcut
          go_upto_if 185 with fail
          go_cut [24] from 25 (fun ev wq => ev = .int .i64 e ∧ Hid (St w0 w1 g n cap vb pv E0 F1 wq))
          case first =>
            as_aux_lemma =>
              clear HLEFT HRIGHT HNOL HNOE
              cases b1 with
              | true =>
                have hc := Hb1.out
                simp only [Bool.and_eq_true, decide_eq_true_eq] at hc
                have CR := hid0 (HROT.out hc.1 hc.2 _ hT0.out)
                clear HROT HNOR hc Hb1
                go_wp2_with (first | (go_at_call 300; go_must (refine CR.out.mono ?_; rintro e9 w9 ⟨rfl, hS9⟩; (have hS9 := hid0 hS9))) | fail)
                go_meet
                case rel => exact ⟨rfl, hS9⟩
              | false =>
                have hc := Hb1.out
                simp only [Bool.and_eq_false_iff, decide_eq_false_iff_not] at hc
                have hS9 := hT0.out
                rw [HNOR.out (by omega)] at hS9
                have hS9 := hid0 hS9
                clear HROT HNOR hc Hb1
                go_wp2
                go_meet
                case rel => exact ⟨rfl, hS9⟩
          case rest =>
            obtain ⟨rfl, hT1⟩ := hcut
            clear HROT HNOR hT0 hwe
            obtain ⟨b2, hb2⟩ : ∃ b2, (decide (a < s) && decide (s < mid)) = b2 := ⟨_, rfl⟩
            have Hb2 := hid0 hb2
            clear hb2
            go_upto_region 41 with fail
            go_cut [24, 199] from 25 (fun ev tv wq => ev = .int .i64 e ∧ tv = .bool b2 ∧ wc = wq)
            case first =>
              as_aux_lemma =>
                by_cases hc1 : a < s
                · have hd1 : decide ((a : Int) < (s : Int)) = true := by simp; omega
                  have hd1n : decide (a < s) = true := by simpa using hc1
                  by_cases hc2 : s < mid
                  · have hd2 : decide ((s : Int) < (mid : Int)) = true := by simp; omega
                    have hd2n : decide (s < mid) = true := by simpa using hc2
                    have hbe := Hb2.out
                    simp only [hd1n, hd2n, Bool.and_self] at hbe
                    subst hbe
                    clear hc1 hc2 Hb2
                    go_wp2
                    go_meet
                    case rel => exact ⟨rfl, rfl, rfl⟩
                  · have hd2 : decide ((s : Int) < (mid : Int)) = false := by simp; omega
                    have hd2n : decide (s < mid) = false := by simpa using hc2
                    have hbe := Hb2.out
                    simp only [hd2n, Bool.and_false] at hbe
                    subst hbe
                    clear hc1 hc2 Hb2
                    go_wp2
                    go_meet
                    case rel => exact ⟨rfl, rfl, rfl⟩
                · have hd1 : decide ((a : Int) < (s : Int)) = false := by simp; omega
                  have hd1n : decide (a < s) = false := by simpa using hc1
                  have hbe := Hb2.out
                  simp only [hd1n, Bool.false_and] at hbe
                  subst hbe
                  clear hc1 Hb2
                  go_wp2
                  go_meet
                  case rel => exact ⟨rfl, rfl, rfl⟩
            case rest =>
              obtain ⟨rfl, rfl, rfl⟩ := hcut
              go_upto_if 199 with fail
              go_cut [24] from 25 (fun ev wq => ev = .int .i64 e ∧ Hid (St w0 w1 g n cap vb pv E0 F2 wq))
              case first =>
                as_aux_lemma =>
                  clear HRIGHT HNOE
                  cases b2 with
                  | true =>
                    have hc := Hb2.out
                    simp only [Bool.and_eq_true, decide_eq_true_eq] at hc
                    have CR := hid0 (HLEFT.out hc.1 hc.2 _ hT1.out)
                    clear HLEFT HNOL hc Hb2
                    go_wp2_with (first | (go_at_call 282; go_must (refine CR.out.mono ?_; rintro e9 w9 ⟨rfl, hS9⟩; (have hS9 := hid0 hS9))) | fail)
                    go_meet
                    case rel => exact ⟨rfl, hS9⟩
                  | false =>
                    have hc := Hb2.out
                    simp only [Bool.and_eq_false_iff, decide_eq_false_iff_not] at hc
                    have hS9 := hT1.out
                    rw [HNOL.out (by omega)] at hS9
                    have hS9 := hid0 hS9
                    clear HLEFT HNOL hc Hb2
                    go_wp2
                    go_meet
                    case rel => exact ⟨rfl, hS9⟩
              case rest =>
                obtain ⟨rfl, hT2⟩ := hcut
                clear HLEFT HNOL hT1
                obtain ⟨b3, hb3⟩ : ∃ b3, (decide (mid < e) && decide (e < b)) = b3 := ⟨_, rfl⟩
                have Hb3 := hid0 hb3
                clear hb3
                go_upto_region 43 with fail
                go_cut [24, 213] from 25 (fun ev tv wq => ev = .int .i64 e ∧ tv = .bool b3 ∧ wc = wq)
                case first =>
                  as_aux_lemma =>
                    by_cases hc1 : mid < e
                    · have hd1 : decide ((mid : Int) < (e : Int)) = true := by simp; omega
                      have hd1n : decide (mid < e) = true := by simpa using hc1
                      by_cases hc2 : e < b
                      · have hd2 : decide ((e : Int) < (b : Int)) = true := by simp; omega
                        have hd2n : decide (e < b) = true := by simpa using hc2
                        have hbe := Hb3.out
                        simp only [hd1n, hd2n, Bool.and_self] at hbe
                        subst hbe
                        clear hc1 hc2 Hb3
                        go_wp2
                        go_meet
                        case rel => exact ⟨rfl, rfl, rfl⟩
                      · have hd2 : decide ((e : Int) < (b : Int)) = false := by simp; omega
                        have hd2n : decide (e < b) = false := by simpa using hc2
                        have hbe := Hb3.out
                        simp only [hd2n, Bool.and_false] at hbe
                        subst hbe
                        clear hc1 hc2 Hb3
                        go_wp2
                        go_meet
                        case rel => exact ⟨rfl, rfl, rfl⟩
                    · have hd1 : decide ((mid : Int) < (e : Int)) = false := by simp; omega
                      have hd1n : decide (mid < e) = false := by simpa using hc1
                      have hbe := Hb3.out
                      simp only [hd1n, Bool.false_and] at hbe
                      subst hbe
                      clear hc1 Hb3
                      go_wp2
                      go_meet
                      case rel => exact ⟨rfl, rfl, rfl⟩
                case rest =>
                  obtain ⟨rfl, rfl, rfl⟩ := hcut
                  cases b3 with
                  | true =>
                    have hc := Hb3.out
                    simp only [Bool.and_eq_true, decide_eq_true_eq] at hc
                    have CR := hid0 (HRIGHT.out hc.1 hc.2 _ hT2.out)
                    clear HRIGHT HNOE hc Hb3
                    go_wp2_with (first | (go_at_call 282; go_must (refine CR.out.mono ?_; rintro e9 w9 ⟨rfl, hS9⟩; (have hS9 := hid0 hS9))) | fail)
                    go_returns
                    exact ⟨rfl, hS9.out⟩
                  | false =>
                    have hc := Hb3.out
                    simp only [Bool.and_eq_false_iff, decide_eq_false_iff_not] at hc
                    have hS9 := hT2.out
                    rw [HNOE.out (by omega)] at hS9
                    have hS9 := hid0 hS9
                    clear HRIGHT HNOE hc Hb3
                    go_wp2
                    go_returns
                    exact ⟨rfl, hS9.out⟩
theorem sym_all (w0 w1 : World) (g n cap vb : Nat) (pv : Value) (gs : List Int) (E0 : List Elem) (hO : OrdS w0 vb pv gs E0) (hn : n ≤ 1000000) : ∀ N, SymH w0 w1 g n cap vb pv gs E0 N := by
  have key : ∀ K N, N < K → SymH w0 w1 g n cap vb pv gs E0 N := by
    intro K
    induction K with
    | zero => intro N h; omega
    | succ K ih =>
      intro N hN
      refine ⟨fun P A B S a m b w hab hT hS => ?_⟩
      have hem := hT.em
      have heb := hT.eb
      by_cases hA : A.length = 1
      · obtain ⟨x, rfl⟩ : ∃ x, A = [x] := List.length_eq_one_iff.1 hA
        exact sym_one w0 w1 g n cap vb pv gs E0 P B S x a m b w hO hT hS hn
      by_cases hB : B.length = 1
      · obtain ⟨x, rfl⟩ : ∃ x, B = [x] := List.length_eq_one_iff.1 hB
        exact sym_last w0 w1 g n cap vb pv gs E0 P A S x a m b w hO hT hA hS hn
      exact sym_step w0 w1 g n cap vb pv gs E0 P A B S a m b w hO hT hA hB hS hn (fun N' h => ih N' (by omega))
  exact fun N => key (N + 1) N (by omega)
end Go.Proofs.YtjmoegcfgadjiaaGreat
