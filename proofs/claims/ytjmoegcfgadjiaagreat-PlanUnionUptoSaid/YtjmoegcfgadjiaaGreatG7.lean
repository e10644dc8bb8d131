/- Several of my texts laid together, each as it was: R4, R5. Conditions: each names its own. -/
import Derived.Test.YtjmoegcfgadjiaaGreatG6
/- slices.SortStableFunc over a list of one's own: a contract of the call, in whatever memory: sorted, what is alike in its order. Conditions: the list's cells are known; the order answers whenever it is asked. -/
namespace Go.Proofs.YtjmoegcfgadjiaaGreat
open Go.RowKit

theorem wmul2 {k q : Nat} (h : 2 * k = q) (hb : q ≤ 4000000) : IntKind.i64.wrap (2 * (k : Int)) = (q : Int) := by rw [IntWalk.i64_in _ (by omega)]; omega
theorem wmul2' {k q : Nat} (h : 2 * k = q) (hb : q ≤ 4000000) : IntKind.i64.wrap ((k : Int) * 2) = (q : Int) := by rw [IntWalk.i64_in _ (by omega)]; omega
theorem wadd20 {b q : Nat} (h : b + 20 = q) (hb : q ≤ 4000000) : IntKind.i64.wrap ((b : Int) + 20) = (q : Int) := by rw [IntWalk.i64_in _ (by omega)]; omega
/-- While pieces of a length are sorted: those that are, those that aren't yet. -/
structure PhI (le : Elem → Elem → Bool) (L : List Elem) (n k a : Nat) (D R : List Elem) : Prop where
  fin : D ++ pcs le k R = pcs le k L
  d : D.length = a
  r : a + R.length = n
set_option maxHeartbeats 16000000 in
set_option maxRecDepth 1000000 in
theorem stable_any (w0 w1 : World) (g n cap vb : Nat) (pv : Value) (gs : List Int) (E0 L : List Elem) (w : World) (hO : OrdS w0 vb pv gs E0) (hS : St w0 w1 g n cap vb pv E0 L w) (hn : n ≤ 1000000) :
    Calls Tryz.prog 252 #[.slice (some ⟨g, 0, none⟩) n cap, .int .i64 n, .func (.func 187) #[] #[.pointer (some ⟨vb, 0, none⟩)]] w fun e w' => e = .returned (.tuple #[]) ∧ St w0 w1 g n cap vb pv E0 (srt (leE gs) L) w' := by
  have HL := hid0 hS.len
  have HS := hid0 hS
  have HO := hid0 hO
  have HSY := hid0 (sym_all w0 w1 g n cap vb pv gs E0 hO hn)
  have HP0 : Hid (PhI (leE gs) L n 20 0 [] L) := hid0 ⟨rfl, rfl, by rw [hS.len]; omega⟩
  obtain ⟨RR, hRR⟩ : ∃ RR, srt (leE gs) L = RR := ⟨_, rfl⟩
  rw [hRR]
  have HRR := hid0 hRR
  clear hS hO hRR
  go_enter Tryz.func252, Tryz.ntmps252
  go_wp2
  go_loopw [7, 8] (fun av bv wr => ∃ (a b : Nat) (D R : List Elem), a + 20 = b ∧ a ≤ n ∧ av = .int .i64 a ∧ bv = .int .i64 b ∧ Hid (PhI (leE gs) L n 20 a D R) ∧ Hid (St w0 w1 g n cap vb pv E0 (D ++ R) wr)) (fun av _ _ => n + 20 - (intOf av).toNat)
  case atStart => exact ⟨0, 20, [], L, rfl, Nat.zero_le _, rfl, rfl, HP0, HS⟩
  case round =>
    clear HS HP0
    obtain ⟨a, b, D, R, hab, han, rfl, rfl, hP, hS⟩ := hrel
    have hd := hP.out.d
    have hr := hP.out.r
    by_cases hle : b ≤ n
    · as_aux_lemma =>
        have hbi : (b : Int) ≤ (n : Int) := by omega
        obtain ⟨b2, hb2⟩ : ∃ b2, b + 20 = b2 := ⟨_, rfl⟩
        have hb4 : b2 ≤ 4000000 := by omega
        have CI := hid0 (insS_any w0 w1 g n cap vb pv gs E0 D (R.take 20) (R.drop 20) a b wr HO.out (by rw [List.append_assoc, List.take_append_drop]; exact hS.out) hd (by rw [List.length_take]; omega) hn)
        have hP2 : Hid (PhI (leE gs) L n 20 b (D ++ srt (leE gs) (R.take 20)) (R.drop 20)) := hid0 ⟨ph1_step (by decide) hP.out.fin (by omega), by rw [List.length_append, srt_len, List.length_take]; omega, by rw [List.length_drop]; omega⟩
        have h5 : n + 20 - b < n + 20 - a := by omega
        have hw := wadd20 hb2 hb4
        clear hP hS hd hr hab hle hb4
        go_wp2_with (first | (go_at_call 281; go_must (refine CI.out.mono ?_; rintro e9 w9 ⟨rfl, hS9⟩; (have hS9 := hid0 hS9))) | fail)
        exact ⟨⟨b, b2, _, _, hb2, by omega, rfl, by go_num, hP2, hS9⟩, by simp [intOf]; omega⟩
    · have hbi : ¬ (b : Int) ≤ (n : Int) := by omega
      have CI := hid0 (insS_any w0 w1 g n cap vb pv gs E0 D R [] a n wr HO.out (by rw [List.append_nil]; exact hS.out) hd hr hn)
      have HF := hid0 (show D ++ srt (leE gs) R ++ [] = pcs (leE gs) 20 L by rw [List.append_nil, ← hP.out.fin, pcs_all (by omega)])
      clear hP hS hd hr hab hle han
      go_wp2_with (first | (go_at_call 281; go_must (refine CI.out.mono ?_; rintro e9 w9 ⟨rfl, hS9⟩; (have hS9 := hid0 (HF.out ▸ hS9)))) | fail)
      clear CI HF HO
      go_loopw [6] (fun kv wr => ∃ k : Nat, 0 < k ∧ k ≤ n + n + 20 ∧ kv = .int .i64 k ∧ Hid (St w0 w1 g n cap vb pv E0 (pcs (leE gs) k L) wr)) (fun kv _ => n - (intOf kv).toNat)
      case atStart => exact ⟨20, by decide, by omega, rfl, hS9⟩
      case round =>
        clear hS9
        obtain ⟨k, hk0, hk1, rfl, hT⟩ := hrel
        by_cases hlt : k < n
        · have hki : (k : Int) < (n : Int) := by omega
          obtain ⟨k2, hk2⟩ : ∃ k2, 2 * k = k2 := ⟨_, rfl⟩
          have hk24 : k2 ≤ 4000000 := by omega
          have hw2 := wmul2 hk2 hk24
          have HP0 : Hid (PhI (leE gs) L n k2 0 [] L) := hid0 ⟨rfl, rfl, by rw [HL.out]; omega⟩
          have hT0 : Hid (St w0 w1 g n cap vb pv E0 ([] ++ pcs (leE gs) k L) wr) := hid0 hT.out
          have hk22 : k2 ≤ n + n := by omega
          have hkk : k < k2 := by omega
          clear hT hlt hk1
          go_wp2
          go_loopw [7, 8] (fun av bv wr => ∃ (a b : Nat) (D R : List Elem), a + k2 = b ∧ a ≤ n ∧ av = .int .i64 a ∧ bv = .int .i64 b ∧ Hid (PhI (leE gs) L n k2 a D R) ∧ Hid (St w0 w1 g n cap vb pv E0 (D ++ pcs (leE gs) k R) wr)) (fun av _ _ => n + 20 - (intOf av).toNat)
          case atStart => exact ⟨0, k2, [], L, by omega, Nat.zero_le _, rfl, rfl, HP0, hT0⟩
          case round =>
            clear hT0 HP0
            obtain ⟨a, b, D, R, hab, han, rfl, rfl, hP, hS⟩ := hrel
            have hd := hP.out.d
            have hr := hP.out.r
            obtain ⟨m, hm⟩ : ∃ m, a + k = m := ⟨_, rfl⟩
            by_cases hle : b ≤ n
            · as_aux_lemma =>
                have hbi : (b : Int) ≤ (n : Int) := by omega
                obtain ⟨b2, hb2⟩ : ∃ b2, b + k2 = b2 := ⟨_, rfl⟩
                have hb4 : b2 ≤ 4000000 := by omega
                have hm4 : m ≤ 4000000 := by omega
                have e1 := ph2_parts (le := leE gs) (R := R) hk0 (by omega)
                have e2 : D ++ pcs (leE gs) k R = D ++ srt (leE gs) (R.take k) ++ srt (leE gs) ((R.drop k).take k) ++ pcs (leE gs) k (R.drop (2 * k)) := by rw [e1]; simp only [List.append_assoc]
                have hS2 := hS.out
                rw [e2] at hS2
                have CI := hid0 ((HSY.out (b - a)).out D _ _ _ a m b wr (by omega) ⟨rfl, hd, by rw [srt_len, List.length_take]; omega, by rw [srt_len, List.length_take, List.length_drop]; omega, srt_srd (leE_LeT gs) _, srt_srd (leE_LeT gs) _, by omega, by omega⟩ hS2)
                have hP2 : Hid (PhI (leE gs) L n k2 b (D ++ srt (leE gs) (srt (leE gs) (R.take k) ++ srt (leE gs) ((R.drop k).take k))) (R.drop (2 * k))) := hid0 (by
                  subst hk2
                  exact ⟨ph2_step (leE_LeT gs) hk0 hP.out.fin (by omega), by rw [List.length_append, srt_len, List.length_append, srt_len, srt_len, List.length_take, List.length_take, List.length_drop]; omega, by rw [List.length_drop]; omega⟩)
                have h5 : n + 20 - b < n + 20 - a := by omega
                have hw := hid0 (wadd hb2 hb4)
                have hw3 := wadd hm hm4
                replace hw := hw.out
                clear hP hS hd hr hab hle hb4 hS2 e1 e2 hm4
                go_wp2_with (first | (go_at_call 282; go_must (refine CI.out.mono ?_; rintro e9 w9 ⟨rfl, hS9⟩; (have hS9 := hid0 hS9))) | fail)
                exact ⟨⟨b, b2, _, _, hb2, by omega, rfl, rfl, hP2, hS9⟩, by simp [intOf]; omega⟩
            · have hbi : ¬ (b : Int) ≤ (n : Int) := by omega
              have hm4 : m ≤ 4000000 := by omega
              by_cases hmn : m < n
              · as_aux_lemma =>
                  have hmi : (m : Int) < (n : Int) := by omega
                  obtain ⟨e1, e3⟩ := ph2_last (leE_LeT gs) (R := R) hk0 (by omega) (by omega)
                  have e2 : D ++ pcs (leE gs) k R = D ++ srt (leE gs) (R.take k) ++ srt (leE gs) (R.drop k) ++ [] := by rw [e1]; simp only [List.append_assoc, List.append_nil]
                  have hS2 := hS.out
                  rw [e2] at hS2
                  have CI := (HSY.out (n - a)).out D _ _ _ a m n wr (by omega) ⟨rfl, hd, by rw [srt_len, List.length_take]; omega, by rw [srt_len, List.length_drop]; omega, srt_srd (leE_LeT gs) _, srt_srd (leE_LeT gs) _, by omega, hmn⟩ hS2
                  rw [e3, List.append_nil] at CI
                  have e4 := hP.out.fin
                  subst hk2
                  rw [e4] at CI
                  have CI := hid0 CI
                  have hk7 : 2 * k ≤ n + n + 20 := by omega
                  have hk8 : n - 2 * k < n - k := by omega
                  have hw3 := hid0 (wadd hm hm4)
                  have hw4 := wmul2' (k := k) rfl hk24
                  replace hw3 := hw3.out
                  clear hP hS hd hr hab hle hS2 e1 e2 e3 e4 hm4 hw2 hmn hk24 hk22 hm
                  go_wp2_with (first | (go_at_call 282; go_must (refine CI.out.mono ?_; rintro e9 w9 ⟨rfl, hS9⟩; (have hS9 := hid0 hS9))) | fail)
                  exact ⟨⟨2 * k, by omega, hk7, rfl, hS9⟩, by simp [intOf]; omega⟩
              · as_aux_lemma =>
                  have hmi : ¬ (m : Int) < (n : Int) := by omega
                  have e1 := ph2_none (le := leE gs) (R := R) (k := k) (by omega)
                  have hS2 := hS.out
                  subst hk2
                  rw [e1, hP.out.fin] at hS2
                  have hS9 := hid0 hS2
                  have hk7 : 2 * k ≤ n + n + 20 := by omega
                  have hk8 : n - 2 * k < n - k := by omega
                  have hw3 := hid0 (wadd hm hm4)
                  have hw4 := wmul2' (k := k) rfl hk24
                  replace hw3 := hw3.out
                  clear hP hS hd hr hab hle hS2 e1 hm4 hw2 hmn hk24 hk22 hm
                  go_wp2
                  exact ⟨⟨2 * k, by omega, hk7, rfl, hS9⟩, by simp [intOf]; omega⟩
        · have hki : ¬ (k : Int) < (n : Int) := by omega
          have HE := hid0 (show St w0 w1 g n cap vb pv E0 RR wr by
            have := hT.out
            rwa [pcs_all (by have := HL.out; omega), HRR.out] at this)
          clear hT
          go_wp2
          go_returns
          exact ⟨rfl, HE.out⟩
set_option maxHeartbeats 4000000 in
theorem sortS_any (w0 w1 : World) (g n cap vb : Nat) (pv : Value) (gs : List Int) (E0 L : List Elem) (w : World) (hO : OrdS w0 vb pv gs E0) (hS : St w0 w1 g n cap vb pv E0 L w) (hn : n ≤ 1000000) :
    Calls Tryz.prog 189 #[.slice (some ⟨g, 0, none⟩) n cap, .func (.func 187) #[] #[.pointer (some ⟨vb, 0, none⟩)]] w fun e w' => e = .returned (.tuple #[]) ∧ St w0 w1 g n cap vb pv E0 (srt (leE gs) L) w' := by
  have CS := hid0 (stable_any w0 w1 g n cap vb pv gs E0 L w hO hS hn)
  clear hO hS
  go_enter Tryz.func189, Tryz.ntmps189
  go_wp2_with (first | (go_at_call 252; go_must (refine CS.out.mono ?_; rintro e w1 ⟨rfl, hb1⟩)) | fail)
  go_returns
  exact ⟨rfl, hb1⟩
end Go.Proofs.YtjmoegcfgadjiaaGreat

/- Groups of the rows of any list of one's own (plan.alike): a contract of the call, in whatever memory. Conditions: the rows' cells are known. -/
namespace Go.Proofs.YtjmoegcfgadjiaaGreat
open Go.RowKit

theorem absS_perm {A B : List Pair} (h : A.Perm B) : absS A = absS B := by
  induction h with
  | nil => rfl
  | cons x _ ih => simp only [absS, ih]
  | swap x y l => simp only [absS]; omega
  | trans _ _ h1 h2 => rw [h1, h2]
theorem ElOk.srt {E : List Elem} (h : ElOk E) (gs : List Int) : ElOk (srt (leE gs) E) :=
  ⟨fun e he => h.i e (mem_srt.1 he), by rw [srt_len]; exact h.few, by rw [absS_perm ((srt_perm (le := leE gs) E).map pr)]; exact h.all⟩
set_option maxHeartbeats 1000000 in
theorem alike_nil (gp : Option Addr) (gc : Nat) (gs : List Int) (c : Nat) (w : World) :
    Calls Tryz.prog 135 #[.slice none 0 c, .slice gp gs.length gc] w fun e w' => e = .returned (.slice none 0 0) ∧ Below w.heap.size w w' := by
  have hB0 : Below w.heap.size w (w.alloc (Obj.cells #[.slice gp gs.length gc] 35)) := (Below.refl _ _).alloc (Nat.le_refl _) _
  have CS := hid0 (sort_risen w.heap.size none c [] gs (w.alloc (Obj.cells #[.slice gp gs.length gc] 35)) (ElemsAt.nil _ _) ⟨fun e1 h1 => absurd h1 (by simp)⟩ (fun i h => absurd h (by simp)) (by simp))
  go_enter Tryz.func135, Tryz.ntmps135
  go_wp2_with (first | (go_at_call 189; go_must (refine CS.out.mono ?_; rintro e w1 ⟨rfl, hb1⟩; (have hB1 := below_through hb1 hB0.size hB0))) | fail)
  go_loopw [6, 15] (fun fv iv wr => fv = .slice none 0 0 ∧ iv = .int .i64 0 ∧ w1 = wr) (fun _ iv _ => (intOf iv).toNat)
  case atStart => exact ⟨rfl, rfl, rfl⟩
  case round =>
    obtain ⟨rfl, rfl, rfl⟩ := hrel
    go_wp2
    go_ret
    exact ⟨rfl, hB1⟩
set_option maxHeartbeats 8000000 in
set_option maxRecDepth 1000000 in
theorem alike_own (w0 : World) (a : Option Addr) (g c n : Nat) (Eo : List Elem) (gp : Option Addr) (gc : Nat) (gs : List Int) (w : World) (hM : MkE w0 w (.slice (some ⟨g, 0, none⟩) n c) Eo) (ha : a = some ⟨g, 0, none⟩) (hlen : Eo.length = n) (hE : ElOk Eo) (hI : IntsAt w0 gp gs) (hgl : gs.length ≤ 1000) (hg : ∀ e ∈ Eo, ∀ g ∈ gs, 0 ≤ g ∧ g < (e.r.length : Int)) :
    Calls Tryz.prog 135 #[.slice a n c, .slice gp gs.length gc] w fun e w' => ∃ a' c' G, e = .returned (.slice a' G.length c') ∧ GrpsAt w' a' G ∧ G.map Gx.grp = (runsM gs (sortG gs (Eo.map pr))).map (fun g => (g, 1)) ∧ w.grownBy w' (some g) := by
  have V := VarB.new w [.slice gp gs.length gc] 35
  have hB0 : Below w.heap.size w (w.alloc (Obj.cells #[.slice gp gs.length gc] 35)) := (Below.refl _ _).alloc (Nat.le_refl _) _
  have v0 := V.cell 0 rfl
  have hO : OrdS w0 w.heap.size (.slice gp gs.length gc) gs Eo := ⟨fun e1 h1 e2 h2 W hW hv r1 r2 => order_any e1.a e2.a e1.c e2.c e1.r e2.r e1.n e2.n w.heap.size gp gc gs W hv (hI.later hW) hgl r1 r2 (fun g hgm => ⟨(hg e1 h1 g hgm).1, (hg e1 h1 g hgm).2, (hg e2 h2 g hgm).2⟩)⟩
  have hSt : St w0 w g n c w.heap.size (.slice gp gs.length gc) Eo Eo (w.alloc (Obj.cells #[.slice gp gs.length gc] 35)) := ⟨hM.alloc _, hlen, v0, fun e => hM.box (by rw [← e]; rfl), grown_of hB0 _, fun e he => he⟩
  have CS := sortS_any w0 w g n c w.heap.size (.slice gp gs.length gc) gs Eo Eo _ hO hSt (by have := hE.few; omega)
  rw [← ha] at CS
  obtain ⟨E, hEE⟩ : ∃ E, srt (leE gs) Eo = E := ⟨_, rfl⟩
  have hEl : E.length = n := by rw [← hEE, srt_len, hlen]
  have hEok : ElOk E := hEE ▸ hE.srt gs
  have hsub : ∀ e ∈ E, e ∈ Eo := fun e he => by rw [← hEE] at he; exact mem_srt.1 he
  have HSRT := hid0 (show sortG gs (Eo.map pr) = E.map pr by rw [← srt_pr, hEE])
  rw [hEE] at CS
  have CC := hid0 (fun (w1 : World) (h1 : St w0 w g n c w.heap.size (.slice gp gs.length gc) Eo E w1) => (show OrdC w1 w.heap.size gs E from ⟨fun e1 m1 e2 m2 W hW r1 r2 => hO.out e1 (hsub e1 m1) e2 (hsub e2 m2) W (below_through hW h1.made.b.size h1.made.b) (cell_later hW h1.box) r1 r2⟩))
  have HGK := hid0 (fun (w1 : World) (h1 : St w0 w g n c w.heap.size (.slice gp gs.length gc) Eo E w1) => (show GrpOk w1 a c E ∧ w.grownBy w1 (some g) from ⟨hEok.grp (by rw [hEl, ha]; exact h1.made), h1.gr⟩))
  have CS := hid0 CS
  have hRI := hid0 (RunI.start gs (E.map pr))
  clear hM ha hlen hE hI hgl hg V hB0 v0 hO hSt hEE hEok hsub
  subst hEl
  go_enter Tryz.func135, Tryz.ntmps135
  go_wp2_with (first | (go_at_call 189; go_must (refine CS.out.mono ?_; rintro e w1 ⟨rfl, hT1⟩)) | fail)
  have CC1 := hid0 (CC.out w1 hT1)
  have hGR := (HGK.out w1 hT1).2
  have HGR := hid0 hGR
  have HG := hid0 (HGK.out w1 hT1).1
  have hcap := HG.out.cap
  have hfew : E.length ≤ 1000000 := HG.out.few
  have hB1 : Below w1.heap.size w1 w1 := Below.refl _ _
  clear CC CS hT1 HGK hGR
  go_loopw [6, 7, 15] (fun fv bv iv wr => ∃ (i b : Nat) (G : List Gx), i ≤ E.length ∧ b ≤ i ∧ iv = .int .i64 i ∧ bv = .int .i64 b ∧ MkG w1 wr fv G ∧ Hid (∃ D, RunI gs (E.map pr) i b D ∧ G.map Gx.grp = D.map (fun g => (g, 1))) ∧ Hid (∀ g ∈ G, GrpOk w1 g.a g.c g.E) ∧ G.length ≤ i) (fun _ _ iv _ => E.length - (intOf iv).toNat)
  case atStart => exact ⟨0, 0, [], Nat.zero_le _, Nat.le_refl _, rfl, rfl, MkG.nil w1, hid0 ⟨[], hRI.out, rfl⟩, hid0 (fun g hg => absurd hg (by simp)), Nat.le_refl _⟩
  case round =>
    obtain ⟨i, b, G, hi, hbi, rfl, rfl, hM, hD, hGs, hGl⟩ := hrel
    have hsz := hM.b.size
    have hBw : Below w1.heap.size w1 wr := hM.b
    have hBB := below_through hBw hB1.size hB1
    by_cases hlt : i < E.length
    · obtain ⟨b1, o1, rfl, hc1⟩ := (HG.out.at_.1.later hBB) (by intro e; rw [e] at hlt; exact absurd hlt (by simp))
      obtain ⟨q0, q1⟩ := hc1 i hlt
      have hm1 := List.getElem_mem hlt
      have hr1 := (HG.out.at_.2 _ hm1).1.later hBB
      have HGS := hid0 (HG.out.sub b (i + 1 - b) (by omega) (by omega))
      have hsl : ((E.drop b).take (i + 1 - b)).length = i + 1 - b := by rw [List.length_take, List.length_drop]; omega
      have hi1 : (0 : Int) ≤ (b : Int) := by omega
      have hi2 : (b : Int) ≤ (i : Int) + 1 := by omega
      have hi3 : (i : Int) + 1 ≤ (c : Int) := by omega
      have hcb : ¬ c = b := by omega
      have hw : IntKind.i64.wrap ((i : Int) + 1) = (i : Int) + 1 := IntWalk.i64_in _ (by omega)
      have hin : (i : Int) < (E.length : Int) := by omega
      have HSL := hid0 hsl
      clear hsl
      have HGN := hid0 (show ∀ g ∈ (G ++ [⟨some ⟨b1, o1 + b * 2, none⟩, c - b, (E.drop b).take (i + 1 - b), 1⟩] : List Gx), GrpOk w1 g.a g.c g.E from fun g hg => by
        rcases List.mem_append.1 hg with hg | hg
        · exact hGs.out g hg
        · obtain rfl := List.mem_singleton.1 hg; exact HGS.out)
      have HGM := hid0 (show Gx.grp ⟨some ⟨b1, o1 + b * 2, none⟩, c - b, (E.drop b).take (i + 1 - b), 1⟩ = (((E.map pr).drop b).take (i + 1 - b), 1) by simp [Gx.grp, List.map_take, List.map_drop])
      by_cases hl : i + 1 = E.length
      · have hle : (((i : Int) + 1) == (E.length : Int)) = true := by simp; omega
        have HN := hid0 (show ∃ D, RunI gs (E.map pr) (i + 1) (i + 1) D ∧ (G ++ [⟨some ⟨b1, o1 + b * 2, none⟩, c - b, (E.drop b).take (i + 1 - b), 1⟩] : List Gx).map Gx.grp = D.map (fun g => (g, (1 : Int))) by
          obtain ⟨D, h1, h2⟩ := hD.out
          exact ⟨_, h1.last (by simpa using hl), by rw [List.map_append, h2, List.map_append, List.map_singleton, HGM.out]; rfl⟩)
        have HL := hid0 hl
        clear hc1 hl hm1 hr1
        have hS : SBel wr wr.drew := ⟨Below.drew (Below.refl _ _)⟩
        go_wp2_with fail
        refine wp_region_held_drew (S := SBel wr) (by kernel_rfl) hS (fun hHeld => ?_)
        refine wpAnyH_take (i := 0) (v := ?_) rfl (by kernel_rfl) (by kernel_rfl) (by kernel_rfl) (fun _ _ _ h => h) (Or.inl ⟨by rfl, ?_⟩) (by assumption) ?_
        rotate_left
        · (intro wx hSw; have z0 := cell_later hSw.b q0; have z1 := cell_later hSw.b q1; go_simp; (try with_reducible rfl); (try omega))
        (try simp only [Act.put, List.setIfInBounds_toArray, List.set_cons_zero, List.set_cons_succ, List.getElem_toArray, List.getElem_cons_zero])
        refine wpAnyH_take (i := 1) (v := ?_) rfl (by kernel_rfl) (by kernel_rfl) (by kernel_rfl) (fun _ _ _ h => h) (Or.inl ⟨by rfl, ?_⟩) (by assumption) ?_
        rotate_left
        · (intro wx hSw; have z0 := cell_later hSw.b q0; have z1 := cell_later hSw.b q1; go_simp; (try with_reducible rfl); (try omega))
        (try simp only [Act.put, List.setIfInBounds_toArray, List.set_cons_zero, List.set_cons_succ, List.getElem_toArray, List.getElem_cons_zero, List.getElem_cons_succ])
        refine wpAnyH_take (i := 2) (v := ?_) rfl (by kernel_rfl) (by kernel_rfl) (by kernel_rfl) (fun _ _ _ h => h) (Or.inl ⟨by rfl, ?_⟩) (by assumption) ?_
        rotate_left
        · (intro wx hSw; have z0 := cell_later hSw.b q0; have z1 := cell_later hSw.b q1; go_simp; (try with_reducible rfl); (try omega))
        (try simp only [Act.put, List.setIfInBounds_toArray, List.set_cons_zero, List.set_cons_succ, List.getElem_toArray, List.getElem_cons_zero, List.getElem_cons_succ])
        refine wpAnyH_take (i := 3) (v := ?_) rfl (by kernel_rfl) (by kernel_rfl) (by kernel_rfl) (fun _ _ _ h => h) (Or.inl ⟨by rfl, ?_⟩) (by assumption) ?_
        rotate_left
        · (intro wx hSw; have z0 := cell_later hSw.b q0; have z1 := cell_later hSw.b q1; go_simp; (try with_reducible rfl); (try omega))
        (try simp only [Act.put, List.setIfInBounds_toArray, List.set_cons_zero, List.set_cons_succ, List.getElem_toArray, List.getElem_cons_zero, List.getElem_cons_succ])
        refine wpAnyH_take (i := 4) (v := ?_) rfl (by kernel_rfl) (by kernel_rfl) (by kernel_rfl) (fun _ _ _ h => h) (Or.inl ⟨by rfl, ?_⟩) (by assumption) ?_
        rotate_left
        · (intro wx hSw; have z0 := cell_later hSw.b q0; have z1 := cell_later hSw.b q1; go_simp; (try with_reducible rfl); (try omega))
        (try simp only [Act.put, List.setIfInBounds_toArray, List.set_cons_zero, List.set_cons_succ, List.getElem_toArray, List.getElem_cons_zero, List.getElem_cons_succ])
        refine wpAnyH_take (i := 5) (v := ?_) rfl (by kernel_rfl) (by kernel_rfl) (by kernel_rfl) (fun _ _ _ h => h) (Or.inl ⟨by rfl, ?_⟩) (by assumption) ?_
        rotate_left
        · (intro wx hSw; have z0 := cell_later hSw.b q0; have z1 := cell_later hSw.b q1; go_simp; (try with_reducible rfl); (try omega))
        (try simp only [Act.put, List.setIfInBounds_toArray, List.set_cons_zero, List.set_cons_succ, List.getElem_toArray, List.getElem_cons_zero, List.getElem_cons_succ])
        refine wpAnyH_take (i := 6) (v := undef) rfl (by kernel_rfl) (by kernel_rfl) (by kernel_rfl) (fun _ _ _ h => h) (Or.inr ⟨by rfl, rfl⟩) (by assumption) ?_
        (try simp only [Act.put, List.setIfInBounds_toArray, List.set_cons_zero, List.set_cons_succ, List.getElem_toArray, List.getElem_cons_zero, List.getElem_cons_succ])
        refine wpAnyH_take (i := 7) (v := undef) rfl (by kernel_rfl) (by kernel_rfl) (by kernel_rfl) (fun _ _ _ h => h) (Or.inr ⟨by rfl, rfl⟩) (by assumption) ?_
        (try simp only [Act.put, List.setIfInBounds_toArray, List.set_cons_zero, List.set_cons_succ, List.getElem_toArray, List.getElem_cons_zero, List.getElem_cons_succ])
        refine wpAnyH_take (i := 8) (v := undef) rfl (by kernel_rfl) (by kernel_rfl) (by kernel_rfl) (fun _ _ _ h => h) (Or.inr ⟨by rfl, rfl⟩) (by assumption) ?_
        (try simp only [Act.put, List.setIfInBounds_toArray, List.set_cons_zero, List.set_cons_succ, List.getElem_toArray, List.getElem_cons_zero, List.getElem_cons_succ])
        refine wpAnyH_take (i := 9) (v := undef) rfl (by kernel_rfl) (by kernel_rfl) (by kernel_rfl) (fun _ _ _ h => h) (Or.inr ⟨by rfl, rfl⟩) (by assumption) ?_
        (try simp only [Act.put, List.setIfInBounds_toArray, List.set_cons_zero, List.set_cons_succ, List.getElem_toArray, List.getElem_cons_zero, List.getElem_cons_succ])
        refine wpAnyH_take (i := 10) (v := undef) rfl (by kernel_rfl) (by kernel_rfl) (by kernel_rfl) (fun _ _ _ h => h) (Or.inr ⟨by rfl, rfl⟩) (by assumption) ?_
        (try simp only [Act.put, List.setIfInBounds_toArray, List.set_cons_zero, List.set_cons_succ, List.getElem_toArray, List.getElem_cons_zero, List.getElem_cons_succ])
        refine wpAnyH_take (i := 11) (v := undef) rfl (by kernel_rfl) (by kernel_rfl) (by kernel_rfl) (fun _ _ _ h => h) (Or.inr ⟨by rfl, rfl⟩) (by assumption) ?_
        (try simp only [Act.put, List.setIfInBounds_toArray, List.set_cons_zero, List.set_cons_succ, List.getElem_toArray, List.getElem_cons_zero, List.getElem_cons_succ])
        refine wpAnyH_take (i := 12) (v := undef) rfl (by kernel_rfl) (by kernel_rfl) (by kernel_rfl) (fun _ _ _ h => h) (Or.inr ⟨by rfl, rfl⟩) (by assumption) ?_
        (try simp only [Act.put, List.setIfInBounds_toArray, List.set_cons_zero, List.set_cons_succ, List.getElem_toArray, List.getElem_cons_zero, List.getElem_cons_succ])
        refine wpAnyH_take (i := 13) (v := undef) rfl (by kernel_rfl) (by kernel_rfl) (by kernel_rfl) (fun _ _ _ h => h) (Or.inr ⟨by rfl, rfl⟩) (by assumption) ?_
        (try simp only [Act.put, List.setIfInBounds_toArray, List.set_cons_zero, List.set_cons_succ, List.getElem_toArray, List.getElem_cons_zero, List.getElem_cons_succ])
        refine wpAnyH_take (i := 14) (v := undef) rfl (by kernel_rfl) (by kernel_rfl) (by kernel_rfl) (fun _ _ _ h => h) (Or.inr ⟨by rfl, rfl⟩) (by assumption) ?_
        (try simp only [Act.put, List.setIfInBounds_toArray, List.set_cons_zero, List.set_cons_succ, List.getElem_toArray, List.getElem_cons_zero, List.getElem_cons_succ])
        refine wpAnyH_take (i := 15) (v := undef) rfl (by kernel_rfl) (by kernel_rfl) (by kernel_rfl) (fun _ _ _ h => h) (Or.inr ⟨by rfl, rfl⟩) (by assumption) ?_
        (try simp only [Act.put, List.setIfInBounds_toArray, List.set_cons_zero, List.set_cons_succ, List.getElem_toArray, List.getElem_cons_zero, List.getElem_cons_succ])
        refine wpAnyH_take (i := 16) (v := undef) rfl (by kernel_rfl) (by kernel_rfl) (by kernel_rfl) (fun _ _ _ h => h) (Or.inr ⟨by rfl, rfl⟩) (by assumption) ?_
        (try simp only [Act.put, List.setIfInBounds_toArray, List.set_cons_zero, List.set_cons_succ, List.getElem_toArray, List.getElem_cons_zero, List.getElem_cons_succ])
        refine wpAnyH_take (i := 17) (v := undef) rfl (by kernel_rfl) (by kernel_rfl) (by kernel_rfl) (fun _ _ _ h => h) (Or.inr ⟨by rfl, rfl⟩) (by assumption) ?_
        (try simp only [Act.put, List.setIfInBounds_toArray, List.set_cons_zero, List.set_cons_succ, List.getElem_toArray, List.getElem_cons_zero, List.getElem_cons_succ])
        refine wpAnyH_take (i := 18) (v := ?_) rfl (by kernel_rfl) (by kernel_rfl) (by kernel_rfl) (fun _ _ _ h => h) (Or.inl ⟨by rfl, ?_⟩) (by assumption) ?_
        rotate_left
        · (intro wx hSw; have z0 := cell_later hSw.b q0; have z1 := cell_later hSw.b q1; go_simp; (try with_reducible rfl); (try omega))
        (try simp only [Act.put, List.setIfInBounds_toArray, List.set_cons_zero, List.set_cons_succ, List.getElem_toArray, List.getElem_cons_zero, List.getElem_cons_succ])
        refine wpAnyH_done (by kernel_rfl) ?_ _
        clear hHeld
        go_wp2_with (first | (at_builtin; refine wp_g rfl _ _ rfl rfl ((hM.below hS.b).alloc _) ⟨some ⟨b1, o1 + b * 2, none⟩, c - b, (E.drop b).take (i + 1 - b), 1⟩ _ rfl (by (show _ = some (Value.slice (some ⟨b1, o1 + b * 2, none⟩) ((E.drop b).take (i + 1 - b)).length (c - b)); rw [HSL.out]; exact (elem_at _ _ _ _ (by simp)).1)) (elem_at _ _ _ _ (by simp)).2 (by omega) ?_; intro v9 w9 hm9 _) | fail)
        exact ⟨⟨i + 1, i + 1, _, by omega, Nat.le_refl _, by go_num, by go_num, hm9, HN, HGN, by simp; omega⟩, by simp [intOf]; omega⟩
      · have hlt2 : i + 1 < E.length := by omega
        obtain ⟨k, hk⟩ : ∃ k, i + 1 = k := ⟨_, rfl⟩
        obtain ⟨r0, r1⟩ := hc1 (i + 1) hlt2
        have hm2 := List.getElem_mem hlt2
        have hr2 := (HG.out.at_.2 _ hm2).1.later hBB
        have HSM := hid0 (fun (hk0 : keyA gs E[i].r E[i + 1].r = 0) => (show ∃ D, RunI gs (E.map pr) k b D ∧ G.map Gx.grp = D.map (fun g => (g, (1 : Int))) by
          obtain ⟨D, h1, h2⟩ := hD.out
          rw [← hk]
          exact ⟨D, h1.same (by simpa using hlt2) (by simpa [pr] using hk0), h2⟩))
        have HNX := hid0 (fun (hk0 : keyA gs E[i].r E[i + 1].r ≠ 0) => (show ∃ D, RunI gs (E.map pr) k k D ∧ (G ++ [⟨some ⟨b1, o1 + b * 2, none⟩, c - b, (E.drop b).take (i + 1 - b), 1⟩] : List Gx).map Gx.grp = D.map (fun g => (g, (1 : Int))) by
          obtain ⟨D, h1, h2⟩ := hD.out
          rw [← hk]
          exact ⟨_, h1.next (by simpa using hlt2) (by simpa [pr] using hk0), by rw [List.map_append, h2, List.map_append, List.map_singleton, HGM.out]; rfl⟩))
        have hC := CC1.out.out _ hm1 _ hm2
        generalize E[i] = e1 at q0 q1 hm1 hr1 HSM HNX hC
        generalize E[i + 1] = e2 at r0 r1 hm2 hr2 HSM HNX hC
        have CCx := hid0 hC
        generalize keyA gs e1.r e2.r = x at HSM HNX CCx
        rw [hk] at r0 r1
        have HSLK := hid0 (show ((E.drop b).take (i + 1 - b)).length = k - b by rw [HSL.out, hk])
        have hwk : IntKind.i64.wrap ((i : Int) + 1) = (k : Int) := by rw [hw]; omega
        have hle : ((k : Int) == (E.length : Int)) = false := by simp; omega
        have hink : (k : Int) < (E.length : Int) := by omega
        have hbk : (b : Int) ≤ (k : Int) := by omega
        have hkc : (k : Int) ≤ (c : Int) := by omega
        have hkE : k ≤ E.length := by omega
        have hbk' : b ≤ k := by omega
        have hGk : G.length + 1 ≤ k := by omega
        have hik : i < k := by omega
        have HK := hid0 hk
        clear hc1 hl hC hm1 hm2 hk hw hlt2 hi2 hi3
        have hS : SBel wr wr.drew := ⟨Below.drew (Below.refl _ _)⟩
        by_cases hx : x = 0
        · have hxb : (x == 0) = true := by simpa using hx
          have HSM := hid0 (HSM.out hx)
          clear hx
          go_wp2_with fail
          refine wp_region_held_drew (S := SBel wr) (by kernel_rfl) hS (fun hHeld => ?_)
          refine wpAnyH_take (i := 0) (v := ?_) rfl (by kernel_rfl) (by kernel_rfl) (by kernel_rfl) (fun _ _ _ h => h) (Or.inl ⟨by rfl, ?_⟩) (by assumption) ?_
          rotate_left
          · (intro wx hSw; have z0 := cell_later hSw.b q0; have z1 := cell_later hSw.b q1; have y0 := cell_later hSw.b r0; have y1 := cell_later hSw.b r1; go_simp; (try with_reducible rfl); (try omega))
          (try simp only [Act.put, List.setIfInBounds_toArray, List.set_cons_zero, List.set_cons_succ, List.getElem_toArray, List.getElem_cons_zero])
          refine wpAnyH_take (i := 1) (v := ?_) rfl (by kernel_rfl) (by kernel_rfl) (by kernel_rfl) (fun _ _ _ h => h) (Or.inl ⟨by rfl, ?_⟩) (by assumption) ?_
          rotate_left
          · (intro wx hSw; have z0 := cell_later hSw.b q0; have z1 := cell_later hSw.b q1; have y0 := cell_later hSw.b r0; have y1 := cell_later hSw.b r1; go_simp; (try with_reducible rfl); (try omega))
          (try simp only [Act.put, List.setIfInBounds_toArray, List.set_cons_zero, List.set_cons_succ, List.getElem_toArray, List.getElem_cons_zero, List.getElem_cons_succ])
          refine wpAnyH_take (i := 2) (v := ?_) rfl (by kernel_rfl) (by kernel_rfl) (by kernel_rfl) (fun _ _ _ h => h) (Or.inl ⟨by rfl, ?_⟩) (by assumption) ?_
          rotate_left
          · (intro wx hSw; have z0 := cell_later hSw.b q0; have z1 := cell_later hSw.b q1; have y0 := cell_later hSw.b r0; have y1 := cell_later hSw.b r1; go_simp; (try with_reducible rfl); (try omega))
          (try simp only [Act.put, List.setIfInBounds_toArray, List.set_cons_zero, List.set_cons_succ, List.getElem_toArray, List.getElem_cons_zero, List.getElem_cons_succ])
          refine wpAnyH_take (i := 3) (v := ?_) rfl (by kernel_rfl) (by kernel_rfl) (by kernel_rfl) (fun _ _ _ h => h) (Or.inl ⟨by rfl, ?_⟩) (by assumption) ?_
          rotate_left
          · (intro wx hSw; have z0 := cell_later hSw.b q0; have z1 := cell_later hSw.b q1; have y0 := cell_later hSw.b r0; have y1 := cell_later hSw.b r1; go_simp; (try with_reducible rfl); (try omega))
          (try simp only [Act.put, List.setIfInBounds_toArray, List.set_cons_zero, List.set_cons_succ, List.getElem_toArray, List.getElem_cons_zero, List.getElem_cons_succ])
          refine wpAnyH_take (i := 4) (v := ?_) rfl (by kernel_rfl) (by kernel_rfl) (by kernel_rfl) (fun _ _ _ h => h) (Or.inl ⟨by rfl, ?_⟩) (by assumption) ?_
          rotate_left
          · (intro wx hSw; have z0 := cell_later hSw.b q0; have z1 := cell_later hSw.b q1; have y0 := cell_later hSw.b r0; have y1 := cell_later hSw.b r1; go_simp; (try with_reducible rfl); (try omega))
          (try simp only [Act.put, List.setIfInBounds_toArray, List.set_cons_zero, List.set_cons_succ, List.getElem_toArray, List.getElem_cons_zero, List.getElem_cons_succ])
          refine wpAnyH_take (i := 5) (v := ?_) rfl (by kernel_rfl) (by kernel_rfl) (by kernel_rfl) (fun _ _ _ h => h) (Or.inl ⟨by rfl, ?_⟩) (by assumption) ?_
          rotate_left
          · (intro wx hSw; have z0 := cell_later hSw.b q0; have z1 := cell_later hSw.b q1; have y0 := cell_later hSw.b r0; have y1 := cell_later hSw.b r1; go_simp; (try with_reducible rfl); (try omega))
          (try simp only [Act.put, List.setIfInBounds_toArray, List.set_cons_zero, List.set_cons_succ, List.getElem_toArray, List.getElem_cons_zero, List.getElem_cons_succ])
          refine wpAnyH_take (i := 6) (v := ?_) rfl (by kernel_rfl) (by kernel_rfl) (by kernel_rfl) (fun _ _ _ h => h) (Or.inl ⟨by rfl, ?_⟩) (by assumption) ?_
          rotate_left
          · (intro wx hSw; have z0 := cell_later hSw.b q0; have z1 := cell_later hSw.b q1; have y0 := cell_later hSw.b r0; have y1 := cell_later hSw.b r1; go_simp; (try with_reducible rfl); (try omega))
          (try simp only [Act.put, List.setIfInBounds_toArray, List.set_cons_zero, List.set_cons_succ, List.getElem_toArray, List.getElem_cons_zero, List.getElem_cons_succ])
          refine wpAnyH_take (i := 7) (v := ?_) rfl (by kernel_rfl) (by kernel_rfl) (by kernel_rfl) (fun _ _ _ h => h) (Or.inl ⟨by rfl, ?_⟩) (by assumption) ?_
          rotate_left
          · (intro wx hSw; have z0 := cell_later hSw.b q0; have z1 := cell_later hSw.b q1; have y0 := cell_later hSw.b r0; have y1 := cell_later hSw.b r1; go_simp; (try with_reducible rfl); (try omega))
          (try simp only [Act.put, List.setIfInBounds_toArray, List.set_cons_zero, List.set_cons_succ, List.getElem_toArray, List.getElem_cons_zero, List.getElem_cons_succ])
          refine wpAnyH_take (i := 8) (v := ?_) rfl (by kernel_rfl) (by kernel_rfl) (by kernel_rfl) (fun _ _ _ h => h) (Or.inl ⟨by rfl, ?_⟩) (by assumption) ?_
          rotate_left
          · (intro wx hSw; have z0 := cell_later hSw.b q0; have z1 := cell_later hSw.b q1; have y0 := cell_later hSw.b r0; have y1 := cell_later hSw.b r1; go_simp; (try with_reducible rfl); (try omega))
          (try simp only [Act.put, List.setIfInBounds_toArray, List.set_cons_zero, List.set_cons_succ, List.getElem_toArray, List.getElem_cons_zero, List.getElem_cons_succ])
          refine wpAnyH_take (i := 9) (v := ?_) rfl (by kernel_rfl) (by kernel_rfl) (by kernel_rfl) (fun _ _ _ h => h) (Or.inl ⟨by rfl, ?_⟩) (by assumption) ?_
          rotate_left
          · (intro wx hSw; have z0 := cell_later hSw.b q0; have z1 := cell_later hSw.b q1; have y0 := cell_later hSw.b r0; have y1 := cell_later hSw.b r1; go_simp; (try with_reducible rfl); (try omega))
          (try simp only [Act.put, List.setIfInBounds_toArray, List.set_cons_zero, List.set_cons_succ, List.getElem_toArray, List.getElem_cons_zero, List.getElem_cons_succ])
          refine wpAnyH_take (i := 10) (v := ?_) rfl (by kernel_rfl) (by kernel_rfl) (by kernel_rfl) (fun _ _ _ h => h) (Or.inl ⟨by rfl, ?_⟩) (by assumption) ?_
          rotate_left
          · (intro wx hSw; have z0 := cell_later hSw.b q0; have z1 := cell_later hSw.b q1; have y0 := cell_later hSw.b r0; have y1 := cell_later hSw.b r1; go_simp; (try with_reducible rfl); (try omega))
          (try simp only [Act.put, List.setIfInBounds_toArray, List.set_cons_zero, List.set_cons_succ, List.getElem_toArray, List.getElem_cons_zero, List.getElem_cons_succ])
          refine wpAnyH_take (i := 11) (v := ?_) rfl (by kernel_rfl) (by kernel_rfl) (by kernel_rfl) (fun _ _ _ h => h) (Or.inl ⟨by rfl, ?_⟩) (by assumption) ?_
          rotate_left
          · (intro wx hSw; have z0 := cell_later hSw.b q0; have z1 := cell_later hSw.b q1; have y0 := cell_later hSw.b r0; have y1 := cell_later hSw.b r1; go_simp; (try with_reducible rfl); (try omega))
          (try simp only [Act.put, List.setIfInBounds_toArray, List.set_cons_zero, List.set_cons_succ, List.getElem_toArray, List.getElem_cons_zero, List.getElem_cons_succ])
          refine wpAnyH_take (i := 12) (v := ?_) rfl (by kernel_rfl) (by kernel_rfl) (by kernel_rfl) (fun _ _ _ h => h) (Or.inl ⟨by rfl, ?_⟩) (by assumption) ?_
          rotate_left
          · (intro wx hSw; have z0 := cell_later hSw.b q0; have z1 := cell_later hSw.b q1; have y0 := cell_later hSw.b r0; have y1 := cell_later hSw.b r1; go_simp; (try with_reducible rfl); (try omega))
          (try simp only [Act.put, List.setIfInBounds_toArray, List.set_cons_zero, List.set_cons_succ, List.getElem_toArray, List.getElem_cons_zero, List.getElem_cons_succ])
          refine wpAnyH_take (i := 13) (v := ?_) rfl (by kernel_rfl) (by kernel_rfl) (by kernel_rfl) (fun _ _ _ h => h) (Or.inl ⟨by rfl, ?_⟩) (by assumption) ?_
          rotate_left
          · (intro wx hSw; have z0 := cell_later hSw.b q0; have z1 := cell_later hSw.b q1; have y0 := cell_later hSw.b r0; have y1 := cell_later hSw.b r1; go_simp; (try with_reducible rfl); (try omega))
          (try simp only [Act.put, List.setIfInBounds_toArray, List.set_cons_zero, List.set_cons_succ, List.getElem_toArray, List.getElem_cons_zero, List.getElem_cons_succ])
          refine wpAnyH_take (i := 14) (v := ?_) rfl (by kernel_rfl) (by kernel_rfl) (by kernel_rfl) (fun _ _ _ h => h) (Or.inl ⟨by rfl, ?_⟩) (by assumption) ?_
          rotate_left
          · (intro wx hSw; have z0 := cell_later hSw.b q0; have z1 := cell_later hSw.b q1; have y0 := cell_later hSw.b r0; have y1 := cell_later hSw.b r1; go_simp; (try with_reducible rfl); (try omega))
          (try simp only [Act.put, List.setIfInBounds_toArray, List.set_cons_zero, List.set_cons_succ, List.getElem_toArray, List.getElem_cons_zero, List.getElem_cons_succ])
          refine wpAnyH_take (i := 15) (v := ?_) rfl (by kernel_rfl) (by kernel_rfl) (by kernel_rfl) (fun _ _ _ h => h) (Or.inl ⟨by rfl, ?_⟩) (by assumption) ?_
          rotate_left
          · (intro wx hSw; have z0 := cell_later hSw.b q0; have z1 := cell_later hSw.b q1; have y0 := cell_later hSw.b r0; have y1 := cell_later hSw.b r1; go_simp; (try with_reducible rfl); (try omega))
          (try simp only [Act.put, List.setIfInBounds_toArray, List.set_cons_zero, List.set_cons_succ, List.getElem_toArray, List.getElem_cons_zero, List.getElem_cons_succ])
          refine wpAnyH_ready (rs := [16]) (by kernel_rfl) (by simp) ?_
          refine AllReadyH.cons rfl (fun K hK => ?_) AllReadyH.nil
          go_simp
          refine (CCx.out _ (below_through hS.b hBw.size hBw) (hr1.later hS.b) (hr2.later hS.b)).mono ?_
          rintro e w5 ⟨rfl, hb5⟩
          have hS := hS.below hb5
          refine hK.out _ _ hS (fun hHeld => ?_)
          clear hK K
          (try simp only [Act.put, List.setIfInBounds_toArray, List.set_cons_zero, List.set_cons_succ, List.getElem_toArray, List.getElem_cons_zero, List.getElem_cons_succ])
          refine wpAnyH_take (i := 17) (v := ?_) rfl (by kernel_rfl) (by kernel_rfl) (by kernel_rfl) (fun _ _ _ h => h) (Or.inl ⟨by rfl, ?_⟩) (by assumption) ?_
          rotate_left
          · (intro wx hSw; have z0 := cell_later hSw.b q0; have z1 := cell_later hSw.b q1; have y0 := cell_later hSw.b r0; have y1 := cell_later hSw.b r1; go_simp; (try with_reducible rfl); (try omega))
          (try simp only [Act.put, List.setIfInBounds_toArray, List.set_cons_zero, List.set_cons_succ, List.getElem_toArray, List.getElem_cons_zero, List.getElem_cons_succ])
          refine wpAnyH_take (i := 18) (v := ?_) rfl (by kernel_rfl) (by kernel_rfl) (by kernel_rfl) (fun _ _ _ h => h) (Or.inl ⟨by rfl, ?_⟩) (by assumption) ?_
          rotate_left
          · (intro wx hSw; have z0 := cell_later hSw.b q0; have z1 := cell_later hSw.b q1; have y0 := cell_later hSw.b r0; have y1 := cell_later hSw.b r1; go_simp; (try with_reducible rfl); (try omega))
          (try simp only [Act.put, List.setIfInBounds_toArray, List.set_cons_zero, List.set_cons_succ, List.getElem_toArray, List.getElem_cons_zero, List.getElem_cons_succ])
          refine wpAnyH_done (by kernel_rfl) ?_ _
          have hM2 := hM.below hS.b
          clear hS hHeld hM
          go_wp2_with fail
          exact ⟨⟨k, b, G, by omega, by omega, by go_num, rfl, hM2, HSM, hGs, by omega⟩, by simp [intOf]; omega⟩
        · have hxb : (x == 0) = false := by simpa using hx
          have HNX := hid0 (HNX.out hx)
          clear hx
          go_wp2_with fail
          refine wp_region_held_drew (S := SBel wr) (by kernel_rfl) hS (fun hHeld => ?_)
          refine wpAnyH_take (i := 0) (v := ?_) rfl (by kernel_rfl) (by kernel_rfl) (by kernel_rfl) (fun _ _ _ h => h) (Or.inl ⟨by rfl, ?_⟩) (by assumption) ?_
          rotate_left
          · (intro wx hSw; have z0 := cell_later hSw.b q0; have z1 := cell_later hSw.b q1; have y0 := cell_later hSw.b r0; have y1 := cell_later hSw.b r1; go_simp; (try with_reducible rfl); (try omega))
          (try simp only [Act.put, List.setIfInBounds_toArray, List.set_cons_zero, List.set_cons_succ, List.getElem_toArray, List.getElem_cons_zero])
          refine wpAnyH_take (i := 1) (v := ?_) rfl (by kernel_rfl) (by kernel_rfl) (by kernel_rfl) (fun _ _ _ h => h) (Or.inl ⟨by rfl, ?_⟩) (by assumption) ?_
          rotate_left
          · (intro wx hSw; have z0 := cell_later hSw.b q0; have z1 := cell_later hSw.b q1; have y0 := cell_later hSw.b r0; have y1 := cell_later hSw.b r1; go_simp; (try with_reducible rfl); (try omega))
          (try simp only [Act.put, List.setIfInBounds_toArray, List.set_cons_zero, List.set_cons_succ, List.getElem_toArray, List.getElem_cons_zero, List.getElem_cons_succ])
          refine wpAnyH_take (i := 2) (v := ?_) rfl (by kernel_rfl) (by kernel_rfl) (by kernel_rfl) (fun _ _ _ h => h) (Or.inl ⟨by rfl, ?_⟩) (by assumption) ?_
          rotate_left
          · (intro wx hSw; have z0 := cell_later hSw.b q0; have z1 := cell_later hSw.b q1; have y0 := cell_later hSw.b r0; have y1 := cell_later hSw.b r1; go_simp; (try with_reducible rfl); (try omega))
          (try simp only [Act.put, List.setIfInBounds_toArray, List.set_cons_zero, List.set_cons_succ, List.getElem_toArray, List.getElem_cons_zero, List.getElem_cons_succ])
          refine wpAnyH_take (i := 3) (v := ?_) rfl (by kernel_rfl) (by kernel_rfl) (by kernel_rfl) (fun _ _ _ h => h) (Or.inl ⟨by rfl, ?_⟩) (by assumption) ?_
          rotate_left
          · (intro wx hSw; have z0 := cell_later hSw.b q0; have z1 := cell_later hSw.b q1; have y0 := cell_later hSw.b r0; have y1 := cell_later hSw.b r1; go_simp; (try with_reducible rfl); (try omega))
          (try simp only [Act.put, List.setIfInBounds_toArray, List.set_cons_zero, List.set_cons_succ, List.getElem_toArray, List.getElem_cons_zero, List.getElem_cons_succ])
          refine wpAnyH_take (i := 4) (v := ?_) rfl (by kernel_rfl) (by kernel_rfl) (by kernel_rfl) (fun _ _ _ h => h) (Or.inl ⟨by rfl, ?_⟩) (by assumption) ?_
          rotate_left
          · (intro wx hSw; have z0 := cell_later hSw.b q0; have z1 := cell_later hSw.b q1; have y0 := cell_later hSw.b r0; have y1 := cell_later hSw.b r1; go_simp; (try with_reducible rfl); (try omega))
          (try simp only [Act.put, List.setIfInBounds_toArray, List.set_cons_zero, List.set_cons_succ, List.getElem_toArray, List.getElem_cons_zero, List.getElem_cons_succ])
          refine wpAnyH_take (i := 5) (v := ?_) rfl (by kernel_rfl) (by kernel_rfl) (by kernel_rfl) (fun _ _ _ h => h) (Or.inl ⟨by rfl, ?_⟩) (by assumption) ?_
          rotate_left
          · (intro wx hSw; have z0 := cell_later hSw.b q0; have z1 := cell_later hSw.b q1; have y0 := cell_later hSw.b r0; have y1 := cell_later hSw.b r1; go_simp; (try with_reducible rfl); (try omega))
          (try simp only [Act.put, List.setIfInBounds_toArray, List.set_cons_zero, List.set_cons_succ, List.getElem_toArray, List.getElem_cons_zero, List.getElem_cons_succ])
          refine wpAnyH_take (i := 6) (v := ?_) rfl (by kernel_rfl) (by kernel_rfl) (by kernel_rfl) (fun _ _ _ h => h) (Or.inl ⟨by rfl, ?_⟩) (by assumption) ?_
          rotate_left
          · (intro wx hSw; have z0 := cell_later hSw.b q0; have z1 := cell_later hSw.b q1; have y0 := cell_later hSw.b r0; have y1 := cell_later hSw.b r1; go_simp; (try with_reducible rfl); (try omega))
          (try simp only [Act.put, List.setIfInBounds_toArray, List.set_cons_zero, List.set_cons_succ, List.getElem_toArray, List.getElem_cons_zero, List.getElem_cons_succ])
          refine wpAnyH_take (i := 7) (v := ?_) rfl (by kernel_rfl) (by kernel_rfl) (by kernel_rfl) (fun _ _ _ h => h) (Or.inl ⟨by rfl, ?_⟩) (by assumption) ?_
          rotate_left
          · (intro wx hSw; have z0 := cell_later hSw.b q0; have z1 := cell_later hSw.b q1; have y0 := cell_later hSw.b r0; have y1 := cell_later hSw.b r1; go_simp; (try with_reducible rfl); (try omega))
          (try simp only [Act.put, List.setIfInBounds_toArray, List.set_cons_zero, List.set_cons_succ, List.getElem_toArray, List.getElem_cons_zero, List.getElem_cons_succ])
          refine wpAnyH_take (i := 8) (v := ?_) rfl (by kernel_rfl) (by kernel_rfl) (by kernel_rfl) (fun _ _ _ h => h) (Or.inl ⟨by rfl, ?_⟩) (by assumption) ?_
          rotate_left
          · (intro wx hSw; have z0 := cell_later hSw.b q0; have z1 := cell_later hSw.b q1; have y0 := cell_later hSw.b r0; have y1 := cell_later hSw.b r1; go_simp; (try with_reducible rfl); (try omega))
          (try simp only [Act.put, List.setIfInBounds_toArray, List.set_cons_zero, List.set_cons_succ, List.getElem_toArray, List.getElem_cons_zero, List.getElem_cons_succ])
          refine wpAnyH_take (i := 9) (v := ?_) rfl (by kernel_rfl) (by kernel_rfl) (by kernel_rfl) (fun _ _ _ h => h) (Or.inl ⟨by rfl, ?_⟩) (by assumption) ?_
          rotate_left
          · (intro wx hSw; have z0 := cell_later hSw.b q0; have z1 := cell_later hSw.b q1; have y0 := cell_later hSw.b r0; have y1 := cell_later hSw.b r1; go_simp; (try with_reducible rfl); (try omega))
          (try simp only [Act.put, List.setIfInBounds_toArray, List.set_cons_zero, List.set_cons_succ, List.getElem_toArray, List.getElem_cons_zero, List.getElem_cons_succ])
          refine wpAnyH_take (i := 10) (v := ?_) rfl (by kernel_rfl) (by kernel_rfl) (by kernel_rfl) (fun _ _ _ h => h) (Or.inl ⟨by rfl, ?_⟩) (by assumption) ?_
          rotate_left
          · (intro wx hSw; have z0 := cell_later hSw.b q0; have z1 := cell_later hSw.b q1; have y0 := cell_later hSw.b r0; have y1 := cell_later hSw.b r1; go_simp; (try with_reducible rfl); (try omega))
          (try simp only [Act.put, List.setIfInBounds_toArray, List.set_cons_zero, List.set_cons_succ, List.getElem_toArray, List.getElem_cons_zero, List.getElem_cons_succ])
          refine wpAnyH_take (i := 11) (v := ?_) rfl (by kernel_rfl) (by kernel_rfl) (by kernel_rfl) (fun _ _ _ h => h) (Or.inl ⟨by rfl, ?_⟩) (by assumption) ?_
          rotate_left
          · (intro wx hSw; have z0 := cell_later hSw.b q0; have z1 := cell_later hSw.b q1; have y0 := cell_later hSw.b r0; have y1 := cell_later hSw.b r1; go_simp; (try with_reducible rfl); (try omega))
          (try simp only [Act.put, List.setIfInBounds_toArray, List.set_cons_zero, List.set_cons_succ, List.getElem_toArray, List.getElem_cons_zero, List.getElem_cons_succ])
          refine wpAnyH_take (i := 12) (v := ?_) rfl (by kernel_rfl) (by kernel_rfl) (by kernel_rfl) (fun _ _ _ h => h) (Or.inl ⟨by rfl, ?_⟩) (by assumption) ?_
          rotate_left
          · (intro wx hSw; have z0 := cell_later hSw.b q0; have z1 := cell_later hSw.b q1; have y0 := cell_later hSw.b r0; have y1 := cell_later hSw.b r1; go_simp; (try with_reducible rfl); (try omega))
          (try simp only [Act.put, List.setIfInBounds_toArray, List.set_cons_zero, List.set_cons_succ, List.getElem_toArray, List.getElem_cons_zero, List.getElem_cons_succ])
          refine wpAnyH_take (i := 13) (v := ?_) rfl (by kernel_rfl) (by kernel_rfl) (by kernel_rfl) (fun _ _ _ h => h) (Or.inl ⟨by rfl, ?_⟩) (by assumption) ?_
          rotate_left
          · (intro wx hSw; have z0 := cell_later hSw.b q0; have z1 := cell_later hSw.b q1; have y0 := cell_later hSw.b r0; have y1 := cell_later hSw.b r1; go_simp; (try with_reducible rfl); (try omega))
          (try simp only [Act.put, List.setIfInBounds_toArray, List.set_cons_zero, List.set_cons_succ, List.getElem_toArray, List.getElem_cons_zero, List.getElem_cons_succ])
          refine wpAnyH_take (i := 14) (v := ?_) rfl (by kernel_rfl) (by kernel_rfl) (by kernel_rfl) (fun _ _ _ h => h) (Or.inl ⟨by rfl, ?_⟩) (by assumption) ?_
          rotate_left
          · (intro wx hSw; have z0 := cell_later hSw.b q0; have z1 := cell_later hSw.b q1; have y0 := cell_later hSw.b r0; have y1 := cell_later hSw.b r1; go_simp; (try with_reducible rfl); (try omega))
          (try simp only [Act.put, List.setIfInBounds_toArray, List.set_cons_zero, List.set_cons_succ, List.getElem_toArray, List.getElem_cons_zero, List.getElem_cons_succ])
          refine wpAnyH_take (i := 15) (v := ?_) rfl (by kernel_rfl) (by kernel_rfl) (by kernel_rfl) (fun _ _ _ h => h) (Or.inl ⟨by rfl, ?_⟩) (by assumption) ?_
          rotate_left
          · (intro wx hSw; have z0 := cell_later hSw.b q0; have z1 := cell_later hSw.b q1; have y0 := cell_later hSw.b r0; have y1 := cell_later hSw.b r1; go_simp; (try with_reducible rfl); (try omega))
          (try simp only [Act.put, List.setIfInBounds_toArray, List.set_cons_zero, List.set_cons_succ, List.getElem_toArray, List.getElem_cons_zero, List.getElem_cons_succ])
          refine wpAnyH_ready (rs := [16]) (by kernel_rfl) (by simp) ?_
          refine AllReadyH.cons rfl (fun K hK => ?_) AllReadyH.nil
          go_simp
          refine (CCx.out _ (below_through hS.b hBw.size hBw) (hr1.later hS.b) (hr2.later hS.b)).mono ?_
          rintro e w5 ⟨rfl, hb5⟩
          have hS := hS.below hb5
          refine hK.out _ _ hS (fun hHeld => ?_)
          clear hK K
          (try simp only [Act.put, List.setIfInBounds_toArray, List.set_cons_zero, List.set_cons_succ, List.getElem_toArray, List.getElem_cons_zero, List.getElem_cons_succ])
          refine wpAnyH_take (i := 17) (v := ?_) rfl (by kernel_rfl) (by kernel_rfl) (by kernel_rfl) (fun _ _ _ h => h) (Or.inl ⟨by rfl, ?_⟩) (by assumption) ?_
          rotate_left
          · (intro wx hSw; have z0 := cell_later hSw.b q0; have z1 := cell_later hSw.b q1; have y0 := cell_later hSw.b r0; have y1 := cell_later hSw.b r1; go_simp; (try with_reducible rfl); (try omega))
          (try simp only [Act.put, List.setIfInBounds_toArray, List.set_cons_zero, List.set_cons_succ, List.getElem_toArray, List.getElem_cons_zero, List.getElem_cons_succ])
          refine wpAnyH_take (i := 18) (v := ?_) rfl (by kernel_rfl) (by kernel_rfl) (by kernel_rfl) (fun _ _ _ h => h) (Or.inl ⟨by rfl, ?_⟩) (by assumption) ?_
          rotate_left
          · (intro wx hSw; have z0 := cell_later hSw.b q0; have z1 := cell_later hSw.b q1; have y0 := cell_later hSw.b r0; have y1 := cell_later hSw.b r1; go_simp; (try with_reducible rfl); (try omega))
          (try simp only [Act.put, List.setIfInBounds_toArray, List.set_cons_zero, List.set_cons_succ, List.getElem_toArray, List.getElem_cons_zero, List.getElem_cons_succ])
          refine wpAnyH_done (by kernel_rfl) ?_ _
          clear hHeld
          go_wp2_with (first | (at_builtin; refine wp_g rfl _ _ rfl rfl ((hM.below hS.b).alloc _) ⟨some ⟨b1, o1 + b * 2, none⟩, c - b, (E.drop b).take (i + 1 - b), 1⟩ _ rfl (by (show _ = some (Value.slice (some ⟨b1, o1 + b * 2, none⟩) ((E.drop b).take (i + 1 - b)).length (c - b)); rw [HSLK.out]; exact (elem_at _ _ _ _ (by simp)).1)) (elem_at _ _ _ _ (by simp)).2 (by omega) ?_; intro v9 w9 hm9 _) | fail)
          exact ⟨⟨k, k, _, by omega, Nat.le_refl _, by go_num, by go_num, hm9, HNX, HGN, by simp; omega⟩, by simp [intOf]; omega⟩
    · have hie : ¬ (i : Int) < E.length := by omega
      obtain rfl : i = E.length := by omega
      obtain ⟨a', c', rfl, hat⟩ := hM.at_ (fun g hg => (hGs.out g hg).later hBB)
      have HAT := hid0 hat
      clear hat hM
      go_wp2
      go_ret
      exact ⟨a', c', G, rfl, HAT.out, by obtain ⟨D, h1, h2⟩ := hD.out; rw [HSRT.out, h1.fin (by simp), h2], HGR.out.trans (grown_of hBB _)⟩
/-- What plan.alike answers of any list of one's own. -/
theorem alikeC_any (w0 : World) (v : Value) (E : List Elem) (gp : Option Addr) (gc : Nat) (gs : List Int) (hE : ElOk E) (hI : IntsAt w0 gp gs) (hgl : gs.length ≤ 1000) (hg : ∀ e ∈ E, ∀ g ∈ gs, 0 ≤ g ∧ g < (e.r.length : Int)) : AlikeC w0 v E gp gc gs := ⟨fun W hM => by
  rcases hM.own.out.2 with ⟨e1, e2⟩ | ⟨g', cap, cur, e1, _⟩
  · have hn : E = [] := List.length_eq_zero_iff.1 (by
      obtain ⟨a, c, e3, hc, _⟩ := hM.elems
      rw [e1] at e3
      exact (Value.slice.inj e3).2.1.symm)
    subst hn
    rw [e1]
    refine (alike_nil gp gc gs _ W).mono ?_
    rintro e w' ⟨rfl, hb⟩
    exact ⟨none, 0, [], rfl, ⟨fun h => absurd rfl h, fun g hg => absurd hg (by simp)⟩, by simp [sortG, runsM], grown_of hb _⟩
  · obtain ⟨a, c, e3, hc, _⟩ := hM.elems
    rw [e1] at e3 hM ⊢
    obtain ⟨rfl, hl, rfl⟩ := Value.slice.inj e3
    exact alike_own w0 _ g' cap _ E gp gc gs W hM rfl hl.symm hE hI hgl hg⟩
end Go.Proofs.YtjmoegcfgadjiaaGreat
