/- Several of my texts laid together, each as it was: D42. Conditions: each names its own. -/
import Derived.Test.YtfdkajefcplfjaaGreatVK
import Derived.Test.YtfdkajefcplfjaaGreatH5
import Derived.Test.YtfdkajefcplfjaaGreatL1
/- DeltaUnion: the law's call, in whatever memory: it is true. Conditions: the plan's and the names' cells are known; at most 400000 rows in a list that came in. -/
namespace Go.Proofs.YtfdkajefcplfjaaGreat
open Go.RowKit

/-- One of a plan's parts, as a plan of its own. -/
theorem PsOk.sole {w : World} {n : Nat} {b o c : Nat} {ps : List Px} (h : PsOk w n (some ⟨b, o, none⟩) c ps) {i : Nat} (hi : i < ps.length) : PsOk w n (some ⟨b, o + i * 20, none⟩) (c - i) [ps[i]] :=
  ⟨⟨fun j hj => by
    obtain rfl : j = 0 := by simp at hj; exact hj
    obtain ⟨b', o', e, hlt, hR⟩ := h.part i hi
    cases e
    exact ⟨b, o + i * 20, rfl, hlt, by simpa using hR⟩⟩, fun p hp => by obtain rfl := List.mem_singleton.1 hp; exact h.ok _ (List.getElem_mem hi), by simp, by have := h.cap; simp; omega⟩
/-- The plan's box. -/
structure SUn (w : World) (us : List Value) (W : World) : Prop where
  v : VarB W w.heap.size us
  b : Below w.heap.size w W
theorem SUn.below {w : World} {us : List Value} {W W' : World} (h : SUn w us W) (hb : Below W.heap.size W W') : SUn w us W' := ⟨h.v.below hb, below_through hb h.b.size h.b⟩
/-- What a call of Rows answers of a plan. -/
structure DwC (w : World) (a : Option Addr) (n c : Nat) (a1 : Option Addr) (n1 c1 : Nat) (a2 : Option Addr) (n2 c2 : Nat) (R : List Pair) (f : Int) : Prop where
  out : ∀ W, Below w.heap.size w W → Calls Tryz.prog 27 #[.agg #[.slice a n c], .slice a1 n1 c1, .slice a2 n2 c2] W fun e w' => (∃ a' c' E', e = .returned (.tuple #[.slice a' E'.length c', .int .i64 f]) ∧ E'.length ≤ c' ∧ ElemsAt w' a' E' ∧ E'.map pr = R) ∧ Below W.heap.size W w'
/-- What is there, and what came and went. -/
structure TwoN (w : World) (a1 : Option Addr) (old : List Nx) (a2 : Option Addr) (ch : List Nx) : Prop where
  o : NsOk w a1 old
  c : NsOk w a2 ch
  lo : ∀ x ∈ old, x.E.length ≤ 400000
  lc : ∀ x ∈ ch, x.E.length ≤ 400000
theorem dwC_of {n : Nat} {a : Option Addr} {c : Nat} {ps : List Px} {a1 : Option Addr} {c1 : Nat} {old : List Nx} {a2 : Option Addr} {c2 : Nat} {ch : List Nx} {w : World} (hP : PsOk w n a c ps) (hL : TwoN w a1 old a2 ch) : DwC w a ps.length c a1 old.length c1 a2 ch.length c2 (dRowsM old ch ps).1 (dRowsM old ch ps).2 := ⟨fun W hW => dRows_any a c ps a1 c1 old a2 c2 ch W (hP.later hW) (hL.o.later hW) (hL.c.later hW) hL.lo hL.lc⟩
set_option maxHeartbeats 8000000 in
set_option maxRecDepth 1000000 in
theorem lawDeltaUnion {n : Nat} (a : Option Addr) (c : Nat) (ps : List Px) (a1' : Option Addr) (c1' : Nat) (old : List Nx) (a2 : Option Addr) (c2 : Nat) (ch : List Nx) (w : World) (hP : PsOk w n a c ps) (hL : TwoN w a1' old a2 ch) :
    Calls Tryz.prog 9 #[planV a ps.length c, .slice a1' old.length c1', .slice a2 ch.length c2] w fun e w' => e = .returned (.bool true) ∧ Below w.heap.size w w' := by
  have hfew := hP.few
  have hcap := hP.cap
  have HP := hid0 hP
  have HL := hid0 hL
  have hS : SUn w [.slice a ps.length c] (w.alloc (Obj.cells #[.slice a ps.length c] 24)) := ⟨VarB.new w [.slice a ps.length c] 24, (Below.refl _ _).alloc (Nat.le_refl _) _⟩
  have CA := hid0 (fun W => awake14_any W)
  have CR : DwC w a ps.length c a1' old.length c1' a2 ch.length c2 (dRowsM old ch ps).1 (dRowsM old ch ps).2 := dwC_of hP hL
  clear hP hL
  unfold planV
  go_enter Tryz.func9, Tryz.ntmps9
  by_cases h0 : (dRowsM old ch ps).2 = 0
  · have HU := hid0 (fun (i : Nat) (hi : i < ps.length) => dUnion_one h0 (List.getElem_mem hi))
    obtain ⟨hG, _, hall⟩ := dRowsM_ok h0
    obtain ⟨h4, hsm⟩ := dAll_small hG
    have HSM := hid0 hsm
    have HALL := hid0 hall
    rw [h0] at CR
    have H0 := hid0 h0
    clear h0 hsm hall hG
    generalize (dRowsM old ch ps).1 = RA at CR HALL
    have CR := hid0 CR
    go_wp2_with (first | ((with_reducible refine wp_getB hS.v.at_ Tryz.underlying24 ?_ ?_ ?_ ?_); (rfl); (exact sizePlan); (rfl); simp only [Act.put]) | (go_at_call 27; go_must (refine (CR.out.out _ hS.b).mono ?_; rintro e w1 ⟨⟨a1, c1, E1, rfl, hc1, hE1, hm1⟩, hb1⟩; (have hS1 := hS.below hb1))) | fail)
    have hm1 := hid0 hm1
    have hE1 := hid0 hE1
    go_loopw [9, 10] (fun sv iv wr => ∃ (i : Nat) (a7 : Option Addr) (c7 : Nat) (S : List Elem), i ≤ ps.length ∧ iv = .int .i64 i ∧ sv = .slice a7 S.length c7 ∧ ElemsAt wr a7 S ∧ Hid (S.map pr = ofB (dAllL old ch (ps.take i))) ∧ SUn w [.slice a ps.length c] wr ∧ Hid (ElemsAt wr a1 E1)) (fun _ iv _ => ps.length - (intOf iv).toNat)
    case atStart => exact ⟨0, none, 0, [], Nat.zero_le _, rfl, rfl, ElemsAt.nil _ _, hid0 rfl, hS1, hE1⟩
    case round =>
      clear hS hS1 hE1 CR
      obtain ⟨i, a7, c7, S, hi, rfl, rfl, hT, hM, hS, hE1⟩ := hrel
      have x0 := hS.v.cell 0 rfl
      have hSl : S.length ≤ 6000 * i := by
        have h1 := congrArg List.length hM.out
        rw [List.length_map] at h1
        have h2 := len_ofB (dAllL old ch (ps.take i))
        have h3 := (HSM.out i).2
        omega
      by_cases hlt : i < ps.length
      · obtain ⟨b1, o1, rfl, hbb, hR⟩ := HP.out.part i hlt
        have hu := HU.out i hlt
        have hst : dAllL old ch (ps.take (i + 1)) = dAllL old ch (ps.take i) ++ toldR ps[i] (netB old ch ps[i]) := by rw [List.take_succ_eq_append_getElem hlt, dAllL_snoc]
        have CR1 := dwC_of (c1 := c1') (c2 := c2) (HP.out.sole hlt) HL.out
        rw [hu] at CR1
        have CR1 : DwC w (some ⟨b1, o1 + i * 20, none⟩) 1 (c - i) a1' old.length c1' a2 ch.length c2 (ofB (toldR ps[i] (netB old ch ps[i]))) 0 := CR1
        have hs1 := HSM.out (i + 1)
        have hs0 := HSM.out i
        rw [hst] at hs1
        generalize toldR ps[i] (netB old ch ps[i]) = TM at hst CR1 hs1
        rw [absS_append, List.length_append] at hs1
        have hn0 := absS_nonneg (dAllL old ch (ps.take i))
        have HN1 := hid0 (fun (E2 : List Elem) (h : E2.map pr = ofB TM) => (show S.length + E2.length ≤ 1000000 by
          have h1 := congrArg List.length h
          rw [List.length_map] at h1
          have h2 := len_ofB TM
          omega))
        have HN2 := hid0 (fun (E2 : List Elem) (h : E2.map pr = ofB TM) => (show absS (S.map pr ++ E2.map pr) ≤ 4611686018427387904 by
          rw [absS_append, h, hM.out]
          have h2 := absS_ofB TM
          have h3 := absS_ofB (dAllL old ch (ps.take i))
          omega))
        have HNX := hid0 (fun (E2 E5 : List Elem) (h : E2.map pr = ofB TM) (h5 : E5.map pr = ofB (S.map pr ++ E2.map pr)) => (show E5.map pr = ofB (dAllL old ch (ps.take (i + 1))) by
          rw [h5, h, hM.out, ofB_both, hst]))
        have CR1 := hid0 CR1
        have hin : (i : Int) < (ps.length : Int) := by omega
        have hi1 : (0 : Int) ≤ (i : Int) := by omega
        have hi2 : (i : Int) ≤ (i : Int) + 1 := by omega
        have hi3 : (i : Int) + 1 ≤ (c : Int) := by omega
        have hcb : ¬ c = i := by omega
        have hwi : IntKind.i64.wrap ((i : Int) + 1) = (i : Int) + 1 := IntWalk.i64_in _ (by omega)
        have h11 : i + 1 - i = 1 := by omega
        clear hst hs1 hs0 hn0 hu hM hR
        go_wp2_with (first | (go_at_call 27; go_must (refine (CR1.out.out _ hS.b).mono ?_; rintro e w2 ⟨⟨a3, c3, E2, rfl, hc2, hE2, hm2⟩, hb2⟩; (have hS2 := hS.below hb2); (have hT2 := hT.later hb2); (have hE12 := hid0 (hE1.out.later hb2)); (have AD := hid0 (refAdd_any a7 a3 c7 c3 S E2 w2 hT2 hE2 (HN1.out E2 hm2) (HN2.out E2 hm2))); (have HM2 := hid0 hm2); clear hm2 hT2 hE2)) | (go_at_call 26; go_must (refine AD.out.mono ?_; rintro e w3 ⟨⟨a5, c5, E5, rfl, hc5, hE5, hm5⟩, hb5⟩; (have hS3 := hS2.below hb5); (have hE13 := hid0 (hE12.out.later hb5)); (have HM5 := hid0 (HNX.out E2 E5 HM2.out hm5)); clear hm5)) | fail)
        exact ⟨⟨i + 1, a5, c5, E5, by omega, by go_num, rfl, hE5, HM5, hS3, hE13⟩, by simp [intOf]; omega⟩
      · have hie : ¬ (i : Int) < ps.length := by omega
        obtain rfl : i = ps.length := by omega
        have CSm := fun (W : World) (hW : Below wr.heap.size wr W) => refSame_any a7 a1 c7 c1 S E1 W (hT.later hW) (hE1.out.later hW) (by omega) (by rw [hm1.out, HALL.out, hM.out, List.take_of_length_le (Nat.le_refl _)])
        have CSm := hid0 CSm
        clear hM hT hE1 hSl
        go_wp2_with (first | (go_at_call 30; go_must (refine (CA.out _).mono ?_; rintro e w2 ⟨rfl, hb2⟩; (have hS2 := hS.below hb2))) | (go_at_call 22; go_must (refine (CSm.out _ hb2).mono ?_; rintro e w3 ⟨rfl, hb3⟩; (have hS3 := hS2.below hb3))) | fail)
        go_ret
        exact ⟨rfl, hS3.b⟩
  · have hnil := dRowsM_none h0
    rw [hnil] at CR
    have CR := hid0 CR
    generalize (dRowsM old ch ps).2 = f at h0 CR
    have hf0 : (f == 0) = false := by simpa using h0
    clear hnil
    go_wp2_with (first | ((with_reducible refine wp_getB hS.v.at_ Tryz.underlying24 ?_ ?_ ?_ ?_); (rfl); (exact sizePlan); (rfl); simp only [Act.put]) | (go_at_call 27; go_must (refine (CR.out.out _ hS.b).mono ?_; rintro e w1 ⟨⟨a1, c1, E1, rfl, hc1, hE1, hm1⟩, hb1⟩; (have hS1 := hS.below hb1); (have hl1 : E1.length = 0 := (by have := congrArg List.length hm1; simpa using this)); clear hm1 hE1)) | (go_at_call 30; go_must (refine (CA.out _).mono ?_; rintro e w2 ⟨rfl, hb2⟩; (have hS2 := hS1.below hb2))) | fail)
    go_ret
    exact ⟨ret_bool (by simp), hS2.b⟩
end Go.Proofs.YtfdkajefcplfjaaGreat
