/- The project's tree over int: two nodes as one, by their depth; a node whose kid has a key too few, made right; a key is cut out from under a node, by its depth. Conditions: the nodes' memory is known; the trees may be; what is new may lie where it lies. -/
import Derived.Test.YtabpfibncipfjaaSjI
import Derived.Test.YtabpfibncipfjaaSkI
import Derived.BigQuiet
import Derived.Deep.QuietTactic
namespace Go.Proofs.Ytabpfibncipfjaa
open Go.RowKit

theorem joinedI_any (P : Nat → Prop) (least most : Nat) : ∀ (n a bb a' bb' bl br : Nat) (lo hi lo' hi' : Option Key) (l r : Tr (Int) n) (k : Key) (w : World), Wf least most n a bb lo hi l → Wf least most n a' bb' lo' hi' r → bb ≤ 64 → bb' ≤ 64 → NAI P w n bl l → NAI P w n br r → (∀ q, w.heap.size ≤ q → P q) →
    Calls Try.prog 95 #[.pointer (some ⟨bl, 0, none⟩), .string (txt k), .pointer (some ⟨br, 0, none⟩)] w (ResI P w n (joinT n l k r))
  | 0, a, bb, a', bb', bl, br, lo, hi, lo', hi', l, r, k, w, hl, hr, h1, h2, h, g, hP => by
    obtain ⟨x, rfl⟩ : ∃ x : List (Key × (Int)), x = l := ⟨l, rfl⟩
    obtain ⟨y, rfl⟩ : ∃ y : List (Key × (Int)), y = r := ⟨r, rfl⟩
    have z1 : x.length ≤ bb := hl.2.2.1
    have z2 : y.length ≤ bb' := hr.2.2.1
    exact joinedI_leaf P bl br x y k w h g (by omega) (by omega) hP
  | n + 1, a, bb, a', bb', bl, br, lo, hi, lo', hi', l, r, k, w, hl, hr, h1, h2, h, g, hP => by
    have z1 : l.1.length ≤ bb := hl.2.2.1
    have z2 : r.1.length ≤ bb' := hr.2.2.1
    have y1 := ch_len hl.2.2.2
    have y2 := ch_len hr.2.2.2
    exact joinedI_node P n bl br l r k w h g (by omega) (by omega) (by omega) (by omega) (by omega) hP

/-- Where the kid is that has a key too few. -/
def Short (least most nl nr i m : Nat) : Prop := if i = m then nl + 1 = least ∧ least ≤ nr ∧ nr ≤ most else nr + 1 = least ∧ least ≤ nl ∧ nl ≤ most
set_option maxRecDepth 100000 in
set_option maxHeartbeats 4000000 in
theorem filledI_any (P : Nat → Prop) (least most : Nat) (hm : 1 ≤ least) (hmm : 2 * least ≤ most) (hmx' : most ≤ 64) (n b i : Nat) (t : Tr (Int) (n + 1)) (l r : Tr (Int) n) (key : Key) (lo hi : Option Key) (w : World) (h : NAI P w (n + 1) b t)
    (hl : t.2[i - 1]? = some l) (hkey : t.1[i - 1]? = some key) (hr : t.2[i - 1 + 1]? = some r) (wl : Wf least most n (least - 1) most lo (some key) l) (wr : Wf least most n (least - 1) most (some key) hi r) (hs : Short least most (nk n l) (nk n r) i (i - 1))
    (ht : t.1.length ≤ 64) (hlen : t.2.length = t.1.length + 1) (hP : ∀ q, w.heap.size ≤ q → P q) :
    Calls Try.prog 82 #[.pointer (some ⟨b, 0, none⟩), .int .i64 (i : Int), .int .i64 (least : Int)] w (ResI P w (n + 1) (fillT least t i)) := by
  rw [fillT_at hl hkey hr]
  obtain ⟨ak, ck, ac, cc, bs, q0, q1, hk, hc, hlb, hkd⟩ := h.open_node
  obtain ⟨bl, hbl, hNl⟩ := hkd.get hl
  obtain ⟨br, hbr, hNr⟩ := hkd.get hr
  obtain ⟨kb, ko, rfl, _, r0⟩ := hc.one hbl
  obtain ⟨kb', ko', e, _, r1⟩ := hc.one hbr
  obtain ⟨rfl, rfl⟩ : kb = kb' ∧ ko = ko' := by simpa using e
  clear e
  obtain ⟨xb, xo, rfl, _, r2⟩ := hk.one hkey
  obtain ⟨a5, c5, q5, -⟩ := hNl.keys
  obtain ⟨a6, c6, q6, -⟩ := hNr.keys
  have zl := wf_size wl
  have zr := wf_size wr
  have hjw := (join_wf wl wr).1
  have hmw := merge_wf (lft := decide (i = i - 1)) hm hmm wl wr (by unfold Short at hs; simpa using hs)
  have hml := merge_keys (least := least) l key r (decide (i = i - 1))
  have hkl : i - 1 < t.1.length := (List.getElem?_eq_some_iff.1 hkey).1
  obtain ⟨m, hmi⟩ : ∃ m, i - 1 = m := ⟨_, rfl⟩
  rw [hmi] at hs r0 r1 r2 hkl
  have hw0 := withI_any P n b t m (m + 2)
  obtain ⟨nl, hnl⟩ : ∃ nl, nk n l = nl := ⟨_, rfl⟩
  obtain ⟨nr, hnr⟩ : ∃ nr, nk n r = nr := ⟨_, rfl⟩
  rw [hnl] at zl hs q5
  rw [hnr] at zr hs q6
  obtain ⟨K, hK⟩ : ∃ K, t.1.length = K := ⟨_, rfl⟩
  obtain ⟨M, hM⟩ : ∃ M, t.2.length = M := ⟨_, rfl⟩
  rw [hK] at q0 ht hlen hkl
  rw [hM] at q1 hlen
  have hmx : max ((i : Int) - 1) 0 = (m : Int) := by omega
  obtain ⟨J, hJ⟩ : ∃ J, joinT n l key r = J := ⟨_, rfl⟩
  have hRR : withT t m (m + 2) (mergeT least n l key r (decide (i = m))).1 (mergeT least n l key r (decide (i = m))).2 = if nl + nr < 2 * least then withT t m (m + 2) [] [J] else withT t m (m + 2) [(part n (if i = m then nl + 1 else nl - 1) J).2.1] [(part n (if i = m then nl + 1 else nl - 1) J).1, (part n (if i = m then nl + 1 else nl - 1) J).2.2] := by
    unfold mergeT
    rw [hnl, hnr, hJ]
    simp only [decide_eq_true_eq]
    split <;> rfl
  rw [hmi]
  obtain ⟨R, hR⟩ : ∃ R, withT t m (m + 2) (mergeT least n l key r (decide (i = m))).1 (mergeT least n l key r (decide (i = m))).2 = R := ⟨_, rfl⟩
  rw [hR] at hRR ⊢
  have HRR := hid0 hRR
  rw [hnl, hnr, hJ] at hjw
  have hjz := wf_size hjw
  obtain ⟨NJ, hNJ0⟩ : ∃ NJ, nk n J = NJ := ⟨_, rfl⟩
  rw [hNJ0] at hjz
  have hNJ1 : nl + nr ≤ NJ := by have := Nat.min_le_right n 1; omega
  have hNJ2 : NJ ≤ nl + nr + 1 := by have := Nat.min_le_right n 1; omega
  have hbb : nl + nr + min n 1 ≤ 300 := by have := Nat.min_le_right n 1; omega
  have hm64 : (m : Int) ≤ 64 := by omega
  have hi65 : (i : Int) ≤ 65 := by omega
  have hmK : (m : Int) < (K : Int) := by omega
  have hmM : (m : Int) < (M : Int) := by omega
  have hmM1 : (m : Int) + 1 < (M : Int) := by omega
  have hnl64 : (nl : Int) ≤ 64 := by omega
  have hnr64 : (nr : Int) ≤ 64 := by omega
  have hle64 : (least : Int) ≤ 32 := by omega
  have CJ := fun W (hb : Below w.heap.size w W) => joinedI_any P least most n (least - 1) most (least - 1) most bl br lo (some key) (some key) hi l r key W wl wr hmx' hmx' (hNl.later hb) (hNr.later hb) (fun q hq => hP q (Nat.le_trans hb.size hq))
  rw [hJ] at CJ
  have hm0 : (0 : Int) ≤ (m : Int) + 1 := by omega
  have HWM : Hid (IntKind.i64.wrap ((m : Int) + 1) = (m : Int) + 1) := hid0 (IntWalk.i64_in _ (by omega))
  have HTN : Hid (((m : Int) + 1).toNat = m + 1) := hid0 (by omega)
  have HW1 : Hid (IntKind.i64.wrap ((nl : Int) + (nr : Int)) = (nl : Int) + (nr : Int)) := hid0 (IntWalk.i64_in _ (by omega))
  have HW2 : Hid (IntKind.i64.wrap (2 * (least : Int)) = 2 * (least : Int)) := hid0 (IntWalk.i64_in _ (by omega))
  have CJ' := hid0 CJ
  have HA := hid0 (And.intro h (And.intro hjw (And.intro hNJ0 (And.intro hK (And.intro hM (And.intro hlen hkl))))))
  have HS := hid0 hs
  have HKM : Hid (K ≤ 64 ∧ M ≤ 65) := hid0 ⟨ht, by omega⟩
  have hSS : w.cell? ⟨b, 0, none⟩ = some (.slice (some ⟨xb, xo, none⟩) K ck) ∧ w.cell? ⟨b, 2, none⟩ = some (.slice (some ⟨kb, ko, none⟩) M cc) ∧ w.cell? ⟨kb, ko + m, none⟩ = some (.pointer (some ⟨bl, 0, none⟩)) ∧ w.cell? ⟨kb, ko + (m + 1), none⟩ = some (.pointer (some ⟨br, 0, none⟩)) ∧ Below w.heap.size w w := ⟨q0, q1, r0, r1, Below.refl _ _⟩
  have HSS := hid0 hSS
  clear CJ hJ hR hRR hjz hNJ0 h hjw hmw hml hmi hK hM hlen hnl hnr hNl hNr hs hSS hk hc hlb hkd hl hkey hr wl wr hbl hbr zl zr ht hkl hw0
  go_enter Try.func82, Try.ntmps82
  go_wp2_with fail
  have hwm := HWM.out
  have htn := HTN.out
  go_region_held3 (fun w' => w'.cell? ⟨b, 0, none⟩ = some (.slice (some ⟨xb, xo, none⟩) K ck) ∧ w'.cell? ⟨b, 2, none⟩ = some (.slice (some ⟨kb, ko, none⟩) M cc) ∧ w'.cell? ⟨kb, ko + m, none⟩ = some (.pointer (some ⟨bl, 0, none⟩)) ∧ w'.cell? ⟨kb, ko + (m + 1), none⟩ = some (.pointer (some ⟨br, 0, none⟩)) ∧ Below w.heap.size w w')
    (first
      | with_reducible assumption
      | (repeat (first | with_reducible exact HSS.out | with_reducible assumption | with_reducible refine hold4_drew7 ?_ | with_reducible refine hold4_alloc7 ?_)))
    (fail)
  clear hwm htn
  go_wp2_with fail
  refine (CJ'.out _ (Below.drew (Below.refl _ _))).mono ?_
  rintro e w1 ⟨⟨bj, rfl, hNJ⟩, hb1⟩
  replace hb1 : Below w.heap.size w w1 := below_through hb1 (Nat.le_refl _) (Below.drew (Below.refl _ _))
  have hsz1 := hb1.size
  replace q5 := cell_later hb1 q5
  replace q6 := cell_later hb1 q6
  have HNJ := hid0 hNJ
  have HB1 := hid0 hb1
  clear hNJ hb1
  have hSS2 : w1.cell? ⟨bl, 0, none⟩ = some (.slice a5 nl c5) ∧ w1.cell? ⟨br, 0, none⟩ = some (.slice a6 nr c6) ∧ Below w1.heap.size w1 w1 := ⟨q5, q6, Below.refl _ _⟩
  have HSS2 := hid0 hSS2
  clear hSS2
  go_wp2_with fail
  have hw1 := HW1.out
  have hw2 := HW2.out
  go_region_held3 (fun w' => w'.cell? ⟨bl, 0, none⟩ = some (.slice a5 nl c5) ∧ w'.cell? ⟨br, 0, none⟩ = some (.slice a6 nr c6) ∧ Below w1.heap.size w1 w')
    (first
      | with_reducible assumption
      | (repeat (first | with_reducible exact HSS2.out | with_reducible assumption | with_reducible refine hold2_drew ?_ | with_reducible refine hold2_alloc ?_)))
    (fail)
  clear hw1 hw2
  replace q5 : w1.drew.cell? ⟨bl, 0, none⟩ = some (.slice a5 nl c5) := q5
  have hP1 : ∀ q, w1.drew.heap.size ≤ q → P q := fun q hq => hP q (Nat.le_trans hsz1 hq)
  have hB2 : Below w.heap.size w w1.drew := Below.drew HB1.out
  have HNJ2 := hid0 (HNJ.out.later (Below.drew (Below.refl w1.heap.size w1)))
  have hsz2 : w.heap.size ≤ w1.drew.heap.size := hsz1
  have HB2 := hid0 hB2
  have HP1 := hid0 hP1
  generalize w1.drew = W1 at HNJ2 HB2 HP1 q5 hsz2 ⊢
  clear hB2 hP1
  have hKM : K ≤ 64 ∧ M ≤ 65 := HKM.out
  have hPW : ∀ W, Below W1.heap.size W1 W → ∀ q, W.heap.size ≤ q → P q := fun W hb q hq => HP1.out q (Nat.le_trans hb.size hq)
  by_cases hlt : nl + nr < 2 * least
  · have hR' := HRR.out
    rw [if_pos hlt] at hR'
    subst hR'
    have hlti : (nl : Int) + (nr : Int) < 2 * (least : Int) := by omega
    have CW := fun W (hb : Below W1.heap.size W1 W) (hA : ArgsAt W W1.heap.size [.pointer (some ⟨bj, 0, none⟩)]) (jv : Int) (hjv : jv = ((m + 2 : Nat) : Int)) =>
      withI_any P n b t m (m + 2) jv (.slice none 0 0) [] (.slice (some ⟨W1.heap.size, 0, none⟩) 1 1) [bj] [J] W ((HA.out.1.later HB2.out).later hb) (by rw [HA.out.2.2.2.1]; omega) (by rw [HA.out.2.2.2.2.1]; omega) (by omega) (by rw [HA.out.2.2.2.1]; omega) (by rw [HA.out.2.2.2.2.1]; omega) hjv Sl.nil (Sl.ptr1 hA (HP1.out _ (Nat.le_refl _))) ⟨HNJ2.out.later hb, trivial⟩ (by rw [HA.out.2.2.2.1]; have := hKM; omega) (by rw [HA.out.2.2.2.2.1]; have := hKM; omega) (by simp) (by simp) (hPW W hb)
    have CW' := hid0 CW
    clear CW
    go_wp2_with fail
    refine (CW'.out _ ((Below.refl _ _).alloc (Nat.le_refl _) _) (ArgsAt.new _ _ _) _ (by omega)).mono ?_
    rintro e w2 ⟨⟨b', rfl, hN'⟩, hb2⟩
    go_wp2_with fail
    go_ret
    exact ⟨⟨b', rfl, hN'⟩, below_through hb2 (by simp; omega) (HB2.out.alloc hsz2 _)⟩
  · have hR' := HRR.out
    rw [if_neg hlt] at hR'
    obtain ⟨S, hS⟩ : ∃ S, (if i = m then nl + 1 else nl - 1) = S := ⟨_, rfl⟩
    rw [hS] at hR'
    subst hR'
    have HSV := hid0 hS
    clear hS
    have hlti : ¬ (nl : Int) + (nr : Int) < 2 * (least : Int) := by omega
    have fin : S < NJ → ∀ sv, sv = (S : Int) → Calls Try.prog 60 #[.pointer (some ⟨bj, 0, none⟩), .int .i64 sv] W1 (Res3I P W1 n (part n S J)) := fun hSN sv hsv =>
      partedI_any P least most n _ _ bj lo hi J S sv W1 HA.out.2.1 hbb HNJ2.out hsv (by rw [HA.out.2.2.1]; exact hSN) HP1.out
    have FIN := hid0 fin
    clear fin
    have hs := HS.out
    unfold Short at hs
    by_cases him : i = m
    · have himi : ((i : Int) == (m : Int)) = true := by simp; omega
      rw [if_pos him] at hs
      have hS1 : nl + 1 = S := by rw [← HSV.out, if_pos him]
      have hS2 : S < NJ := by omega
      have HS1 := hid0 hS1
      clear hS1
      go_wp2_with fail
      refine (FIN.out hS2 _ (by have := HS1.out; omega)).mono ?_
      rintro e w2 ⟨⟨c1, c2, rfl, hN1, hN2⟩, hb2⟩
      have hsz3 := hb2.size
      have hP2 : ∀ q, w2.heap.size ≤ q → P q := fun q hq => HP1.out q (Nat.le_trans hsz3 hq)
      have hB3 := below_through hb2 hsz2 HB2.out
      obtain ⟨pt, hpt⟩ : ∃ pt, part n S J = pt := ⟨_, rfl⟩
      rw [hpt] at hN1 hN2 ⊢
      have HPT := hid0 hpt
      clear hpt
      have CW := fun W (hb : Below w2.heap.size w2 W) (hA1 : ArgsAt W w2.heap.size [.string (txt pt.2.1)]) (hA2 : ArgsAt W (w2.heap.size + 1) [.pointer (some ⟨c1, 0, none⟩), .pointer (some ⟨c2, 0, none⟩)]) (jv : Int) (hjv : jv = ((m + 2 : Nat) : Int)) =>
        withI_any P n b t m (m + 2) jv (.slice (some ⟨w2.heap.size, 0, none⟩) 1 1) [pt.2.1] (.slice (some ⟨w2.heap.size + 1, 0, none⟩) 2 2) [c1, c2] [pt.1, pt.2.2] W ((HA.out.1.later hB3).later hb) (by rw [HA.out.2.2.2.1]; omega) (by rw [HA.out.2.2.2.2.1]; omega) (by omega) (by rw [HA.out.2.2.2.1]; omega) (by rw [HA.out.2.2.2.2.1]; omega) hjv (Sl.key hA1 (hP2 _ (Nat.le_refl _))) (Sl.ptr2 hA2 (hP2 _ (by omega))) ⟨hN1.later hb, hN2.later hb, trivial⟩ (by rw [HA.out.2.2.2.1]; have := hKM; omega) (by rw [HA.out.2.2.2.2.1]; have := hKM; omega) (by simp) (by simp) (fun q hq => hP2 q (Nat.le_trans hb.size hq))
      have CW' := hid0 CW
      clear CW hN1 hN2
      go_wp2_with fail
      refine (CW'.out _ (((Below.refl _ _).alloc (Nat.le_refl _) _).alloc (by simp) _) ((ArgsAt.new _ _ _).alloc _) (ArgsAt.fresh _ _ _ _ (by simp)) _ (by omega)).mono ?_
      rintro e w3 ⟨⟨b', rfl, hN'⟩, hb3⟩
      go_wp2_with fail
      go_ret
      exact ⟨⟨b', rfl, by rw [HPT.out]; exact hN'⟩, below_through hb3 (by simp; omega) ((hB3.alloc hB3.size _).alloc (by have := hB3.size; simp; omega) _)⟩
    · have himi : ((i : Int) == (m : Int)) = false := by simp; omega
      rw [if_neg him] at hs
      have hS1 : nl - 1 = S := by rw [← HSV.out, if_neg him]
      have hS2 : S < NJ := by omega
      have HS1 := hid0 hS1
      clear hS1
      go_wp2_with fail
      refine (FIN.out hS2 _ (by have := HS1.out; omega)).mono ?_
      rintro e w2 ⟨⟨c1, c2, rfl, hN1, hN2⟩, hb2⟩
      have hsz3 := hb2.size
      have hP2 : ∀ q, w2.heap.size ≤ q → P q := fun q hq => HP1.out q (Nat.le_trans hsz3 hq)
      have hB3 := below_through hb2 hsz2 HB2.out
      obtain ⟨pt, hpt⟩ : ∃ pt, part n S J = pt := ⟨_, rfl⟩
      rw [hpt] at hN1 hN2 ⊢
      have HPT := hid0 hpt
      clear hpt
      have CW := fun W (hb : Below w2.heap.size w2 W) (hA1 : ArgsAt W w2.heap.size [.string (txt pt.2.1)]) (hA2 : ArgsAt W (w2.heap.size + 1) [.pointer (some ⟨c1, 0, none⟩), .pointer (some ⟨c2, 0, none⟩)]) (jv : Int) (hjv : jv = ((m + 2 : Nat) : Int)) =>
        withI_any P n b t m (m + 2) jv (.slice (some ⟨w2.heap.size, 0, none⟩) 1 1) [pt.2.1] (.slice (some ⟨w2.heap.size + 1, 0, none⟩) 2 2) [c1, c2] [pt.1, pt.2.2] W ((HA.out.1.later hB3).later hb) (by rw [HA.out.2.2.2.1]; omega) (by rw [HA.out.2.2.2.2.1]; omega) (by omega) (by rw [HA.out.2.2.2.1]; omega) (by rw [HA.out.2.2.2.2.1]; omega) hjv (Sl.key hA1 (hP2 _ (Nat.le_refl _))) (Sl.ptr2 hA2 (hP2 _ (by omega))) ⟨hN1.later hb, hN2.later hb, trivial⟩ (by rw [HA.out.2.2.2.1]; have := hKM; omega) (by rw [HA.out.2.2.2.2.1]; have := hKM; omega) (by simp) (by simp) (fun q hq => hP2 q (Nat.le_trans hb.size hq))
      have CW' := hid0 CW
      clear CW hN1 hN2
      go_wp2_with fail
      refine (CW'.out _ (((Below.refl _ _).alloc (Nat.le_refl _) _).alloc (by simp) _) ((ArgsAt.new _ _ _).alloc _) (ArgsAt.fresh _ _ _ _ (by simp)) _ (by omega)).mono ?_
      rintro e w3 ⟨⟨b', rfl, hN'⟩, hb3⟩
      go_wp2_with fail
      go_ret
      exact ⟨⟨b', rfl, by rw [HPT.out]; exact hN'⟩, below_through hb3 (by simp; omega) ((hB3.alloc hB3.size _).alloc (by have := hB3.size; simp; omega) _)⟩
end Go.Proofs.Ytabpfibncipfjaa
