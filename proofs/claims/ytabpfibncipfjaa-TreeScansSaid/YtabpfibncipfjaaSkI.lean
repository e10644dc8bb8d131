/- The project's tree over int: a key is put under a node, by its depth. Conditions: the node's memory is known; the tree may be; what is new may lie where it lies. -/
import Derived.Test.YtabpfibncipfjaaSfI
import Derived.Test.YtabpfibncipfjaaSgI
import Derived.Test.YtabpfibncipfjaaShI
import Derived.Test.YtabpfibncipfjaaSn
namespace Go.Proofs.Ytabpfibncipfjaa
open Go.RowKit

theorem ResI.of {P : Nat → Prop} {w W : World} {n : Nat} {T : Tr (Int) n} {e : Ending} {w' : World} (hb : Below w.heap.size w W) (h : ResI P W n T e w') : ResI P w n T e w' := ⟨h.1, below_through h.2 hb.size hb⟩
theorem partedI_any (P : Nat → Prop) (least most : Nat) : ∀ (n a bb b : Nat) (lo hi : Option Key) (t : Tr (Int) n) (s : Nat) (sv : Int) (w : World), Wf least most n a bb lo hi t → bb ≤ 300 → NAI P w n b t → sv = (s : Int) → s < nk n t → (∀ q, w.heap.size ≤ q → P q) →
    Calls Try.prog 60 #[.pointer (some ⟨b, 0, none⟩), .int .i64 sv] w (Res3I P w n (part n s t))
  | 0, a, bb, b, lo, hi, t, s, sv, w, hw, hbb, h, hsv, hs, hP => by
    obtain ⟨l, rfl⟩ : ∃ l : List (Key × (Int)), l = t := ⟨t, rfl⟩
    exact partedI_leaf P b l s sv w h hsv (by rwa [nk_leaf] at hs) hP
  | n + 1, a, bb, b, lo, hi, t, s, sv, w, hw, hbb, h, hsv, hs, hP => by
    have hz := wf_size hw
    exact partedI_node P n b t s sv w h hsv hs (ch_len hw.2.2.2) (by change t.1.length ≤ 400; have : t.1.length ≤ bb := hz.2; omega) hP

set_option maxRecDepth 100000 in
set_option maxHeartbeats 4000000 in
theorem putI_any (P : Nat → Prop) (least most : Nat) (k : Key) (x : Int) (hm : 1 ≤ least) (hmm : 2 * least ≤ most) (hmx : most ≤ 64) : ∀ (n a b : Nat) (lo hi : Option Key) (t : Tr (Int) n) (w : World), Wf least most n a most lo hi t → geO lo k → ltO k hi → NAI P w n b t → (∀ q, w.heap.size ≤ q → P q) →
    Calls Try.prog 59 #[.pointer (some ⟨b, 0, none⟩), .string (txt k), vI x, .int .i64 (most : Int)] w (ResI P w n (putT most n t k x)) := by
  intro n
  induction n with
  | zero =>
    intro a b lo hi t w hw hlo hhi h hP
    obtain ⟨l, rfl⟩ : ∃ l : List (Key × (Int)), l = t := ⟨t, rfl⟩
    obtain ⟨_, _, _, _, _, _, q2, _, _⟩ := h.open_leaf
    have hl : l.length ≤ most := hw.2.2.1
    have hb0 : Below w.heap.size w w := Below.refl _ _
    have C := setI_any P b l k x w (h.later hb0) hw.2.2.2.1 (by omega) (fun q hq => hP q (Nat.le_trans hb0.size hq))
    replace q2 := cell_later hb0 q2
    have HB0 := hid0 hb0
    clear hw h hlo hhi hb0
    unfold vI at C ⊢
    go_enter Try.func59, Try.ntmps59
    go_wp2_with fail
    refine (leafI_yes b _ q2).mono ?_
    rintro e w' ⟨rfl, rfl⟩
    go_wp2_with fail
    refine C.mono ?_
    rintro e w' ⟨⟨b', rfl, hN⟩, hb⟩
    have HN := hid0 (And.intro hN hb)
    clear hN hb
    go_wp2_with fail
    go_ret
    exact ⟨⟨b', rfl, HN.out.1⟩, below_through HN.out.2 HB0.out.size HB0.out⟩
  | succ n ih =>
    intro a b lo hi t w hw hlo hhi h hP
    obtain ⟨ak, ck, ac, cc, bs, q0, q1, hk, hc, hlb, hkd⟩ := h.open_node
    have hch := hw.2.2.2
    have hlen := ch_len hch
    have hsz : a ≤ t.1.length ∧ t.1.length ≤ most := ⟨hw.2.1, hw.2.2.1⟩
    obtain ⟨c, m, m', hce, -, hcw, -, g1, g2⟩ := ch_toward hch hlo hhi
    have htl := tw_le k t.1
    obtain ⟨bi, hbi, hNi⟩ := hkd.get hce
    obtain ⟨kb, ko, rfl, _, qi⟩ := hc.one hbi
    have hpt := putT_node (most := most) (v := x) hce
    have hpw := (put_wf hm hmm (k := k) (v := x) hcw g1 g2).1
    have hb0 : Below w.heap.size w w := Below.refl _ _
    have hT := towardI_any P (n + 1) b t k w (h.later hb0) (wf_keys hw) (by change t.1.length ≤ 1000; omega)
    change Calls _ _ _ _ (fun e w' => e = .returned (.int .i64 (tw k t.1 : Nat)) ∧ _ = w') at hT
    replace q1 := cell_later hb0 q1
    replace qi := cell_later hb0 qi
    have hL := leafI_no b _ t.2.length cc w q1 (by omega)
    have IHF := fun W (hb : Below (w).heap.size w W) => (ih least bi m m' c W hcw g1 g2 ((hNi.later hb0).later hb) (fun q hq => hP q (Nat.le_trans hb0.size (Nat.le_trans hb.size hq)))).mono (fun e w' h => ResI.of hb h)
    have HB0 := hid0 hb0
    have hi64 : (tw k t.1 : Int) ≤ 64 := by omega
    obtain ⟨i, hi'⟩ : ∃ i, tw k t.1 = i := ⟨_, rfl⟩
    obtain ⟨C, hC⟩ : ∃ C, putT most n c k x = C := ⟨_, rfl⟩
    rw [hC] at IHF hpw hpt
    rw [hi'] at hT htl qi hpt hi64
    have hzC := wf_size hpw
    obtain ⟨N1, hN1⟩ : ∃ N1, nk n C = N1 := ⟨_, rfl⟩
    rw [hN1] at hzC hpt
    obtain ⟨R, hR⟩ : ∃ R, putT most (n + 1) t k x = R := ⟨_, rfl⟩
    rw [hR] at hpt ⊢
    have HPT := hid0 hpt
    have hiM : (i : Int) < (t.2.length : Int) := by omega
    obtain ⟨M, hM⟩ : ∃ M, t.2.length = M := ⟨_, rfl⟩
    rw [hM] at q1 hiM hlen
    have HA := hid0 (And.intro h (And.intro htl (And.intro hM (And.intro hlen (And.intro hsz (And.intro hN1 hpw))))))
    clear hw hch hk hc hlb hkd hce hcw g1 g2 hbi hNi hpt hi' hC hN1 hM hpw h ih hlen hsz hR hb0
    unfold vI at IHF ⊢
    have IHF' := hid0 IHF
    clear IHF
    go_enter Try.func59, Try.ntmps59
    go_wp2_with fail
    refine hL.mono ?_
    rintro e w' ⟨rfl, rfl⟩
    go_wp2_with fail
    refine hT.mono ?_
    rintro e w' ⟨rfl, rfl⟩
    go_wp2_with fail
    refine (IHF'.out _ (Below.refl _ _)).mono ?_
    rintro e w1 ⟨⟨b1, rfl, hNA⟩, hb1⟩
    obtain ⟨a7, c7, q7, -⟩ := hNA.keys
    rw [HA.out.2.2.2.2.2.1] at q7
    have HN := hid0 hNA
    have hB1 := below_through hb1 HB0.out.size HB0.out
    have hsz1 := hB1.size
    have hP1 : ∀ q, w1.heap.size ≤ q → P q := fun q hq => hP q (Nat.le_trans hsz1 hq)
    clear hL hT hNA hb1
    by_cases hq : N1 ≤ most
    · have hR' := HPT.out
      rw [if_pos hq] at hR'
      subst hR'
      have hqi : (N1 : Int) ≤ (most : Int) := by omega
      have CW := fun W (hb : Below w1.heap.size w1 W) (hA : ArgsAt W w1.heap.size [.pointer (some ⟨b1, 0, none⟩)]) (jv : Int) (hjv : jv = ((i + 1 : Nat) : Int)) =>
        withI_any P n b t i (i + 1) jv (.slice none 0 0) [] (.slice (some ⟨w1.heap.size, 0, none⟩) 1 1) [b1] [C] W ((HA.out.1.later hB1).later hb) HA.out.2.1 (by have := HA.out.2.2.1; have := HA.out.2.2.2.1; have := HA.out.2.1; omega) (by omega) (by have := HA.out.2.1; omega) (by have := HA.out.2.2.1; have := HA.out.2.2.2.1; have := HA.out.2.1; omega) hjv Sl.nil (Sl.ptr1 hA (hP1 _ (Nat.le_refl _))) ⟨HN.out.later hb, trivial⟩ (by have := HA.out.2.2.2.2.1; omega) (by have := HA.out.2.2.2.2.1; have := HA.out.2.2.1; have := HA.out.2.2.2.1; omega) (by simp) (by simp) (fun q hq => hP1 q (Nat.le_trans hb.size hq))
      have CW' := hid0 CW
      clear CW
      go_wp2_with fail
      refine (CW'.out _ ((Below.refl _ _).alloc (Nat.le_refl _) _) (ArgsAt.new _ _ _) _ (by omega)).mono ?_
      rintro e w2 ⟨⟨b', rfl, hN'⟩, hb2⟩
      go_wp2_with fail
      go_ret
      exact ⟨⟨b', rfl, hN'⟩, below_through hb2 (by simp; omega) (hB1.alloc hsz1 _)⟩
    · have hR' := HPT.out
      rw [if_neg hq] at hR'
      subst hR'
      have hqi : ¬ (N1 : Int) ≤ (most : Int) := by omega
      have CP := fun sv (hsv : sv = ((N1 / 2 : Nat) : Int)) => partedI_any P least most n least (most + 1) b1 m m' C (N1 / 2) sv w1 HA.out.2.2.2.2.2.2 (by omega) HN.out hsv (by rw [HA.out.2.2.2.2.2.1]; omega) hP1
      have CP' := hid0 CP
      clear CP
      go_wp2_with fail
      refine (CP'.out _ (by omega)).mono ?_
      rintro e w2 ⟨⟨bl, br, rfl, hNl, hNr⟩, hb2⟩
      have hsz2 := hb2.size
      have hP2 : ∀ q, w2.heap.size ≤ q → P q := fun q hq => hP1 q (Nat.le_trans hsz2 hq)
      have hB2 := below_through hb2 hB1.size hB1
      obtain ⟨pt, hpt⟩ : ∃ pt, part n (N1 / 2) C = pt := ⟨_, rfl⟩
      rw [hpt] at hNl hNr ⊢
      have HPT2 := hid0 hpt
      clear hpt
      have CW := fun W (hb : Below w2.heap.size w2 W) (hA1 : ArgsAt W w2.heap.size [.string (txt pt.2.1)]) (hA2 : ArgsAt W (w2.heap.size + 1) [.pointer (some ⟨bl, 0, none⟩), .pointer (some ⟨br, 0, none⟩)]) (jv : Int) (hjv : jv = ((i + 1 : Nat) : Int)) =>
        withI_any P n b t i (i + 1) jv (.slice (some ⟨w2.heap.size, 0, none⟩) 1 1) [pt.2.1] (.slice (some ⟨w2.heap.size + 1, 0, none⟩) 2 2) [bl, br] [pt.1, pt.2.2] W (((HA.out.1.later hB1).later hb2).later hb) HA.out.2.1 (by have := HA.out.2.2.1; have := HA.out.2.2.2.1; have := HA.out.2.1; omega) (by omega) (by have := HA.out.2.1; omega) (by have := HA.out.2.2.1; have := HA.out.2.2.2.1; have := HA.out.2.1; omega) hjv (Sl.key hA1 (hP2 _ (Nat.le_refl _))) (Sl.ptr2 hA2 (hP2 _ (by omega))) ⟨hNl.later hb, hNr.later hb, trivial⟩ (by have := HA.out.2.2.2.2.1; omega) (by have := HA.out.2.2.2.2.1; have := HA.out.2.2.1; have := HA.out.2.2.2.1; omega) (by simp) (by simp) (fun q hq => hP2 q (Nat.le_trans hb.size hq))
      have CW' := hid0 CW
      clear CW hNl hNr
      go_wp2_with fail
      refine (CW'.out _ (((Below.refl _ _).alloc (Nat.le_refl _) _).alloc (by simp) _) ((ArgsAt.new _ _ _).alloc _) (ArgsAt.fresh _ _ _ _ (by simp)) _ (by omega)).mono ?_
      rintro e w3 ⟨⟨b', rfl, hN'⟩, hb3⟩
      go_wp2_with fail
      go_ret
      exact ⟨⟨b', rfl, by rw [HPT2.out]; exact hN'⟩, below_through hb3 (by simp; omega) ((hB2.alloc hB2.size _).alloc (by have := hB2.size; simp; omega) _)⟩
end Go.Proofs.Ytabpfibncipfjaa
