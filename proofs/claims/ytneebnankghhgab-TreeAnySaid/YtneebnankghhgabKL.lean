/- Several of my texts laid together, each as it was: SkL, SmL, SoL. Conditions: each names its own. -/
import Derived.Test.YtneebnankghhgabFL
import Derived.Test.YtneebnankghhgabSn
import Derived.Test.YtneebnankghhgabSjL
import Derived.BigQuiet
import Derived.Deep.QuietTactic
/- The project's tree over []int: a key is put under a node, by its depth. Conditions: the node's memory is known; the tree may be; what is new may lie where it lies. -/
namespace Go.Proofs.Ytneebnankghhgab
open Go.RowKit

theorem ResL.of {P : Nat → Prop} {w W : World} {n : Nat} {T : Tr (Nat) n} {e : Ending} {w' : World} (hb : Below w.heap.size w W) (h : ResL P W n T e w') : ResL P w n T e w' := ⟨h.1, below_through h.2 hb.size hb⟩
theorem partedL_any (P : Nat → Prop) (least most : Nat) : ∀ (n a bb b : Nat) (lo hi : Option Key) (t : Tr (Nat) n) (s : Nat) (sv : Int) (w : World), Wf least most n a bb lo hi t → bb ≤ 300 → NAL P w n b t → sv = (s : Int) → s < nk n t → (∀ q, w.heap.size ≤ q → P q) →
    Calls Try.prog 34 #[.pointer (some ⟨b, 0, none⟩), .int .i64 sv] w (Res3L P w n (part n s t))
  | 0, a, bb, b, lo, hi, t, s, sv, w, hw, hbb, h, hsv, hs, hP => by
    obtain ⟨l, rfl⟩ : ∃ l : List (Key × (Nat)), l = t := ⟨t, rfl⟩
    exact partedL_leaf P b l s sv w h hsv (by rwa [nk_leaf] at hs) hP
  | n + 1, a, bb, b, lo, hi, t, s, sv, w, hw, hbb, h, hsv, hs, hP => by
    have hz := wf_size hw
    exact partedL_node P n b t s sv w h hsv hs (ch_len hw.2.2.2) (by change t.1.length ≤ 400; have : t.1.length ≤ bb := hz.2; omega) hP

set_option maxRecDepth 100000 in
set_option maxHeartbeats 4000000 in
theorem putL_any (P : Nat → Prop) (least most : Nat) (k : Key) (x : Nat) (hm : 1 ≤ least) (hmm : 2 * least ≤ most) (hmx : most ≤ 64) : ∀ (n a b : Nat) (lo hi : Option Key) (t : Tr (Nat) n) (w : World), Wf least most n a most lo hi t → geO lo k → ltO k hi → NAL P w n b t → (∀ q, w.heap.size ≤ q → P q) →
    Calls Try.prog 33 #[.pointer (some ⟨b, 0, none⟩), .string (txt k), vL x, .int .i64 (most : Int)] w (ResL P w n (putT most n t k x)) := by
  intro n
  induction n with
  | zero =>
    intro a b lo hi t w hw hlo hhi h hP
    obtain ⟨l, rfl⟩ : ∃ l : List (Key × (Nat)), l = t := ⟨t, rfl⟩
    obtain ⟨_, _, _, _, _, _, q2, _, _⟩ := h.open_leaf
    have hl : l.length ≤ most := hw.2.2.1
    have hb0 : Below w.heap.size w w := Below.refl _ _
    have C := setL_any P b l k x w (h.later hb0) hw.2.2.2.1 (by omega) (fun q hq => hP q (Nat.le_trans hb0.size hq))
    replace q2 := cell_later hb0 q2
    have HB0 := hid0 hb0
    clear hw h hlo hhi hb0
    unfold vL at C ⊢
    go_enter Try.func33, Try.ntmps33
    go_wp2_with fail
    refine (leafL_yes b _ q2).mono ?_
    rintro e w' ⟨rfl, rfl⟩
    go_wp2_with fail
    refine C.mono ?_
    rintro e w' ⟨⟨b', rfl, hN⟩, hb⟩
    have HN := hid0 (And.intro hN hb)
    clear hN hb
    go_wp2_with fail
    go_ret
    exact ⟨⟨b', rfl, HN.out.1⟩, below_through HN.out.2 HB0.out.size HB0.out⟩
  | succ n ih =>
    intro a b lo hi t w hw hlo hhi h hP
    obtain ⟨ak, ck, ac, cc, bs, q0, q1, hk, hc, hlb, hkd⟩ := h.open_node
    have hch := hw.2.2.2
    have hlen := ch_len hch
    have hsz : a ≤ t.1.length ∧ t.1.length ≤ most := ⟨hw.2.1, hw.2.2.1⟩
    obtain ⟨c, m, m', hce, -, hcw, -, g1, g2⟩ := ch_toward hch hlo hhi
    have htl := tw_le k t.1
    obtain ⟨bi, hbi, hNi⟩ := hkd.get hce
    obtain ⟨kb, ko, rfl, _, qi⟩ := hc.one hbi
    have hpt := putT_node (most := most) (v := x) hce
    have hpw := (put_wf hm hmm (k := k) (v := x) hcw g1 g2).1
    have hb0 : Below w.heap.size w w := Below.refl _ _
    have hT := towardL_any P (n + 1) b t k w (h.later hb0) (wf_keys hw) (by change t.1.length ≤ 1000; omega)
    change Calls _ _ _ _ (fun e w' => e = .returned (.int .i64 (tw k t.1 : Nat)) ∧ _ = w') at hT
    replace q1 := cell_later hb0 q1
    replace qi := cell_later hb0 qi
    have hL := leafL_no b _ t.2.length cc w q1 (by omega)
    have IHF := fun W (hb : Below (w).heap.size w W) => (ih least bi m m' c W hcw g1 g2 ((hNi.later hb0).later hb) (fun q hq => hP q (Nat.le_trans hb0.size (Nat.le_trans hb.size hq)))).mono (fun e w' h => ResL.of hb h)
    have HB0 := hid0 hb0
    have hi64 : (tw k t.1 : Int) ≤ 64 := by omega
    obtain ⟨i, hi'⟩ : ∃ i, tw k t.1 = i := ⟨_, rfl⟩
    obtain ⟨C, hC⟩ : ∃ C, putT most n c k x = C := ⟨_, rfl⟩
    rw [hC] at IHF hpw hpt
    rw [hi'] at hT htl qi hpt hi64
    have hzC := wf_size hpw
    obtain ⟨N1, hN1⟩ : ∃ N1, nk n C = N1 := ⟨_, rfl⟩
    rw [hN1] at hzC hpt
    obtain ⟨R, hR⟩ : ∃ R, putT most (n + 1) t k x = R := ⟨_, rfl⟩
    rw [hR] at hpt ⊢
    have HPT := hid0 hpt
    have hiM : (i : Int) < (t.2.length : Int) := by omega
    obtain ⟨M, hM⟩ : ∃ M, t.2.length = M := ⟨_, rfl⟩
    rw [hM] at q1 hiM hlen
    have HA := hid0 (And.intro h (And.intro htl (And.intro hM (And.intro hlen (And.intro hsz (And.intro hN1 hpw))))))
    clear hw hch hk hc hlb hkd hce hcw g1 g2 hbi hNi hpt hi' hC hN1 hM hpw h ih hlen hsz hR hb0
    unfold vL at IHF ⊢
    have IHF' := hid0 IHF
    clear IHF
    go_enter Try.func33, Try.ntmps33
    go_wp2_with fail
    refine hL.mono ?_
    rintro e w' ⟨rfl, rfl⟩
    go_wp2_with fail
    refine hT.mono ?_
    rintro e w' ⟨rfl, rfl⟩
    go_wp2_with fail
    refine (IHF'.out _ (Below.refl _ _)).mono ?_
    rintro e w1 ⟨⟨b1, rfl, hNA⟩, hb1⟩
    obtain ⟨a7, c7, q7, -⟩ := hNA.keys
    rw [HA.out.2.2.2.2.2.1] at q7
    have HN := hid0 hNA
    have hB1 := below_through hb1 HB0.out.size HB0.out
    have hsz1 := hB1.size
    have hP1 : ∀ q, w1.heap.size ≤ q → P q := fun q hq => hP q (Nat.le_trans hsz1 hq)
    clear hL hT hNA hb1
    by_cases hq : N1 ≤ most
    · have hR' := HPT.out
      rw [if_pos hq] at hR'
      subst hR'
      have hqi : (N1 : Int) ≤ (most : Int) := by omega
      have CW := fun W (hb : Below w1.heap.size w1 W) (hA : ArgsAt W w1.heap.size [.pointer (some ⟨b1, 0, none⟩)]) (jv : Int) (hjv : jv = ((i + 1 : Nat) : Int)) =>
        withL_any P n b t i (i + 1) jv (.slice none 0 0) [] (.slice (some ⟨w1.heap.size, 0, none⟩) 1 1) [b1] [C] W ((HA.out.1.later hB1).later hb) HA.out.2.1 (by have := HA.out.2.2.1; have := HA.out.2.2.2.1; have := HA.out.2.1; omega) (by omega) (by have := HA.out.2.1; omega) (by have := HA.out.2.2.1; have := HA.out.2.2.2.1; have := HA.out.2.1; omega) hjv Sl.nil (Sl.ptr1 hA (hP1 _ (Nat.le_refl _))) ⟨HN.out.later hb, trivial⟩ (by have := HA.out.2.2.2.2.1; omega) (by have := HA.out.2.2.2.2.1; have := HA.out.2.2.1; have := HA.out.2.2.2.1; omega) (by simp) (by simp) (fun q hq => hP1 q (Nat.le_trans hb.size hq))
      have CW' := hid0 CW
      clear CW
      go_wp2_with fail
      refine (CW'.out _ ((Below.refl _ _).alloc (Nat.le_refl _) _) (ArgsAt.new _ _ _) _ (by omega)).mono ?_
      rintro e w2 ⟨⟨b', rfl, hN'⟩, hb2⟩
      go_wp2_with fail
      go_ret
      exact ⟨⟨b', rfl, hN'⟩, below_through hb2 (by simp; omega) (hB1.alloc hsz1 _)⟩
    · have hR' := HPT.out
      rw [if_neg hq] at hR'
      subst hR'
      have hqi : ¬ (N1 : Int) ≤ (most : Int) := by omega
      have CP := fun sv (hsv : sv = ((N1 / 2 : Nat) : Int)) => partedL_any P least most n least (most + 1) b1 m m' C (N1 / 2) sv w1 HA.out.2.2.2.2.2.2 (by omega) HN.out hsv (by rw [HA.out.2.2.2.2.2.1]; omega) hP1
      have CP' := hid0 CP
      clear CP
      go_wp2_with fail
      refine (CP'.out _ (by omega)).mono ?_
      rintro e w2 ⟨⟨bl, br, rfl, hNl, hNr⟩, hb2⟩
      have hsz2 := hb2.size
      have hP2 : ∀ q, w2.heap.size ≤ q → P q := fun q hq => hP1 q (Nat.le_trans hsz2 hq)
      have hB2 := below_through hb2 hB1.size hB1
      obtain ⟨pt, hpt⟩ : ∃ pt, part n (N1 / 2) C = pt := ⟨_, rfl⟩
      rw [hpt] at hNl hNr ⊢
      have HPT2 := hid0 hpt
      clear hpt
      have CW := fun W (hb : Below w2.heap.size w2 W) (hA1 : ArgsAt W w2.heap.size [.string (txt pt.2.1)]) (hA2 : ArgsAt W (w2.heap.size + 1) [.pointer (some ⟨bl, 0, none⟩), .pointer (some ⟨br, 0, none⟩)]) (jv : Int) (hjv : jv = ((i + 1 : Nat) : Int)) =>
        withL_any P n b t i (i + 1) jv (.slice (some ⟨w2.heap.size, 0, none⟩) 1 1) [pt.2.1] (.slice (some ⟨w2.heap.size + 1, 0, none⟩) 2 2) [bl, br] [pt.1, pt.2.2] W (((HA.out.1.later hB1).later hb2).later hb) HA.out.2.1 (by have := HA.out.2.2.1; have := HA.out.2.2.2.1; have := HA.out.2.1; omega) (by omega) (by have := HA.out.2.1; omega) (by have := HA.out.2.2.1; have := HA.out.2.2.2.1; have := HA.out.2.1; omega) hjv (Sl.key hA1 (hP2 _ (Nat.le_refl _))) (Sl.ptr2 hA2 (hP2 _ (by omega))) ⟨hNl.later hb, hNr.later hb, trivial⟩ (by have := HA.out.2.2.2.2.1; omega) (by have := HA.out.2.2.2.2.1; have := HA.out.2.2.1; have := HA.out.2.2.2.1; omega) (by simp) (by simp) (fun q hq => hP2 q (Nat.le_trans hb.size hq))
      have CW' := hid0 CW
      clear CW hNl hNr
      go_wp2_with fail
      refine (CW'.out _ (((Below.refl _ _).alloc (Nat.le_refl _) _).alloc (by simp) _) ((ArgsAt.new _ _ _).alloc _) (ArgsAt.fresh _ _ _ _ (by simp)) _ (by omega)).mono ?_
      rintro e w3 ⟨⟨b', rfl, hN'⟩, hb3⟩
      go_wp2_with fail
      go_ret
      exact ⟨⟨b', rfl, by rw [HPT2.out]; exact hN'⟩, below_through hb3 (by simp; omega) ((hB2.alloc hB2.size _).alloc (by have := hB2.size; simp; omega) _)⟩
end Go.Proofs.Ytneebnankghhgab

/- The project's tree over []int: two nodes as one, by their depth; a node whose kid has a key too few, made right; a key is cut out from under a node, by its depth. Conditions: the nodes' memory is known; the trees may be; what is new may lie where it lies. -/
namespace Go.Proofs.Ytneebnankghhgab
open Go.RowKit

theorem joinedL_any (P : Nat → Prop) (least most : Nat) : ∀ (n a bb a' bb' bl br : Nat) (lo hi lo' hi' : Option Key) (l r : Tr (Nat) n) (k : Key) (w : World), Wf least most n a bb lo hi l → Wf least most n a' bb' lo' hi' r → bb ≤ 64 → bb' ≤ 64 → NAL P w n bl l → NAL P w n br r → (∀ q, w.heap.size ≤ q → P q) →
    Calls Try.prog 81 #[.pointer (some ⟨bl, 0, none⟩), .string (txt k), .pointer (some ⟨br, 0, none⟩)] w (ResL P w n (joinT n l k r))
  | 0, a, bb, a', bb', bl, br, lo, hi, lo', hi', l, r, k, w, hl, hr, h1, h2, h, g, hP => by
    obtain ⟨x, rfl⟩ : ∃ x : List (Key × (Nat)), x = l := ⟨l, rfl⟩
    obtain ⟨y, rfl⟩ : ∃ y : List (Key × (Nat)), y = r := ⟨r, rfl⟩
    have z1 : x.length ≤ bb := hl.2.2.1
    have z2 : y.length ≤ bb' := hr.2.2.1
    exact joinedL_leaf P bl br x y k w h g (by omega) (by omega) hP
  | n + 1, a, bb, a', bb', bl, br, lo, hi, lo', hi', l, r, k, w, hl, hr, h1, h2, h, g, hP => by
    have z1 : l.1.length ≤ bb := hl.2.2.1
    have z2 : r.1.length ≤ bb' := hr.2.2.1
    have y1 := ch_len hl.2.2.2
    have y2 := ch_len hr.2.2.2
    exact joinedL_node P n bl br l r k w h g (by omega) (by omega) (by omega) (by omega) (by omega) hP

/-- Where the kid is that has a key too few. -/
def ShortL (least most nl nr i m : Nat) : Prop := if i = m then nl + 1 = least ∧ least ≤ nr ∧ nr ≤ most else nr + 1 = least ∧ least ≤ nl ∧ nl ≤ most
set_option maxRecDepth 100000 in
set_option maxHeartbeats 4000000 in
theorem filledL_any (P : Nat → Prop) (least most : Nat) (hm : 1 ≤ least) (hmm : 2 * least ≤ most) (hmx' : most ≤ 64) (n b i : Nat) (t : Tr (Nat) (n + 1)) (l r : Tr (Nat) n) (key : Key) (lo hi : Option Key) (w : World) (h : NAL P w (n + 1) b t)
    (hl : t.2[i - 1]? = some l) (hkey : t.1[i - 1]? = some key) (hr : t.2[i - 1 + 1]? = some r) (wl : Wf least most n (least - 1) most lo (some key) l) (wr : Wf least most n (least - 1) most (some key) hi r) (hs : ShortL least most (nk n l) (nk n r) i (i - 1))
    (ht : t.1.length ≤ 64) (hlen : t.2.length = t.1.length + 1) (hP : ∀ q, w.heap.size ≤ q → P q) :
    Calls Try.prog 59 #[.pointer (some ⟨b, 0, none⟩), .int .i64 (i : Int), .int .i64 (least : Int)] w (ResL P w (n + 1) (fillT least t i)) := by
  rw [fillT_at hl hkey hr]
  obtain ⟨ak, ck, ac, cc, bs, q0, q1, hk, hc, hlb, hkd⟩ := h.open_node
  obtain ⟨bl, hbl, hNl⟩ := hkd.get hl
  obtain ⟨br, hbr, hNr⟩ := hkd.get hr
  obtain ⟨kb, ko, rfl, _, r0⟩ := hc.one hbl
  obtain ⟨kb', ko', e, _, r1⟩ := hc.one hbr
  obtain ⟨rfl, rfl⟩ : kb = kb' ∧ ko = ko' := by simpa using e
  clear e
  obtain ⟨xb, xo, rfl, _, r2⟩ := hk.one hkey
  obtain ⟨a5, c5, q5, -⟩ := hNl.keys
  obtain ⟨a6, c6, q6, -⟩ := hNr.keys
  have zl := wf_size wl
  have zr := wf_size wr
  have hjw := (join_wf wl wr).1
  have hmw := merge_wf (lft := decide (i = i - 1)) hm hmm wl wr (by unfold ShortL at hs; simpa using hs)
  have hml := merge_keys (least := least) l key r (decide (i = i - 1))
  have hkl : i - 1 < t.1.length := (List.getElem?_eq_some_iff.1 hkey).1
  obtain ⟨m, hmi⟩ : ∃ m, i - 1 = m := ⟨_, rfl⟩
  rw [hmi] at hs r0 r1 r2 hkl
  have hw0 := withL_any P n b t m (m + 2)
  obtain ⟨nl, hnl⟩ : ∃ nl, nk n l = nl := ⟨_, rfl⟩
  obtain ⟨nr, hnr⟩ : ∃ nr, nk n r = nr := ⟨_, rfl⟩
  rw [hnl] at zl hs q5
  rw [hnr] at zr hs q6
  obtain ⟨K, hK⟩ : ∃ K, t.1.length = K := ⟨_, rfl⟩
  obtain ⟨M, hM⟩ : ∃ M, t.2.length = M := ⟨_, rfl⟩
  rw [hK] at q0 ht hlen hkl
  rw [hM] at q1 hlen
  have hmx : max ((i : Int) - 1) 0 = (m : Int) := by omega
  obtain ⟨J, hJ⟩ : ∃ J, joinT n l key r = J := ⟨_, rfl⟩
  have hRR : withT t m (m + 2) (mergeT least n l key r (decide (i = m))).1 (mergeT least n l key r (decide (i = m))).2 = if nl + nr < 2 * least then withT t m (m + 2) [] [J] else withT t m (m + 2) [(part n (if i = m then nl + 1 else nl - 1) J).2.1] [(part n (if i = m then nl + 1 else nl - 1) J).1, (part n (if i = m then nl + 1 else nl - 1) J).2.2] := by
    unfold mergeT
    rw [hnl, hnr, hJ]
    simp only [decide_eq_true_eq]
    split <;> rfl
  rw [hmi]
  obtain ⟨R, hR⟩ : ∃ R, withT t m (m + 2) (mergeT least n l key r (decide (i = m))).1 (mergeT least n l key r (decide (i = m))).2 = R := ⟨_, rfl⟩
  rw [hR] at hRR ⊢
  have HRR := hid0 hRR
  rw [hnl, hnr, hJ] at hjw
  have hjz := wf_size hjw
  obtain ⟨NJ, hNJ0⟩ : ∃ NJ, nk n J = NJ := ⟨_, rfl⟩
  rw [hNJ0] at hjz
  have hNJ1 : nl + nr ≤ NJ := by have := Nat.min_le_right n 1; omega
  have hNJ2 : NJ ≤ nl + nr + 1 := by have := Nat.min_le_right n 1; omega
  have hbb : nl + nr + min n 1 ≤ 300 := by have := Nat.min_le_right n 1; omega
  have hm64 : (m : Int) ≤ 64 := by omega
  have hi65 : (i : Int) ≤ 65 := by omega
  have hmK : (m : Int) < (K : Int) := by omega
  have hmM : (m : Int) < (M : Int) := by omega
  have hmM1 : (m : Int) + 1 < (M : Int) := by omega
  have hnl64 : (nl : Int) ≤ 64 := by omega
  have hnr64 : (nr : Int) ≤ 64 := by omega
  have hle64 : (least : Int) ≤ 32 := by omega
  have CJ := fun W (hb : Below w.heap.size w W) => joinedL_any P least most n (least - 1) most (least - 1) most bl br lo (some key) (some key) hi l r key W wl wr hmx' hmx' (hNl.later hb) (hNr.later hb) (fun q hq => hP q (Nat.le_trans hb.size hq))
  rw [hJ] at CJ
  have hm0 : (0 : Int) ≤ (m : Int) + 1 := by omega
  have HWM : Hid (IntKind.i64.wrap ((m : Int) + 1) = (m : Int) + 1) := hid0 (IntWalk.i64_in _ (by omega))
  have HTN : Hid (((m : Int) + 1).toNat = m + 1) := hid0 (by omega)
  have HW1 : Hid (IntKind.i64.wrap ((nl : Int) + (nr : Int)) = (nl : Int) + (nr : Int)) := hid0 (IntWalk.i64_in _ (by omega))
  have HW2 : Hid (IntKind.i64.wrap (2 * (least : Int)) = 2 * (least : Int)) := hid0 (IntWalk.i64_in _ (by omega))
  have CJ' := hid0 CJ
  have HA := hid0 (And.intro h (And.intro hjw (And.intro hNJ0 (And.intro hK (And.intro hM (And.intro hlen hkl))))))
  have HS := hid0 hs
  have HKM : Hid (K ≤ 64 ∧ M ≤ 65) := hid0 ⟨ht, by omega⟩
  have hSS : w.cell? ⟨b, 0, none⟩ = some (.slice (some ⟨xb, xo, none⟩) K ck) ∧ w.cell? ⟨b, 2, none⟩ = some (.slice (some ⟨kb, ko, none⟩) M cc) ∧ w.cell? ⟨kb, ko + m, none⟩ = some (.pointer (some ⟨bl, 0, none⟩)) ∧ w.cell? ⟨kb, ko + (m + 1), none⟩ = some (.pointer (some ⟨br, 0, none⟩)) ∧ Below w.heap.size w w := ⟨q0, q1, r0, r1, Below.refl _ _⟩
  have HSS := hid0 hSS
  clear CJ hJ hR hRR hjz hNJ0 h hjw hmw hml hmi hK hM hlen hnl hnr hNl hNr hs hSS hk hc hlb hkd hl hkey hr wl wr hbl hbr zl zr ht hkl hw0
  go_enter Try.func59, Try.ntmps59
  go_wp2_with fail
  have hwm := HWM.out
  have htn := HTN.out
  go_region_held3 (fun w' => w'.cell? ⟨b, 0, none⟩ = some (.slice (some ⟨xb, xo, none⟩) K ck) ∧ w'.cell? ⟨b, 2, none⟩ = some (.slice (some ⟨kb, ko, none⟩) M cc) ∧ w'.cell? ⟨kb, ko + m, none⟩ = some (.pointer (some ⟨bl, 0, none⟩)) ∧ w'.cell? ⟨kb, ko + (m + 1), none⟩ = some (.pointer (some ⟨br, 0, none⟩)) ∧ Below w.heap.size w w')
    (first
      | with_reducible assumption
      | (repeat (first | with_reducible exact HSS.out | with_reducible assumption | with_reducible refine hold4_drew7 ?_ | with_reducible refine hold4_alloc7 ?_)))
    (fail)
  clear hwm htn
  go_wp2_with fail
  refine (CJ'.out _ (Below.drew (Below.refl _ _))).mono ?_
  rintro e w1 ⟨⟨bj, rfl, hNJ⟩, hb1⟩
  replace hb1 : Below w.heap.size w w1 := below_through hb1 (Nat.le_refl _) (Below.drew (Below.refl _ _))
  have hsz1 := hb1.size
  replace q5 := cell_later hb1 q5
  replace q6 := cell_later hb1 q6
  have HNJ := hid0 hNJ
  have HB1 := hid0 hb1
  clear hNJ hb1
  have hSS2 : w1.cell? ⟨bl, 0, none⟩ = some (.slice a5 nl c5) ∧ w1.cell? ⟨br, 0, none⟩ = some (.slice a6 nr c6) ∧ Below w1.heap.size w1 w1 := ⟨q5, q6, Below.refl _ _⟩
  have HSS2 := hid0 hSS2
  clear hSS2
  go_wp2_with fail
  have hw1 := HW1.out
  have hw2 := HW2.out
  go_region_held3 (fun w' => w'.cell? ⟨bl, 0, none⟩ = some (.slice a5 nl c5) ∧ w'.cell? ⟨br, 0, none⟩ = some (.slice a6 nr c6) ∧ Below w1.heap.size w1 w')
    (first
      | with_reducible assumption
      | (repeat (first | with_reducible exact HSS2.out | with_reducible assumption | with_reducible refine hold2_drew ?_ | with_reducible refine hold2_alloc ?_)))
    (fail)
  clear hw1 hw2
  replace q5 : w1.drew.cell? ⟨bl, 0, none⟩ = some (.slice a5 nl c5) := q5
  have hP1 : ∀ q, w1.drew.heap.size ≤ q → P q := fun q hq => hP q (Nat.le_trans hsz1 hq)
  have hB2 : Below w.heap.size w w1.drew := Below.drew HB1.out
  have HNJ2 := hid0 (HNJ.out.later (Below.drew (Below.refl w1.heap.size w1)))
  have hsz2 : w.heap.size ≤ w1.drew.heap.size := hsz1
  have HB2 := hid0 hB2
  have HP1 := hid0 hP1
  generalize w1.drew = W1 at HNJ2 HB2 HP1 q5 hsz2 ⊢
  clear hB2 hP1
  have hKM : K ≤ 64 ∧ M ≤ 65 := HKM.out
  have hPW : ∀ W, Below W1.heap.size W1 W → ∀ q, W.heap.size ≤ q → P q := fun W hb q hq => HP1.out q (Nat.le_trans hb.size hq)
  by_cases hlt : nl + nr < 2 * least
  · have hR' := HRR.out
    rw [if_pos hlt] at hR'
    subst hR'
    have hlti : (nl : Int) + (nr : Int) < 2 * (least : Int) := by omega
    have CW := fun W (hb : Below W1.heap.size W1 W) (hA : ArgsAt W W1.heap.size [.pointer (some ⟨bj, 0, none⟩)]) (jv : Int) (hjv : jv = ((m + 2 : Nat) : Int)) =>
      withL_any P n b t m (m + 2) jv (.slice none 0 0) [] (.slice (some ⟨W1.heap.size, 0, none⟩) 1 1) [bj] [J] W ((HA.out.1.later HB2.out).later hb) (by rw [HA.out.2.2.2.1]; omega) (by rw [HA.out.2.2.2.2.1]; omega) (by omega) (by rw [HA.out.2.2.2.1]; omega) (by rw [HA.out.2.2.2.2.1]; omega) hjv Sl.nil (Sl.ptr1 hA (HP1.out _ (Nat.le_refl _))) ⟨HNJ2.out.later hb, trivial⟩ (by rw [HA.out.2.2.2.1]; have := hKM; omega) (by rw [HA.out.2.2.2.2.1]; have := hKM; omega) (by simp) (by simp) (hPW W hb)
    have CW' := hid0 CW
    clear CW
    go_wp2_with fail
    refine (CW'.out _ ((Below.refl _ _).alloc (Nat.le_refl _) _) (ArgsAt.new _ _ _) _ (by omega)).mono ?_
    rintro e w2 ⟨⟨b', rfl, hN'⟩, hb2⟩
    go_wp2_with fail
    go_ret
    exact ⟨⟨b', rfl, hN'⟩, below_through hb2 (by simp; omega) (HB2.out.alloc hsz2 _)⟩
  · have hR' := HRR.out
    rw [if_neg hlt] at hR'
    obtain ⟨S, hS⟩ : ∃ S, (if i = m then nl + 1 else nl - 1) = S := ⟨_, rfl⟩
    rw [hS] at hR'
    subst hR'
    have HSV := hid0 hS
    clear hS
    have hlti : ¬ (nl : Int) + (nr : Int) < 2 * (least : Int) := by omega
    have fin : S < NJ → ∀ sv, sv = (S : Int) → Calls Try.prog 34 #[.pointer (some ⟨bj, 0, none⟩), .int .i64 sv] W1 (Res3L P W1 n (part n S J)) := fun hSN sv hsv =>
      partedL_any P least most n _ _ bj lo hi J S sv W1 HA.out.2.1 hbb HNJ2.out hsv (by rw [HA.out.2.2.1]; exact hSN) HP1.out
    have FIN := hid0 fin
    clear fin
    have hs := HS.out
    unfold ShortL at hs
    by_cases him : i = m
    · have himi : ((i : Int) == (m : Int)) = true := by simp; omega
      rw [if_pos him] at hs
      have hS1 : nl + 1 = S := by rw [← HSV.out, if_pos him]
      have hS2 : S < NJ := by omega
      have HS1 := hid0 hS1
      clear hS1
      go_wp2_with fail
      refine (FIN.out hS2 _ (by have := HS1.out; omega)).mono ?_
      rintro e w2 ⟨⟨c1, c2, rfl, hN1, hN2⟩, hb2⟩
      have hsz3 := hb2.size
      have hP2 : ∀ q, w2.heap.size ≤ q → P q := fun q hq => HP1.out q (Nat.le_trans hsz3 hq)
      have hB3 := below_through hb2 hsz2 HB2.out
      obtain ⟨pt, hpt⟩ : ∃ pt, part n S J = pt := ⟨_, rfl⟩
      rw [hpt] at hN1 hN2 ⊢
      have HPT := hid0 hpt
      clear hpt
      have CW := fun W (hb : Below w2.heap.size w2 W) (hA1 : ArgsAt W w2.heap.size [.string (txt pt.2.1)]) (hA2 : ArgsAt W (w2.heap.size + 1) [.pointer (some ⟨c1, 0, none⟩), .pointer (some ⟨c2, 0, none⟩)]) (jv : Int) (hjv : jv = ((m + 2 : Nat) : Int)) =>
        withL_any P n b t m (m + 2) jv (.slice (some ⟨w2.heap.size, 0, none⟩) 1 1) [pt.2.1] (.slice (some ⟨w2.heap.size + 1, 0, none⟩) 2 2) [c1, c2] [pt.1, pt.2.2] W ((HA.out.1.later hB3).later hb) (by rw [HA.out.2.2.2.1]; omega) (by rw [HA.out.2.2.2.2.1]; omega) (by omega) (by rw [HA.out.2.2.2.1]; omega) (by rw [HA.out.2.2.2.2.1]; omega) hjv (Sl.key hA1 (hP2 _ (Nat.le_refl _))) (Sl.ptr2 hA2 (hP2 _ (by omega))) ⟨hN1.later hb, hN2.later hb, trivial⟩ (by rw [HA.out.2.2.2.1]; have := hKM; omega) (by rw [HA.out.2.2.2.2.1]; have := hKM; omega) (by simp) (by simp) (fun q hq => hP2 q (Nat.le_trans hb.size hq))
      have CW' := hid0 CW
      clear CW hN1 hN2
      go_wp2_with fail
      refine (CW'.out _ (((Below.refl _ _).alloc (Nat.le_refl _) _).alloc (by simp) _) ((ArgsAt.new _ _ _).alloc _) (ArgsAt.fresh _ _ _ _ (by simp)) _ (by omega)).mono ?_
      rintro e w3 ⟨⟨b', rfl, hN'⟩, hb3⟩
      go_wp2_with fail
      go_ret
      exact ⟨⟨b', rfl, by rw [HPT.out]; exact hN'⟩, below_through hb3 (by simp; omega) ((hB3.alloc hB3.size _).alloc (by have := hB3.size; simp; omega) _)⟩
    · have himi : ((i : Int) == (m : Int)) = false := by simp; omega
      rw [if_neg him] at hs
      have hS1 : nl - 1 = S := by rw [← HSV.out, if_neg him]
      have hS2 : S < NJ := by omega
      have HS1 := hid0 hS1
      clear hS1
      go_wp2_with fail
      refine (FIN.out hS2 _ (by have := HS1.out; omega)).mono ?_
      rintro e w2 ⟨⟨c1, c2, rfl, hN1, hN2⟩, hb2⟩
      have hsz3 := hb2.size
      have hP2 : ∀ q, w2.heap.size ≤ q → P q := fun q hq => HP1.out q (Nat.le_trans hsz3 hq)
      have hB3 := below_through hb2 hsz2 HB2.out
      obtain ⟨pt, hpt⟩ : ∃ pt, part n S J = pt := ⟨_, rfl⟩
      rw [hpt] at hN1 hN2 ⊢
      have HPT := hid0 hpt
      clear hpt
      have CW := fun W (hb : Below w2.heap.size w2 W) (hA1 : ArgsAt W w2.heap.size [.string (txt pt.2.1)]) (hA2 : ArgsAt W (w2.heap.size + 1) [.pointer (some ⟨c1, 0, none⟩), .pointer (some ⟨c2, 0, none⟩)]) (jv : Int) (hjv : jv = ((m + 2 : Nat) : Int)) =>
        withL_any P n b t m (m + 2) jv (.slice (some ⟨w2.heap.size, 0, none⟩) 1 1) [pt.2.1] (.slice (some ⟨w2.heap.size + 1, 0, none⟩) 2 2) [c1, c2] [pt.1, pt.2.2] W ((HA.out.1.later hB3).later hb) (by rw [HA.out.2.2.2.1]; omega) (by rw [HA.out.2.2.2.2.1]; omega) (by omega) (by rw [HA.out.2.2.2.1]; omega) (by rw [HA.out.2.2.2.2.1]; omega) hjv (Sl.key hA1 (hP2 _ (Nat.le_refl _))) (Sl.ptr2 hA2 (hP2 _ (by omega))) ⟨hN1.later hb, hN2.later hb, trivial⟩ (by rw [HA.out.2.2.2.1]; have := hKM; omega) (by rw [HA.out.2.2.2.2.1]; have := hKM; omega) (by simp) (by simp) (fun q hq => hP2 q (Nat.le_trans hb.size hq))
      have CW' := hid0 CW
      clear CW hN1 hN2
      go_wp2_with fail
      refine (CW'.out _ (((Below.refl _ _).alloc (Nat.le_refl _) _).alloc (by simp) _) ((ArgsAt.new _ _ _).alloc _) (ArgsAt.fresh _ _ _ _ (by simp)) _ (by omega)).mono ?_
      rintro e w3 ⟨⟨b', rfl, hN'⟩, hb3⟩
      go_wp2_with fail
      go_ret
      exact ⟨⟨b', rfl, by rw [HPT.out]; exact hN'⟩, below_through hb3 (by simp; omega) ((hB3.alloc hB3.size _).alloc (by have := hB3.size; simp; omega) _)⟩
end Go.Proofs.Ytneebnankghhgab

/- The project's tree over []int: a key is cut out from under a node, by its depth. Conditions: the node's memory is known; the tree may be; the key is there; what is new may lie where it lies. -/
namespace Go.Proofs.Ytneebnankghhgab
open Go.RowKit

set_option maxRecDepth 100000 in
set_option maxHeartbeats 4000000 in
theorem cutL_any (P : Nat → Prop) (least most : Nat) (k : Key) (hm : 1 ≤ least) (hmm : 2 * least ≤ most) (hmx : most ≤ 64) : ∀ (n a b : Nat) (lo hi : Option Key) (t : Tr (Nat) n) (w : World), Wf least most n a most lo hi t → (n ≠ 0 → 1 ≤ a) → geO lo k → ltO k hi → getA k (flat n t) ≠ none → NAL P w n b t → (∀ q, w.heap.size ≤ q → P q) →
    Calls Try.prog 36 #[.pointer (some ⟨b, 0, none⟩), .string (txt k), .int .i64 (least : Int)] w (ResL P w n (cutT least n t k)) := by
  intro n
  induction n with
  | zero =>
    intro a b lo hi t w hw ha hlo hhi hg h hP
    obtain ⟨l, rfl⟩ : ∃ l : List (Key × (Nat)), l = t := ⟨t, rfl⟩
    obtain ⟨_, _, _, _, _, _, q2, _, _⟩ := h.open_leaf
    have hl : l.length ≤ most := hw.2.2.1
    have hh : hasK k (l.map (·.1)) = true := by
      have h1 : getA k l ≠ none := hg
      rw [get_at hw.2.2.2.1] at h1
      cases hx : hasK k (l.map (·.1)) with
      | true => rfl
      | false => rw [hx] at h1; simp at h1
    have C := unsetL_any P b l k w h hw.2.2.2.1 hh (by omega) hP
    clear hw h hlo hhi hh hg ha
    go_enter Try.func36, Try.ntmps36
    go_wp2_with fail
    refine (leafL_yes b _ q2).mono ?_
    rintro e w' ⟨rfl, rfl⟩
    go_wp2_with fail
    refine C.mono ?_
    rintro e w' ⟨⟨b', rfl, hN⟩, hb⟩
    have HN := hid0 (And.intro hN hb)
    clear hN hb
    go_wp2_with fail
    go_ret
    exact ⟨⟨b', rfl, HN.out.1⟩, HN.out.2⟩
  | succ n ih =>
    intro a b lo hi t w hw ha hlo hhi hg h hP
    obtain ⟨ak, ck, ac, cc, bs, q0, q1, hk, hc, hlb, hkd⟩ := h.open_node
    have hch := hw.2.2.2
    have hlen := ch_len hch
    have hsz : a ≤ t.1.length ∧ t.1.length ≤ most := ⟨hw.2.1, hw.2.2.1⟩
    obtain ⟨c, m, m', hce, hcw, g1, g2, hgk, hparts⟩ := cut_facts hm hmm hw (ha (by omega)) hlo hhi
    have htl := tw_le k t.1
    obtain ⟨bi, hbi, hNi⟩ := hkd.get hce
    obtain ⟨kb, ko, rfl, _, qi⟩ := hc.one hbi
    have hct := cutT_node (least := least) hce
    have hcw2 := (cut_wf hm hmm (k := k) hcw (fun _ => hm) g1 g2).1
    have hT := towardL_any P (n + 1) b t k w h (wf_keys hw) (by change t.1.length ≤ 1000; omega)
    change Calls _ _ _ _ (fun e w' => e = .returned (.int .i64 (tw k t.1 : Nat)) ∧ w = w') at hT
    have hL := leafL_no b _ t.2.length cc w q1 (by omega)
    have IH := ih least bi m m' c w hcw (fun _ => hm) g1 g2 (by rw [← hgk]; exact hg) hNi hP
    have hi64 : (tw k t.1 : Int) ≤ 64 := by omega
    have hle : (least : Int) ≤ 32 := by omega
    obtain ⟨i, hi'⟩ : ∃ i, tw k t.1 = i := ⟨_, rfl⟩
    obtain ⟨C, hC⟩ : ∃ C, cutT least n c k = C := ⟨_, rfl⟩
    rw [hC] at IH hcw2 hct hparts
    rw [hi'] at hT htl qi hct hi64 hparts
    have hzC := wf_size hcw2
    obtain ⟨N1, hN1⟩ : ∃ N1, nk n C = N1 := ⟨_, rfl⟩
    rw [hN1] at hzC hct hparts
    obtain ⟨R, hR⟩ : ∃ R, cutT least (n + 1) t k = R := ⟨_, rfl⟩
    rw [hR] at hct ⊢
    have HCT := hid0 hct
    have hiM : (i : Int) < (t.2.length : Int) := by omega
    have hk1 := with_kid (C := C) (show i ≤ t.2.length by omega)
    have hk2 := with_len1 (t := t) (i := i) (C := C)
    have hk3 := with_len2 (C := C) (show i < t.2.length by omega)
    obtain ⟨M, hM⟩ : ∃ M, t.2.length = M := ⟨_, rfl⟩
    rw [hM] at q1 hiM hlen hk3
    have HA := hid0 (And.intro h (And.intro htl (And.intro hM (And.intro hlen (And.intro hsz (And.intro hN1 hcw2))))))
    have HP := hid0 hparts
    have HK := hid0 (And.intro hk1 (And.intro hk2 hk3))
    clear hw hch hk hc hlb hkd hce hcw g1 g2 hbi hNi hct hi' hC hN1 hM hcw2 h ih hlen hsz hR hgk hg ha hparts hk1 hk2 hk3
    go_enter Try.func36, Try.ntmps36
    go_wp2_with fail
    refine hL.mono ?_
    rintro e w' ⟨rfl, rfl⟩
    go_wp2_with fail
    refine hT.mono ?_
    rintro e w' ⟨rfl, rfl⟩
    go_wp2_with fail
    refine IH.mono ?_
    rintro e w1 ⟨⟨b1, rfl, hNA⟩, hB1⟩
    have HN := hid0 hNA
    have hsz1 := hB1.size
    have hP1 : ∀ q, w1.heap.size ≤ q → P q := fun q hq => hP q (Nat.le_trans hsz1 hq)
    clear IH hL hT hNA
    have CW := fun W (hb : Below w1.heap.size w1 W) (hA : ArgsAt W w1.heap.size [.pointer (some ⟨b1, 0, none⟩)]) (jv : Int) (hjv : jv = ((i + 1 : Nat) : Int)) =>
      withL_any P n b t i (i + 1) jv (.slice none 0 0) [] (.slice (some ⟨w1.heap.size, 0, none⟩) 1 1) [b1] [C] W ((HA.out.1.later hB1).later hb) HA.out.2.1 (by have := HA.out.2.2.1; have := HA.out.2.2.2.1; have := HA.out.2.1; omega) (by omega) (by have := HA.out.2.1; omega) (by have := HA.out.2.2.1; have := HA.out.2.2.2.1; have := HA.out.2.1; omega) hjv Sl.nil (Sl.ptr1 hA (hP1 _ (Nat.le_refl _))) ⟨HN.out.later hb, trivial⟩ (by have := HA.out.2.2.2.2.1; omega) (by have := HA.out.2.2.2.2.1; have := HA.out.2.2.1; have := HA.out.2.2.2.1; omega) (by simp) (by simp) (fun q hq => hP1 q (Nat.le_trans hb.size hq))
    have CW' := hid0 CW
    have HB1 := hid0 hB1
    clear CW hB1
    go_wp2_with fail
    refine (CW'.out _ ((Below.refl _ _).alloc (Nat.le_refl _) _) (ArgsAt.new _ _ _) _ (by omega)).mono ?_
    rintro e w2 ⟨⟨b2, rfl, hN2⟩, hb2⟩
    have hB2 := below_through hb2 (by simp; omega) (HB1.out.alloc hsz1 (Obj.cells #[.pointer (some ⟨b1, 0, none⟩)] 66))
    have hsz2 := hB2.size
    obtain ⟨NX, hNX⟩ : ∃ NX, withT t i (i + 1) [] [C] = NX := ⟨_, rfl⟩
    have HK2 := HK.out
    have HP2 := HP.out
    have hct := HCT.out
    rw [hNX] at hN2 HK2 HP2 hct
    obtain ⟨_, _, ac2, cc2, bs2, -, p1, -, hc2, hlb2, hkd2⟩ := hN2.open_node
    obtain ⟨bj, hbj, hNj⟩ := hkd2.get HK2.1
    obtain ⟨kb2, ko2, rfl, _, pi⟩ := hc2.one hbj
    obtain ⟨a7, c7, q7, -⟩ := hNj.keys
    rw [HA.out.2.2.2.2.2.1] at q7
    rw [HK2.2.2] at p1
    have HN2 := hid0 hN2
    have HK3 := hid0 HK2
    have HP3 := hid0 HP2
    have HB2 := hid0 hB2
    clear hN2 HK2 HP2 hNX hc2 hlb2 hkd2 hbj hNj hB2 hb2 CW' HK HP HCT
    by_cases hq : least ≤ N1
    · rw [if_pos hq] at hct
      subst hct
      have hqi : (least : Int) ≤ (N1 : Int) := by omega
      go_wp2_with fail
      go_ret
      exact ⟨⟨b2, rfl, HN2.out⟩, HB2.out⟩
    · rw [if_neg hq] at hct
      have HCT := hid0 hct
      clear hct
      have hqi : ¬ (least : Int) ≤ (N1 : Int) := by omega
      obtain ⟨l, r, key, lo', hi', e1, e2, e3, e4, e5, e6⟩ := HP3.out (by omega)
      have CF := filledL_any P least most hm hmm hmx n b2 i NX l r key lo' hi' w2 HN2.out e1 e2 e3 e4 e5 e6 (by rw [HK3.out.2.1]; have := HA.out.2.2.2.2.1; omega) (by rw [HK3.out.2.1, HK3.out.2.2]; exact HA.out.2.2.2.1) (fun q hq => hP q (Nat.le_trans hsz2 hq))
      rw [← HCT.out] at CF
      clear e1 e2 e3 e4 e5 e6
      go_wp2_with fail
      refine CF.mono ?_
      rintro e w3 ⟨⟨b', rfl, hN'⟩, hb3⟩
      have HN' := hid0 (And.intro hN' hb3)
      clear hN' hb3
      go_wp2_with fail
      go_ret
      exact ⟨⟨b', rfl, HN'.out.1⟩, below_through HN'.out.2 hsz2 HB2.out⟩
end Go.Proofs.Ytneebnankghhgab
