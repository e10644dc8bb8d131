/- The project's tree over int: a key is cut out from under a node, by its depth. Conditions: the node's memory is known; the tree may be; the key is there; what is new may lie where it lies. -/
import Derived.Test.YtabpfibncipfjaaSmI
namespace Go.Proofs.Ytabpfibncipfjaa
open Go.RowKit

set_option maxRecDepth 100000 in
set_option maxHeartbeats 4000000 in
theorem cutI_any (P : Nat → Prop) (least most : Nat) (k : Key) (hm : 1 ≤ least) (hmm : 2 * least ≤ most) (hmx : most ≤ 64) : ∀ (n a b : Nat) (lo hi : Option Key) (t : Tr (Int) n) (w : World), Wf least most n a most lo hi t → (n ≠ 0 → 1 ≤ a) → geO lo k → ltO k hi → getA k (flat n t) ≠ none → NAI P w n b t → (∀ q, w.heap.size ≤ q → P q) →
    Calls Try.prog 61 #[.pointer (some ⟨b, 0, none⟩), .string (txt k), .int .i64 (least : Int)] w (ResI P w n (cutT least n t k)) := by
  intro n
  induction n with
  | zero =>
    intro a b lo hi t w hw ha hlo hhi hg h hP
    obtain ⟨l, rfl⟩ : ∃ l : List (Key × (Int)), l = t := ⟨t, rfl⟩
    obtain ⟨_, _, _, _, _, _, q2, _, _⟩ := h.open_leaf
    have hl : l.length ≤ most := hw.2.2.1
    have hh : hasK k (l.map (·.1)) = true := by
      have h1 : getA k l ≠ none := hg
      rw [get_at hw.2.2.2.1] at h1
      cases hx : hasK k (l.map (·.1)) with
      | true => rfl
      | false => rw [hx] at h1; simp at h1
    have C := unsetI_any P b l k w h hw.2.2.2.1 hh (by omega) hP
    clear hw h hlo hhi hh hg ha
    go_enter Try.func61, Try.ntmps61
    go_wp2_with fail
    refine (leafI_yes b _ q2).mono ?_
    rintro e w' ⟨rfl, rfl⟩
    go_wp2_with fail
    refine C.mono ?_
    rintro e w' ⟨⟨b', rfl, hN⟩, hb⟩
    have HN := hid0 (And.intro hN hb)
    clear hN hb
    go_wp2_with fail
    go_ret
    exact ⟨⟨b', rfl, HN.out.1⟩, HN.out.2⟩
  | succ n ih =>
    intro a b lo hi t w hw ha hlo hhi hg h hP
    obtain ⟨ak, ck, ac, cc, bs, q0, q1, hk, hc, hlb, hkd⟩ := h.open_node
    have hch := hw.2.2.2
    have hlen := ch_len hch
    have hsz : a ≤ t.1.length ∧ t.1.length ≤ most := ⟨hw.2.1, hw.2.2.1⟩
    obtain ⟨c, m, m', hce, hcw, g1, g2, hgk, hparts⟩ := cut_facts hm hmm hw (ha (by omega)) hlo hhi
    have htl := tw_le k t.1
    obtain ⟨bi, hbi, hNi⟩ := hkd.get hce
    obtain ⟨kb, ko, rfl, _, qi⟩ := hc.one hbi
    have hct := cutT_node (least := least) hce
    have hcw2 := (cut_wf hm hmm (k := k) hcw (fun _ => hm) g1 g2).1
    have hT := towardI_any P (n + 1) b t k w h (wf_keys hw) (by change t.1.length ≤ 1000; omega)
    change Calls _ _ _ _ (fun e w' => e = .returned (.int .i64 (tw k t.1 : Nat)) ∧ w = w') at hT
    have hL := leafI_no b _ t.2.length cc w q1 (by omega)
    have IH := ih least bi m m' c w hcw (fun _ => hm) g1 g2 (by rw [← hgk]; exact hg) hNi hP
    have hi64 : (tw k t.1 : Int) ≤ 64 := by omega
    have hle : (least : Int) ≤ 32 := by omega
    obtain ⟨i, hi'⟩ : ∃ i, tw k t.1 = i := ⟨_, rfl⟩
    obtain ⟨C, hC⟩ : ∃ C, cutT least n c k = C := ⟨_, rfl⟩
    rw [hC] at IH hcw2 hct hparts
    rw [hi'] at hT htl qi hct hi64 hparts
    have hzC := wf_size hcw2
    obtain ⟨N1, hN1⟩ : ∃ N1, nk n C = N1 := ⟨_, rfl⟩
    rw [hN1] at hzC hct hparts
    obtain ⟨R, hR⟩ : ∃ R, cutT least (n + 1) t k = R := ⟨_, rfl⟩
    rw [hR] at hct ⊢
    have HCT := hid0 hct
    have hiM : (i : Int) < (t.2.length : Int) := by omega
    have hk1 := with_kid (C := C) (show i ≤ t.2.length by omega)
    have hk2 := with_len1 (t := t) (i := i) (C := C)
    have hk3 := with_len2 (C := C) (show i < t.2.length by omega)
    obtain ⟨M, hM⟩ : ∃ M, t.2.length = M := ⟨_, rfl⟩
    rw [hM] at q1 hiM hlen hk3
    have HA := hid0 (And.intro h (And.intro htl (And.intro hM (And.intro hlen (And.intro hsz (And.intro hN1 hcw2))))))
    have HP := hid0 hparts
    have HK := hid0 (And.intro hk1 (And.intro hk2 hk3))
    clear hw hch hk hc hlb hkd hce hcw g1 g2 hbi hNi hct hi' hC hN1 hM hcw2 h ih hlen hsz hR hgk hg ha hparts hk1 hk2 hk3
    go_enter Try.func61, Try.ntmps61
    go_wp2_with fail
    refine hL.mono ?_
    rintro e w' ⟨rfl, rfl⟩
    go_wp2_with fail
    refine hT.mono ?_
    rintro e w' ⟨rfl, rfl⟩
    go_wp2_with fail
    refine IH.mono ?_
    rintro e w1 ⟨⟨b1, rfl, hNA⟩, hB1⟩
    have HN := hid0 hNA
    have hsz1 := hB1.size
    have hP1 : ∀ q, w1.heap.size ≤ q → P q := fun q hq => hP q (Nat.le_trans hsz1 hq)
    clear IH hL hT hNA
    have CW := fun W (hb : Below w1.heap.size w1 W) (hA : ArgsAt W w1.heap.size [.pointer (some ⟨b1, 0, none⟩)]) (jv : Int) (hjv : jv = ((i + 1 : Nat) : Int)) =>
      withI_any P n b t i (i + 1) jv (.slice none 0 0) [] (.slice (some ⟨w1.heap.size, 0, none⟩) 1 1) [b1] [C] W ((HA.out.1.later hB1).later hb) HA.out.2.1 (by have := HA.out.2.2.1; have := HA.out.2.2.2.1; have := HA.out.2.1; omega) (by omega) (by have := HA.out.2.1; omega) (by have := HA.out.2.2.1; have := HA.out.2.2.2.1; have := HA.out.2.1; omega) hjv Sl.nil (Sl.ptr1 hA (hP1 _ (Nat.le_refl _))) ⟨HN.out.later hb, trivial⟩ (by have := HA.out.2.2.2.2.1; omega) (by have := HA.out.2.2.2.2.1; have := HA.out.2.2.1; have := HA.out.2.2.2.1; omega) (by simp) (by simp) (fun q hq => hP1 q (Nat.le_trans hb.size hq))
    have CW' := hid0 CW
    have HB1 := hid0 hB1
    clear CW hB1
    go_wp2_with fail
    refine (CW'.out _ ((Below.refl _ _).alloc (Nat.le_refl _) _) (ArgsAt.new _ _ _) _ (by omega)).mono ?_
    rintro e w2 ⟨⟨b2, rfl, hN2⟩, hb2⟩
    have hB2 := below_through hb2 (by simp; omega) (HB1.out.alloc hsz1 (Obj.cells #[.pointer (some ⟨b1, 0, none⟩)] 73))
    have hsz2 := hB2.size
    obtain ⟨NX, hNX⟩ : ∃ NX, withT t i (i + 1) [] [C] = NX := ⟨_, rfl⟩
    have HK2 := HK.out
    have HP2 := HP.out
    have hct := HCT.out
    rw [hNX] at hN2 HK2 HP2 hct
    obtain ⟨_, _, ac2, cc2, bs2, -, p1, -, hc2, hlb2, hkd2⟩ := hN2.open_node
    obtain ⟨bj, hbj, hNj⟩ := hkd2.get HK2.1
    obtain ⟨kb2, ko2, rfl, _, pi⟩ := hc2.one hbj
    obtain ⟨a7, c7, q7, -⟩ := hNj.keys
    rw [HA.out.2.2.2.2.2.1] at q7
    rw [HK2.2.2] at p1
    have HN2 := hid0 hN2
    have HK3 := hid0 HK2
    have HP3 := hid0 HP2
    have HB2 := hid0 hB2
    clear hN2 HK2 HP2 hNX hc2 hlb2 hkd2 hbj hNj hB2 hb2 CW' HK HP HCT
    by_cases hq : least ≤ N1
    · rw [if_pos hq] at hct
      subst hct
      have hqi : (least : Int) ≤ (N1 : Int) := by omega
      go_wp2_with fail
      go_ret
      exact ⟨⟨b2, rfl, HN2.out⟩, HB2.out⟩
    · rw [if_neg hq] at hct
      have HCT := hid0 hct
      clear hct
      have hqi : ¬ (least : Int) ≤ (N1 : Int) := by omega
      obtain ⟨l, r, key, lo', hi', e1, e2, e3, e4, e5, e6⟩ := HP3.out (by omega)
      have CF := filledI_any P least most hm hmm hmx n b2 i NX l r key lo' hi' w2 HN2.out e1 e2 e3 e4 e5 e6 (by rw [HK3.out.2.1]; have := HA.out.2.2.2.2.1; omega) (by rw [HK3.out.2.1, HK3.out.2.2]; exact HA.out.2.2.2.1) (fun q hq => hP q (Nat.le_trans hsz2 hq))
      rw [← HCT.out] at CF
      clear e1 e2 e3 e4 e5 e6
      go_wp2_with fail
      refine CF.mono ?_
      rintro e w3 ⟨⟨b', rfl, hN'⟩, hb3⟩
      have HN' := hid0 (And.intro hN' hb3)
      clear hN' hb3
      go_wp2_with fail
      go_ret
      exact ⟨⟨b', rfl, HN'.out.1⟩, below_through HN'.out.2 hsz2 HB2.out⟩
end Go.Proofs.Ytabpfibncipfjaa
