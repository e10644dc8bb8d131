/- Several of my texts laid together, each as it was: Sn. Conditions: each names its own. -/
import Derived.Test.YtneebnankghhgabG1
/- Trees plainly: what putting and cutting make of a node, by its kid; a root; how many keys stand how deep. Nothing of any program here. Conditions: each lemma names its own. -/
namespace Go.Proofs.Ytneebnankghhgab
open Go.RowKit

section Steps
variable {β : Type} {n : Nat}
theorem putT_node {most : Nat} {t : Tr β (n + 1)} {k : Key} {v : β} {c : Tr β n} (h : t.2[tw k t.1]? = some c) : putT most (n + 1) t k v = if nk n (putT most n c k v) ≤ most then withT t (tw k t.1) (tw k t.1 + 1) [] [putT most n c k v] else withT t (tw k t.1) (tw k t.1 + 1) [(part n (nk n (putT most n c k v) / 2) (putT most n c k v)).2.1] [(part n (nk n (putT most n c k v) / 2) (putT most n c k v)).1, (part n (nk n (putT most n c k v) / 2) (putT most n c k v)).2.2] := by
  show (if nk n (putT most n (t.2.getD (tw k t.1) (nilT n)) k v) ≤ most then _ else _) = _
  rw [getD_some h]
theorem cutT_node {least : Nat} {t : Tr β (n + 1)} {k : Key} {c : Tr β n} (h : t.2[tw k t.1]? = some c) : cutT least (n + 1) t k = if least ≤ nk n (cutT least n c k) then withT t (tw k t.1) (tw k t.1 + 1) [] [cutT least n c k] else fillT least (withT t (tw k t.1) (tw k t.1 + 1) [] [cutT least n c k]) (tw k t.1) := by
  show (if least ≤ nk n (cutT least n (t.2.getD (tw k t.1) (nilT n)) k) then _ else _) = _
  rw [getD_some h]
/-- The two kids that a node whose kid has a key too few looks at. -/
theorem fill_parts {least most : Nat} (hm : 1 ≤ least) {lo hi m m' : Option Key} {K1 K2 : List Key} {C1 C2 : List (Tr β n)} {c : Tr β n} (h1 : Lc (Wf least most n least most) lo K1 C1 m) (h2 : Wf least most n (least - 1) most m m' c) (hc : nk n c + 1 = least) (h3 : Rc (Wf least most n least most) m' K2 C2 hi) (hk : K1 ++ K2 ≠ []) :
    ∃ l r key lo' hi', (C1 ++ [c] ++ C2)[K1.length - 1]? = some l ∧ (K1 ++ K2)[K1.length - 1]? = some key ∧ (C1 ++ [c] ++ C2)[K1.length - 1 + 1]? = some r ∧ Wf least most n (least - 1) most lo' (some key) l ∧ Wf least most n (least - 1) most (some key) hi' r ∧
      (if K1.length = K1.length - 1 then nk n l + 1 = least ∧ least ≤ nk n r ∧ nk n r ≤ most else nk n r + 1 = least ∧ least ≤ nk n l ∧ nk n l ≤ most) := by
  have hl1 := lc_len h1
  rcases List.eq_nil_or_concat K1 with rfl | ⟨K1', k1, rfl⟩
  · obtain rfl : C1 = [] := List.length_eq_zero_iff.1 (by simpa using hl1)
    rcases h3 with ⟨rfl, rfl, _⟩ | ⟨k0, K', rfl, rfl, h3⟩
    · simp at hk
    have hl2 := ch_len h3
    obtain ⟨c2, C2', rfl⟩ : ∃ c2 C2', C2 = c2 :: C2' := by
      cases C2 with
      | nil => simp at hl2
      | cons c2 C2' => exact ⟨_, _, rfl⟩
    obtain ⟨m2, h4, _⟩ := (ch_right (M := []) (K2 := K') (D := [c2]) (C2 := C2') rfl).1 h3
    replace h4 : Wf least most n least most (some k0) m2 c2 := h4
    have hz := wf_size h4
    exact ⟨c, c2, k0, m, m2, rfl, rfl, rfl, h2, wf_mono h4 (by omega) hz.2, by simp; exact ⟨hc, hz⟩⟩
  · obtain ⟨C1', c1, rfl⟩ : ∃ C1' c1, C1 = C1' ++ [c1] := by
      rcases List.eq_nil_or_concat C1 with rfl | ⟨C1', c1, rfl⟩
      · simp at hl1
      · exact ⟨C1', c1, by simp⟩
    rw [List.concat_eq_append] at h1 hl1 hk ⊢
    have hl : C1'.length = K1'.length := by simpa using hl1
    obtain ⟨rfl, m1, h4, h5⟩ := lc_last hl h1
    have hz := wf_size h5
    refine ⟨c1, c, k1, m1, m', ?_, ?_, ?_, wf_mono h5 (by omega) hz.2, h2, ?_⟩
    · have e : C1' ++ [c1] ++ [c] ++ C2 = C1' ++ c1 :: (c :: C2) := by simp
      rw [e, List.getElem?_append_right (by simp; omega)]
      simp [hl]
    · have e : K1' ++ [k1] ++ K2 = K1' ++ k1 :: K2 := by simp
      rw [e, List.getElem?_append_right (by simp)]
      simp
    · have e : C1' ++ [c1] ++ [c] ++ C2 = (C1' ++ [c1]) ++ c :: C2 := by simp
      rw [e, List.getElem?_append_right (by simp; omega)]
      simp [hl]
    · rw [if_neg (by simp)]
      exact ⟨hc, hz⟩
theorem fillT_at {least : Nat} {t : Tr β (n + 1)} {i : Nat} {l r : Tr β n} {key : Key} (hl : t.2[i - 1]? = some l) (hk : t.1[i - 1]? = some key) (hr : t.2[i - 1 + 1]? = some r) :
    fillT least t i = withT t (i - 1) (i - 1 + 2) (mergeT least n l key r (decide (i = i - 1))).1 (mergeT least n l key r (decide (i = i - 1))).2 := by
  unfold fillT
  rw [getD_some hl, getD_some hk, getD_some hr]
theorem get_kid {least most : Nat} {lo hi m m' : Option Key} {t : Tr β (n + 1)} {k : Key} {c : Tr β n} (hce : t.2[tw k t.1]? = some c) (hL : Lc (Wf least most n least most) lo (t.1.take (tw k t.1)) (t.2.take (tw k t.1)) m) (hR : Rc (Wf least most n least most) m' (t.1.drop (tw k t.1)) (t.2.drop (tw k t.1 + 1)) hi) (g1 : geO m k) (g2 : ltO k m') : getA k (flat (n + 1) t) = getA k (flat n c) := by
  have hbelow := (lc_below (fun _ _ _ hc => wf_kids hc) hL g1).2
  have habove := rc_above (fun _ _ _ hc => wf_kids hc) hR g2
  have hflat : flat (n + 1) t = (t.2.take (tw k t.1)).flatMap (flat n) ++ (flat n c ++ (t.2.drop (tw k t.1 + 1)).flatMap (flat n)) := by
    show t.2.flatMap (flat n) = _
    conv => lhs; rw [split_at hce]
    simp [List.flatMap_append]
  rw [hflat, getA_left hbelow, getA_right habove]
/-- All that cutting out from under a node asks of its kid. -/
theorem cut_facts {least most : Nat} (hm : 1 ≤ least) (hmm : 2 * least ≤ most) {a : Nat} {lo hi : Option Key} {t : Tr β (n + 1)} {k : Key} (hw : Wf least most (n + 1) a most lo hi t) (ha : 1 ≤ a) (hlo : geO lo k) (hhi : ltO k hi) :
    ∃ c m m', t.2[tw k t.1]? = some c ∧ Wf least most n least most m m' c ∧ geO m k ∧ ltO k m' ∧ getA k (flat (n + 1) t) = getA k (flat n c) ∧ (nk n (cutT least n c k) + 1 = least → ∃ l r key lo' hi', (withT t (tw k t.1) (tw k t.1 + 1) [] [cutT least n c k]).2[tw k t.1 - 1]? = some l ∧ (withT t (tw k t.1) (tw k t.1 + 1) [] [cutT least n c k]).1[tw k t.1 - 1]? = some key ∧
      (withT t (tw k t.1) (tw k t.1 + 1) [] [cutT least n c k]).2[tw k t.1 - 1 + 1]? = some r ∧ Wf least most n (least - 1) most lo' (some key) l ∧ Wf least most n (least - 1) most (some key) hi' r ∧
      (if tw k t.1 = tw k t.1 - 1 then nk n l + 1 = least ∧ least ≤ nk n r ∧ nk n r ≤ most else nk n r + 1 = least ∧ least ≤ nk n l ∧ nk n l ≤ most)) := by
  obtain ⟨c, m, m', hce, hL, hcw, hR, g1, g2⟩ := ch_toward hw.2.2.2 hlo hhi
  refine ⟨c, m, m', hce, hcw, g1, g2, get_kid hce hL hR g1 g2, fun hsh => ?_⟩
  have i1 := (cut_wf hm hmm (k := k) hcw (fun _ => hm) g1 g2).1
  have htw := tw_le k t.1
  have hkt : (t.1.take (tw k t.1)).length = tw k t.1 := by simp; omega
  have hb : a ≤ t.1.length := hw.2.1
  have h := fill_parts hm hL i1 hsh hR (by rw [List.take_append_drop]; intro e; rw [e] at hb; simp at hb; omega)
  rw [hkt] at h
  obtain ⟨l, r, key, lo', hi', e1, e2, e3, e4, e5, e6⟩ := h
  refine ⟨l, r, key, lo', hi', e1, ?_, e3, e4, e5, e6⟩
  show (t.1.take (tw k t.1) ++ [] ++ t.1.drop (tw k t.1))[tw k t.1 - 1]? = some key
  rw [List.append_nil]; exact e2
theorem with_kid {t : Tr β (n + 1)} {i : Nat} {C : Tr β n} (h : i ≤ t.2.length) : (withT t i (i + 1) [] [C]).2[i]? = some C := by
  show (t.2.take i ++ [C] ++ t.2.drop (i + 1))[i]? = some C
  rw [List.append_assoc, List.getElem?_append_right (by simp; omega)]
  simp [Nat.min_eq_left h]
theorem with_len1 {t : Tr β (n + 1)} {i : Nat} {C : Tr β n} : (withT t i (i + 1) [] [C]).1.length = t.1.length := by
  show (t.1.take i ++ [] ++ t.1.drop i).length = _
  rw [List.append_nil, List.take_append_drop]
theorem with_len2 {t : Tr β (n + 1)} {i : Nat} {C : Tr β n} (h : i < t.2.length) : (withT t i (i + 1) [] [C]).2.length = t.2.length := by
  show (t.2.take i ++ [C] ++ t.2.drop (i + 1)).length = _
  simp; omega
end Steps
end Go.Proofs.Ytneebnankghhgab
