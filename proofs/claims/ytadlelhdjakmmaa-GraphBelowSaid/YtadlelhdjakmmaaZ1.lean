/- What reads what (layer 17), plainly: what stands below a name: the sweep over the order from behind, and what follows of it. -/
import Derived.Test.YtadlelhdjakmmaaZ0
namespace Go.Proofs.Ytadlelhdjakmmaa

def refsG (l : List Gn) (s : ByteArray) : List ByteArray := match l.find? (fun x => decide (x.1 = s)) with
  | some x => x.2
  | none => []
def sweepG (l : List Gn) : List ByteArray → List ByteArray → List ByteArray
  | [], nd => nd
  | s :: t, nd => sweepG l t (if s ∈ nd then nd ++ refsG l s else nd)
def needG (l : List Gn) (all : List ByteArray) (name : ByteArray) : List ByteArray := sweepG l all.reverse [name]
def belowG (l : List Gn) (all : List ByteArray) (name : ByteArray) : List ByteArray := all.filter fun s => decide (s ≠ name ∧ s ∈ needG l all name)
/-- All that a name reads stands behind it in the list. -/
def Down (l : List Gn) : List ByteArray → Prop
  | [] => True
  | y :: t => (∀ r ∈ refsG l y, r ∈ t) ∧ Down l t
theorem refsG_of {l : List Gn} (hn : (l.map (·.1)).Nodup) {x : Gn} (hx : x ∈ l) : refsG l x.1 = x.2 := by
  unfold refsG
  cases hf : l.find? (fun y => decide (y.1 = x.1)) with
  | none =>
    have := List.find?_eq_none.1 hf x hx
    simp at this
  | some y =>
    have h1 : y.1 = x.1 := by simpa using List.find?_some hf
    have h2 := List.mem_of_find?_eq_some hf
    obtain ⟨i, hi, rfl⟩ := List.mem_iff_getElem.1 h2
    obtain ⟨j, hj, rfl⟩ := List.mem_iff_getElem.1 hx
    have : i = j := pairwise_inj hn (by simpa using hi) (by simpa using hj) (by simpa only [List.getElem_map] using h1)
    subst this
    rfl
theorem refsG_node {l : List Gn} {s r : ByteArray} (h : r ∈ refsG l s) : ∃ x ∈ l, x.1 = s ∧ r ∈ x.2 := by
  unfold refsG at h
  cases hf : l.find? (fun y => decide (y.1 = s)) with
  | none => rw [hf] at h; exact absurd h (by simp)
  | some y =>
    rw [hf] at h
    exact ⟨y, List.mem_of_find?_eq_some hf, by simpa using List.find?_some hf, h⟩
theorem sweep_mono {l : List Gn} : ∀ (t nd : List ByteArray) {s : ByteArray}, s ∈ nd → s ∈ sweepG l t nd
  | [], _, _, h => h
  | y :: t, nd, s, h => by
    unfold sweepG
    refine sweep_mono t _ ?_
    split
    · exact List.mem_append_left _ h
    · exact h
theorem sweep_src {l : List Gn} : ∀ (t nd : List ByteArray) {s : ByteArray}, s ∈ sweepG l t nd → s ∈ nd ∨ ∃ y ∈ t, y ∈ sweepG l t nd ∧ s ∈ refsG l y
  | [], _, _, h => .inl h
  | y :: t, nd, s, h => by
    unfold sweepG at h ⊢
    rcases sweep_src t _ h with h1 | ⟨z, hz, h1, h2⟩
    · split at h1
      · rename_i hy
        rcases List.mem_append.1 h1 with h1 | h1
        · exact .inl h1
        · exact .inr ⟨y, by simp, sweep_mono t _ (by rw [if_pos hy]; exact List.mem_append_left _ hy), h1⟩
      · exact .inl h1
    · exact .inr ⟨z, List.mem_cons_of_mem _ hz, h1, h2⟩
theorem sweep_least {l : List Gn} {P : ByteArray → Prop} : ∀ (t nd : List ByteArray), (∀ s ∈ nd, P s) → (∀ y ∈ t, P y → ∀ r ∈ refsG l y, P r) → ∀ s ∈ sweepG l t nd, P s
  | [], _, h, _, s, hs => h s hs
  | y :: t, nd, h, hc, s, hs => by
    unfold sweepG at hs
    refine sweep_least t _ (fun z hz => ?_) (fun z hz => hc z (List.mem_cons_of_mem _ hz)) s hs
    split at hz
    · rename_i hy
      rcases List.mem_append.1 hz with hz | hz
      · exact h z hz
      · exact hc y (by simp) (h y hy) z hz
    · exact h z hz
theorem Down.read {l : List Gn} : ∀ {t : List ByteArray}, Down l t → ∀ y ∈ t, ∀ r ∈ refsG l y, r ∈ t
  | _ :: t, h, y, hy, r, hr => by
    rcases List.mem_cons.1 hy with rfl | hy
    · exact List.mem_cons_of_mem _ (h.1 r hr)
    · exact List.mem_cons_of_mem _ (Down.read h.2 y hy r hr)
theorem sweep_closed {l : List Gn} : ∀ (t nd : List ByteArray), Down l t → t.Nodup → ∀ y ∈ t, y ∈ sweepG l t nd → ∀ r ∈ refsG l y, r ∈ sweepG l t nd
  | y0 :: t, nd, hd, hn, y, hy, hs, r, hr => by
    unfold sweepG at hs ⊢
    obtain ⟨h0, ht⟩ := List.nodup_cons.1 hn
    rcases List.mem_cons.1 hy with rfl | hy
    · have hin : y ∈ nd := by
        rcases sweep_src t _ hs with h1 | ⟨z, hz, _, h2⟩
        · split at h1
          · assumption
          · exact h1
        · exact absurd (Down.read hd.2 z hz y h2) h0
      exact sweep_mono t _ (by rw [if_pos hin]; exact List.mem_append_right _ hr)
    · exact sweep_closed t _ hd.2 ht y hy hs r hr
theorem GoodG.refs {l : List Gn} {out : List ByteArray} (h : GoodG l out) (hn : (l.map (·.1)).Nodup) {i : Nat} (hi : i < out.length) : ∀ r ∈ refsG l out[i], r ∈ out.take i := by
  obtain ⟨x, hx, e, hr⟩ := h.behind i hi
  rw [← e, refsG_of hn hx]
  exact hr
theorem GoodG.down {l : List Gn} {out : List ByteArray} (h : GoodG l out) (hn : (l.map (·.1)).Nodup) : Down l out.reverse := by
  have key : ∀ i, i ≤ out.length → Down l (out.take i).reverse := by
    intro i
    induction i with
    | zero => intro _; simp [Down]
    | succ i ih =>
      intro hi
      rw [List.take_succ_eq_append_getElem (by omega), List.reverse_append]
      exact ⟨fun r hr => by simpa using h.refs hn (i := i) (by omega) r hr, ih (by omega)⟩
  have := key out.length (Nat.le_refl _)
  rwa [List.take_length] at this
/-- What a name needs: it, or names ahead of it. -/
theorem need_ahead {l : List Gn} {out : List ByteArray} (h : GoodG l out) (hn : (l.map (·.1)).Nodup) {p : Nat} (hp : p < out.length) : ∀ s ∈ needG l out out[p], s = out[p] ∨ s ∈ out.take p := by
  refine sweep_least _ _ (fun s hs => .inl (List.mem_singleton.1 hs)) (fun y hy hP r hr => .inr ?_)
  rcases hP with rfl | hP
  · exact h.refs hn hp r hr
  · obtain ⟨i, hi, rfl⟩ := List.mem_iff_getElem.1 hP
    rw [List.length_take] at hi
    rw [List.getElem_take] at hr
    have := h.refs hn (i := i) (by omega) r hr
    obtain ⟨k, hk, rfl⟩ := List.mem_iff_getElem.1 this
    rw [List.length_take] at hk
    rw [List.getElem_take]
    exact List.mem_iff_getElem.2 ⟨k, by rw [List.length_take]; omega, by rw [List.getElem_take]⟩
theorem nodup_rev {A : Type} {a : List A} (h : a.Nodup) : a.reverse.Nodup := List.pairwise_reverse.2 (h.imp fun hne e => hne e.symm)
theorem need_closed {l : List Gn} {out : List ByteArray} (h : GoodG l out) (hn : (l.map (·.1)).Nodup) {s y : ByteArray} (hy : y ∈ out) (hs : y ∈ needG l out s) : ∀ r ∈ refsG l y, r ∈ needG l out s :=
  sweep_closed _ _ (h.down hn) (nodup_rev h.once) y (List.mem_reverse.2 hy) hs
theorem need_self {l : List Gn} {out : List ByteArray} {s : ByteArray} : s ∈ needG l out s := sweep_mono _ _ (by simp)
theorem take_not {out : List ByteArray} (h : out.Nodup) {p : Nat} (hp : p < out.length) : out[p] ∉ out.take p := fun hc => by
  obtain ⟨i, hi, e⟩ := List.mem_iff_getElem.1 hc
  rw [List.length_take] at hi
  rw [List.getElem_take] at e
  have := pairwise_inj h (by omega) hp e
  omega
theorem below_mem {l : List Gn} {out : List ByteArray} {name s : ByteArray} : s ∈ belowG l out name ↔ s ∈ out ∧ s ≠ name ∧ s ∈ needG l out name := by
  unfold belowG
  rw [List.mem_filter]
  simp
theorem below_ahead {l : List Gn} {out : List ByteArray} (h : GoodG l out) (hn : (l.map (·.1)).Nodup) {p : Nat} (hp : p < out.length) : ∀ s ∈ belowG l out out[p], s ∈ out.take p := fun s hs => by
  obtain ⟨_, h1, h2⟩ := below_mem.1 hs
  exact (need_ahead h hn hp s h2).resolve_left h1
/-- All that the name, or one below it, reads stands below it. -/
theorem below_closed {l : List Gn} {out : List ByteArray} (h : GoodG l out) (hn : (l.map (·.1)).Nodup) {p : Nat} (hp : p < out.length) {x : Gn} (hx : x ∈ l) (hb : x.1 = out[p] ∨ x.1 ∈ belowG l out out[p]) : ∀ r ∈ x.2, r ∈ belowG l out out[p] := fun r hr => by
  have hin : x.1 ∈ out ∧ x.1 ∈ needG l out out[p] ∧ (x.1 = out[p] ∨ x.1 ∈ out.take p) := by
    rcases hb with e | hb
    · rw [e]; exact ⟨List.getElem_mem hp, need_self, .inl rfl⟩
    · obtain ⟨h1, h2, h3⟩ := below_mem.1 hb
      exact ⟨h1, h3, need_ahead h hn hp _ h3⟩
  rw [← refsG_of hn hx] at hr
  have h3 := need_closed h hn hin.1 hin.2.1 r hr
  have h4 : r ∈ out.take p := by
    rcases hin.2.2 with e | ht
    · rw [e] at hr; exact h.refs hn hp r hr
    · obtain ⟨i, hi, e⟩ := List.mem_iff_getElem.1 ht
      rw [List.length_take] at hi
      rw [List.getElem_take] at e
      rw [← e] at hr
      have := h.refs hn (i := i) (by omega) r hr
      obtain ⟨k, hk, rfl⟩ := List.mem_iff_getElem.1 this
      rw [List.length_take] at hk
      rw [List.getElem_take]
      exact List.mem_iff_getElem.2 ⟨k, by rw [List.length_take]; omega, by rw [List.getElem_take]⟩
  exact below_mem.2 ⟨List.mem_of_mem_take h4, fun e => take_not h.once hp (e ▸ h4), h3⟩
/-- What stands below a name is read by it, or by one that stands below it. -/
theorem below_read {l : List Gn} {out : List ByteArray} {name s : ByteArray} (hs : s ∈ belowG l out name) : ∃ x ∈ l, (x.1 = name ∨ x.1 ∈ belowG l out name) ∧ s ∈ x.2 := by
  obtain ⟨_, h1, h2⟩ := below_mem.1 hs
  rcases sweep_src _ _ h2 with h3 | ⟨y, hy, h3, h4⟩
  · exact absurd (List.mem_singleton.1 h3) h1
  · obtain ⟨x, hx, e, hr⟩ := refsG_node h4
    subst e
    refine ⟨x, hx, ?_, hr⟩
    by_cases e : x.1 = name
    · exact .inl e
    · exact .inr (below_mem.2 ⟨List.mem_reverse.1 hy, e, h3⟩)
theorem need_nested {l : List Gn} {out : List ByteArray} (h : GoodG l out) (hn : (l.map (·.1)).Nodup) {name s : ByteArray} (hs : s ∈ needG l out name) : ∀ r ∈ needG l out s, r ∈ needG l out name :=
  sweep_least _ _ (fun r hr => by rw [List.mem_singleton.1 hr]; exact hs) (fun _ hy hP => need_closed h hn (List.mem_reverse.1 hy) hP)
/-- Below one below a name. -/
theorem below_nested {l : List Gn} {out : List ByteArray} (h : GoodG l out) (hn : (l.map (·.1)).Nodup) {p q : Nat} (hp : p < out.length) (hq : q < out.length) (hs : out[q] ∈ belowG l out out[p]) :
    out[q] ∉ belowG l out out[q] ∧ out[p] ∉ belowG l out out[q] ∧ ∀ r ∈ belowG l out out[q], r ∈ belowG l out out[p] ∧ r ∈ out.take q := by
  have hlt : q < p := by
    obtain ⟨i, hi, e⟩ := List.mem_iff_getElem.1 (below_ahead h hn hp _ hs)
    rw [List.length_take] at hi
    rw [List.getElem_take] at e
    have := pairwise_inj h.once (by omega) hq e
    omega
  have hno : out[p] ∉ out.take q := fun hc => by
    obtain ⟨i, hi, e⟩ := List.mem_iff_getElem.1 hc
    rw [List.length_take] at hi
    rw [List.getElem_take] at e
    have := pairwise_inj h.once (by omega) hp e
    omega
  refine ⟨fun hc => (below_mem.1 hc).2.1 rfl, fun hc => hno (below_ahead h hn hq _ hc), fun r hr => ?_⟩
  have ha := below_ahead h hn hq r hr
  exact ⟨below_mem.2 ⟨(below_mem.1 hr).1, fun e => hno (e ▸ ha), need_nested h hn (below_mem.1 hs).2.2 r (below_mem.1 hr).2.2⟩, ha⟩
/-- The order of what stands below is the order of all. -/
theorem filter_place {out : List ByteArray} (h : out.Nodup) (f : ByteArray → Bool) {q : Nat} (hq : q < out.length) {i j : Nat} (hi : i < (out.filter f).length) (hj : j < (out.filter f).length) (ei : (out.filter f)[i] = out[q]) (hr : (out.filter f)[j] ∈ out.take q) : j < i := by
  have hsplit : out = out.take q ++ out[q] :: out.drop (q + 1) := by
    rw [← List.drop_eq_getElem_cons hq, List.take_append_drop]
  have hfq : f out[q] = true := by
    have := List.getElem_mem hi
    rw [ei] at this
    exact (List.mem_filter.1 this).2
  have hF : out.filter f = (out.take q).filter f ++ out[q] :: (out.drop (q + 1)).filter f := by
    conv => lhs; rw [hsplit]
    rw [List.filter_append, List.filter_cons_of_pos hfq]
  have hnf : (out.filter f).Nodup := h.sublist List.filter_sublist
  have hlen : ((out.take q).filter f).length < (out.filter f).length := by rw [hF]; simp
  have e1 : (out.filter f)[((out.take q).filter f).length] = out[q] := by simp [hF]
  have hiq : i = ((out.take q).filter f).length := pairwise_inj hnf hi hlen (by rw [ei, e1])
  have hjm : (out.filter f)[j] ∈ (out.take q).filter f := List.mem_filter.2 ⟨hr, (List.mem_filter.1 (List.getElem_mem hj)).2⟩
  obtain ⟨k, hk, ek⟩ := List.mem_iff_getElem.1 hjm
  have : j = k := pairwise_inj hnf hj (by omega) (by rw [← ek]; simp [hF, List.getElem_append_left hk])
  omega
end Go.Proofs.Ytadlelhdjakmmaa
