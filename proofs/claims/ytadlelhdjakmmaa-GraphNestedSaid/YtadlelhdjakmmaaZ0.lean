/- What reads what (layer 17), plainly: the names that may come next, the order made of them, when it holds all names, and when it holds none. -/
import Derived.Test.YtadlelhdjakmmaaMo
namespace Go.Proofs.Ytadlelhdjakmmaa

/-- A name and what it reads. -/
abbrev Gn := ByteArray × List ByteArray
def gb (s : ByteArray) : List UInt8 := s.data.toList

/-- May it come next? -/
def okG (out : List ByteArray) (x : Gn) : Prop := x.1 ∉ out ∧ ∀ r ∈ x.2, r ∈ out
theorem gb_inj {x y : ByteArray} (h : gb x = gb y) : x = y := by
  cases x; cases y
  unfold gb at h
  simp only [Array.toList_inj] at h
  rw [h]
instance decN : DecidableEq ByteArray := fun x y => if h : gb x = gb y then isTrue (gb_inj h) else isFalse fun e => h (by rw [e])
instance decIn (s : ByteArray) (l : List ByteArray) : Decidable (s ∈ l) := @List.instDecidableMemOfLawfulBEq _ instBEqOfDecidableEq _ s l
instance decOk (out : List ByteArray) (x : Gn) : Decidable (okG out x) := by unfold okG; infer_instance
def lessG (x : Gn) : Option Gn → Bool
  | none => true
  | some y => decide (gb x.1 < gb y.1)
def stepG (out : List ByteArray) (a : Option Gn) (x : Gn) : Option Gn := if okG out x ∧ lessG x a = true then some x else a
/-- The least name of those that may come next. -/
def bestG (out : List ByteArray) (l : List Gn) : Option Gn := l.foldl (stepG out) none
def orderG (l : List Gn) : Nat → List ByteArray → List ByteArray
  | 0, out => out
  | k + 1, out => match bestG out l with
    | none => out
    | some x => orderG l k (out ++ [x.1])
theorem bestG_take (out : List ByteArray) (l : List Gn) (i : Nat) (h : i < l.length) : bestG out (l.take (i + 1)) = stepG out (bestG out (l.take i)) l[i] := by
  unfold bestG
  rw [List.take_succ_eq_append_getElem h, List.foldl_append]
  rfl
theorem foldG (out : List ByteArray) : ∀ (l : List Gn) (a : Option Gn), (∀ x, l.foldl (stepG out) a = some x → a = some x ∨ (x ∈ l ∧ okG out x)) ∧ (l.foldl (stepG out) a = none → a = none ∧ ∀ x ∈ l, ¬ okG out x)
  | [], a => ⟨fun x h => .inl h, fun h => ⟨h, fun x hx => absurd hx (by simp)⟩⟩
  | y :: t, a => by
    obtain ⟨h1, h2⟩ := foldG out t (stepG out a y)
    refine ⟨fun x h => ?_, fun h => ?_⟩
    · rcases h1 x h with e | ⟨hx, ho⟩
      · unfold stepG at e
        split at e
        · rename_i hc
          obtain rfl := Option.some.inj e
          exact .inr ⟨by simp, hc.1⟩
        · exact .inl e
      · exact .inr ⟨List.mem_cons_of_mem _ hx, ho⟩
    · obtain ⟨e, hn⟩ := h2 h
      unfold stepG at e
      split at e
      · exact absurd e (by simp)
      · rename_i hc
        subst e
        refine ⟨rfl, fun x hx => ?_⟩
        rcases List.mem_cons.1 hx with rfl | hx
        · exact fun ho => hc ⟨ho, rfl⟩
        · exact hn x hx
theorem bestG_some {out : List ByteArray} {l : List Gn} {x : Gn} (h : bestG out l = some x) : x ∈ l ∧ okG out x := by
  rcases (foldG out l none).1 x h with e | h
  · exact absurd e (by simp)
  · exact h
theorem bestG_none {out : List ByteArray} {l : List Gn} (h : bestG out l = none) : ∀ x ∈ l, ¬ okG out x := ((foldG out l none).2 h).2
/-- Names once, each behind all that it reads. -/
structure GoodG (l : List Gn) (out : List ByteArray) : Prop where
  once : out.Nodup
  behind : ∀ i (h : i < out.length), ∃ x ∈ l, x.1 = out[i] ∧ ∀ r ∈ x.2, r ∈ out.take i
theorem GoodG.nil (l : List Gn) : GoodG l [] := ⟨List.nodup_nil, fun i h => absurd h (by simp)⟩
theorem GoodG.snoc {l : List Gn} {out : List ByteArray} {x : Gn} (h : GoodG l out) (hx : x ∈ l) (ho : okG out x) : GoodG l (out ++ [x.1]) := by
  refine ⟨List.nodup_append.2 ⟨h.once, by simp, fun a ha b hb => ?_⟩, fun i hi => ?_⟩
  · rw [List.mem_singleton.1 hb]
    exact fun e => ho.1 (e ▸ ha)
  · rw [List.length_append, List.length_singleton] at hi
    by_cases hlt : i < out.length
    · obtain ⟨y, hy, e, hr⟩ := h.behind i hlt
      exact ⟨y, hy, by rw [List.getElem_append_left hlt]; exact e, fun r hrr => by rw [List.take_append_of_le_length (by omega)]; exact hr r hrr⟩
    · obtain rfl : i = out.length := by omega
      exact ⟨x, hx, by simp, fun r hr => by rw [List.take_left']; exact ho.2 r hr; rfl⟩
theorem orderG_good {l : List Gn} : ∀ (k : Nat) {out : List ByteArray}, GoodG l out → GoodG l (orderG l k out)
  | 0, _, h => h
  | k + 1, out, h => by
    unfold orderG
    cases hb : bestG out l with
    | none => exact h
    | some x => exact orderG_good k (h.snoc (bestG_some hb).1 (bestG_some hb).2)
theorem orderG_end {l : List Gn} : ∀ (k : Nat) (out : List ByteArray), (orderG l k out).length = out.length + k ∨ ∀ x ∈ l, ¬ okG (orderG l k out) x
  | 0, _ => .inl rfl
  | k + 1, out => by
    unfold orderG
    cases hb : bestG out l with
    | none => exact .inr (bestG_none hb)
    | some x =>
      rcases orderG_end k (out ++ [x.1]) with e | h
      · exact .inl (by rw [e]; simp; omega)
      · exact .inr h
theorem orderG_len {l : List Gn} : ∀ (k : Nat) (out : List ByteArray), (orderG l k out).length ≤ out.length + k
  | 0, _ => Nat.le_refl _
  | k + 1, out => by
    unfold orderG
    cases hb : bestG out l with
    | none => exact Nat.le_add_right _ _
    | some x => exact Nat.le_trans (orderG_len k _) (by simp; omega)
theorem nodup_few {A : Type} [DecidableEq A] : ∀ (a b : List A), a.Nodup → (∀ x ∈ a, x ∈ b) → a.length ≤ b.length
  | [], _, _, _ => Nat.zero_le _
  | y :: t, b, hn, hs => by
    have hy := hs y (by simp)
    obtain ⟨hyt, ht⟩ := List.nodup_cons.1 hn
    have := nodup_few t (b.erase y) ht (fun x hx => (List.mem_erase_of_ne (fun e => hyt (by rwa [e] at hx))).2 (hs x (List.mem_cons_of_mem _ hx)))
    rw [List.length_erase_of_mem hy] at this
    have hb := List.length_pos_of_mem hy
    rw [List.length_cons]
    omega
theorem nodup_full {A : Type} [DecidableEq A] : ∀ (a b : List A), a.Nodup → (∀ x ∈ a, x ∈ b) → b.length ≤ a.length → ∀ x ∈ b, x ∈ a
  | [], b, _, _, hl, x, hx => by
    have := List.length_pos_of_mem hx
    rw [List.length_nil] at hl
    omega
  | y :: t, b, hn, hs, hl, x, hx => by
    have hy := hs y (by simp)
    obtain ⟨hyt, ht⟩ := List.nodup_cons.1 hn
    by_cases e : x = y
    · rw [e]; simp
    · refine List.mem_cons_of_mem _ (nodup_full t (b.erase y) ht (fun z hz => (List.mem_erase_of_ne (fun e => hyt (by rwa [e] at hz))).2 (hs z (List.mem_cons_of_mem _ hz))) ?_ x ((List.mem_erase_of_ne e).2 hx))
      rw [List.length_erase_of_mem hy]
      rw [List.length_cons] at hl
      omega
theorem GoodG.names {l : List Gn} {out : List ByteArray} (h : GoodG l out) : ∀ s ∈ out, s ∈ l.map (·.1) := fun s hs => by
  obtain ⟨i, hi, rfl⟩ := List.mem_iff_getElem.1 hs
  obtain ⟨x, hx, e, _⟩ := h.behind i hi
  rw [← e]
  exact List.mem_map_of_mem hx
theorem GoodG.full {l : List Gn} {out : List ByteArray} (h : GoodG l out) (hl : l.length ≤ out.length) : ∀ x ∈ l, x.1 ∈ out := fun x hx =>
  nodup_full out (l.map (·.1)) h.once h.names (by rw [List.length_map]; exact hl) _ (List.mem_map_of_mem hx)
theorem pairwise_inj {A : Type} {a : List A} (h : a.Nodup) {i j : Nat} (hi : i < a.length) (hj : j < a.length) (e : a[i] = a[j]) : i = j := by
  rcases Nat.lt_trichotomy i j with hlt | rfl | hlt
  · exact absurd e (List.pairwise_iff_getElem.1 h i j hi hj hlt)
  · rfl
  · exact absurd e.symm (List.pairwise_iff_getElem.1 h j i hj hi hlt)
/-- One name's place: all that it reads stands ahead of it. -/
theorem GoodG.ahead {l : List Gn} {out : List ByteArray} (h : GoodG l out) (hn : (l.map (·.1)).Nodup) {x : Gn} (hx : x ∈ l) {i : Nat} (hi : i < out.length) (e : x.1 = out[i]) : ∀ r ∈ x.2, r ∈ out.take i := by
  obtain ⟨y, hy, ey, hr⟩ := h.behind i hi
  obtain ⟨j, hj, rfl⟩ := List.mem_iff_getElem.1 hx
  obtain ⟨k, hk, rfl⟩ := List.mem_iff_getElem.1 hy
  have : j = k := pairwise_inj hn (by simpa using hj) (by simpa using hk) (by simp only [List.getElem_map]; rw [e, ey])
  subst this
  exact hr
/-- Names that stand in a row so that each reads only earlier ones. -/
theorem topo_full {l : List Gn} (hn : (l.map (·.1)).Nodup) (h : ∀ i (hi : i < l.length), ∀ r ∈ l[i].2, r ∈ (l.take i).map (·.1)) : (orderG l l.length []).length = l.length := by
  rcases orderG_end (l := l) l.length [] with e | hs
  · rw [e]; simp
  · have hall : ∀ n, ∀ i (hi : i < l.length), i < n → l[i].1 ∈ orderG l l.length [] := by
      intro n
      induction n with
      | zero => exact fun i _ h => absurd h (by omega)
      | succ n ih =>
        intro i hi hlt
        refine Decidable.byContradiction fun hc => hs _ (List.getElem_mem hi) ⟨hc, fun r hr => ?_⟩
        obtain ⟨y, hy, rfl⟩ := List.mem_map.1 (h i hi r hr)
        obtain ⟨j, hj, rfl⟩ := List.mem_iff_getElem.1 hy
        rw [List.length_take] at hj
        rw [List.getElem_take]
        exact ih j (by omega) (by omega)
    have h1 := nodup_few (l.map (·.1)) (orderG l l.length []) hn (fun s hs => by
      obtain ⟨y, hy, rfl⟩ := List.mem_map.1 hs
      obtain ⟨j, hj, rfl⟩ := List.mem_iff_getElem.1 hy
      exact hall (j + 1) j hj (by omega))
    have h2 := orderG_len (l := l) l.length []
    rw [List.length_map] at h1
    simp only [List.length_nil, Nat.zero_add] at h2
    omega
/-- Where each reads something, none may come first. -/
theorem round_none {l : List Gn} (h : ∀ x ∈ l, x.2 ≠ []) : ∀ k, orderG l k [] = []
  | 0 => rfl
  | k + 1 => by
    unfold orderG
    cases hb : bestG [] l with
    | none => rfl
    | some x =>
      obtain ⟨hx, ho⟩ := bestG_some hb
      obtain ⟨r, hr⟩ := List.exists_mem_of_ne_nil _ (h x hx)
      exact absurd (ho.2 r hr) (by simp)
end Go.Proofs.Ytadlelhdjakmmaa
