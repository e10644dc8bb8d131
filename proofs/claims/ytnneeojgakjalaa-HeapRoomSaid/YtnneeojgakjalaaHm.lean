/- What HeapHolds keeps, plainly: the rows that were put, each with its place: just what is got, each place once. Nothing of any program here. Conditions: each lemma names its own. -/
import Derived.Test.YtnneeojgakjalaaHk
import Derived.Test.YtnneeojgakjalaaHl
namespace Go.Proofs.Ytnneeojgakjalaa
open Go.RowKit

/-- A row that was put: its page, its slot, its bytes. -/
structure KeptR where
  x : Int
  y : Int
  d : List UInt8
def apart (u v : KeptR) : Prop := ¬ (u.x = v.x ∧ u.y = v.y)
/-- The rows are just what the heap has, each place once. -/
structure Holds (h : Hp) (R : List KeptR) : Prop where
  right : RightH h
  got : ∀ x y d, gotH h x y = some d ↔ ∃ r ∈ R, r.x = x ∧ r.y = y ∧ r.d = d
  once : R.Pairwise apart
/-- The first row of that place. -/
def atR : List KeptR → Int → Int → Option Nat
  | [], _, _ => none
  | r :: R, x, y => if r.x = x ∧ r.y = y then some 0 else (atR R x y).map (· + 1)
/-- What 'place' answers. -/
def placeR (R : List KeptR) (x y : Int) : Int := match atR R x y with | some i => i | none => -1
theorem atR_some : ∀ {R : List KeptR} {x y : Int} {i : Nat}, atR R x y = some i → ∃ h : i < R.length, R[i].x = x ∧ R[i].y = y
  | r :: R, x, y, i, h => by
    unfold atR at h
    split at h
    · rename_i hr
      obtain rfl := Option.some.inj h
      exact ⟨by simp, hr⟩
    · cases hj : atR R x y with
      | none => rw [hj] at h; cases h
      | some j =>
        rw [hj] at h
        obtain rfl : j + 1 = i := Option.some.inj h
        obtain ⟨h1, h2⟩ := atR_some hj
        exact ⟨by simpa using h1, by simpa using h2⟩
theorem atR_none : ∀ {R : List KeptR} {x y : Int}, atR R x y = none → ∀ r ∈ R, ¬ (r.x = x ∧ r.y = y)
  | [], _, _, _, r, hr => absurd hr (by simp)
  | q :: R, x, y, h, r, hr => by
    unfold atR at h
    split at h
    · cases h
    · rename_i hq
      rcases List.mem_cons.1 hr with rfl | hr
      · exact hq
      · cases hj : atR R x y with
        | none => exact atR_none hj r hr
        | some j => rw [hj] at h; cases h
theorem atR_of {R : List KeptR} {x y : Int} {r : KeptR} (hr : r ∈ R) (hx : r.x = x) (hy : r.y = y) : ∃ i, atR R x y = some i := by
  cases h : atR R x y with
  | none => exact absurd ⟨hx, hy⟩ (atR_none h r hr)
  | some i => exact ⟨i, rfl⟩
theorem place_nonneg {R : List KeptR} {x y : Int} : (0 ≤ placeR R x y) ↔ ∃ i, atR R x y = some i := by
  unfold placeR
  cases h : atR R x y with
  | none => simp
  | some i => simp
theorem holds_start : Holds [] [] := ⟨⟨by simp, fun p hp => absurd hp (by simp), rfl⟩, fun x y d => by unfold gotH; split <;> simp, List.Pairwise.nil⟩
/-- Is there such a row? Just if one is got. -/
theorem holds_at {h : Hp} {R : List KeptR} (H : Holds h R) (x y : Int) : (gotH h x y).isSome = true ↔ 0 ≤ placeR R x y := by
  rw [place_nonneg]
  constructor
  · intro hs
    obtain ⟨d, hd⟩ := Option.isSome_iff_exists.1 hs
    obtain ⟨r, hr, h1, h2, _⟩ := (H.got x y d).1 hd
    exact atR_of hr h1 h2
  · rintro ⟨i, hi⟩
    obtain ⟨hl, h1, h2⟩ := atR_some hi
    have := (H.got x y R[i].d).2 ⟨R[i], List.getElem_mem hl, h1, h2, rfl⟩
    rw [this]; rfl
theorem holds_get {h : Hp} {R : List KeptR} (H : Holds h R) {x y : Int} {i : Nat} (hi : atR R x y = some i) : ∃ hl : i < R.length, gotH h x y = some R[i].d := by
  obtain ⟨hl, h1, h2⟩ := atR_some hi
  exact ⟨hl, (H.got x y R[i].d).2 ⟨R[i], List.getElem_mem hl, h1, h2, rfl⟩⟩
theorem getHE_holds {h : Hp} {R : List KeptR} (H : Holds h R) (x y : Int) : getHE h x y = if 0 ≤ placeR R x y then 0 else 18 := by
  have hr := (rightH_iff h).2 H.right
  unfold getHE
  rw [hr, if_pos rfl]
  by_cases hs : (gotH h x y).isSome = true
  · rw [if_pos hs, if_pos ((holds_at H x y).1 hs)]
  · rw [if_neg hs, if_neg (fun e => hs ((holds_at H x y).2 e))]
theorem apart_mem {R : List KeptR} (h : R.Pairwise apart) {u v : KeptR} (hu : u ∈ R) (hv : v ∈ R) (hx : u.x = v.x) (hy : u.y = v.y) : u = v := by
  induction h with
  | nil => exact absurd hu (by simp)
  | cons h1 _ ih =>
    rcases List.mem_cons.1 hu with e | hu'
    · rcases List.mem_cons.1 hv with e2 | hv'
      · rw [e, e2]
      · exact absurd ⟨hx, hy⟩ (e ▸ h1 v hv')
    · rcases List.mem_cons.1 hv with e2 | hv'
      · exact absurd ⟨hx.symm, hy.symm⟩ (e2 ▸ h1 u hu')
      · exact ih hu' hv'
/-- A row more. -/
theorem holds_put {h g : Hp} {R : List KeptR} (H : Holds h R) {x y : Int} {d : List UInt8} (hg : RightH g) (hgot : ∀ x' y', gotH g x' y' = if x' = x ∧ y' = y then some d else gotH h x' y') (hnew : gotH h x y = none) : Holds g (R ++ [⟨x, y, d⟩]) ∧ placeR R x y = -1 := by
  have hno : ∀ r ∈ R, ¬ (r.x = x ∧ r.y = y) := fun r hr ⟨e1, e2⟩ => by
    have := (H.got x y r.d).2 ⟨r, hr, e1, e2, rfl⟩
    rw [hnew] at this; cases this
  refine ⟨⟨hg, fun x' y' d' => ?_, ?_⟩, ?_⟩
  · rw [hgot]
    constructor
    · intro e
      split at e
      · rename_i hh
        obtain rfl := Option.some.inj e
        exact ⟨⟨x, y, d⟩, by simp, hh.1.symm, hh.2.symm, rfl⟩
      · obtain ⟨r, hr, e⟩ := (H.got x' y' d').1 e
        exact ⟨r, by simp [hr], e⟩
    · rintro ⟨r, hr, h1, h2, h3⟩
      rcases List.mem_append.1 hr with hr | hr
      · rw [if_neg (fun hh => hno r hr ⟨h1.trans hh.1, h2.trans hh.2⟩)]
        exact (H.got x' y' d').2 ⟨r, hr, h1, h2, h3⟩
      · obtain rfl := List.mem_singleton.1 hr
        rw [if_pos ⟨h1.symm, h2.symm⟩, ← h3]
  · refine List.pairwise_append.2 ⟨H.once, by simp, fun u hu v hv => ?_⟩
    obtain rfl := List.mem_singleton.1 hv
    exact hno u hu
  · unfold placeR
    cases e : atR R x y with
    | none => rfl
    | some i =>
      obtain ⟨hl, h1, h2⟩ := atR_some e
      exact absurd ⟨h1, h2⟩ (hno _ (List.getElem_mem hl))
/-- A row less. -/
theorem holds_cut {h g : Hp} {R : List KeptR} (H : Holds h R) {x y : Int} {i : Nat} (hi : atR R x y = some i) (hg : RightH g) (hgot : ∀ x' y', gotH g x' y' = if x' = x ∧ y' = y then none else gotH h x' y') : Holds g (R.eraseIdx i) := by
  obtain ⟨hl, hx, hy⟩ := atR_some hi
  refine ⟨hg, fun x' y' d' => ?_, H.once.sublist (List.eraseIdx_sublist R i)⟩
  rw [hgot]
  constructor
  · intro e
    split at e
    · cases e
    · rename_i hh
      obtain ⟨r, hr, h1, h2, h3⟩ := (H.got x' y' d').1 e
      refine ⟨r, ?_, h1, h2, h3⟩
      rw [List.mem_eraseIdx_iff_getElem]
      obtain ⟨j, hj, rfl⟩ := List.mem_iff_getElem.1 hr
      exact ⟨j, hj, fun e => hh ⟨by subst e; rw [← h1, hx], by subst e; rw [← h2, hy]⟩, rfl⟩
  · rintro ⟨r, hr, h1, h2, h3⟩
    rw [List.mem_eraseIdx_iff_getElem] at hr
    obtain ⟨j, hj, hne, rfl⟩ := hr
    rw [if_neg (fun hh => ?_)]
    · exact (H.got x' y' d').2 ⟨R[j], List.getElem_mem hj, h1, h2, h3⟩
    · have hp := List.pairwise_iff_getElem.1 H.once
      rcases Nat.lt_or_gt_of_ne hne with hlt | hlt
      · exact hp j i hj hl hlt ⟨by rw [h1, hx]; exact hh.1, by rw [h2, hy]; exact hh.2⟩
      · exact hp i j hl hj hlt ⟨by rw [h1, hx]; exact hh.1.symm, by rw [h2, hy]; exact hh.2.symm⟩

/-! ### As many rows as the heap has -/
theorem len_sub {α : Type} : ∀ (A B : List α), A.Nodup → (∀ a ∈ A, a ∈ B) → A.length ≤ B.length
  | [], B, _, _ => Nat.zero_le _
  | a :: A, B, hn, hs => by
    obtain ⟨s, t, rfl⟩ := List.append_of_mem (hs a (by simp))
    rw [List.nodup_cons] at hn
    have h := len_sub A (s ++ t) hn.2 (fun b hb => by
      have h1 := hs b (by simp [hb])
      rw [List.mem_append, List.mem_cons] at h1
      rw [List.mem_append]
      rcases h1 with h1 | rfl | h1
      · exact .inl h1
      · exact absurd hb hn.1
      · exact .inr h1)
    rw [List.length_append] at h
    rw [List.length_append, List.length_cons, List.length_cons]
    omega
def keptOf (t : At) : KeptR := ⟨t.1, t.2.1, t.2.2⟩
theorem apart_nodup {R : List KeptR} (h : R.Pairwise apart) : R.Nodup := h.imp (fun hab e => hab ⟨by rw [e], by rw [e]⟩)
theorem got_nat {h : Hp} {x y : Int} {d : List UInt8} (hg : gotH h x y = some d) : 0 ≤ x ∧ 0 ≤ y := by
  unfold gotH at hg
  split at hg
  · rename_i h0
    refine ⟨h0, ?_⟩
    split at hg
    · exact (gotP_some hg).1
    · cases hg
  · cases hg
theorem holds_count {h : Hp} {R : List KeptR} (H : Holds h R) : (listH h).length = R.length := by
  unfold listH
  rw [(rightH_iff h).2 H.right, if_pos rfl]
  have hA : ((heapL 0 h).map keptOf).Pairwise apart := List.pairwise_map.2 ((heapL_sorted 0 h).imp (fun {u v} hab ⟨e1, e2⟩ => by
    have e1 : (u.1 : Int) = v.1 := e1
    have e2 : (u.2.1 : Int) = v.2.1 := e2
    rcases hab with h1 | ⟨_, h2⟩ <;> omega))
  have hmem : ∀ r, r ∈ (heapL 0 h).map keptOf ↔ r ∈ R := fun r => by
    rw [List.mem_map]
    constructor
    · rintro ⟨⟨a, b, d⟩, hm, rfl⟩
      obtain ⟨r, hr, h1, h2, h3⟩ := (H.got a b d).1 ((heapL_got h a b d).1 hm)
      have : r = keptOf (a, b, d) := by
        obtain ⟨x, y, e⟩ := r
        dsimp only at h1 h2 h3
        subst h1 h2 h3; rfl
      rw [← this]; exact hr
    · intro hr
      have hg := (H.got r.x r.y r.d).2 ⟨r, hr, rfl, rfl, rfl⟩
      obtain ⟨hx, hy⟩ := got_nat hg
      refine ⟨(r.x.toNat, r.y.toNat, r.d), (heapL_got h _ _ _).2 (by rw [Int.toNat_of_nonneg hx, Int.toNat_of_nonneg hy]; exact hg), ?_⟩
      unfold keptOf
      rw [Int.toNat_of_nonneg hx, Int.toNat_of_nonneg hy]
  have h1 := len_sub _ _ (apart_nodup hA) (fun a ha => (hmem a).1 ha)
  have h2 := len_sub _ _ (apart_nodup H.once) (fun a ha => (hmem a).2 ha)
  rw [List.length_map] at h1 h2
  omega
/-- Each row that the heap has is one of those that were put. -/
theorem holds_each {h : Hp} {R : List KeptR} (H : Holds h R) {i : Nat} (hi : i < (heapL 0 h).length) : ∃ j, atR R ((heapL 0 h)[i]).1 ((heapL 0 h)[i]).2.1 = some j ∧ ∃ hj : j < R.length, R[j].d = ((heapL 0 h)[i]).2.2 := by
  have hm : (heapL 0 h)[i] ∈ heapL 0 h := List.getElem_mem hi
  generalize (heapL 0 h)[i] = t at hm ⊢
  obtain ⟨a, b, d⟩ := t
  have hg := (heapL_got h a b d).1 hm
  obtain ⟨r, hr, h1, h2, h3⟩ := (H.got a b d).1 hg
  obtain ⟨j, hj⟩ := atR_of hr h1 h2
  obtain ⟨hl, hg2⟩ := holds_get H hj
  rw [hg] at hg2
  exact ⟨j, hj, hl, (Option.some.inj hg2).symm⟩
theorem sorted_at {h : Hp} {i : Nat} (hi : i + 1 < (heapL 0 h).length) : ltA ((heapL 0 h)[i]) ((heapL 0 h)[i + 1]) :=
  List.pairwise_iff_getElem.1 (heapL_sorted 0 h) i (i + 1) (by omega) hi (by omega)
end Go.Proofs.Ytnneeojgakjalaa
