/- Several of my texts laid together, each as it was: U1. Conditions: each names its own. -/
import Derived.Test.YtfdkajefcplfjaaGreatL1
/- What a plan tells, plainly: of parts together what each of them tells, together; with distinct each row once. Nothing of any program here. Conditions: each lemma names its own. -/
namespace Go.Proofs.YtfdkajefcplfjaaGreat
open Go.RowKit

theorem graver_zero {a b : Int} (h : graverM a b = 0) : a = 0 ∧ b = 0 := by
  unfold graverM at h
  split at h
  · rename_i h1; omega
  · rename_i h1; exact absurd (Or.inl h) h1
theorem foldG_zero' : ∀ (L : List Int) (n : Int), L.foldl graverM n = 0 → n = 0 ∧ ∀ x ∈ L, x = 0
  | [], n, h => ⟨h, fun x hx => by simp at hx⟩
  | y :: L, n, h => by
    obtain ⟨h1, h2⟩ := foldG_zero' L _ h
    obtain ⟨h3, h4⟩ := graver_zero h1
    refine ⟨h3, fun x hx => ?_⟩
    rcases List.mem_cons.1 hx with rfl | hx
    · exact h4
    · exact h2 x hx
theorem foldG_zero {L : List Int} (h : foldG L = 0) : ∀ x ∈ L, x = 0 := (foldG_zero' L 0 h).2
theorem foldG_all {L : List Int} (h : ∀ x ∈ L, x = 0) : foldG L = 0 := by
  have : ∀ (L : List Int), (∀ x ∈ L, x = 0) → L.foldl graverM 0 = 0 := by
    intro L
    induction L with
    | nil => intro _; rfl
    | cons x L ih =>
      intro h
      rw [List.foldl_cons, h x (by simp), show graverM 0 0 = 0 from rfl]
      exact ih (fun y hy => h y (List.mem_cons_of_mem _ hy))
  exact this L h
/-- Where a plan's rows are told: it is ready, cheap, and nothing is refused. -/
theorem rowsM_ok {l : List Nx} {ps : List Px} (h : (rowsM l ps).2 = 0) : readyE l ps = 0 ∧ costP l ps ≤ 2000 ∧ allE l ps = 0 ∧ (rowsM l ps).1 = ofB (allL l ps) := by
  unfold rowsM at h ⊢
  by_cases h1 : readyE l ps ≠ 0
  · rw [if_pos h1] at h; exact absurd h h1
  rw [if_neg h1] at h ⊢
  by_cases h2 : 2000 < costP l ps
  · rw [if_pos h2] at h; exact absurd h (by decide)
  rw [if_neg h2] at h ⊢
  by_cases h3 : allE l ps ≠ 0
  · rw [if_pos h3] at h; exact absurd h h3
  rw [if_neg h3]
  exact ⟨by omega, by omega, by omega, rfl⟩
theorem rowsM_is {l : List Nx} {ps : List Px} (h1 : readyE l ps = 0) (h2 : costP l ps ≤ 2000) (h3 : allE l ps = 0) : rowsM l ps = (ofB (allL l ps), 0) := by
  unfold rowsM; rw [if_neg (by omega), if_neg (by omega), if_neg (by omega)]
theorem rowsM_none {l : List Nx} {ps : List Px} (h : (rowsM l ps).2 ≠ 0) : (rowsM l ps).1 = [] := by
  unfold rowsM at h ⊢
  by_cases h1 : readyE l ps ≠ 0
  · rw [if_pos h1]
  rw [if_neg h1] at h ⊢
  by_cases h2 : 2000 < costP l ps
  · rw [if_pos h2]
  rw [if_neg h2] at h ⊢
  by_cases h3 : allE l ps ≠ 0
  · rw [if_pos h3]
  · rw [if_neg h3] at h; exact absurd rfl h
theorem ready_one {l : List Nx} {ps : List Px} (h : readyE l ps = 0) {p : Px} (hp : p ∈ ps) : readyE l [p] = 0 := by
  unfold readyE at h ⊢
  by_cases hb : planB ps = true
  · rw [if_pos hb] at h
    have hf := readyLE_all h p hp
    unfold planB at hb
    simp only [Bool.and_eq_true] at hb
    have h1 := List.all_eq_true.1 hb.2 p hp
    simp only [Bool.and_eq_true] at h1
    rw [if_pos (by unfold planB; simp [h1.1, inN])]
    unfold readyLE
    rw [if_pos hf]; rfl
  · rw [if_neg hb] at h; exact absurd h (by decide)
theorem cost_one {l : List Nx} {ps : List Px} (h : costP l ps ≤ 2000) {p : Px} (hp : p ∈ ps) : costP l [p] ≤ 2000 := by
  have hcs := (cost_fold (l := l) ps 0 (by unfold maxMany; omega)).2
  have hcost : costF l p.fs ≤ costP l ps := hcs (by show costP l ps < _; unfold maxMany; omega) p hp
  show addMany 0 (costF l p.fs) ≤ 2000
  unfold addMany; omega
theorem allL_one (l : List Nx) (p : Px) : allL l [p] = toldM p (keptB l p) := by simp [allL]
theorem allE_one (l : List Nx) (p : Px) : allE l [p] = toldE p (groupsM p (keptB l p)) := by
  show graverM 0 (toldE p (groupsM p (keptB l p))) = _
  unfold graverM; rw [if_pos (Or.inl rfl)]
/-- Each part alone is told, too. -/
theorem union_one {l : List Nx} {ps : List Px} (h : (rowsM l ps).2 = 0) {p : Px} (hp : p ∈ ps) : rowsM l [p] = (ofB (toldM p (keptB l p)), 0) := by
  obtain ⟨h1, h2, h3, _⟩ := rowsM_ok h
  have h4 : toldE p (groupsM p (keptB l p)) = 0 := foldG_zero h3 _ (List.mem_map_of_mem (f := fun p => toldE p (groupsM p (keptB l p))) hp)
  rw [rowsM_is (ready_one h1 hp) (cost_one h2 hp) (by rw [allE_one]; exact h4), allL_one]
theorem ofB_ofB (L : List Pair) : ofB (ofB L) = ofB L := (ofB_is (rises_ofB L) (fun _ => rfl)).symm
theorem ofB_both (A B : List Pair) : ofB (ofB A ++ ofB B) = ofB (A ++ B) := by rw [← joinB_ofB, ofB_ofB, ofB_ofB, joinB_ofB]
/-- How many rows all parts tell. -/
theorem allL_small4 {l : List Nx} {ps : List Px} (h : (rowsM l ps).2 = 0) (hv : ∀ x ∈ l, ∀ e ∈ x.E, ∀ v ∈ e.r, inI v) : ps.length ≤ 4 ∧ ∀ k, absS (allL l (ps.take k)) ≤ 4001 * k ∧ (allL l (ps.take k)).length ≤ 2001 * k := by
  obtain ⟨h1, h2, _, _⟩ := rowsM_ok h
  refine ⟨plan_few h1, fun k => ?_⟩
  induction k with
  | zero => simp [allL, absS]
  | succ k ih =>
    by_cases hk : k < ps.length
    · rw [List.take_succ_eq_append_getElem hk, allL_snoc, absS_append, List.length_append]
      have hC := (ready_parts h1 h2 ps[k] (List.getElem_mem hk)).cheap
      have h5 := kept_small hC hv
      have h6 := toldM_small ps[k] (keptB l ps[k])
      omega
    · rw [List.take_of_length_le (by omega)]
      rw [List.take_of_length_le (by omega)] at ih
      omega
/-! ### Distinct -/
theorem px_kept (l : List Nx) (p : Px) (b : Bool) : keptB l { p with d := b } = keptB l p := rfl
theorem px_groups (p : Px) (b : Bool) (K : List Pair) : groupsM { p with d := b } K = groupsM p K := rfl
theorem px_toldL (p : Px) (b : Bool) (G : List Grp) : toldL { p with d := b } G = toldL p G := rfl
theorem px_err (l : List Nx) (p : Px) (b b' : Bool) : (rowsM l [{ p with d := b }]).2 = (rowsM l [{ p with d := b' }]).2 := by
  have e1 : readyE l [{ p with d := b }] = readyE l [{ p with d := b' }] := rfl
  have e2 : costP l [{ p with d := b }] = costP l [{ p with d := b' }] := rfl
  have e3 : allE l [{ p with d := b }] = allE l [{ p with d := b' }] := rfl
  unfold rowsM
  rw [e1, e2, e3]
  split
  · rfl
  · split
    · rfl
    · split <;> rfl
theorem runs_pos {gs : List Int} {g : List Pair} : ∀ (L : List Pair), g ∈ runsM gs L → ∀ x ∈ g, x ∈ L := by
  intro L
  induction L generalizing g with
  | nil => intro h; simp [runsM] at h
  | cons y L ih =>
    intro h x hx
    unfold runsM at h
    split at h
    · rename_i z gg R hr
      split at h
      · rcases List.mem_cons.1 h with rfl | h
        · rcases List.mem_cons.1 hx with rfl | hx
          · simp
          · exact List.mem_cons_of_mem _ (ih (by rw [hr]; simp) x hx)
        · exact List.mem_cons_of_mem _ (ih (by rw [hr]; exact List.mem_cons_of_mem _ h) x hx)
      · rcases List.mem_cons.1 h with rfl | h
        · obtain rfl := List.mem_singleton.1 hx; simp
        · exact List.mem_cons_of_mem _ (ih (by rw [hr]; exact h) x hx)
    · obtain rfl := List.mem_singleton.1 h
      obtain rfl := List.mem_singleton.1 hx; simp
theorem told_pos {p : Px} {K : List Pair} (hK : ∀ x ∈ K, 1 ≤ x.2) : ∀ x ∈ toldL p (groupsM p K), 1 ≤ x.2 := by
  intro x hx
  unfold toldL at hx
  obtain ⟨g, hg, rfl⟩ := List.mem_map.1 hx
  unfold groupsM at hg
  split at hg
  · split at hg
    · obtain rfl := List.mem_singleton.1 hg; exact Int.le_refl _
    · obtain ⟨r, _, rfl⟩ := List.mem_map.1 hg; exact Int.le_refl _
  · obtain ⟨y, hy, rfl⟩ := List.mem_map.1 hg
    exact hK y hy
theorem kept_pos {l : List Nx} {p : Px} (hC : Cheap l p.fs) (hv : ∀ x ∈ l, ∀ e ∈ x.E, ∀ v ∈ e.r, inI v) : ∀ x ∈ keptB l p, 1 ≤ x.2 := by
  obtain ⟨h1, _⟩ := side_is hC hv
  obtain ⟨h3, _⟩ := keep_pb h1 (keepT p.wh)
  exact fun x hx => (h3 x hx).1
theorem rises_once' : ∀ {B : List Pair}, Rises B → Rises (B.map fun x => (x.1, 1))
  | [], _ => trivial
  | x :: B, h => by
    obtain ⟨h1, h2, h3⟩ := h
    refine ⟨(by decide : (1 : Int) ≠ 0), fun y hy => ?_, rises_once' h3⟩
    obtain ⟨z, hz, rfl⟩ := List.mem_map.1 hy
    exact h2 z hz
/-- With distinct each of its rows is told once. -/
theorem once_is {l : List Nx} {p : Px} (hv : ∀ x ∈ l, ∀ e ∈ x.E, ∀ v ∈ e.r, inI v) (h : (rowsM l [{ p with d := false }]).2 = 0) :
    (rowsM l [{ p with d := true }]).1 = ((rowsM l [{ p with d := false }]).1).map (fun x => (x.1, 1)) ∧ ∀ x ∈ (rowsM l [{ p with d := false }]).1, 1 ≤ findP (rowsM l [{ p with d := false }]).1 x.1 := by
  have h' := h
  rw [px_err l p false true] at h'
  obtain ⟨h1, h2, _, e1⟩ := rowsM_ok h
  obtain ⟨_, _, _, e2⟩ := rowsM_ok h'
  rw [allL_one] at e1 e2
  rw [e1, e2]
  have hC : Cheap l p.fs := (ready_parts h1 h2 _ (List.mem_singleton.2 rfl)).cheap
  have t1 : toldM { p with d := false } (keptB l { p with d := false }) = toldL p (groupsM p (keptB l p)) := by rfl
  have t2 : toldM { p with d := true } (keptB l { p with d := true }) = onceB (ofB (toldL p (groupsM p (keptB l p)))) := by rfl
  rw [t1, t2]
  have hpos := pos_ofB (L := toldL p (groupsM p (keptB l p))) (fun x hx => by have := told_pos (p := p) (kept_pos hC hv) x hx; omega)
  obtain ⟨B, hB⟩ : ∃ B, ofB (toldL p (groupsM p (keptB l p))) = B := ⟨_, rfl⟩
  have hR : Rises B := hB ▸ rises_ofB _
  rw [hB] at hpos ⊢
  have t3 : onceB B = B.map fun x => (x.1, 1) := by
    unfold onceB
    rw [List.filter_eq_self.2 (fun x hx => by simpa using hpos x hx)]
  rw [t3]
  refine ⟨(ofB_is (rises_once' hR) (fun _ => rfl)).symm, fun x hx => ?_⟩
  rw [find_sum _ hR, sum_mem hR x hx]
  have := hpos x hx; omega
end Go.Proofs.YtfdkajefcplfjaaGreat
