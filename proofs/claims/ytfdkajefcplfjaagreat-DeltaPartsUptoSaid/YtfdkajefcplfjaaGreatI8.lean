/- Several of my texts laid together, each as it was: XW. Conditions: each names its own. -/
import Derived.Test.YtfdkajefcplfjaaGreatI6
import Derived.Test.YtfdkajefcplfjaaGreatI7
import Derived.Test.YtfdkajefcplfjaaGreatI1
/- What a plan tells, plainly: what is known of a plan that is ready and not too great. Nothing of any program here. Conditions: each lemma names its own. -/
namespace Go.Proofs.YtfdkajefcplfjaaGreat
open Go.RowKit

/-- What a plan tells, and its error. -/
def rowsM (l : List Nx) (ps : List Px) : List Pair × Int :=
  if readyE l ps ≠ 0 then ([], readyE l ps) else if 2000 < costP l ps then ([], 19)
  else if allE l ps ≠ 0 then ([], allE l ps) else (ofB (allL l ps), 0)
theorem readyFE_all {l : List Nx} : ∀ {fs : List ByteArray} {ws : List Int}, ws.length = fs.length → readyFE l fs ws = 0 → ∀ s ∈ fs, ∃ wd ∈ ws, fitsE l s.data.toList wd = 0
  | [], _, _, _, s, hs => by simp at hs
  | f :: fs, [], h, _, s, hs => by simp at h
  | f :: fs, w :: ws, hl, h, s, hs => by
    unfold readyFE at h
    split at h
    · rename_i h0
      rcases List.mem_cons.1 hs with rfl | hs
      · exact ⟨w, by simp, h0⟩
      · obtain ⟨wd, h1, h2⟩ := readyFE_all (by simpa using hl) h s hs
        exact ⟨wd, by simp [h1], h2⟩
    · rename_i h0; exact absurd h h0
theorem readyLE_all {l : List Nx} : ∀ {ps : List Px}, readyLE l ps = 0 → ∀ p ∈ ps, readyFE l p.fs p.ws = 0
  | [], _, p, hp => by simp at hp
  | q :: ps, h, p, hp => by
    unfold readyLE at h
    split at h
    · rename_i h0
      rcases List.mem_cons.1 hp with rfl | hp
      · exact h0
      · exact readyLE_all h p hp
    · rename_i h0; exact absurd h h0
theorem okR_pos {n : Int} (h : okR n = true) (h0 : ¬ n < 0) : 1 ≤ n := by
  unfold okR at h
  simp at h
  omega
theorem plainE_pos {E : List Elem} (h : plainE E = true) : ∀ e ∈ E, 1 ≤ e.n := fun e he => by
  unfold plainE at h
  simp only [Bool.and_eq_true, Bool.not_eq_true'] at h
  obtain ⟨h1, h2⟩ := h
  have h3 : ¬ e.n < 0 := by
    have := List.any_eq_false.1 h2 e he
    simpa using this
  obtain ⟨i, hi, rfl⟩ := List.getElem_of_mem he
  have h4 := List.all_eq_true.1 h1 i (List.mem_range.2 hi)
  rw [rightAt_get hi, Bool.and_eq_true] at h4
  exact okR_pos h4.1 h3
theorem cost_fold {l : List Nx} : ∀ (ps : List Px) (n : Int), 0 ≤ n ∧ n ≤ maxMany → n ≤ ps.foldl (fun n p => addMany n (costF l p.fs)) n ∧ (ps.foldl (fun n p => addMany n (costF l p.fs)) n < maxMany → ∀ p ∈ ps, costF l p.fs ≤ ps.foldl (fun n p => addMany n (costF l p.fs)) n)
  | [], n, _ => ⟨Int.le_refl _, fun _ p hp => by simp at hp⟩
  | q :: ps, n, h => by
    have hq := costF_in l q.fs
    have hn := addMany_in h hq.1
    obtain ⟨h1, h2⟩ := cost_fold (l := l) ps (addMany n (costF l q.fs)) hn
    rw [List.foldl_cons]
    have h3 : n ≤ addMany n (costF l q.fs) := by unfold addMany; omega
    refine ⟨by omega, fun hlt p hp => ?_⟩
    rcases List.mem_cons.1 hp with rfl | hp
    · have : costF l p.fs ≤ addMany n (costF l p.fs) := by unfold addMany at h1 ⊢; omega
      omega
    · exact h2 hlt p hp
/-- A plan's part, where the plan is ready and cheap. -/
structure PartOk (l : List Nx) (p : Px) : Prop where
  cheap : Cheap l p.fs
  outs : p.os.length ≤ 8
  set : groupedB p = true → settledB p = true
theorem ready_parts {l : List Nx} {ps : List Px} (hr : readyE l ps = 0) (hc : costP l ps ≤ 2000) : ∀ p ∈ ps, PartOk l p := fun p hp => by
  unfold readyE at hr
  split at hr
  · rename_i hb
    have hpB := hb
    unfold planB at hb
    simp only [Bool.and_eq_true] at hb
    have h1 := List.all_eq_true.1 hb.2 p hp
    simp only [Bool.and_eq_true] at h1
    obtain ⟨h1, _⟩ := h1
    unfold partB at h1
    simp only [Bool.and_eq_true] at h1
    obtain ⟨⟨ha, hls⟩, hse⟩ := h1
    unfold acrossB at ha
    simp only [Bool.and_eq_true] at ha
    obtain ⟨⟨ha1, ha2⟩, ha3⟩ := ha
    unfold inN at ha1
    simp only [Bool.and_eq_true, decide_eq_true_eq] at ha1 ha2
    unfold listsB at hls
    simp only [Bool.and_eq_true] at hls
    have hl0 := hls.1.1.1.1
    unfold inN at hl0
    simp only [Bool.and_eq_true, decide_eq_true_eq] at hl0
    have hfe := readyLE_all hr p hp
    have hcs := (cost_fold (l := l) ps 0 (by unfold maxMany; omega)).2
    have hcost : costF l p.fs ≤ costP l ps := hcs (by show costP l ps < _; unfold maxMany; omega) p hp
    refine ⟨⟨fun s hs => ?_, by omega, by omega⟩, by omega, fun hg => ?_⟩
    · obtain ⟨wd, hw, hf⟩ := readyFE_all ha2 hfe s hs
      have hwd := List.all_eq_true.1 ha3 wd hw
      unfold inN at hwd
      simp only [Bool.and_eq_true, decide_eq_true_eq] at hwd
      unfold fitsE at hf
      split at hf
      · omega
      · rename_i x hx
        split at hf
        · rename_i hpl
          refine ⟨x, hx, fun e he => ?_⟩
          have h2 := List.any_eq_false.1 hpl.2 e he
          have h3 : (e.r.length : Int) = wd := by simpa using h2
          exact ⟨plainE_pos hpl.1 e he, by omega, fun e0 => by rw [e0] at h3; simp at h3; omega⟩
        · omega
    · rw [hg] at hse
      simpa using hse
  · omega
theorem keep_pb {L : List Pair} {m : Nat} {c : Int} (h : PB L m c) (q : Pair → Bool) : (∀ x ∈ L.filter q, 1 ≤ x.2 ∧ x.1.length ≤ m) ∧ absS (L.filter q) ≤ c := by
  refine ⟨fun x hx => h.pos x (List.mem_filter.1 hx).1, ?_⟩
  have : ∀ M : List Pair, absS (M.filter q) ≤ absS M := by
    intro M
    induction M with
    | nil => exact Int.le_refl _
    | cons x M ih =>
      have h2 : 0 ≤ (if x.2 < 0 then -x.2 else x.2) := by split <;> omega
      rw [List.filter_cons]
      split
      · simp only [absS]; omega
      · simp only [absS]; omega
  rw [← h.sum]; exact this L
/-- The rows that a part keeps: how many, how long. -/
theorem kept_ok {l : List Nx} {p : Px} (hC : Cheap l p.fs) (hv : ∀ x ∈ l, ∀ e ∈ x.E, ∀ v ∈ e.r, inI v) {E : List Elem} (hE : E.map pr = keptB l p) : ElOk E ∧ E.length ≤ 2000 ∧ absS (E.map pr) ≤ 2000 := by
  obtain ⟨h1, h2⟩ := side_is hC hv
  obtain ⟨h3, h4⟩ := keep_pb h1 (keepT p.wh)
  have hk : keptB l p = (sideB l p).filter (keepT p.wh) := rfl
  rw [← hk, ← hE] at h3 h4
  have h5 := absS_pos (fun x hx => (h3 x hx).1)
  rw [List.length_map] at h5
  have hc := hC.cost
  refine ⟨⟨fun e he => ?_, by omega, by omega⟩, by omega, by omega⟩
  have hm : pr e ∈ E.map pr := List.mem_map_of_mem (f := pr) he
  obtain ⟨a, b⟩ := h3 _ hm
  have e1 : (pr e).1 = e.r := rfl
  have e2 : (pr e).2 = e.n := rfl
  rw [e2] at a; rw [e1] at b
  refine ⟨fun x hx => ?_, by omega, by omega⟩
  rw [hE, hk] at hm
  exact h2 _ (List.mem_filter.1 hm).1 x hx
theorem kept_small {l : List Nx} {p : Px} (hC : Cheap l p.fs) (hv : ∀ x ∈ l, ∀ e ∈ x.E, ∀ v ∈ e.r, inI v) : (keptB l p).length ≤ 2000 ∧ absS (keptB l p) ≤ 2000 := by
  obtain ⟨h1, _⟩ := side_is hC hv
  obtain ⟨h3, h4⟩ := keep_pb h1 (keepT p.wh)
  have h5 := absS_pos (fun x hx => (h3 x hx).1)
  have hc := hC.cost
  have hk : keptB l p = (sideB l p).filter (keepT p.wh) := rfl
  rw [hk]
  omega
theorem plan_few {l : List Nx} {ps : List Px} (hr : readyE l ps = 0) : ps.length ≤ 4 := by
  unfold readyE at hr
  split at hr
  · rename_i hb
    unfold planB at hb
    simp only [Bool.and_eq_true] at hb
    have h := hb.1
    unfold inN at h
    simp only [Bool.and_eq_true, decide_eq_true_eq] at h
    omega
  · omega
theorem once_small (L : List Pair) : (onceB L).length ≤ L.length ∧ absS (onceB L) ≤ L.length := by
  have h := once_len L
  refine ⟨h, ?_⟩
  have : absS (onceB L) = (onceB L).length := by unfold onceB; rw [absS_ones' (fun x : Pair => x.1), List.length_map]
  omega
theorem toldM_small (p : Px) (K : List Pair) : (toldM p K).length ≤ K.length + 1 ∧ absS (toldM p K) ≤ absS K + K.length + 1 := by
  have h1 := told_small p K
  have h0 := absS_nonneg K
  unfold toldM
  split
  · have h2 := once_small (ofB (toldL p (groupsM p K)))
    have h3 := len_ofB (toldL p (groupsM p K))
    omega
  · exact h1
end Go.Proofs.YtfdkajefcplfjaaGreat
