/- Several of my texts laid together, each as it was: U1, U2. Conditions: each names its own. -/
import Derived.Test.YtjmoegcfgadjiaaGreatL1
import Derived.Test.YtjmoegcfgadjiaaGreatG1
import Derived.Test.YtjmoegcfgadjiaaGreatI9
/- What a plan tells, plainly: of parts together what each of them tells, together; with distinct each row once. Nothing of any program here. Conditions: each lemma names its own. -/
namespace Go.Proofs.YtjmoegcfgadjiaaGreat
open Go.RowKit

theorem graver_zero {a b : Int} (h : graverM a b = 0) : a = 0 ∧ b = 0 := by
  unfold graverM at h
  split at h
  · rename_i h1; omega
  · rename_i h1; exact absurd (Or.inl h) h1
theorem foldG_zero' : ∀ (L : List Int) (n : Int), L.foldl graverM n = 0 → n = 0 ∧ ∀ x ∈ L, x = 0
  | [], n, h => ⟨h, fun x hx => by simp at hx⟩
  | y :: L, n, h => by
    obtain ⟨h1, h2⟩ := foldG_zero' L _ h
    obtain ⟨h3, h4⟩ := graver_zero h1
    refine ⟨h3, fun x hx => ?_⟩
    rcases List.mem_cons.1 hx with rfl | hx
    · exact h4
    · exact h2 x hx
theorem foldG_zero {L : List Int} (h : foldG L = 0) : ∀ x ∈ L, x = 0 := (foldG_zero' L 0 h).2
theorem foldG_all {L : List Int} (h : ∀ x ∈ L, x = 0) : foldG L = 0 := by
  have : ∀ (L : List Int), (∀ x ∈ L, x = 0) → L.foldl graverM 0 = 0 := by
    intro L
    induction L with
    | nil => intro _; rfl
    | cons x L ih =>
      intro h
      rw [List.foldl_cons, h x (by simp), show graverM 0 0 = 0 from rfl]
      exact ih (fun y hy => h y (List.mem_cons_of_mem _ hy))
  exact this L h
/-- Where a plan's rows are told: it is ready, cheap, and nothing is refused. -/
theorem rowsM_ok {l : List Nx} {ps : List Px} (h : (rowsM l ps).2 = 0) : readyE l ps = 0 ∧ costP l ps ≤ 2000 ∧ allE l ps = 0 ∧ (rowsM l ps).1 = ofB (allL l ps) := by
  unfold rowsM at h ⊢
  by_cases h1 : readyE l ps ≠ 0
  · rw [if_pos h1] at h; exact absurd h h1
  rw [if_neg h1] at h ⊢
  by_cases h2 : 2000 < costP l ps
  · rw [if_pos h2] at h; exact absurd h (by decide)
  rw [if_neg h2] at h ⊢
  by_cases h3 : allE l ps ≠ 0
  · rw [if_pos h3] at h; exact absurd h h3
  rw [if_neg h3]
  exact ⟨by omega, by omega, by omega, rfl⟩
theorem rowsM_is {l : List Nx} {ps : List Px} (h1 : readyE l ps = 0) (h2 : costP l ps ≤ 2000) (h3 : allE l ps = 0) : rowsM l ps = (ofB (allL l ps), 0) := by
  unfold rowsM; rw [if_neg (by omega), if_neg (by omega), if_neg (by omega)]
theorem rowsM_none {l : List Nx} {ps : List Px} (h : (rowsM l ps).2 ≠ 0) : (rowsM l ps).1 = [] := by
  unfold rowsM at h ⊢
  by_cases h1 : readyE l ps ≠ 0
  · rw [if_pos h1]
  rw [if_neg h1] at h ⊢
  by_cases h2 : 2000 < costP l ps
  · rw [if_pos h2]
  rw [if_neg h2] at h ⊢
  by_cases h3 : allE l ps ≠ 0
  · rw [if_pos h3]
  · rw [if_neg h3] at h; exact absurd rfl h
theorem ready_one {l : List Nx} {ps : List Px} (h : readyE l ps = 0) {p : Px} (hp : p ∈ ps) : readyE l [p] = 0 := by
  unfold readyE at h ⊢
  by_cases hb : planB ps = true
  · rw [if_pos hb] at h
    have hf := readyLE_all h p hp
    unfold planB at hb
    simp only [Bool.and_eq_true] at hb
    have h1 := List.all_eq_true.1 hb.2 p hp
    simp only [Bool.and_eq_true] at h1
    rw [if_pos (by unfold planB; simp [h1.1, inN])]
    unfold readyLE
    rw [if_pos hf]; rfl
  · rw [if_neg hb] at h; exact absurd h (by decide)
theorem cost_one {l : List Nx} {ps : List Px} (h : costP l ps ≤ 2000) {p : Px} (hp : p ∈ ps) : costP l [p] ≤ 2000 := by
  have hcs := (cost_fold (l := l) ps 0 (by unfold maxMany; omega)).2
  have hcost : costF l p.fs ≤ costP l ps := hcs (by show costP l ps < _; unfold maxMany; omega) p hp
  show addMany 0 (costF l p.fs) ≤ 2000
  unfold addMany; omega
theorem allL_one (l : List Nx) (p : Px) : allL l [p] = toldM p (keptB l p) := by simp [allL]
theorem allE_one (l : List Nx) (p : Px) : allE l [p] = toldE p (groupsM p (keptB l p)) := by
  show graverM 0 (toldE p (groupsM p (keptB l p))) = _
  unfold graverM; rw [if_pos (Or.inl rfl)]
/-- Each part alone is told, too. -/
theorem union_one {l : List Nx} {ps : List Px} (h : (rowsM l ps).2 = 0) {p : Px} (hp : p ∈ ps) : rowsM l [p] = (ofB (toldM p (keptB l p)), 0) := by
  obtain ⟨h1, h2, h3, _⟩ := rowsM_ok h
  have h4 : toldE p (groupsM p (keptB l p)) = 0 := foldG_zero h3 _ (List.mem_map_of_mem (f := fun p => toldE p (groupsM p (keptB l p))) hp)
  rw [rowsM_is (ready_one h1 hp) (cost_one h2 hp) (by rw [allE_one]; exact h4), allL_one]
theorem ofB_ofB (L : List Pair) : ofB (ofB L) = ofB L := (ofB_is (rises_ofB L) (fun _ => rfl)).symm
theorem ofB_both (A B : List Pair) : ofB (ofB A ++ ofB B) = ofB (A ++ B) := by rw [← joinB_ofB, ofB_ofB, ofB_ofB, joinB_ofB]
/-- How many rows all parts tell. -/
theorem allL_small4 {l : List Nx} {ps : List Px} (h : (rowsM l ps).2 = 0) (hv : ∀ x ∈ l, ∀ e ∈ x.E, ∀ v ∈ e.r, inI v) : ps.length ≤ 4 ∧ ∀ k, absS (allL l (ps.take k)) ≤ 4001 * k ∧ (allL l (ps.take k)).length ≤ 2001 * k := by
  obtain ⟨h1, h2, _, _⟩ := rowsM_ok h
  refine ⟨plan_few h1, fun k => ?_⟩
  induction k with
  | zero => simp [allL, absS]
  | succ k ih =>
    by_cases hk : k < ps.length
    · rw [List.take_succ_eq_append_getElem hk, allL_snoc, absS_append, List.length_append]
      have hC := (ready_parts h1 h2 ps[k] (List.getElem_mem hk)).cheap
      have h5 := kept_small hC hv
      have h6 := toldM_small ps[k] (keptB l ps[k])
      omega
    · rw [List.take_of_length_le (by omega)]
      rw [List.take_of_length_le (by omega)] at ih
      omega
/-! ### Distinct -/
theorem px_kept (l : List Nx) (p : Px) (b : Bool) : keptB l { p with d := b } = keptB l p := rfl
theorem px_groups (p : Px) (b : Bool) (K : List Pair) : groupsM { p with d := b } K = groupsM p K := rfl
theorem px_toldL (p : Px) (b : Bool) (G : List Grp) : toldL { p with d := b } G = toldL p G := rfl
theorem px_err (l : List Nx) (p : Px) (b b' : Bool) : (rowsM l [{ p with d := b }]).2 = (rowsM l [{ p with d := b' }]).2 := by
  have e1 : readyE l [{ p with d := b }] = readyE l [{ p with d := b' }] := rfl
  have e2 : costP l [{ p with d := b }] = costP l [{ p with d := b' }] := rfl
  have e3 : allE l [{ p with d := b }] = allE l [{ p with d := b' }] := rfl
  unfold rowsM
  rw [e1, e2, e3]
  split
  · rfl
  · split
    · rfl
    · split <;> rfl
theorem runs_pos {gs : List Int} {g : List Pair} : ∀ (L : List Pair), g ∈ runsM gs L → ∀ x ∈ g, x ∈ L := by
  intro L
  induction L generalizing g with
  | nil => intro h; simp [runsM] at h
  | cons y L ih =>
    intro h x hx
    unfold runsM at h
    split at h
    · rename_i z gg R hr
      split at h
      · rcases List.mem_cons.1 h with rfl | h
        · rcases List.mem_cons.1 hx with rfl | hx
          · simp
          · exact List.mem_cons_of_mem _ (ih (by rw [hr]; simp) x hx)
        · exact List.mem_cons_of_mem _ (ih (by rw [hr]; exact List.mem_cons_of_mem _ h) x hx)
      · rcases List.mem_cons.1 h with rfl | h
        · obtain rfl := List.mem_singleton.1 hx; simp
        · exact List.mem_cons_of_mem _ (ih (by rw [hr]; exact h) x hx)
    · obtain rfl := List.mem_singleton.1 h
      obtain rfl := List.mem_singleton.1 hx; simp
theorem told_pos {p : Px} {K : List Pair} (hK : ∀ x ∈ K, 1 ≤ x.2) : ∀ x ∈ toldL p (groupsM p K), 1 ≤ x.2 := by
  intro x hx
  unfold toldL at hx
  obtain ⟨g, hg, rfl⟩ := List.mem_map.1 hx
  unfold groupsM at hg
  split at hg
  · split at hg
    · obtain rfl := List.mem_singleton.1 hg; exact Int.le_refl _
    · obtain ⟨r, _, rfl⟩ := List.mem_map.1 hg; exact Int.le_refl _
  · obtain ⟨y, hy, rfl⟩ := List.mem_map.1 hg
    exact hK y hy
theorem kept_pos {l : List Nx} {p : Px} (hC : Cheap l p.fs) (hv : ∀ x ∈ l, ∀ e ∈ x.E, ∀ v ∈ e.r, inI v) : ∀ x ∈ keptB l p, 1 ≤ x.2 := by
  obtain ⟨h1, _⟩ := side_is hC hv
  obtain ⟨h3, _⟩ := keep_pb h1 (keepT p.wh)
  exact fun x hx => (h3 x hx).1
theorem rises_once' : ∀ {B : List Pair}, Rises B → Rises (B.map fun x => (x.1, 1))
  | [], _ => trivial
  | x :: B, h => by
    obtain ⟨h1, h2, h3⟩ := h
    refine ⟨(by decide : (1 : Int) ≠ 0), fun y hy => ?_, rises_once' h3⟩
    obtain ⟨z, hz, rfl⟩ := List.mem_map.1 hy
    exact h2 z hz
/-- With distinct each of its rows is told once. -/
theorem once_is {l : List Nx} {p : Px} (hv : ∀ x ∈ l, ∀ e ∈ x.E, ∀ v ∈ e.r, inI v) (h : (rowsM l [{ p with d := false }]).2 = 0) :
    (rowsM l [{ p with d := true }]).1 = ((rowsM l [{ p with d := false }]).1).map (fun x => (x.1, 1)) ∧ ∀ x ∈ (rowsM l [{ p with d := false }]).1, 1 ≤ findP (rowsM l [{ p with d := false }]).1 x.1 := by
  have h' := h
  rw [px_err l p false true] at h'
  obtain ⟨h1, h2, _, e1⟩ := rowsM_ok h
  obtain ⟨_, _, _, e2⟩ := rowsM_ok h'
  rw [allL_one] at e1 e2
  rw [e1, e2]
  have hC : Cheap l p.fs := (ready_parts h1 h2 _ (List.mem_singleton.2 rfl)).cheap
  have t1 : toldM { p with d := false } (keptB l { p with d := false }) = toldL p (groupsM p (keptB l p)) := by rfl
  have t2 : toldM { p with d := true } (keptB l { p with d := true }) = onceB (ofB (toldL p (groupsM p (keptB l p)))) := by rfl
  rw [t1, t2]
  have hpos := pos_ofB (L := toldL p (groupsM p (keptB l p))) (fun x hx => by have := told_pos (p := p) (kept_pos hC hv) x hx; omega)
  obtain ⟨B, hB⟩ : ∃ B, ofB (toldL p (groupsM p (keptB l p))) = B := ⟨_, rfl⟩
  have hR : Rises B := hB ▸ rises_ofB _
  rw [hB] at hpos ⊢
  have t3 : onceB B = B.map fun x => (x.1, 1) := by
    unfold onceB
    rw [List.filter_eq_self.2 (fun x hx => by simpa using hpos x hx)]
  rw [t3]
  refine ⟨(ofB_is (rises_once' hR) (fun _ => rfl)).symm, fun x hx => ?_⟩
  rw [find_sum _ hR, sum_mem hR x hx]
  have := hpos x hx; omega
end Go.Proofs.YtjmoegcfgadjiaaGreat

/- The groups of a select, plainly: how many rows they have together. Nothing of any program here. Conditions: each lemma names its own. -/
namespace Go.Proofs.YtjmoegcfgadjiaaGreat
open Go.RowKit

def colO (k : Nat) : Ox := ⟨0, .mk 1 k zV none 0 [], ⟨#[]⟩, 0⟩
def cntO : Ox := ⟨1, zCx, ⟨#[]⟩, 0⟩
/-- The part that tells each group's count, and the part that tells all rows' count. -/
structure TwoG (p q : Px) (k : Nat) : Prop where
  fs : q.fs = p.fs
  ws : q.ws = p.ws
  wh : q.wh = p.wh
  d : p.d = false
  d' : q.d = false
  gs : p.gs = [(k : Int)]
  gs' : q.gs = []
  os : p.os = [colO k, cntO]
  os' : q.os = [cntO]
theorem twoG_part {p q : Px} {k : Nat} (h : TwoG p q k) (hk : (k : Int) < sumW p.ws) : partB p = partB q := by
  have h1 : acrossB q = acrossB p := by unfold acrossB; rw [h.fs, h.ws]
  have g1 : groupedB p = true := by unfold groupedB; rw [h.gs]; rfl
  have g2 : groupedB q = true := by unfold groupedB; rw [h.gs', h.os']; rfl
  have s1 : settledB p = true := by unfold settledB; rw [h.gs, h.os]; simp [colO, cntO, Cx.kind, Cx.at]
  have s2 : settledB q = true := by unfold settledB; rw [h.gs', h.os']; rfl
  have r1 : insideB (rise (rdC (colO k).e)) (sumW p.ws) = true := by
    unfold insideB
    rw [List.all_eq_true]
    intro x hx
    have := (mem_rise _ _).1 hx
    have e : rdC (colO k).e = [(k : Int)] := by simp [colO, rdC, rdL]
    rw [e] at this
    obtain rfl := List.mem_singleton.1 this
    unfold inN; simp; omega
  have r2 : insideB (rise (rdC cntO.e)) (sumW p.ws) = true := by
    unfold insideB
    rw [List.all_eq_true]
    intro x hx
    have := (mem_rise _ _).1 hx
    have e : rdC cntO.e = [] := by simp [cntO, zCx, rdC, rdL]
    rw [e] at this; exact absurd this (by simp)
  have r3 : insideB [(k : Int)] (sumW p.ws) = true := by unfold insideB inN; simp; omega
  have l1 : listsB p (sumW p.ws) = insideB (rise (asT p.wh)) (sumW p.ws) := by
    unfold listsB
    rw [h.gs, h.os]
    simp only [List.length_cons, List.length_nil, List.all_cons, List.all_nil, r1, r2, r3]
    have a1 : inN (((0 + 1 + 1 : Nat)) : Int) 1 8 = true := by decide
    have a2 : inN (colO k).g 0 6 = true := by rfl
    have a3 : inN cntO.g 0 6 = true := by rfl
    rw [a1, a2, a3]
    simp
  have l2 : listsB q (sumW q.ws) = insideB (rise (asT p.wh)) (sumW p.ws) := by
    unfold listsB
    rw [h.gs', h.os', h.wh, h.ws]
    simp only [List.length_cons, List.length_nil, List.all_cons, List.all_nil, r2]
    have a1 : inN (((0 + 1 : Nat)) : Int) 1 8 = true := by decide
    have a3 : inN cntO.g 0 6 = true := by rfl
    rw [a1, a3]
    simp [insideB]
  unfold partB
  rw [h1, g1, g2, s1, s2, l1, l2]
theorem twoG_ready {l : List Nx} {p q : Px} {k : Nat} (h : TwoG p q k) (hk : (k : Int) < sumW p.ws) : readyE l [p] = readyE l [q] := by
  have hp := twoG_part h hk
  have e : planB [p] = planB [q] := by unfold planB; simp [hp]
  unfold readyE
  rw [e]
  unfold readyLE
  rw [h.fs, h.ws]
/-! ### Rows as wide as their sources -/
theorem prod_len {l : List Nx} : ∀ {fs : List ByteArray} {ws : List Int}, ws.length = fs.length → readyFE l fs ws = 0 → ∀ (R : List Pair) (n : Int), (∀ x ∈ R, (x.1.length : Int) = n) →
    ∀ x ∈ fs.foldl (fun R s => pairsB R (rowsN l s.data.toList)) R, (x.1.length : Int) = ws.foldl (· + ·) n
  | [], [], _, _, R, n, hR, x, hx => hR x hx
  | [], _ :: _, h, _, _, _, _, _, _ => by simp at h
  | _ :: _, [], h, _, _, _, _, _, _ => by simp at h
  | f :: fs, w :: ws, hl, hr, R, n, hR, x, hx => by
    unfold readyFE at hr
    split at hr
    · rename_i h0
      refine prod_len (by simpa using hl) hr (pairsB R (rowsN l f.data.toList)) (n + w) (fun y hy => ?_) x hx
      unfold pairsB at hy
      obtain ⟨a, ha, hy⟩ := List.mem_flatMap.1 hy
      obtain ⟨b, hb, rfl⟩ := List.mem_map.1 hy
      have h1 := hR a ha
      have h2 : (b.1.length : Int) = w := by
        unfold fitsE at h0
        unfold rowsN at hb
        split at h0
        · omega
        · rename_i z hz
          rw [hz] at hb
          split at h0
          · rename_i hpl
            obtain ⟨e, he, rfl⟩ := List.mem_map.1 hb
            have h3 := List.any_eq_false.1 hpl.2 e he
            simpa [pr] using h3
          · omega
      simp only [List.length_append]; omega
    · rename_i h0; exact absurd hr h0
theorem kept_len {l : List Nx} {p : Px} (hr : readyE l [p] = 0) : ∀ x ∈ keptB l p, (x.1.length : Int) = sumW p.ws := by
  intro x hx
  have hb : planB [p] = true := by
    unfold readyE at hr
    by_cases hb : planB [p] = true
    · exact hb
    · rw [if_neg hb] at hr; exact absurd hr (by decide)
  have hf : readyFE l p.fs p.ws = 0 := by
    unfold readyE at hr
    rw [if_pos hb] at hr
    exact readyLE_all hr p (by simp)
  have hw : p.ws.length = p.fs.length := by
    unfold planB partB acrossB at hb
    simp only [Bool.and_eq_true, List.all_cons, decide_eq_true_eq] at hb
    exact hb.2.1.1.1.1.1.2
  unfold keptB sideB at hx
  have hx := (List.mem_filter.1 hx).1
  split at hx
  · exact absurd hx (by simp)
  · exact prod_len hw hf oneB 0 (fun y hy => by obtain rfl := List.mem_singleton.1 hy; rfl) x hx
/-! ### Runs of what is sorted -/
theorem runs_inc {gs : List Int} : ∀ {L : List Pair}, Srd (leG gs) L → (runsM gs L).Pairwise (fun g h => keyA gs (headR g) (headR h) < 0)
  | [], _ => by simp [runsM]
  | [x], _ => by simp [runsM]
  | x :: y :: L, hs => by
    obtain ⟨h1, h2⟩ := List.pairwise_cons.1 hs
    have ih := runs_inc h2
    obtain ⟨g, R, e⟩ := runs_head gs L y
    rw [e] at ih
    obtain ⟨i1, i2⟩ := List.pairwise_cons.1 ih
    have hxy : rowsV (keyV gs x.1) (keyV gs y.1) ≤ 0 := by have := h1 y (by simp); unfold leG at this; simpa using this
    unfold runsM
    rw [e]
    dsimp only
    by_cases hk : rowsV (keyV gs x.1) (keyV gs y.1) = 0
    · rw [if_pos hk]
      refine List.pairwise_cons.2 ⟨fun h hh => ?_, i2⟩
      have := i1 h hh
      have hkey := (rowsV_is _ _).1 hk
      unfold keyA headR at this ⊢
      simp only [List.headD_cons] at this ⊢
      rw [hkey]; exact this
    · rw [if_neg hk]
      have hlt : rowsV (keyV gs x.1) (keyV gs y.1) < 0 := by omega
      refine List.pairwise_cons.2 ⟨fun h hh => ?_, ih⟩
      rcases List.mem_cons.1 hh with rfl | hh
      · exact hlt
      · exact rowsV_lt_trans hlt (i1 h hh)
theorem runs_sum {gs : List Int} : ∀ {L : List Pair}, ((runsM gs L).map sumAll).sum = sumAll L
  | [] => by simp [runsM, sumAll]
  | [x] => by simp [runsM, sumAll]
  | x :: y :: L => by
    have ih := @runs_sum gs (y :: L)
    obtain ⟨g, R, e⟩ := runs_head gs L y
    rw [e] at ih
    have e2 : sumAll (x :: y :: L) = x.2 + sumAll (y :: L) := rfl
    unfold runsM
    rw [e, e2, ← ih]
    dsimp only
    split
    · simp only [List.map_cons, List.sum_cons, sumAll]; omega
    · simp only [List.map_cons, List.sum_cons, sumAll]; omega
theorem sumAll_perm {A B : List Pair} (h : A.Perm B) : sumAll A = sumAll B := by
  induction h with
  | nil => rfl
  | cons x _ ih => simp only [sumAll, ih]
  | swap x y l => simp only [sumAll]; omega
  | trans _ _ h1 h2 => rw [h1, h2]
theorem sumAll_pos : ∀ {L : List Pair}, (∀ x ∈ L, 1 ≤ x.2) → L ≠ [] → 1 ≤ sumAll L
  | [], _, h => absurd rfl h
  | [x], h, _ => by have := h x (by simp); simp only [sumAll]; omega
  | x :: y :: L, h, _ => by
    have h1 := h x (by simp)
    have h2 := sumAll_pos (L := y :: L) (fun z hz => h z (List.mem_cons_of_mem _ hz)) (by simp)
    have e : sumAll (x :: y :: L) = x.2 + sumAll (y :: L) := rfl
    omega
/-- What is told of a group: its key's value, and how many rows it has. -/
def grpR (k : Nat) (g : List Pair) : List Val := [((headR g)[k]?).getD zV, numV (countB g)]
theorem sumOf_inc (k : Nat) (r : List Val) : ∀ {R : List (List Pair)}, R.Pairwise (fun g h => keyA [(k : Int)] (headR g) (headR h) < 0) → sumOf r (R.map fun g => (grpR k g, 1)) ≤ 1 ∧ ((∃ g ∈ R, True) → 0 ≤ sumOf r (R.map fun g => (grpR k g, (1 : Int))))
  | [], _ => by simp [sumOf]
  | g :: R, h => by
    obtain ⟨h1, h2⟩ := List.pairwise_cons.1 h
    obtain ⟨i1, i2⟩ := sumOf_inc k r h2
    have i3 : 0 ≤ sumOf r (R.map fun g => (grpR k g, (1 : Int))) := by
      cases R with
      | nil => simp [sumOf]
      | cons a R => exact i2 ⟨a, by simp, trivial⟩
    have e : sumOf r ((g :: R).map fun g => (grpR k g, (1 : Int))) = (if rowsV (grpR k g) r = 0 then 1 else 0) + sumOf r (R.map fun g => (grpR k g, (1 : Int))) := rfl
    rw [e]
    by_cases hr : rowsV (grpR k g) r = 0
    · have hgr := (rowsV_is _ _).1 hr
      have hz : sumOf r (R.map fun g => (grpR k g, (1 : Int))) = 0 := by
        have : ∀ y ∈ R.map (fun g => (grpR k g, (1 : Int))), rowsV y.1 r ≠ 0 := by
          intro y hy
          obtain ⟨x, hx, rfl⟩ := List.mem_map.1 hy
          intro h0
          have hxr := (rowsV_is _ _).1 h0
          have hlt := h1 x hx
          rw [← hgr] at hxr
          have hv : ((headR x)[k]?).getD zV = ((headR g)[k]?).getD zV := by
            have := congrArg (fun l : List Val => l.headD zV) hxr
            exact this
          have : keyA [(k : Int)] (headR g) (headR x) = 0 := by
            unfold keyA keyV
            simp only [List.map_cons, List.map_nil, Int.toNat_natCast]
            rw [hv]; exact rowsV_self _
          omega
        have hzz : ∀ (M : List Pair), (∀ y ∈ M, rowsV y.1 r ≠ 0) → sumOf r M = 0 := by
          intro M
          induction M with
          | nil => intro _; rfl
          | cons y M ih =>
            intro hM
            show (if rowsV y.1 r = 0 then y.2 else 0) + sumOf r M = 0
            rw [if_neg (hM y (by simp)), ih (fun z hz => hM z (List.mem_cons_of_mem _ hz))]; rfl
        exact hzz _ this
      rw [if_pos hr, hz]; exact ⟨by omega, fun _ => by omega⟩
    · rw [if_neg hr]; exact ⟨by omega, fun _ => by omega⟩
theorem mem_sum : ∀ {B : List Pair}, Rises B → ∀ x ∈ B, x.2 = sumOf x.1 B := fun h x hx => (sum_mem h x hx).symm
theorem ofB_mem : ∀ {L : List Pair} {z : Pair}, z ∈ ofB L → ∃ y ∈ L, z.1 = y.1
  | [], z, h => by simp [ofB] at h
  | x :: L, z, h => by
    rcases ins_mem (B := ofB L) h with h | ⟨y, hy, h⟩
    · exact ⟨x, by simp, h⟩
    · obtain ⟨w, hw, e⟩ := ofB_mem hy
      exact ⟨w, List.mem_cons_of_mem _ hw, h.trans e⟩
def secN (r : List Val) : Int := ((r[1]?).getD zV).n
theorem wsum_ones {B : List Pair} (h : ∀ x ∈ B, x.2 = 1) (g : List Val → Int) : wsum g B = (B.map fun x => g x.1).sum := by
  induction B with
  | nil => rfl
  | cons x B ih =>
    simp only [wsum, List.map_cons, List.sum_cons]
    rw [ih (fun y hy => h y (List.mem_cons_of_mem _ hy)), h x (by simp)]; omega
/-- The counts of a select's groups come to how many rows there are in all. -/
theorem groups_law {l : List Nx} {p q : Px} {k : Nat} (hv : ∀ x ∈ l, ∀ e ∈ x.E, ∀ v ∈ e.r, inI v) (h : TwoG p q k) (hk : (k : Int) < sumW p.ws) :
    (rowsM l [p]).2 = (rowsM l [q]).2 ∧ ((rowsM l [p]).2 = 0 → (∀ x ∈ (rowsM l [p]).1, x.2 = 1 ∧ x.1.length = 2 ∧ 1 ≤ secN x.1) ∧ (rowsM l [q]).1 = [([numV (((rowsM l [p]).1.map fun x => secN x.1).sum)], 1)] ∧ (rowsM l [p]).1.length ≤ 2001 ∧ ∃ t, ((rowsM l [p]).1.map fun x => secN x.1).sum = t ∧ t ≤ 2000) := by
  have hR := twoG_ready (l := l) h hk
  have hC : costP l [p] = costP l [q] := by unfold costP; simp [h.fs]
  have hK : keptB l q = keptB l p := by unfold keptB sideB; rw [h.fs, h.wh]
  by_cases h1 : readyE l [p] ≠ 0
  · have e1 : (rowsM l [p]).2 = readyE l [p] := by unfold rowsM; rw [if_pos h1]
    have e2 : (rowsM l [q]).2 = readyE l [q] := by unfold rowsM; rw [if_pos (hR ▸ h1)]
    exact ⟨by rw [e1, e2, hR], fun e => absurd (e1 ▸ e) h1⟩
  have h1 : readyE l [p] = 0 := by omega
  by_cases h2 : 2000 < costP l [p]
  · have e1 : (rowsM l [p]).2 = 19 := by unfold rowsM; rw [if_neg (by omega), if_pos h2]
    have e2 : (rowsM l [q]).2 = 19 := by unfold rowsM; rw [if_neg (by omega), if_pos (by omega)]
    exact ⟨by rw [e1, e2], fun e => by omega⟩
  have hC0 := (ready_parts h1 (by omega) p (by simp)).cheap
  have hpos := kept_pos (p := p) hC0 hv
  have hlen := kept_len h1
  have hsm := kept_small (p := p) hC0 hv
  have g1 : groupedB p = true := by unfold groupedB; rw [h.gs]; rfl
  have g2 : groupedB q = true := by unfold groupedB; rw [h.gs', h.os']; rfl
  have G1 : groupsM p (keptB l p) = (runsM [(k : Int)] (sortG [(k : Int)] (keptB l p))).map fun g => (g, 1) := by unfold groupsM; rw [if_pos g1, h.gs, if_neg (by simp)]
  have G2 : groupsM q (keptB l p) = [(keptB l p, 1)] := by unfold groupsM; rw [if_pos g2, h.gs', if_pos rfl]
  obtain ⟨K, hKK⟩ : ∃ K, keptB l p = K := ⟨_, rfl⟩
  rw [hKK] at hpos hlen hsm G1 G2 hK
  have hSp := srt_perm (le := leG [(k : Int)]) K
  rw [← sortG_srt] at hSp
  have hSs : Srd (leG [(k : Int)]) (sortG [(k : Int)] K) := by rw [sortG_srt]; exact srt_srd (leG_LeT _) K
  obtain ⟨S, hS⟩ : ∃ S, sortG [(k : Int)] K = S := ⟨_, rfl⟩
  rw [hS] at hSp hSs G1
  have hSpos : ∀ x ∈ S, 1 ≤ x.2 := fun x hx => hpos x (hSp.mem_iff.1 hx)
  have hSlen : ∀ x ∈ S, (x.1.length : Int) = sumW p.ws := fun x hx => hlen x (hSp.mem_iff.1 hx)
  have hrun : ∀ g ∈ runsM [(k : Int)] S, (∃ v, (headR g)[k]? = some v) ∧ countB g = sumAll g ∧ 1 ≤ countB g := by
    intro g hg
    have hne := runs_ne _ _ g hg
    have hin := runs_pos _ hg
    have hp : ∀ x ∈ g, 1 ≤ x.2 := fun x hx => hSpos x (hin x hx)
    have hc : countB g = sumAll g := countB_is (fun y hy => by have := hp y hy; omega)
    refine ⟨?_, hc, by rw [hc]; exact sumAll_pos hp hne⟩
    cases g with
    | nil => exact absurd rfl hne
    | cons x g =>
      have := hSlen x (hin x (by simp))
      have hlt : k < x.1.length := by omega
      exact ⟨x.1[k], List.getElem?_eq_getElem hlt⟩
  have hout : ∀ g ∈ runsM [(k : Int)] S, rowM p.os g = grpR k g ∧ errM p.os g = 0 := by
    intro g hg
    obtain ⟨⟨v, hvv⟩, _, _⟩ := hrun g hg
    have e1 : outM (colO k) g = (v, 0) := by
      show colV (headR g) (k : Int) = _
      unfold colV
      rw [if_neg (by omega), Int.toNat_natCast, hvv]
    have e2 : outM cntO g = (numV (countB g), 0) := by
      rfl
    rw [h.os]
    refine ⟨?_, ?_⟩
    · unfold rowM grpR
      simp only [List.map_cons, List.map_nil, e1, e2, hvv, Option.getD_some]
    · unfold errM
      simp only [List.map_cons, List.map_nil, e1, e2]
      rfl
  have hT1 : toldL p (groupsM p K) = (runsM [(k : Int)] S).map fun g => (grpR k g, 1) := by
    unfold toldL
    rw [G1, List.map_map]
    exact List.map_congr_left fun g hg => by simp only [Function.comp]; rw [(hout g hg).1]
  have hE1 : toldE p (groupsM p K) = 0 := by
    unfold toldE
    rw [G1, List.map_map]
    exact foldG_all (fun x hx => by obtain ⟨g, hg, rfl⟩ := List.mem_map.1 hx; exact (hout g hg).2)
  have hcK : countB K = sumAll K := countB_is (fun y hy => by have := hpos y hy; omega)
  have hT2 : toldL q (groupsM q K) = [([numV (sumAll K)], 1)] := by
    unfold toldL
    rw [G2, h.os']
    simp only [List.map_cons, List.map_nil, rowM]
    have e2 : outM cntO K = (numV (countB K), 0) := rfl
    rw [e2, hcK]
  have hE2 : toldE q (groupsM q K) = 0 := by
    unfold toldE
    rw [G2, h.os']
    have e2 : outM cntO K = (numV (countB K), 0) := rfl
    simp only [List.map_cons, List.map_nil, errM, e2]; rfl
  have R1 := rowsM_is (l := l) (ps := [p]) h1 (by omega) (by rw [allE_one, hKK]; exact hE1)
  have R2 := rowsM_is (l := l) (ps := [q]) (by rw [← hR]; exact h1) (by omega) (by rw [allE_one, hK]; exact hE2)
  rw [allL_one] at R1 R2
  have M1 : toldM p (keptB l p) = (runsM [(k : Int)] S).map fun g => (grpR k g, 1) := by unfold toldM; rw [h.d, if_neg (by simp), hKK, hT1]
  have M2 : toldM q (keptB l q) = [([numV (sumAll K)], 1)] := by unfold toldM; rw [h.d', if_neg (by simp), hK, hT2]
  rw [M1] at R1
  rw [M2] at R2
  have hB2 : ofB [([numV (sumAll K)], (1 : Int))] = [([numV (sumAll K)], 1)] := by rfl
  rw [hB2] at R2
  rw [R1, R2]
  refine ⟨rfl, fun _ => ?_⟩
  have hinc := runs_inc hSs
  obtain ⟨B, hB⟩ : ∃ B, ofB ((runsM [(k : Int)] S).map fun g => (grpR k g, (1 : Int))) = B := ⟨_, rfl⟩
  have hRB : Rises B := hB ▸ rises_ofB _
  have hx1 : ∀ x ∈ B, x.2 = 1 ∧ x.1.length = 2 ∧ 1 ≤ secN x.1 := by
    intro x hx
    obtain ⟨y, hy, e⟩ := ofB_mem (hB ▸ hx : x ∈ ofB _)
    obtain ⟨g, hg, rfl⟩ := List.mem_map.1 hy
    have hs : x.2 = sumOf x.1 ((runsM [(k : Int)] S).map fun g => (grpR k g, (1 : Int))) := by rw [mem_sum hRB x hx, ← hB, sumOf_ofB]
    obtain ⟨i1, i2⟩ := sumOf_inc k x.1 hinc
    have i3 := i2 ⟨g, hg, trivial⟩
    have hne : x.2 ≠ 0 := by
      have : ∀ {B : List Pair}, Rises B → ∀ x ∈ B, x.2 ≠ 0 := by
        intro B
        induction B with
        | nil => intro _ x hx; simp at hx
        | cons y B ih =>
          intro h x hx
          rcases List.mem_cons.1 hx with rfl | hx
          · exact h.1
          · exact ih h.2.2 x hx
      exact this hRB x hx
    refine ⟨by omega, by rw [e]; rfl, ?_⟩
    rw [e]
    exact (hrun g hg).2.2
  have hsum : (B.map fun x => secN x.1).sum = sumAll K := by
    rw [← wsum_ones (fun x hx => (hx1 x hx).1), ← hB, wsum_ofB]
    rw [wsum_ones (fun x hx => by obtain ⟨g, _, rfl⟩ := List.mem_map.1 hx; rfl), List.map_map]
    have : (List.map ((fun x => secN x.1) ∘ fun g => (grpR k g, (1 : Int))) (runsM [(k : Int)] S)) = (runsM [(k : Int)] S).map sumAll := List.map_congr_left fun g hg => (hrun g hg).2.1
    rw [this, runs_sum, sumAll_perm hSp]
  have hlB : B.length ≤ 2001 := by
    have h3 := len_ofB ((runsM [(k : Int)] S).map fun g => (grpR k g, (1 : Int)))
    rw [hB, List.length_map] at h3
    have h4 : ∀ (L : List Pair), (runsM [(k : Int)] L).length ≤ L.length := by
      intro L
      induction L with
      | nil => simp [runsM]
      | cons x L ih =>
        unfold runsM
        split
        · rename_i z gg R hr
          rw [hr] at ih
          split
          · simp only [List.length_cons] at ih ⊢; omega
          · simp only [List.length_cons] at ih ⊢; omega
        · simp
    have h5 := h4 S
    have h6 := hSp.length_eq
    omega
  have hle : sumAll K ≤ 2000 := by
    have : ∀ (L : List Pair), sumAll L ≤ absS L := by
      intro L
      induction L with
      | nil => exact Int.le_refl _
      | cons x L ih => simp only [sumAll, absS]; split <;> omega
    have := this K
    omega
  simp only [hB]
  exact ⟨hx1, by rw [hsum], hlB, _, rfl, by rw [hsum]; exact hle⟩
end Go.Proofs.YtjmoegcfgadjiaaGreat
