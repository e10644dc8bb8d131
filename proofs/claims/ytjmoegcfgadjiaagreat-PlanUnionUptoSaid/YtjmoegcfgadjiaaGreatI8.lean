/- Several of my texts laid together, each as it was: XW, XX. Conditions: each names its own. -/
import Derived.Test.YtjmoegcfgadjiaaGreatI6
import Derived.Test.YtjmoegcfgadjiaaGreatI7
import Derived.Test.YtjmoegcfgadjiaaGreatI1
import Derived.Test.YtjmoegcfgadjiaaGreatH8
import Derived.Test.YtjmoegcfgadjiaaGreatH5
import Derived.Laws.AppendOwnNone
/- What a plan tells, plainly: what is known of a plan that is ready and not too great. Nothing of any program here. Conditions: each lemma names its own. -/
namespace Go.Proofs.YtjmoegcfgadjiaaGreat
open Go.RowKit

/-- What a plan tells, and its error. -/
def rowsM (l : List Nx) (ps : List Px) : List Pair × Int :=
  if readyE l ps ≠ 0 then ([], readyE l ps) else if 2000 < costP l ps then ([], 19)
  else if allE l ps ≠ 0 then ([], allE l ps) else (ofB (allL l ps), 0)
theorem readyFE_all {l : List Nx} : ∀ {fs : List ByteArray} {ws : List Int}, ws.length = fs.length → readyFE l fs ws = 0 → ∀ s ∈ fs, ∃ wd ∈ ws, fitsE l s.data.toList wd = 0
  | [], _, _, _, s, hs => by simp at hs
  | f :: fs, [], h, _, s, hs => by simp at h
  | f :: fs, w :: ws, hl, h, s, hs => by
    unfold readyFE at h
    split at h
    · rename_i h0
      rcases List.mem_cons.1 hs with rfl | hs
      · exact ⟨w, by simp, h0⟩
      · obtain ⟨wd, h1, h2⟩ := readyFE_all (by simpa using hl) h s hs
        exact ⟨wd, by simp [h1], h2⟩
    · rename_i h0; exact absurd h h0
theorem readyLE_all {l : List Nx} : ∀ {ps : List Px}, readyLE l ps = 0 → ∀ p ∈ ps, readyFE l p.fs p.ws = 0
  | [], _, p, hp => by simp at hp
  | q :: ps, h, p, hp => by
    unfold readyLE at h
    split at h
    · rename_i h0
      rcases List.mem_cons.1 hp with rfl | hp
      · exact h0
      · exact readyLE_all h p hp
    · rename_i h0; exact absurd h h0
theorem okR_pos {n : Int} (h : okR n = true) (h0 : ¬ n < 0) : 1 ≤ n := by
  unfold okR at h
  simp at h
  omega
theorem plainE_pos {E : List Elem} (h : plainE E = true) : ∀ e ∈ E, 1 ≤ e.n := fun e he => by
  unfold plainE at h
  simp only [Bool.and_eq_true, Bool.not_eq_true'] at h
  obtain ⟨h1, h2⟩ := h
  have h3 : ¬ e.n < 0 := by
    have := List.any_eq_false.1 h2 e he
    simpa using this
  obtain ⟨i, hi, rfl⟩ := List.getElem_of_mem he
  have h4 := List.all_eq_true.1 h1 i (List.mem_range.2 hi)
  rw [rightAt_get hi, Bool.and_eq_true] at h4
  exact okR_pos h4.1 h3
theorem cost_fold {l : List Nx} : ∀ (ps : List Px) (n : Int), 0 ≤ n ∧ n ≤ maxMany → n ≤ ps.foldl (fun n p => addMany n (costF l p.fs)) n ∧ (ps.foldl (fun n p => addMany n (costF l p.fs)) n < maxMany → ∀ p ∈ ps, costF l p.fs ≤ ps.foldl (fun n p => addMany n (costF l p.fs)) n)
  | [], n, _ => ⟨Int.le_refl _, fun _ p hp => by simp at hp⟩
  | q :: ps, n, h => by
    have hq := costF_in l q.fs
    have hn := addMany_in h hq.1
    obtain ⟨h1, h2⟩ := cost_fold (l := l) ps (addMany n (costF l q.fs)) hn
    rw [List.foldl_cons]
    have h3 : n ≤ addMany n (costF l q.fs) := by unfold addMany; omega
    refine ⟨by omega, fun hlt p hp => ?_⟩
    rcases List.mem_cons.1 hp with rfl | hp
    · have : costF l p.fs ≤ addMany n (costF l p.fs) := by unfold addMany at h1 ⊢; omega
      omega
    · exact h2 hlt p hp
/-- A plan's part, where the plan is ready and cheap. -/
structure PartOk (l : List Nx) (p : Px) : Prop where
  cheap : Cheap l p.fs
  outs : p.os.length ≤ 8
  set : groupedB p = true → settledB p = true
theorem ready_parts {l : List Nx} {ps : List Px} (hr : readyE l ps = 0) (hc : costP l ps ≤ 2000) : ∀ p ∈ ps, PartOk l p := fun p hp => by
  unfold readyE at hr
  split at hr
  · rename_i hb
    have hpB := hb
    unfold planB at hb
    simp only [Bool.and_eq_true] at hb
    have h1 := List.all_eq_true.1 hb.2 p hp
    simp only [Bool.and_eq_true] at h1
    obtain ⟨h1, _⟩ := h1
    unfold partB at h1
    simp only [Bool.and_eq_true] at h1
    obtain ⟨⟨ha, hls⟩, hse⟩ := h1
    unfold acrossB at ha
    simp only [Bool.and_eq_true] at ha
    obtain ⟨⟨ha1, ha2⟩, ha3⟩ := ha
    unfold inN at ha1
    simp only [Bool.and_eq_true, decide_eq_true_eq] at ha1 ha2
    unfold listsB at hls
    simp only [Bool.and_eq_true] at hls
    have hl0 := hls.1.1.1.1
    unfold inN at hl0
    simp only [Bool.and_eq_true, decide_eq_true_eq] at hl0
    have hfe := readyLE_all hr p hp
    have hcs := (cost_fold (l := l) ps 0 (by unfold maxMany; omega)).2
    have hcost : costF l p.fs ≤ costP l ps := hcs (by show costP l ps < _; unfold maxMany; omega) p hp
    refine ⟨⟨fun s hs => ?_, by omega, by omega⟩, by omega, fun hg => ?_⟩
    · obtain ⟨wd, hw, hf⟩ := readyFE_all ha2 hfe s hs
      have hwd := List.all_eq_true.1 ha3 wd hw
      unfold inN at hwd
      simp only [Bool.and_eq_true, decide_eq_true_eq] at hwd
      unfold fitsE at hf
      split at hf
      · omega
      · rename_i x hx
        split at hf
        · rename_i hpl
          refine ⟨x, hx, fun e he => ?_⟩
          have h2 := List.any_eq_false.1 hpl.2 e he
          have h3 : (e.r.length : Int) = wd := by simpa using h2
          exact ⟨plainE_pos hpl.1 e he, by omega, fun e0 => by rw [e0] at h3; simp at h3; omega⟩
        · omega
    · rw [hg] at hse
      simpa using hse
  · omega
theorem keep_pb {L : List Pair} {m : Nat} {c : Int} (h : PB L m c) (q : Pair → Bool) : (∀ x ∈ L.filter q, 1 ≤ x.2 ∧ x.1.length ≤ m) ∧ absS (L.filter q) ≤ c := by
  refine ⟨fun x hx => h.pos x (List.mem_filter.1 hx).1, ?_⟩
  have : ∀ M : List Pair, absS (M.filter q) ≤ absS M := by
    intro M
    induction M with
    | nil => exact Int.le_refl _
    | cons x M ih =>
      have h2 : 0 ≤ (if x.2 < 0 then -x.2 else x.2) := by split <;> omega
      rw [List.filter_cons]
      split
      · simp only [absS]; omega
      · simp only [absS]; omega
  rw [← h.sum]; exact this L
/-- The rows that a part keeps: how many, how long. -/
theorem kept_ok {l : List Nx} {p : Px} (hC : Cheap l p.fs) (hv : ∀ x ∈ l, ∀ e ∈ x.E, ∀ v ∈ e.r, inI v) {E : List Elem} (hE : E.map pr = keptB l p) : ElOk E ∧ E.length ≤ 2000 ∧ absS (E.map pr) ≤ 2000 := by
  obtain ⟨h1, h2⟩ := side_is hC hv
  obtain ⟨h3, h4⟩ := keep_pb h1 (keepT p.wh)
  have hk : keptB l p = (sideB l p).filter (keepT p.wh) := rfl
  rw [← hk, ← hE] at h3 h4
  have h5 := absS_pos (fun x hx => (h3 x hx).1)
  rw [List.length_map] at h5
  have hc := hC.cost
  refine ⟨⟨fun e he => ?_, by omega, by omega⟩, by omega, by omega⟩
  have hm : pr e ∈ E.map pr := List.mem_map_of_mem (f := pr) he
  obtain ⟨a, b⟩ := h3 _ hm
  have e1 : (pr e).1 = e.r := rfl
  have e2 : (pr e).2 = e.n := rfl
  rw [e2] at a; rw [e1] at b
  refine ⟨fun x hx => ?_, by omega, by omega⟩
  rw [hE, hk] at hm
  exact h2 _ (List.mem_filter.1 hm).1 x hx
theorem kept_small {l : List Nx} {p : Px} (hC : Cheap l p.fs) (hv : ∀ x ∈ l, ∀ e ∈ x.E, ∀ v ∈ e.r, inI v) : (keptB l p).length ≤ 2000 ∧ absS (keptB l p) ≤ 2000 := by
  obtain ⟨h1, _⟩ := side_is hC hv
  obtain ⟨h3, h4⟩ := keep_pb h1 (keepT p.wh)
  have h5 := absS_pos (fun x hx => (h3 x hx).1)
  have hc := hC.cost
  have hk : keptB l p = (sideB l p).filter (keepT p.wh) := rfl
  rw [hk]
  omega
theorem plan_few {l : List Nx} {ps : List Px} (hr : readyE l ps = 0) : ps.length ≤ 4 := by
  unfold readyE at hr
  split at hr
  · rename_i hb
    unfold planB at hb
    simp only [Bool.and_eq_true] at hb
    have h := hb.1
    unfold inN at h
    simp only [Bool.and_eq_true, decide_eq_true_eq] at h
    omega
  · omega
theorem once_small (L : List Pair) : (onceB L).length ≤ L.length ∧ absS (onceB L) ≤ L.length := by
  have h := once_len L
  refine ⟨h, ?_⟩
  have : absS (onceB L) = (onceB L).length := by unfold onceB; rw [absS_ones' (fun x : Pair => x.1), List.length_map]
  omega
theorem toldM_small (p : Px) (K : List Pair) : (toldM p K).length ≤ K.length + 1 ∧ absS (toldM p K) ≤ absS K + K.length + 1 := by
  have h1 := told_small p K
  have h0 := absS_nonneg K
  unfold toldM
  split
  · have h2 := once_small (ofB (toldL p (groupsM p K)))
    have h3 := len_ofB (toldL p (groupsM p K))
    omega
  · exact h1
end Go.Proofs.YtjmoegcfgadjiaaGreat

/- What a plan tells (plan.Rows): a contract of the call, in whatever memory. Conditions: the plan's and the names' cells are known; what alike answers, where a part has columns to group by. -/
namespace Go.Proofs.YtjmoegcfgadjiaaGreat
open Go.RowKit

/-- A list appended to a list of one's own. -/
theorem wp_maL {w0 w1 w : World} {ops : Array Oper} {rest : List Oper} {o : Oper} {a : Act} {Q : Exit → Act → World → Prop} (hgd : o.guard = none) (s x : Operand)
    (ho : o.op = .call { callee := .builtin .append, args := #[s, x], argTypes := #[26, 26] })
    {v v2 : Value} {E E2 : List Elem} (hs : a.eval s = v) (hx : a.eval x = v2) (hm : MkA w0 w v E) (hm2 : MkA w1 w v2 E2) (hlen : (E.length + E2.length) * 32 ≤ 140737488355328)
    (h : ∀ v' w', MkA w0 w' v' (E ++ E2) → wpList Tryz.prog ops Q rest (a.put o.dst v') w') : wpList Tryz.prog ops Q (o :: rest) a w := by
  obtain ⟨i0, hi, hz0, hz1, hz2⟩ := info_parts info36
  rcases hm2.own.out.2 with ⟨e, hl⟩ | ⟨g, cap, cur, e, _⟩
  · obtain rfl : E2 = [] := List.length_eq_zero_iff.1 hl
    refine wpList_append_own_none hgd s x 26 ho w0.heap.size 49 i0 2 Tryz.underlying26 hi v E.length (cellsE E) hs hm.own.out (by rw [hx, e]) ?_
    have := h v w (by rw [List.append_nil]; exact hm)
    exact this
  · have hc := hm2.own.out
    rw [e] at hc
    have V := varB_ownE hc (g := g) rfl
    refine wpList_append_own w hgd s x 26 ho w0.heap.size 49 i0 (.agg #[.slice none 0 0, .int .i64 0]) 2 32 Tryz.underlying26 hi hz0 hz1 hz2 rfl (by decide) v E.length (cellsE E) hs hm.own.out ⟨g, 0, none⟩ E2.length cap (cellsE E2) (by rw [hx, e]) (cellsE_len E2) (fun j u hj => ?_) (cellsE_one E2) (by unfold maxLen; omega) hlen hm.b.size ?_
    · rw [WideShapes.add_plain]; exact V.at_ j u hj
    · intro v' w' hown' hgrow _
      have hK := keptT_grown hm.own.out hm.b.size hgrow
      refine h v' w' ⟨⟨?_⟩, ⟨fun y hy => ?_⟩, hm.b.grown hgrow hm.b.size hm.lo⟩
      · rw [List.length_append, show cellsE (E ++ E2) = cellsE E ++ cellsE E2 by simp [cellsE]]; exact hown'
      · rcases List.mem_append.1 hy with hy | hy
        · exact (hm.cp.keptT hK).out y hy
        · exact (hm2.cp.keptT hK).out y hy
/-- A part's box. -/
structure SPart (w0 : World) (B : Nat) (us : List Value) (w : World) : Prop where
  v : VarB w B us
  b : Below w0.heap.size w0 w
theorem SPart.below {w0 : World} {B : Nat} {us : List Value} {w w' : World} (h : SPart w0 B us w) (hb : Below w.heap.size w w') : SPart w0 B us w' := ⟨h.v.below hb, below_through hb h.b.size h.b⟩
theorem allL_take {l : List Nx} {ps : List Px} {i : Nat} (h : i < ps.length) : allL l (ps.take (i + 1)) = allL l (ps.take i) ++ toldM ps[i] (keptB l ps[i]) ∧ allE l (ps.take (i + 1)) = graverM (allE l (ps.take i)) (toldE ps[i] (groupsM ps[i] (keptB l ps[i]))) := by
  rw [List.take_succ_eq_append_getElem h, allL_snoc, allE_snoc]; exact ⟨rfl, rfl⟩
theorem allL_small {l : List Nx} : ∀ {ps : List Px}, (∀ p ∈ ps, (keptB l p).length ≤ 2000 ∧ absS (keptB l p) ≤ 2000) → ((allL l ps).length : Int) ≤ 4001 * ps.length ∧ absS (allL l ps) ≤ 4001 * ps.length
  | [], _ => by simp [allL, absS]
  | p :: ps, h => by
    obtain ⟨h1, h2⟩ := allL_small (l := l) (ps := ps) (fun q hq => h q (by simp [hq]))
    obtain ⟨h3, h4⟩ := toldM_small p (keptB l p)
    obtain ⟨h5, h6⟩ := h p (by simp)
    have e : allL l (p :: ps) = toldM p (keptB l p) ++ allL l ps := by simp [allL]
    rw [e, List.length_append, absS_append, List.length_cons]
    omega
/-- What alike must answer of a plan's parts. -/
def AlikeAll (w : World) (l : List Nx) (ps : List Px) : Prop := readyE l ps = 0 → ∀ p ∈ ps, groupedB p = true → p.gs ≠ [] → ∀ (w0 : World) (v : Value) (E : List Elem), Below w.heap.size w w0 → E.map pr = keptB l p → ElOk E → AlikeC w0 v E p.gp p.gc p.gs
set_option maxHeartbeats 16000000 in
set_option maxRecDepth 1000000 in
theorem planRows_any {n : Nat} (a : Option Addr) (c : Nat) (ps : List Px) (a2 : Option Addr) (c2 : Nat) (l : List Nx) (w : World) (hP : PsOk w n a c ps) (hL : NsOk w a2 l) (hAl : AlikeAll w l ps) :
    Calls Tryz.prog 14 #[planV a ps.length c, .slice a2 l.length c2] w fun e w' => (∃ a' c' E', e = .returned (.tuple #[.slice a' E'.length c', .int .i64 (rowsM l ps).2]) ∧ E'.length ≤ c' ∧ ElemsAt w' a' E' ∧ E'.map pr = (rowsM l ps).1) ∧ Below w.heap.size w w' := by
  have V := VarB.new w [.slice a ps.length c] 24
  have hB0 : Below w.heap.size w (w.alloc (Obj.cells #[.slice a ps.length c] 24)) := (Below.refl _ _).alloc (Nat.le_refl _) _
  have hfew := hP.few
  have HP := hid0 hP
  have HL := hid0 hL
  have CT0 := hid0 (there_any a2 c2 l _ (hL.later hB0))
  have CR := hid0 (fun (b : Nat) (W : World) (hW : Below w.heap.size w W) (hT : ThereAt W b l) => ready_any b l a c ps W hT (fun x hx => (hL.ok x hx).1.later hW) (hP.later hW))
  have CC := hid0 (fun (b : Nat) (W : World) (hW : Below w.heap.size w W) (hT : ThereAt W b l) => cost_any b l a c ps W hT (hP.later hW))
  have HA := hid0 hAl
  have q0 := V.cell 0 rfl
  have hvlt := V.lt
  clear hP hL hAl
  unfold planV at CR CC ⊢
  obtain ⟨RR, hRR⟩ : ∃ RR, rowsM l ps = RR := ⟨_, rfl⟩
  have HRR := hid0 hRR
  rw [hRR]
  clear hRR
  by_cases hr : readyE l ps = 0
  · have HA := hid0 (HA.out hr)
    rw [hr] at CR
    by_cases hc : 2000 < costP l ps
    · have HR := hid0 (show RR = ([], 19) by rw [← HRR.out]; unfold rowsM; rw [if_neg (by omega), if_pos hc])
      generalize costP l ps = cs at *
      go_enter Tryz.func14, Tryz.ntmps14
      go_wp2_with (first | (go_at_call 43; go_must (refine CT0.out.mono ?_; rintro e w1 ⟨⟨b, rfl, hT⟩, hb1⟩; (have hB1 := below_through hb1 hB0.size hB0); (have q1 := cell_later hb1 q0))) | (go_at_call 44; go_must (refine (CR.out b _ hB1 hT).mono ?_; rintro e w2 ⟨rfl, hb2⟩; (have hB2 := below_through hb2 hB1.size hB1); (have hT2 := hT.later hb2); (have q2 := cell_later hb2 q1))) | (go_at_call 45; go_must (refine (CC.out b _ hB2 hT2).mono ?_; rintro e w3 ⟨rfl, hb3⟩; (have hB3 := below_through hb3 hB2.size hB2); (have hT3 := hT2.later hb3); (have q3 := cell_later hb3 q2))) | fail)
      go_returns
      exact ⟨⟨none, 0, [], by rw [HR.out]; rfl, Nat.le_refl _, ElemsAt.nil _ _, by rw [HR.out]; rfl⟩, hB3⟩
    · have HPO := hid0 (ready_parts hr (by omega))
      have hp4 := plan_few hr
      have hvI : ∀ x ∈ l, ∀ e ∈ x.E, ∀ v ∈ e.r, inI v := fun x hx e he v hv => ((HL.out.ok x hx).1.i e he).1 v hv
      have HSM := hid0 (fun i => allL_small (l := l) (ps := ps.take i) (fun p hp => kept_small (HPO.out p (List.mem_of_mem_take hp)).cheap hvI))
      have HR := hid0 (show RR = if allE l ps ≠ 0 then ([], allE l ps) else (ofB (allL l ps), 0) by rw [← HRR.out]; unfold rowsM; rw [if_neg (by omega), if_neg hc])
      have hcl : ¬ 2000 < costP l ps := hc
      have CK0 := hid0 (fun (b : Nat) (p : Px) (hp : p ∈ ps) (W : World) (hW : Below w.heap.size w W) (hT : ThereAt W b l) => kept_any b l p W hT (fun x hx => (HL.out.ok x hx).1.later hW) (((HP.out.ok p hp).fs).later hW) (((HP.out.ok p hp).wh).later hW) (HPO.out p hp).cheap)
      have CT0' := hid0 (fun (p : Px) (hp : p ∈ ps) (W0 W : World) (v : Value) (E : List Elem) (hW : Below w.heap.size w W0) (hM : MkE W0 W v E) (hE : E.map pr = keptB l p) => (show Calls Tryz.prog 46 #[p.val, v] W fun e w' => ∃ v' E', e = .returned (.tuple #[v', .int .i64 (toldE p (groupsM p (keptB l p)))]) ∧ MkA W0 w' v' E' ∧ E'.map pr = toldM p (keptB l p) by
        obtain ⟨k1, k2, k3⟩ := kept_ok (HPO.out p hp).cheap hvI hE
        have := told_any p v E W0 W ((HP.out.ok p hp).later hW) (HPO.out p hp).outs hM k1 k2 k3 (HPO.out p hp).set (fun h1 h2 => HA.out p hp h1 h2 W0 v E hW hE k1)
        rw [hE] at this
        exact this))
      clear hvI hc hr HRR
      generalize costP l ps = cs at *
      obtain ⟨RE, hRE⟩ : ∃ RE, allE l ps = RE := ⟨_, rfl⟩
      have HRE := hid0 hRE
      rw [hRE] at HR
      clear hRE
      go_enter Tryz.func14, Tryz.ntmps14
      go_wp2_with (first | (go_at_call 43; go_must (refine CT0.out.mono ?_; rintro e w1 ⟨⟨b, rfl, hT⟩, hb1⟩; (have hB1 := below_through hb1 hB0.size hB0); (have q1 := cell_later hb1 q0))) | (go_at_call 44; go_must (refine (CR.out b _ hB1 hT).mono ?_; rintro e w2 ⟨rfl, hb2⟩; (have hB2 := below_through hb2 hB1.size hB1); (have hT2 := hT.later hb2); (have q2 := cell_later hb2 q1))) | (go_at_call 45; go_must (refine (CC.out b _ hB2 hT2).mono ?_; rintro e w3 ⟨rfl, hb3⟩; (have hB3 := below_through hb3 hB2.size hB2); (have hT3 := hT2.later hb3); (have q3 := cell_later hb3 q2))) | fail)
      have hlt3 := hB3.size
      clear q0 q1 q2 hb1 hb2 hb3 hB0 hB1 hB2 hT hT2 CT0 CR CC V
      go_loopw [8, 9, 29] (fun sv ev iv wr => ∃ (i : Nat) (Eo : List Elem), i ≤ ps.length ∧ iv = .int .i64 i ∧ ev = .int .i64 (allE l (ps.take i)) ∧ MkA w3 wr sv Eo ∧ Hid (Eo.map pr = allL l (ps.take i))) (fun _ _ iv _ => ps.length - (intOf iv).toNat)
      case atStart => exact ⟨0, [], Nat.zero_le _, rfl, rfl, MkA.nil w3, hid0 rfl⟩
      case round =>
        obtain ⟨i, Eo, hi, rfl, rfl, hM, hT⟩ := hrel
        have hsz := hM.b.size
        clear q3
        by_cases hlt : i < ps.length
        · have hBw := below_through hM.b hB3.size hB3
          obtain ⟨b1, o1, rfl, hbb, hR⟩ := (HP.out.later hBw).part i hlt
          have hmem := List.getElem_mem hlt
          obtain ⟨hL1, hE1⟩ := allL_take (l := l) hlt
          have hsm := (HSM.out i).1
          have htk : (ps.take i).length ≤ 4 := by rw [List.length_take]; omega
          have hEo : Eo.length ≤ 20000 := by
            have h1 := congrArg List.length hT.out
            rw [List.length_map] at h1
            omega
          have htl := (toldM_small ps[i] (keptB l ps[i])).1
          have hkb := (kept_small (HPO.out _ hmem).cheap (fun x hx e he v hv => ((HL.out.ok x hx).1.i e he).1 v hv)).1
          have CK1 := fun (W : World) => CK0.out b _ hmem W
          have CT1 := fun (W0 W : World) (v : Value) (E : List Elem) => CT0'.out _ hmem W0 W v E
          have hcl := (ps[i]).cells_len
          have hone := (ps[i]).one
          unfold Px.val at CK1 CT1
          generalize toldE ps[i] (groupsM ps[i] (keptB l ps[i])) = f at hE1 CT1
          generalize toldM ps[i] (keptB l ps[i]) = TL at hL1 CT1 htl
          have hTL : TL.length ≤ 2001 := by omega
          generalize keptB l ps[i] = KB at CK1 CT1 htl hkb
          generalize (ps[i]).cells = us at hR CK1 CT1 hcl hone
          have HL1 := hid0 hL1
          have HE1 := hid0 hE1
          obtain ⟨er, herr⟩ : ∃ er, allE l (ps.take i) = er := ⟨_, rfl⟩
          have HE2 := hid0 (show allE l (ps.take (i + 1)) = graverM er f by rw [HE1.out, herr])
          rw [herr]
          have CG := hid0 (fun W => graver_any er f W)
          clear herr hL1 hE1 hmem hsm htk htl hkb HE1
          have V0 : VarB (wr.alloc (Obj.cells #[.bool false, .slice none 0 0, .slice none 0 0, .int .i64 0, .int .i64 0, .int .i64 0, .int .i64 0, .int .i64 0, .int .i64 0, .string ⟨#[]⟩, .slice none 0 0, .int .i64 0, .int .i64 0, .int .i64 0, .int .i64 0, .string ⟨#[]⟩, .slice none 0 0, .slice none 0 0, .slice none 0 0, .slice none 0 0] 46)) wr.heap.size zPx := VarB.new wr zPx 46
          go_wp2_with (first | ((with_reducible refine wp_getB hR Tryz.underlying46 ?_ ?_ ?_ ?_); (rfl); (rw [hcl]; exact sizePx); (rfl); simp only [Act.put]) | ((with_reducible refine wp_putB V0 hone ?_ ?_ ?_ ?_ ?_); (exact hcl); (exact sizePx); (rfl); (rfl); intro w5 hV5 hw5; (have hw5b : Below wr.heap.size wr w5 := by rw [hw5.out]; exact below_setCells _ 0 ((Below.refl _ _).alloc (Nat.le_refl _) _) (Nat.le_refl _)); clear hw5; simp only [Act.put]) | fail)
          have hM5 := hid0 (hM.below hw5b)
          have hbw5 := below_through hw5b hBw.size hBw
          have sizeU : (Tryz.prog.info? 46).map (·.size) = some us.length := by rw [hcl]; exact sizePx
          have CK := hid0 (fun (W : World) (hW : Below w5.heap.size w5 W) => CK1 W (below_through hW hbw5.size hbw5) (hT3.later (below_through hW hM5.out.b.size hM5.out.b)))
          have CT := hid0 (fun (W0 W : World) (v : Value) (E : List Elem) (hW : Below w5.heap.size w5 W0) => CT1 W0 W v E (below_through hW hbw5.size hbw5))
          have hS : SPart w5 wr.heap.size us w5.drew := ⟨hV5.drew, Below.drew (Below.refl _ _)⟩
          clear CK1 CT1 hR V0 hV5 hM
          refine wp_region_held_drew (S := SPart w5 wr.heap.size us) (by kernel_rfl) hS (fun hHeld => ?_)
          refine wpAnyH_take (i := 0) (v := .agg us.toArray) rfl (by kernel_rfl) (by kernel_rfl) (by kernel_rfl) (fun _ _ _ h => h) (yieldsIf_load_mid rfl 46 _ rfl wr.heap.size (0) rfl us _ (fun w h => h.v.at_) Tryz.underlying46 rfl (sizeU)) (by assumption) ?_
          (try simp only [Act.put, List.setIfInBounds_toArray, List.set_cons_zero, List.set_cons_succ, List.getElem_toArray, List.getElem_cons_zero])
          refine wpAnyH_take (i := 1) (v := ?_) rfl (by kernel_rfl) (by kernel_rfl) (by kernel_rfl) (fun _ _ _ h => h) (Or.inl ⟨by rfl, ?_⟩) (by assumption) ?_
          rotate_left
          · (intro wx hSw; go_simp; (try with_reducible rfl); (try omega))
          (try simp only [Act.put, List.setIfInBounds_toArray, List.set_cons_zero, List.set_cons_succ, List.getElem_toArray, List.getElem_cons_zero, List.getElem_cons_succ])
          refine wpAnyH_take (i := 2) (v := .agg us.toArray) rfl (by kernel_rfl) (by kernel_rfl) (by kernel_rfl) (fun _ _ _ h => h) (yieldsIf_load_mid rfl 46 _ rfl wr.heap.size (0) rfl us _ (fun w h => h.v.at_) Tryz.underlying46 rfl (sizeU)) (by assumption) ?_
          (try simp only [Act.put, List.setIfInBounds_toArray, List.set_cons_zero, List.set_cons_succ, List.getElem_toArray, List.getElem_cons_zero, List.getElem_cons_succ])
          refine wpAnyH_ready (rs := [3]) (by kernel_rfl) (by simp) ?_
          refine AllReadyH.cons rfl (fun K hK => ?_) AllReadyH.nil
          go_simp
          have hS0 := hS
          refine (CK.out _ hS.b).mono ?_
          rintro e w1 ⟨v1, E1, rfl, hM1, hm1⟩
          have hS := hS.below hM1.b
          refine hK.out _ _ hS (fun hHeld => ?_)
          clear hK K
          (try simp only [Act.put, List.setIfInBounds_toArray, List.set_cons_zero, List.set_cons_succ, List.getElem_toArray, List.getElem_cons_zero, List.getElem_cons_succ])
          refine wpAnyH_ready (rs := [4]) (by kernel_rfl) (by simp) ?_
          refine AllReadyH.cons rfl (fun K hK => ?_) AllReadyH.nil
          go_simp
          refine (CT.out _ _ _ _ hS0.b hM1 hm1).mono ?_
          rintro e w2 ⟨v2, E2, rfl, hM2, hm2⟩
          have hS := hS0.below hM2.b
          refine hK.out _ _ hS (fun hHeld => ?_)
          clear hK K
          (try simp only [Act.put, List.setIfInBounds_toArray, List.set_cons_zero, List.set_cons_succ, List.getElem_toArray, List.getElem_cons_zero, List.getElem_cons_succ])
          refine wpAnyH_take (i := 5) (v := ?_) rfl (by kernel_rfl) (by kernel_rfl) (by kernel_rfl) (fun _ _ _ h => h) (Or.inl ⟨by rfl, ?_⟩) (by assumption) ?_
          rotate_left
          · (intro wx hSw; go_simp; (try with_reducible rfl); (try omega))
          (try simp only [Act.put, List.setIfInBounds_toArray, List.set_cons_zero, List.set_cons_succ, List.getElem_toArray, List.getElem_cons_zero, List.getElem_cons_succ])
          refine wpAnyH_take (i := 6) (v := ?_) rfl (by kernel_rfl) (by kernel_rfl) (by kernel_rfl) (fun _ _ _ h => h) (Or.inl ⟨by rfl, ?_⟩) (by assumption) ?_
          rotate_left
          · (intro wx hSw; go_simp; (try with_reducible rfl); (try omega))
          (try simp only [Act.put, List.setIfInBounds_toArray, List.set_cons_zero, List.set_cons_succ, List.getElem_toArray, List.getElem_cons_zero, List.getElem_cons_succ])
          refine wpAnyH_take (i := 7) (v := ?_) rfl (by kernel_rfl) (by kernel_rfl) (by kernel_rfl) (fun _ _ _ h => h) (Or.inl ⟨by rfl, ?_⟩) (by assumption) ?_
          rotate_left
          · (intro wx hSw; go_simp; (try with_reducible rfl); (try omega))
          (try simp only [Act.put, List.setIfInBounds_toArray, List.set_cons_zero, List.set_cons_succ, List.getElem_toArray, List.getElem_cons_zero, List.getElem_cons_succ])
          refine wpAnyH_take (i := 8) (v := ?_) rfl (by kernel_rfl) (by kernel_rfl) (by kernel_rfl) (fun _ _ _ h => h) (Or.inl ⟨by rfl, ?_⟩) (by assumption) ?_
          rotate_left
          · (intro wx hSw; go_simp; (try with_reducible rfl); (try omega))
          (try simp only [Act.put, List.setIfInBounds_toArray, List.set_cons_zero, List.set_cons_succ, List.getElem_toArray, List.getElem_cons_zero, List.getElem_cons_succ])
          refine wpAnyH_take (i := 9) (v := ?_) rfl (by kernel_rfl) (by kernel_rfl) (by kernel_rfl) (fun _ _ _ h => h) (Or.inl ⟨by rfl, ?_⟩) (by assumption) ?_
          rotate_left
          · (intro wx hSw; go_simp; (try with_reducible rfl); (try omega))
          (try simp only [Act.put, List.setIfInBounds_toArray, List.set_cons_zero, List.set_cons_succ, List.getElem_toArray, List.getElem_cons_zero, List.getElem_cons_succ])
          refine wpAnyH_done (by kernel_rfl) ?_ _
          have hMA := hid0 (hM5.out.below hS.b)
          have hE2l : E2.length ≤ 2001 := by have h1 := congrArg List.length hm2; rw [List.length_map] at h1; omega
          have HM2 := hid0 hM2
          have Hm2 := hid0 hm2
          clear hS hHeld hM2 hm2 hM1 hm1 hS0
          go_wp2_with (first | (at_builtin; refine wp_maL rfl _ _ rfl rfl rfl hMA.out HM2.out (by omega) ?_; intro v8 w8 hm8) | (go_at_call 48; refine (CG.out _).mono ?_; rintro e w9 ⟨rfl, hw9⟩; rw [hw9]) | fail)
          exact ⟨⟨i + 1, _, by omega, by go_num, by rw [HE2.out], hm8, hid0 (by rw [List.map_append, hT.out, HL1.out, Hm2.out])⟩, by simp [intOf]; omega⟩
        · have hie : ¬ (i : Int) < ps.length := by omega
          have hpl : (ps.take i).length ≤ 4 := by rw [List.length_take]; omega
          have hsm := HSM.out i
          rw [List.take_of_length_le (by omega)] at hT hsm hpl ⊢
          rw [HRE.out]
          obtain ⟨ae, ce, rfl, hce, hel⟩ := hM.elems
          have CO := hid0 (bagOf_any ae ce Eo wr hel hce (by have h1 := congrArg List.length hT.out; rw [List.length_map] at h1; omega) (by rw [hT.out]; omega))
          have hb := below_through hM.b hB3.size hB3
          clear hel hM hsm
          by_cases hre : RE = 0
          · have hre' : (RE == 0) = true := by simpa using hre
            have HR2 := hid0 (show RR = (ofB (allL l ps), 0) by rw [HR.out, if_neg (by omega)])
            subst hre
            go_wp2_with (first | (go_at_call 49; go_must (refine CO.out.mono ?_; rintro e w5 ⟨⟨a5, c5, E5, rfl, hc5, hE5, hm5⟩, hb5⟩)) | fail)
            go_returns
            exact ⟨⟨a5, c5, E5, by rw [HR2.out]; rfl, hc5, hE5, by rw [hm5, hT.out, HR2.out]⟩, below_through hb5 hb.size hb⟩
          · have hre' : (RE == 0) = false := by simpa using hre
            have HR2 := hid0 (show RR = ([], RE) by rw [HR.out, if_pos hre])
            go_wp2
            go_returns
            exact ⟨⟨none, 0, [], by rw [HR2.out]; rfl, Nat.le_refl _, ElemsAt.nil _ _, by rw [HR2.out]; rfl⟩, hb⟩
  · have HR := hid0 (show RR = ([], readyE l ps) by rw [← HRR.out]; unfold rowsM; rw [if_pos hr])
    have hr0 : (readyE l ps == 0) = false := by simpa using hr
    clear hr
    generalize readyE l ps = rd at *
    go_enter Tryz.func14, Tryz.ntmps14
    go_wp2_with (first | (go_at_call 43; go_must (refine CT0.out.mono ?_; rintro e w1 ⟨⟨b, rfl, hT⟩, hb1⟩; (have hB1 := below_through hb1 hB0.size hB0); (have q1 := cell_later hb1 q0))) | (go_at_call 44; go_must (refine (CR.out b _ hB1 hT).mono ?_; rintro e w2 ⟨rfl, hb2⟩; (have hB2 := below_through hb2 hB1.size hB1))) | fail)
    go_returns
    exact ⟨⟨none, 0, [], by rw [HR.out]; rfl, Nat.le_refl _, ElemsAt.nil _ _, by rw [HR.out]; rfl⟩, hB2⟩
end Go.Proofs.YtjmoegcfgadjiaaGreat
