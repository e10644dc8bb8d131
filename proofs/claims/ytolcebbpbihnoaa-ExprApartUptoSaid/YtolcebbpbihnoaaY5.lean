/- What an expression, or a condition, comes to hangs on the columns alone that it reads. Rows that lie in memory of one's own. Nothing of any program here but the types. Conditions: each names its own. -/
import Derived.Test.YtolcebbpbihnoaaYt
namespace Go.Proofs.Ytolcebbpbihnoaa
open Go.RowKit

/-- Two rows are alike at these places. -/
structure Agree (S : List Int) (r o : List Val) : Prop where
  len : o.length = r.length
  at_ : ∀ i : Nat, (i : Int) ∈ S → o[i]? = r[i]?
theorem Agree.sub {S T : List Int} {r o : List Val} (h : Agree S r o) (hs : ∀ x ∈ T, x ∈ S) : Agree T r o := ⟨h.len, fun i hi => h.at_ i (hs _ hi)⟩
theorem col_agree {r o : List Val} {a : Int} (h : Agree [a] r o) : colV r a = colV o a := by
  unfold colV
  by_cases h0 : a < 0
  · rw [if_pos h0, if_pos h0]
  · rw [if_neg h0, if_neg h0, h.at_ a.toNat (by rw [List.mem_singleton]; omega)]
mutual
theorem ev_agree {r o : List Val} : ∀ c : Cx, Agree (rdC c) r o → evC r c = evC o c
  | .mk k a v p c ys, h => by
    have hl := evL_agree ys (h.sub (fun x hx => by rw [rdC]; exact List.mem_append.2 (.inr hx)))
    rw [evC, evC, hl]
    unfold evOf
    by_cases hk : k = 1
    · rw [if_pos hk, if_pos hk]
      exact col_agree (h.sub (fun x hx => by rw [rdC, if_pos hk]; exact List.mem_append.2 (.inl hx)))
    · rw [if_neg hk, if_neg hk]
theorem evL_agree {r o : List Val} : ∀ l : List Cx, Agree (rdL l) r o → evL r l = evL o l
  | [], _ => rfl
  | x :: l, h => by
    rw [evL, evL, ev_agree x (h.sub (fun y hy => by rw [rdL]; exact List.mem_append.2 (.inl hy))), evL_agree l (h.sub (fun y hy => by rw [rdL]; exact List.mem_append.2 (.inr hy)))]
end
theorem sd_agree {r o : List Val} : ∀ c : Cx, Agree (rdC c) r o → sdC r c = sdC o c
  | .mk k a v p c ys, h => by
    rw [sdC, sdC, ev_agree _ h]
mutual
theorem ho_agree {r o : List Val} : ∀ t : Tx, Agree (asT t) r o → hoT r t = hoT o t
  | .mk k op a b p c ys, h => by
    rw [hoT, hoT, sd_agree a (h.sub (fun x hx => by rw [asT]; simp [hx])), sd_agree b (h.sub (fun x hx => by rw [asT]; simp [hx])), hoL_agree ys (h.sub (fun x hx => by rw [asT]; simp [hx]))]
theorem hoL_agree {r o : List Val} : ∀ l : List Tx, Agree (asL l) r o → hoL r l = hoL o l
  | [], _ => rfl
  | x :: l, h => by
    rw [hoL, hoL, ho_agree x (h.sub (fun y hy => by rw [asL]; exact List.mem_append.2 (.inl hy))), hoL_agree l (h.sub (fun y hy => by rw [asL]; exact List.mem_append.2 (.inr hy)))]
end
def rowCells (vs : List Val) : List Value := vs.flatMap fun v => [.int .i64 v.k, .int .i64 v.n, .string v.s]
theorem rowCells_at : ∀ (vs : List Val) (i : Nat) (h : i < vs.length), (rowCells vs)[i * 3]? = some (.int .i64 vs[i].k) ∧ (rowCells vs)[i * 3 + 1]? = some (.int .i64 vs[i].n) ∧ (rowCells vs)[i * 3 + 2]? = some (.string vs[i].s)
  | v :: vs, 0, _ => ⟨rfl, rfl, rfl⟩
  | v :: vs, i + 1, h => by
    have := rowCells_at vs i (by simpa using h)
    have e : rowCells (v :: vs) = [.int .i64 v.k, .int .i64 v.n, .string v.s] ++ rowCells vs := rfl
    have g : ∀ d, (rowCells (v :: vs))[(i + 1) * 3 + d]? = (rowCells vs)[i * 3 + d]? := fun d => by
      rw [e, List.getElem?_append_right (by simp; omega)]
      congr 1
      simp; omega
    exact ⟨(g 0).trans this.1, (g 1).trans this.2.1, (g 2).trans this.2.2⟩

theorem infoVV : (Try.prog.info? 23).map (fun i => (i.zero, i.size, i.bytes)) = some (some (.agg #[.int .i64 0, .int .i64 0, .string ⟨#[]⟩]), 3, 32) := by kernel_rfl
theorem rowCells_one (l : List Val) : ∀ u ∈ rowCells l, u.oneCell' = true := by
  intro u hu
  induction l with
  | nil => simp [rowCells] at hu
  | cons v l ih =>
    have e : rowCells (v :: l) = [.int .i64 v.k, .int .i64 v.n, .string v.s] ++ rowCells l := rfl
    rw [e, List.mem_append] at hu
    rcases hu with hu | hu
    · simp at hu; rcases hu with rfl | rfl | rfl <;> rfl
    · exact ih hu
theorem rowCells_ln (l : List Val) : (rowCells l).length = l.length * 3 := by
  induction l with
  | nil => rfl
  | cons v l ih =>
    have e : rowCells (v :: l) = [.int .i64 v.k, .int .i64 v.n, .string v.s] ++ rowCells l := rfl
    rw [e, List.length_append, ih]; simp; omega
theorem rowCells_get {l : List Val} {j : Nat} {u : Value} (h : (rowCells l)[j]? = some u) : ∃ i, ∃ hi : i < l.length, (j = i * 3 ∧ u = .int .i64 (l[i]).k) ∨ (j = i * 3 + 1 ∧ u = .int .i64 (l[i]).n) ∨ (j = i * 3 + 2 ∧ u = .string (l[i]).s) := by
  have hj : j < l.length * 3 := by rw [← rowCells_ln]; exact (List.getElem?_eq_some_iff.1 h).1
  have hi : j / 3 < l.length := by omega
  obtain ⟨h0, h1, h2⟩ := rowCells_at l (j / 3) hi
  refine ⟨j / 3, hi, ?_⟩
  rcases (show j = j / 3 * 3 ∨ j = j / 3 * 3 + 1 ∨ j = j / 3 * 3 + 2 by omega) with e | e | e
  · rw [e, h0] at h; exact .inl ⟨e, (Option.some.inj h).symm⟩
  · rw [e, h1] at h; exact .inr (.inl ⟨e, (Option.some.inj h).symm⟩)
  · rw [e, h2] at h; exact .inr (.inr ⟨e, (Option.some.inj h).symm⟩)
/-- A row put into memory of one's own. -/
theorem app_row {w : World} {ops : Array Oper} {rest : List Oper} {o : Oper} {a : Act} {Q : Exit → Act → World → Prop} (hgd : o.guard = none) (s x : Operand)
    (ho : o.op = .call { callee := .builtin .append, args := #[s, x], argTypes := #[27, 27] })
    {v : Value} (hs : a.eval s = v) (base : Nat) (hown : w.ownsRow base 23 3 v 0 [])
    (ad : Option Addr) (m c : Nat) (hx : a.eval x = .slice ad m c) (L : List Val) (hm : L.length = m) (hnews : RowAt w ad L)
    (hlen : m ≤ 16000000) (hbase : base ≤ w.heap.size)
    (h : ∀ v' w', w'.ownsRow base 23 3 v' m (rowCells L) → w.grownBy w' v.ownBlock → wpList Try.prog ops Q rest (a.put o.dst v') w') : wpList Try.prog ops Q (o :: rest) a w := by
  refine wpList_plain hgd fun K hK => ?_
  obtain ⟨i0, hi, hz0, hz1, hz2⟩ := info_parts infoVV
  have hnil : ad = none → L = [] := fun e => by
    by_cases hL : L = []
    · exact hL
    · obtain ⟨b, off, e2, _⟩ := hnews hL
      rw [e] at e2; cases e2
  cases ad with
  | some ad =>
    obtain ⟨v', w', hr, h2, h3, h4, h5⟩ := run_append_own_at (P := Try.prog) w base 27 o.type 23 i0 (.agg #[.int .i64 0, .int .i64 0, .string ⟨#[]⟩]) 3 32 Try.underlying27 hi hz0 hz1 hz2 rfl (by decide) v 0 [] hown ad m c (rowCells L) (by rw [rowCells_ln]; omega)
      (fun j u hj => by
        obtain ⟨i, hi, hc⟩ := rowCells_get hj
        obtain ⟨b, off, e, hcell⟩ := hnews (fun e => by rw [e] at hi; exact absurd hi (by simp))
        cases e
        rw [WideShapes.add_plain]
        obtain ⟨q0, q1, q2⟩ := hcell i hi
        rcases hc with ⟨rfl, rfl⟩ | ⟨rfl, rfl⟩ | ⟨rfl, rfl⟩
        · exact q0
        · rw [← Nat.add_assoc]; exact q1
        · rw [← Nat.add_assoc]; exact q2) (rowCells_one L) (by unfold maxLen; omega) (by omega) hbase
    unfold Oper.wp execOp
    simp only [ho, resolve, invoke, builtin, Sem.run_bind, Sem.run_pure, Result.andThen_ok, List.map_toArray, List.map_cons, List.map_nil, hs, hx, hr]
    exact hK _ _ (h v' w' (by simpa using h2) h3)
  | none =>
    have hN := hnil rfl
    subst hN
    obtain rfl : m = 0 := by simpa using hm.symm
    obtain ⟨b, c', hv, hc'⟩ := own_shape11 hown
    have hr := run_append_nil11 (P := Try.prog) w 27 o.type 23 i0 Try.underlying27 hi b 0 c' c hc'
    rw [← hv] at hr
    unfold Oper.wp execOp
    simp only [ho, resolve, invoke, builtin, Sem.run_bind, Sem.run_pure, Result.andThen_ok, List.map_toArray, List.map_cons, List.map_nil, hs, hx, hr]
    exact hK _ _ (h v w (by simpa [rowCells] using hown) ⟨rfl, rfl, rfl, Nat.le_refl _, fun _ _ _ => rfl⟩)
/-- A row in a block of one's own, from its beginning on. -/
structure OwnV (w : World) (g : Nat) (O : List Val) : Prop where
  out : VarB w g (rowCells O)
theorem OwnV.row {w : World} {g : Nat} {O : List Val} (h : OwnV w g O) : RowAt w (some ⟨g, 0, none⟩) O := fun _ => ⟨g, 0, rfl, fun i hi => by
  obtain ⟨h0, h1, h2⟩ := rowCells_at O i hi
  rw [Nat.zero_add]
  exact ⟨h.out.cell _ h0, h.out.cell _ h1, h.out.cell _ h2⟩⟩
theorem varB_own {w : World} {base n k : Nat} {e : TypeId} {v : Value} {xs : List Value} (h : w.ownsRow base e k v n xs) {g : Nat} (hg : v.ownBlock = some g) : VarB w g xs := by
  have h0 := h
  obtain ⟨hl, hcase⟩ := h
  rcases hcase with ⟨rfl, _⟩ | ⟨g', cap, cur, rfl, _, hh, hn, _, hsz, ht⟩
  · cases hg
  · cases hg
    have hc := h0.cells (g := g') rfl
    refine ⟨fun j u hj => ?_, fun j hj => ⟨?_, by simp [World.frozen?, hh]⟩, (Array.getElem?_eq_some_iff.1 hh).1⟩
    · have := hc j u hj; rwa [WideShapes.add_plain] at this
    · have := hc j _ (List.getElem?_eq_getElem hj); rw [WideShapes.add_plain] at this; rw [this]; rfl
theorem rowCells_set {O : List Val} {i : Nat} {x : Val} (hi : i < O.length) (j : Nat) : (rowCells (O.set i x))[j]? = if j = i * 3 then some (.int .i64 x.k) else if j = i * 3 + 1 then some (.int .i64 x.n) else if j = i * 3 + 2 then some (.string x.s) else (rowCells O)[j]? := by
  by_cases hj : j < O.length * 3
  · have hk : j / 3 < O.length := by omega
    have hk' : j / 3 < (O.set i x).length := by simpa using hk
    obtain ⟨a0, a1, a2⟩ := rowCells_at (O.set i x) (j / 3) hk'
    obtain ⟨b0, b1, b2⟩ := rowCells_at O (j / 3) hk
    rcases (show j = j / 3 * 3 ∨ j = j / 3 * 3 + 1 ∨ j = j / 3 * 3 + 2 by omega) with e | e | e
    all_goals
      by_cases hij : j / 3 = i
      · have hji := e
        rw [hij] at hji
        simp only [List.getElem_set, hij, if_true] at a0 a1 a2
        first
          | (rw [hji, a0, if_pos rfl])
          | (rw [hji, a1, if_neg (by omega), if_pos rfl])
          | (rw [hji, a2, if_neg (by omega), if_neg (by omega), if_pos rfl])
      · have hne : ¬ i = j / 3 := fun e => hij e.symm
        simp only [List.getElem_set, hne, if_false] at a0 a1 a2
        rw [if_neg (by omega), if_neg (by omega), if_neg (by omega)]
        first
          | (rw [e, a0, b0])
          | (rw [e, a1, b1])
          | (rw [e, a2, b2])
  · rw [List.getElem?_eq_none (by rw [rowCells_ln, List.length_set]; omega), if_neg (by omega), if_neg (by omega), if_neg (by omega), List.getElem?_eq_none (by rw [rowCells_ln]; omega)]
theorem OwnV.set {w : World} {g : Nat} {O : List Val} (h : OwnV w g O) {i : Nat} (hi : i < O.length) (x : Val) : OwnV (w.setCells g (i * 3) [.int .i64 x.k, .int .i64 x.n, .string x.s]) g (O.set i x) := by
  have hl := rowCells_ln O
  have ht : ∀ j, j < (rowCells O).length → (w.cell? ⟨g, 0 + j, none⟩).isSome = true ∧ w.frozen? ⟨g, 0 + j, none⟩ = false := h.out.there
  have hth : w.there g (i * 3) [Value.int .i64 x.k, .int .i64 x.n, .string x.s].length := fun j hj => by
    have := ht (i * 3 + j) (by simp at hj; omega)
    rwa [Nat.zero_add] at this
  have hs := World.rangeAt_setCells_same w g (i * 3) [Value.int .i64 x.k, .int .i64 x.n, .string x.s] hth
  refine ⟨⟨fun j v hv => ?_, fun j hj => ?_, by rw [size_setCells]; exact h.out.lt⟩⟩
  · rw [rowCells_set hi] at hv
    split at hv
    · rename_i e; subst e; cases hv; have := hs 0 _ rfl; rw [Nat.zero_add]; exact this
    split at hv
    · rename_i e; subst e; cases hv; have := hs 1 _ rfl; rw [Nat.zero_add]; exact this
    split at hv
    · rename_i e; subst e; cases hv; have := hs 2 _ rfl; rw [Nat.zero_add]; exact this
    · rename_i h0 h1 h2
      have hc : w.cell? ⟨g, 0 + j, none⟩ = some v := h.out.at_ j v hv
      rcases Nat.lt_or_ge j (i * 3) with hlt | hge
      · have := World.rangeAt_setCells_apart (w := w) (b' := g) (o' := j) (cs := [v]) (fun q u hq => by
          cases q with
          | zero => cases hq; rw [Nat.zero_add] at hc; exact hc
          | succ q => simp at hq) g (i * 3) [Value.int .i64 x.k, .int .i64 x.n, .string x.s] (.inr (.inl (by simp; omega)))
        have := this 0 v rfl
        rw [Nat.zero_add]; simpa using this
      · have := World.rangeAt_setCells_apart (w := w) (b' := g) (o' := j) (cs := [v]) (fun q u hq => by
          cases q with
          | zero => cases hq; rw [Nat.zero_add] at hc; exact hc
          | succ q => simp at hq) g (i * 3) [Value.int .i64 x.k, .int .i64 x.n, .string x.s] (.inr (.inr (by simp; omega)))
        have := this 0 v rfl
        rw [Nat.zero_add]; simpa using this
  · rw [rowCells_ln, List.length_set, ← rowCells_ln] at hj
    exact World.there_setCells (w := w) (b' := g) (o' := 0) h.out.there g (i * 3) _ j hj
end Go.Proofs.Ytolcebbpbihnoaa
