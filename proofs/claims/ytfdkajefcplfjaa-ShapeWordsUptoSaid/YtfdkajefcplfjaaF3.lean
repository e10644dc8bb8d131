/- Several of my texts laid together, each as it was: Yt. Conditions: each names its own. -/
import Derived.Test.YtfdkajefcplfjaaF2
import Derived.Laws.OwnMore
import Derived.Lib.Walk
/- What the reference's Union needs: numbers rising with one more; appends of numbers to a row of one's own; a list's beginning and its end. Nothing of any program here but the types. Conditions: each names its own. -/
namespace Go.Proofs.Ytfdkajefcplfjaa
open Go.RowKit

theorem rise_same {F G : List Int} (h : ∀ x, x ∈ F ↔ x ∈ G) : rise F = rise G :=
  lt_same _ _ (rise_lt F) (rise_lt G) (fun x => by rw [mem_rise, mem_rise, h])
theorem rise_nil : rise [] = [] := List.length_eq_zero_iff.1 (by have := rise_len []; simpa using this)
theorem rise_has {F : List Int} {x : Int} (h : x ∈ rise F) : rise (F ++ [x]) = rise F := rise_same fun y => by
  rw [List.mem_append, List.mem_singleton]
  constructor
  · rintro (h1 | rfl)
    · exact h1
    · exact (mem_rise F y).1 h
  · exact .inl
theorem rise_ins {F : List Int} {x : Int} (k : Nat) (hk : k ≤ (rise F).length) (hlo : ∀ j (h : j < (rise F).length), j < k → (rise F)[j] < x) (hhi : ∀ (h : k < (rise F).length), x < (rise F)[k]) :
    rise (F ++ [x]) = (rise F).take k ++ ([x] ++ (rise F).drop k) := by
  have hp := rise_lt F
  refine lt_same _ _ (rise_lt _) ?_ (fun y => ?_)
  · have hd : ∀ y ∈ (rise F).drop k, x < y := fun y hy => by
      obtain ⟨j, hj, rfl⟩ := List.mem_iff_getElem.1 hy
      rw [List.length_drop] at hj
      rw [List.getElem_drop]
      have h1 := hhi (by omega)
      rcases Nat.eq_zero_or_pos j with h0 | h0
      · subst h0; simpa using h1
      · have := List.pairwise_iff_getElem.1 hp k (k + j) (by omega) (by omega) (by omega)
        omega
    have ht : ∀ y ∈ (rise F).take k, y < x := fun y hy => by
      obtain ⟨j, hj, rfl⟩ := List.mem_iff_getElem.1 hy
      rw [List.length_take] at hj
      rw [List.getElem_take]
      exact hlo j (by omega) (by omega)
    refine List.pairwise_append.2 ⟨hp.sublist (List.take_sublist _ _), ?_, fun a ha b hb => ?_⟩
    · exact List.pairwise_cons.2 ⟨hd, hp.sublist (List.drop_sublist _ _)⟩
    · rcases List.mem_cons.1 hb with rfl | hb
      · exact ht a ha
      · have := ht a ha; have := hd b hb; omega
  · rw [mem_rise, List.mem_append, List.mem_singleton, List.mem_append, List.mem_append, List.mem_singleton, ← mem_rise]
    conv => lhs; rw [← List.take_append_drop k (rise F), List.mem_append]
    constructor
    · rintro ((h | h) | h)
      · exact .inl h
      · exact .inr (.inr h)
      · exact .inr (.inl h)
    · rintro (h | h | h)
      · exact .inl (.inl h)
      · exact .inr h
      · exact .inl (.inr h)

theorem run_append_nil11 {P : Program} (w : World) (t ty e : TypeId) (i : TypeInfo) (ht : P.underlying t = some (.slice e)) (hi : P.info? e = some i) (b : Option Addr) (n c c' : Nat) (hn : n ≤ c) :
    (Builtin.append_ #[t, t] ty #[.slice b n c, .slice none 0 c']).run P w = .ok (.slice b n c) w := by
  cases b <;> simp [Builtin.append_, run_underlying ht, sizeOf, typeInfo, hi, Builtin.lenOf, Builtin.firstCells, storeCells, hn]
theorem own_shape11 {w : World} {base n k : Nat} {e : TypeId} {v : Value} {xs : List Value} (h : w.ownsRow base e k v n xs) : ∃ a c, v = .slice a n c ∧ n ≤ c := by
  rcases h.2 with ⟨rfl, rfl⟩ | ⟨g, cap, cur, rfl, _, _, h1, _⟩
  · exact ⟨_, _, rfl, Nat.le_refl _⟩
  · exact ⟨_, _, rfl, h1⟩
/-- An append of numbers to a row of one's own. -/
theorem app_wp {w : World} {o : Oper} {a : Act} {K : Act → World → Prop} {Q : Exit → Act → World → Prop} (s x : Operand)
    (ho : o.op = .call { callee := .builtin .append, args := #[s, x], argTypes := #[29, 29] })
    {v : Value} (hs : a.eval s = v) (base n : Nat) (xs : List Value) (hown : w.ownsRow base 3 1 v n xs)
    (ad : Option Addr) (m c : Nat) (hx : a.eval x = .slice ad m c) (L : List Int) (hm : L.length = m) (hnews : IntsAt w ad L)
    (hlen : n + m ≤ 16000000) (hbase : base ≤ w.heap.size)
    (h : ∀ v' w', w'.ownsRow base 3 1 v' (n + m) (xs ++ ints L) → w.grownBy w' v.ownBlock → (v'.ownBlock = v.ownBlock ∨ v'.ownBlock = some w.heap.size) → K (a.put o.dst v') w') : Oper.wp Try.prog o a w K Q := by
  obtain ⟨i0, hi, hz0, hz1, hz2⟩ := info_parts infoI
  have h1 : ∀ u ∈ ints L, u.oneCell' = true := fun u hu => by
    obtain ⟨y, _, rfl⟩ := List.mem_map.1 hu; rfl
  have hnil : ad = none → L = [] := fun e => by
    by_cases hL : L = []
    · exact hL
    · obtain ⟨b, off, e2, _⟩ := hnews hL
      rw [e] at e2; cases e2
  cases ad with
  | some ad =>
    obtain ⟨v', w', hr, h2, h3, h4, h5⟩ := run_append_own_at (P := Try.prog) w base 29 o.type 3 i0 (.int .i64 0) 1 8 Try.underlying29 hi hz0 hz1 hz2 rfl (by decide) v n xs hown ad m c (ints L) (by rw [ints_len]; omega)
      (fun j u hj => by
        have hL : L ≠ [] := fun e => by rw [e] at hj; simp [ints] at hj
        obtain ⟨b, off, e, hc⟩ := hnews hL
        cases e
        rw [WideShapes.add_plain]
        have hj' : j < L.length := by rw [← ints_len]; exact (List.getElem?_eq_some_iff.1 hj).1
        rw [hc j hj']
        simp [ints, hj'] at hj ⊢
        exact hj) h1 (by unfold maxLen; omega) (by omega) hbase
    unfold Oper.wp execOp
    simp only [ho, resolve, invoke, builtin, Sem.run_bind, Sem.run_pure, Result.andThen_ok, List.map_toArray, List.map_cons, List.map_nil, hs, hx, hr]
    exact h v' w' h2 h3 h5
  | none =>
    have hN := hnil rfl
    subst hN
    obtain rfl : m = 0 := by simpa using hm.symm
    obtain ⟨b, c', hv, hc'⟩ := own_shape11 hown
    have hr := run_append_nil11 (P := Try.prog) w 29 o.type 3 i0 Try.underlying29 hi b n c' c hc'
    rw [← hv] at hr
    unfold Oper.wp execOp
    simp only [ho, resolve, invoke, builtin, Sem.run_bind, Sem.run_pure, Result.andThen_ok, List.map_toArray, List.map_cons, List.map_nil, hs, hx, hr]
    exact h v w (by simpa [ints] using hown) ⟨rfl, rfl, rfl, Nat.le_refl _, fun _ _ _ => rfl⟩ (.inl rfl)
theorem app_list {w : World} {ops : Array Oper} {rest : List Oper} {o : Oper} {a : Act} {Q : Exit → Act → World → Prop} (hgd : o.guard = none) (s x : Operand)
    (ho : o.op = .call { callee := .builtin .append, args := #[s, x], argTypes := #[29, 29] })
    {v : Value} (hs : a.eval s = v) (base n : Nat) (xs : List Value) (hown : w.ownsRow base 3 1 v n xs)
    (ad : Option Addr) (m c : Nat) (hx : a.eval x = .slice ad m c) (L : List Int) (hm : L.length = m) (hnews : IntsAt w ad L)
    (hlen : n + m ≤ 16000000) (hbase : base ≤ w.heap.size)
    (h : ∀ v' w', w'.ownsRow base 3 1 v' (n + m) (xs ++ ints L) → w.grownBy w' v.ownBlock → (v'.ownBlock = v.ownBlock ∨ v'.ownBlock = some w.heap.size) → wpList Try.prog ops Q rest (a.put o.dst v') w') : wpList Try.prog ops Q (o :: rest) a w :=
  wpList_plain hgd fun _ hK => app_wp s x ho hs base n xs hown ad m c hx L hm hnews hlen hbase fun v' w' h1 h2 h3 => hK _ _ (h v' w' h1 h2 h3)
theorem app_if {w : World} {ops : Array Oper} {o : Oper} {a : Act} {K : Act → World → Prop} {Q : Exit → Act → World → Prop} {X : Prop} (hgd : o.guard = none) (s x : Operand)
    (ho : o.op = .call { callee := .builtin .append, args := #[s, x], argTypes := #[29, 29] })
    {v : Value} (hs : a.eval s = v) (base n : Nat) (xs : List Value) (hown : w.ownsRow base 3 1 v n xs)
    (ad : Option Addr) (m c : Nat) (hx : a.eval x = .slice ad m c) (L : List Int) (hm : L.length = m) (hnews : IntsAt w ad L)
    (hlen : n + m ≤ 16000000) (hbase : base ≤ w.heap.size)
    (h : ∀ v' w', w'.ownsRow base 3 1 v' (n + m) (xs ++ ints L) → w.grownBy w' v.ownBlock → (v'.ownBlock = v.ownBlock ∨ v'.ownBlock = some w.heap.size) → K (a.put o.dst v') w') : if Region.wanted o (yielded ops a.tmps) = true then Oper.wp Try.prog o a w K Q else X := by
  rw [if_pos (by simp [Region.wanted, hgd])]
  exact app_wp s x ho hs base n xs hown ad m c hx L hm hnews hlen hbase h
theorem made11 (W : World) (base : Nat) (hb : base ≤ W.heap.size) : (W.alloc (.cells #[] 3)).ownsRow base 3 1 (.slice (some ⟨W.heap.size, 0, none⟩) 0 0) 0 (ints []) := World.ownsRow_made W #[] 0 hb (by unfold maxLen; omega) rfl
theorem ints_app (a b : List Int) : ints (a ++ b) = ints a ++ ints b := by simp [ints]
theorem IntsAt.nil (w : World) (a : Option Addr) : IntsAt w a [] := fun h => absurd rfl h
/-- A list's beginning, and its end, as the slice expressions tell them. -/
theorem head_at {w : World} {a : Option Addr} {l : List Int} (k : Nat) (h : IntsAt w a l) : IntsAt w a (l.take k) := fun hne => by
  obtain ⟨b, off, e, hc⟩ := h (fun e => hne (by simp [e]))
  exact ⟨b, off, e, fun i hi => by
    have hi' : i < l.length := by rw [List.length_take] at hi; omega
    rw [hc i hi', List.getElem_take]⟩
theorem tail_at {w : World} {a : Option Addr} {l : List Int} (k : Nat) (h : IntsAt w a l) : IntsAt w (a.map (·.add (k * 1))) (l.drop k) := fun hne => by
  obtain ⟨b, off, rfl, hc⟩ := h (fun e => hne (by simp [e]))
  refine ⟨b, off + k, by simp [WideShapes.add_plain], fun i hi => ?_⟩
  have hi' : k + i < l.length := by rw [List.length_drop] at hi; omega
  rw [Nat.add_assoc, hc (k + i) hi', List.getElem_drop]
theorem tail_here {w : World} {a : Option Addr} {l : List Int} (k : Nat) (h : l.length ≤ k) : IntsAt w a (l.drop k) := fun hne => absurd (List.drop_eq_nil_of_le h) hne
set_option maxRecDepth 1000000 in
theorem slice_lo (a : Option Addr) (n c k : Nat) (hk : k ≤ n) (hc : n ≤ c) (_hn : n ≤ 16000000) (W : World) :
    (Instr.slice 29 (.slice a n c) none (some (.int .i64 k)) none).run Try.prog W = .ok (.slice a k c) W := by
  rw [run_slice_h W 29 a n c Try.underlying29 .i64 k (by omega) (by omega)]
  simp [go_sem, Result.andThen, sliced]
set_option maxRecDepth 1000000 in
theorem slice_hi (a : Option Addr) (l : List Int) (n c k : Nat) (hl : l.length = n) (hk : k ≤ n) (hc : n ≤ c) (_hn : n ≤ 16000000) :
    ∃ a1 c1, (∀ W : World, (Instr.slice 29 (.slice a n c) (some (.int .i64 k)) none none).run Try.prog W = .ok (.slice a1 (n - k) c1) W) ∧ ∀ W, IntsAt W a l → IntsAt W a1 (l.drop k) := by
  refine ⟨if c = k then a else a.map (·.add (k * 1)), c - k, fun W => ?_, fun W h => ?_⟩
  · rw [run_slice_l W 29 a n c Try.underlying29 .i64 k (by omega) (by omega)]
    simp [go_sem, Result.andThen, sliced]
  · split
    · exact tail_here k (by omega)
    · exact tail_at k h
/-- A list of numbers that lies somewhere, as a slice has it. -/
structure IL (w : World) (v : Value) (L : List Int) : Prop where
  out : ∃ a c, v = .slice a L.length c ∧ L.length ≤ c ∧ IntsAt w a L
theorem IL.later {w w' : World} {v : Value} {L : List Int} (h : IL w v L) (hb : Below w.heap.size w w') : IL w' v L := by
  obtain ⟨a, c, e, hc, hI⟩ := h.out
  exact ⟨a, c, e, hc, hI.later hb⟩
theorem IL.nil (w : World) : IL w (.slice none 0 0) [] := ⟨none, 0, rfl, Nat.le_refl _, IntsAt.nil _ _⟩
theorem IL.own {B n : Nat} {w : World} {v : Value} {l : List Int} (h : w.ownsRow B 3 1 v n (ints l)) (hn : l.length = n) : IL w v l := ⟨ints_owned h hn⟩
theorem below_drewN {n k : Nat} {x w : World} (h : Below n x w) : Below n x (w.drewN k) := ⟨h.os, h.tape, h.output, h.size, h.block⟩
end Go.Proofs.Ytfdkajefcplfjaa
