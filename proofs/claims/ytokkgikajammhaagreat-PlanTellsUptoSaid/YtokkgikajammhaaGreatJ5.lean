/- Several of my texts laid together, each as it was: Yt, Yu. Conditions: each names its own. -/
import Derived.Test.YtokkgikajammhaaGreatJ4
import Derived.Laws.OwnMore
import Derived.Lib.Walk
import Derived.Test.YtokkgikajammhaaGreatH7
/- What the reference's Union needs: numbers rising with one more; appends of numbers to a row of one's own; a list's beginning and its end. Nothing of any program here but the types. Conditions: each names its own. -/
namespace Go.Proofs.YtokkgikajammhaaGreat
open Go.RowKit

theorem rise_same {F G : List Int} (h : ∀ x, x ∈ F ↔ x ∈ G) : rise F = rise G :=
  lt_same _ _ (rise_lt F) (rise_lt G) (fun x => by rw [mem_rise, mem_rise, h])
theorem rise_nil : rise [] = [] := List.length_eq_zero_iff.1 (by have := rise_len []; simpa using this)
theorem rise_has {F : List Int} {x : Int} (h : x ∈ rise F) : rise (F ++ [x]) = rise F := rise_same fun y => by
  rw [List.mem_append, List.mem_singleton]
  constructor
  · rintro (h1 | rfl)
    · exact h1
    · exact (mem_rise F y).1 h
  · exact .inl
theorem rise_ins {F : List Int} {x : Int} (k : Nat) (hk : k ≤ (rise F).length) (hlo : ∀ j (h : j < (rise F).length), j < k → (rise F)[j] < x) (hhi : ∀ (h : k < (rise F).length), x < (rise F)[k]) :
    rise (F ++ [x]) = (rise F).take k ++ ([x] ++ (rise F).drop k) := by
  have hp := rise_lt F
  refine lt_same _ _ (rise_lt _) ?_ (fun y => ?_)
  · have hd : ∀ y ∈ (rise F).drop k, x < y := fun y hy => by
      obtain ⟨j, hj, rfl⟩ := List.mem_iff_getElem.1 hy
      rw [List.length_drop] at hj
      rw [List.getElem_drop]
      have h1 := hhi (by omega)
      rcases Nat.eq_zero_or_pos j with h0 | h0
      · subst h0; simpa using h1
      · have := List.pairwise_iff_getElem.1 hp k (k + j) (by omega) (by omega) (by omega)
        omega
    have ht : ∀ y ∈ (rise F).take k, y < x := fun y hy => by
      obtain ⟨j, hj, rfl⟩ := List.mem_iff_getElem.1 hy
      rw [List.length_take] at hj
      rw [List.getElem_take]
      exact hlo j (by omega) (by omega)
    refine List.pairwise_append.2 ⟨hp.sublist (List.take_sublist _ _), ?_, fun a ha b hb => ?_⟩
    · exact List.pairwise_cons.2 ⟨hd, hp.sublist (List.drop_sublist _ _)⟩
    · rcases List.mem_cons.1 hb with rfl | hb
      · exact ht a ha
      · have := ht a ha; have := hd b hb; omega
  · rw [mem_rise, List.mem_append, List.mem_singleton, List.mem_append, List.mem_append, List.mem_singleton, ← mem_rise]
    conv => lhs; rw [← List.take_append_drop k (rise F), List.mem_append]
    constructor
    · rintro ((h | h) | h)
      · exact .inl h
      · exact .inr (.inr h)
      · exact .inr (.inl h)
    · rintro (h | h | h)
      · exact .inl (.inl h)
      · exact .inr h
      · exact .inl (.inr h)

theorem run_append_nil11 {P : Program} (w : World) (t ty e : TypeId) (i : TypeInfo) (ht : P.underlying t = some (.slice e)) (hi : P.info? e = some i) (b : Option Addr) (n c c' : Nat) (hn : n ≤ c) :
    (Builtin.append_ #[t, t] ty #[.slice b n c, .slice none 0 c']).run P w = .ok (.slice b n c) w := by
  cases b <;> simp [Builtin.append_, run_underlying ht, sizeOf, typeInfo, hi, Builtin.lenOf, Builtin.firstCells, storeCells, hn]
theorem own_shape11 {w : World} {base n k : Nat} {e : TypeId} {v : Value} {xs : List Value} (h : w.ownsRow base e k v n xs) : ∃ a c, v = .slice a n c ∧ n ≤ c := by
  rcases h.2 with ⟨rfl, rfl⟩ | ⟨g, cap, cur, rfl, _, _, h1, _⟩
  · exact ⟨_, _, rfl, Nat.le_refl _⟩
  · exact ⟨_, _, rfl, h1⟩
/-- An append of numbers to a row of one's own. -/
theorem app_wp {w : World} {o : Oper} {a : Act} {K : Act → World → Prop} {Q : Exit → Act → World → Prop} (s x : Operand)
    (ho : o.op = .call { callee := .builtin .append, args := #[s, x], argTypes := #[33, 33] })
    {v : Value} (hs : a.eval s = v) (base n : Nat) (xs : List Value) (hown : w.ownsRow base 3 1 v n xs)
    (ad : Option Addr) (m c : Nat) (hx : a.eval x = .slice ad m c) (L : List Int) (hm : L.length = m) (hnews : IntsAt w ad L)
    (hlen : n + m ≤ 16000000) (hbase : base ≤ w.heap.size)
    (h : ∀ v' w', w'.ownsRow base 3 1 v' (n + m) (xs ++ ints L) → w.grownBy w' v.ownBlock → (v'.ownBlock = v.ownBlock ∨ v'.ownBlock = some w.heap.size) → K (a.put o.dst v') w') : Oper.wp Tryz.prog o a w K Q := by
  obtain ⟨i0, hi, hz0, hz1, hz2⟩ := info_parts infoI
  have h1 : ∀ u ∈ ints L, u.oneCell' = true := fun u hu => by
    obtain ⟨y, _, rfl⟩ := List.mem_map.1 hu; rfl
  have hnil : ad = none → L = [] := fun e => by
    by_cases hL : L = []
    · exact hL
    · obtain ⟨b, off, e2, _⟩ := hnews hL
      rw [e] at e2; cases e2
  cases ad with
  | some ad =>
    obtain ⟨v', w', hr, h2, h3, h4, h5⟩ := run_append_own_at (P := Tryz.prog) w base 33 o.type 3 i0 (.int .i64 0) 1 8 Tryz.underlying33 hi hz0 hz1 hz2 rfl (by decide) v n xs hown ad m c (ints L) (by rw [ints_len]; omega)
      (fun j u hj => by
        have hL : L ≠ [] := fun e => by rw [e] at hj; simp [ints] at hj
        obtain ⟨b, off, e, hc⟩ := hnews hL
        cases e
        rw [WideShapes.add_plain]
        have hj' : j < L.length := by rw [← ints_len]; exact (List.getElem?_eq_some_iff.1 hj).1
        rw [hc j hj']
        simp [ints, hj'] at hj ⊢
        exact hj) h1 (by unfold maxLen; omega) (by omega) hbase
    unfold Oper.wp execOp
    simp only [ho, resolve, invoke, builtin, Sem.run_bind, Sem.run_pure, Result.andThen_ok, List.map_toArray, List.map_cons, List.map_nil, hs, hx, hr]
    exact h v' w' h2 h3 h5
  | none =>
    have hN := hnil rfl
    subst hN
    obtain rfl : m = 0 := by simpa using hm.symm
    obtain ⟨b, c', hv, hc'⟩ := own_shape11 hown
    have hr := run_append_nil11 (P := Tryz.prog) w 33 o.type 3 i0 Tryz.underlying33 hi b n c' c hc'
    rw [← hv] at hr
    unfold Oper.wp execOp
    simp only [ho, resolve, invoke, builtin, Sem.run_bind, Sem.run_pure, Result.andThen_ok, List.map_toArray, List.map_cons, List.map_nil, hs, hx, hr]
    exact h v w (by simpa [ints] using hown) ⟨rfl, rfl, rfl, Nat.le_refl _, fun _ _ _ => rfl⟩ (.inl rfl)
theorem app_list {w : World} {ops : Array Oper} {rest : List Oper} {o : Oper} {a : Act} {Q : Exit → Act → World → Prop} (hgd : o.guard = none) (s x : Operand)
    (ho : o.op = .call { callee := .builtin .append, args := #[s, x], argTypes := #[33, 33] })
    {v : Value} (hs : a.eval s = v) (base n : Nat) (xs : List Value) (hown : w.ownsRow base 3 1 v n xs)
    (ad : Option Addr) (m c : Nat) (hx : a.eval x = .slice ad m c) (L : List Int) (hm : L.length = m) (hnews : IntsAt w ad L)
    (hlen : n + m ≤ 16000000) (hbase : base ≤ w.heap.size)
    (h : ∀ v' w', w'.ownsRow base 3 1 v' (n + m) (xs ++ ints L) → w.grownBy w' v.ownBlock → (v'.ownBlock = v.ownBlock ∨ v'.ownBlock = some w.heap.size) → wpList Tryz.prog ops Q rest (a.put o.dst v') w') : wpList Tryz.prog ops Q (o :: rest) a w :=
  wpList_plain hgd fun _ hK => app_wp s x ho hs base n xs hown ad m c hx L hm hnews hlen hbase fun v' w' h1 h2 h3 => hK _ _ (h v' w' h1 h2 h3)
theorem app_if {w : World} {ops : Array Oper} {o : Oper} {a : Act} {K : Act → World → Prop} {Q : Exit → Act → World → Prop} {X : Prop} (hgd : o.guard = none) (s x : Operand)
    (ho : o.op = .call { callee := .builtin .append, args := #[s, x], argTypes := #[33, 33] })
    {v : Value} (hs : a.eval s = v) (base n : Nat) (xs : List Value) (hown : w.ownsRow base 3 1 v n xs)
    (ad : Option Addr) (m c : Nat) (hx : a.eval x = .slice ad m c) (L : List Int) (hm : L.length = m) (hnews : IntsAt w ad L)
    (hlen : n + m ≤ 16000000) (hbase : base ≤ w.heap.size)
    (h : ∀ v' w', w'.ownsRow base 3 1 v' (n + m) (xs ++ ints L) → w.grownBy w' v.ownBlock → (v'.ownBlock = v.ownBlock ∨ v'.ownBlock = some w.heap.size) → K (a.put o.dst v') w') : if Region.wanted o (yielded ops a.tmps) = true then Oper.wp Tryz.prog o a w K Q else X := by
  rw [if_pos (by simp [Region.wanted, hgd])]
  exact app_wp s x ho hs base n xs hown ad m c hx L hm hnews hlen hbase h
theorem made11 (W : World) (base : Nat) (hb : base ≤ W.heap.size) : (W.alloc (.cells #[] 3)).ownsRow base 3 1 (.slice (some ⟨W.heap.size, 0, none⟩) 0 0) 0 (ints []) := World.ownsRow_made W #[] 0 hb (by unfold maxLen; omega) rfl
theorem ints_app (a b : List Int) : ints (a ++ b) = ints a ++ ints b := by simp [ints]
theorem IntsAt.nil (w : World) (a : Option Addr) : IntsAt w a [] := fun h => absurd rfl h
/-- A list's beginning, and its end, as the slice expressions tell them. -/
theorem head_at {w : World} {a : Option Addr} {l : List Int} (k : Nat) (h : IntsAt w a l) : IntsAt w a (l.take k) := fun hne => by
  obtain ⟨b, off, e, hc⟩ := h (fun e => hne (by simp [e]))
  exact ⟨b, off, e, fun i hi => by
    have hi' : i < l.length := by rw [List.length_take] at hi; omega
    rw [hc i hi', List.getElem_take]⟩
theorem tail_at {w : World} {a : Option Addr} {l : List Int} (k : Nat) (h : IntsAt w a l) : IntsAt w (a.map (·.add (k * 1))) (l.drop k) := fun hne => by
  obtain ⟨b, off, rfl, hc⟩ := h (fun e => hne (by simp [e]))
  refine ⟨b, off + k, by simp [WideShapes.add_plain], fun i hi => ?_⟩
  have hi' : k + i < l.length := by rw [List.length_drop] at hi; omega
  rw [Nat.add_assoc, hc (k + i) hi', List.getElem_drop]
theorem tail_here {w : World} {a : Option Addr} {l : List Int} (k : Nat) (h : l.length ≤ k) : IntsAt w a (l.drop k) := fun hne => absurd (List.drop_eq_nil_of_le h) hne
set_option maxRecDepth 1000000 in
theorem slice_lo (a : Option Addr) (n c k : Nat) (hk : k ≤ n) (hc : n ≤ c) (_hn : n ≤ 16000000) (W : World) :
    (Instr.slice 33 (.slice a n c) none (some (.int .i64 k)) none).run Tryz.prog W = .ok (.slice a k c) W := by
  rw [run_slice_h W 33 a n c Tryz.underlying33 .i64 k (by omega) (by omega)]
  simp [go_sem, Result.andThen, sliced]
set_option maxRecDepth 1000000 in
theorem slice_hi (a : Option Addr) (l : List Int) (n c k : Nat) (hl : l.length = n) (hk : k ≤ n) (hc : n ≤ c) (_hn : n ≤ 16000000) :
    ∃ a1 c1, (∀ W : World, (Instr.slice 33 (.slice a n c) (some (.int .i64 k)) none none).run Tryz.prog W = .ok (.slice a1 (n - k) c1) W) ∧ ∀ W, IntsAt W a l → IntsAt W a1 (l.drop k) := by
  refine ⟨if c = k then a else a.map (·.add (k * 1)), c - k, fun W => ?_, fun W h => ?_⟩
  · rw [run_slice_l W 33 a n c Tryz.underlying33 .i64 k (by omega) (by omega)]
    simp [go_sem, Result.andThen, sliced]
  · split
    · exact tail_here k (by omega)
    · exact tail_at k h
/-- A list of numbers that lies somewhere, as a slice has it. -/
structure IL (w : World) (v : Value) (L : List Int) : Prop where
  out : ∃ a c, v = .slice a L.length c ∧ L.length ≤ c ∧ IntsAt w a L
theorem IL.later {w w' : World} {v : Value} {L : List Int} (h : IL w v L) (hb : Below w.heap.size w w') : IL w' v L := by
  obtain ⟨a, c, e, hc, hI⟩ := h.out
  exact ⟨a, c, e, hc, hI.later hb⟩
theorem IL.nil (w : World) : IL w (.slice none 0 0) [] := ⟨none, 0, rfl, Nat.le_refl _, IntsAt.nil _ _⟩
theorem IL.own {B n : Nat} {w : World} {v : Value} {l : List Int} (h : w.ownsRow B 3 1 v n (ints l)) (hn : l.length = n) : IL w v l := ⟨ints_owned h hn⟩
theorem below_drewN {n k : Nat} {x w : World} (h : Below n x w) : Below n x (w.drewN k) := ⟨h.os, h.tape, h.output, h.size, h.block⟩
end Go.Proofs.YtokkgikajammhaaGreat

/- The reference's Union: a contract of the call, in whatever memory. Conditions: the lists' cells are known; they are not too long. -/
namespace Go.Proofs.YtokkgikajammhaaGreat
open Go.RowKit

set_option maxHeartbeats 16000000 in
set_option maxRecDepth 1000000 in
theorem union_any {aa ab : Option Addr} {ca cb : Nat} {A C : List Int} {w : World} (hA : IntsAt w aa A) (hC : IntsAt w ab C) (hs : A.length + C.length ≤ 8000000) :
    Calls Tryz.prog 104 #[.slice aa A.length ca, .slice ab C.length cb] w (ListAns w (rise (A ++ C))) := by
  have HA := hid0 hA
  have HC := hid0 hC
  clear hA hC
  have M0 := made11 w w.heap.size (Nat.le_refl _)
  have B0 : Below w.heap.size w (w.alloc (.cells #[] 3)) := (Below.refl _ _).alloc (Nat.le_refl _) _
  have hA0 := HA.out.later B0
  have M0 := hid0 M0
  have B0 := hid0 B0
  have hA0 := hid0 hA0
  go_enter Tryz.func104, Tryz.ntmps104
  go_wp2_with (at_builtin; refine app_list rfl _ _ rfl rfl w.heap.size 0 (ints []) M0.out aa A.length ca rfl A rfl hA0.out (by omega) (by simp) ?_)
  intro v1 w1 hO1 hg1 hat1
  (try rw [Nat.zero_add] at hO1)
  have hB1 : Below w.heap.size w w1 := B0.out.grown hg1 B0.out.size (fun k hk => (M0.out.lt k hk).1)
  have hC1 := HC.out.later hB1
  have hO1 := hid0 hO1
  have hB1 := hid0 hB1
  have hC1 := hid0 hC1
  clear hg1 hat1 M0 B0 hA0
  go_wp2_with (at_builtin; refine app_list rfl _ _ rfl rfl w.heap.size A.length (ints [] ++ ints A) hO1.out ab C.length cb rfl C rfl hC1.out (by omega) hB1.out.size ?_)
  intro v2 w2 hO2 hg2 hat2
  have hB2 : Below w.heap.size w w2 := hB1.out.grown hg2 hB1.out.size (fun k hk => (hO1.out.lt k hk).1)
  replace hO2 : w2.ownsRow w.heap.size 3 1 v2 (A.length + C.length) (ints (A ++ C)) := by have h := hO2; simpa [ints] using h
  obtain ⟨al, cl, rfl, hcl, hIL⟩ := (IL.own hO2 (by simp)).out
  have hlen : (A ++ C).length ≤ 8000000 := by rw [List.length_append]; omega
  obtain ⟨F, hFe⟩ : ∃ F, A ++ C = F := ⟨_, rfl⟩
  rw [hFe] at hIL hlen hcl ⊢
  have hFe := hid0 hFe
  obtain ⟨M, hM⟩ : ∃ M, F.length = M := ⟨_, rfl⟩
  rw [hM] at hlen hcl ⊢
  have HM := hid0 hM
  have HF := hid0 hIL
  have hB2 := hid0 hB2
  clear hg2 hat2 hO1 hB1 hC1 hIL hM hO2 HA HC
  go_wp2_with fail
  go_loopw [5, 7] (fun v iv wr => ∃ (i : Nat) (O : List Int), i ≤ M ∧ iv = .int .i64 i ∧ IL wr v (rise (F.take i)) ∧ Below w2.heap.size w2 wr) (fun _ iv _ => M - (intOf iv).toNat)
  case atStart => exact ⟨0, [], Nat.zero_le _, rfl, by rw [List.take_zero, rise_nil]; exact IL.nil _, Below.refl _ _⟩
  case round =>
    obtain ⟨i, O0, hi, rfl, hIO, hnx⟩ := hrel
    have hsz := hnx.size
    by_cases hlt : i < M
    · have hiF : i < F.length := by rw [HM.out]; exact hlt
      have hFt := hid0 (List.take_succ_eq_append_getElem hiF)
      obtain ⟨bl, ol, rfl, hcF⟩ := HF.out (fun e => by rw [e] at hiF; exact absurd hiF (by simp))
      have hxw := hcF i hiF
      have hRl : (rise (F.take i)).length ≤ i := by have := rise_len (F.take i); rw [List.length_take] at this; omega
      have R1 := fun (h : F[i] ∈ rise (F.take i)) => rise_has h
      have R2 := fun k => rise_ins (F := F.take i) (x := F[i]) k
      have HR1 := hid0 R1
      have HR2 := hid0 R2
      generalize F[i] = x at hxw hFt HR1 HR2
      obtain ⟨ao, cO, rfl, hcO, hIO⟩ := hIO.out
      generalize hO : rise (F.take i) = O at hIO hcO hRl HR1 HR2
      have hO := hid0 hO
      obtain ⟨N, hN⟩ : ∃ N, O.length = N := ⟨_, rfl⟩
      rw [hN] at hcO hRl ⊢
      have HN := hid0 hN
      have HIO := hid0 hIO
      have hxr := cell_later hnx hxw
      have hnxH := hid0 hnx
      clear hcF hxw hIO hN R1 R2
      go_wp2_with fail
      go_loopw [8] (fun kv wr2 => ∃ k : Nat, k ≤ N ∧ kv = .int .i64 k ∧ Below wr.heap.size wr wr2 ∧ Hid (∀ j (h : j < O.length), j < k → O[j] < x)) (fun kv _ => N - (intOf kv).toNat)
      case atStart => exact ⟨0, Nat.zero_le _, rfl, Below.refl _ _, hid0 (fun j _ h => absurd h (by omega))⟩
      case round =>
        obtain ⟨k, hk, rfl, hB3, hlo⟩ := hrel
        have hs3 := hB3.size
        have hx3 := cell_later hB3 hxr
        by_cases hkN : k < N
        · have hkO : k < O.length := by rw [HN.out]; exact hkN
          obtain ⟨bo, oo, rfl, hcO2⟩ := (HIO.out.later hB3) (fun e => by rw [e] at hkO; exact absurd hkO (by simp))
          have hyk := hcO2 k hkO
          have hhi := hid0 (fun (h : k < O.length) (hlt : x < O[k]) => hlt)
          clear hcO2
          obtain ⟨y, hy⟩ : ∃ y, O[k] = y := ⟨_, rfl⟩
          rw [hy] at hyk
          have HY := hid0 hy
          clear hy hhi
          have g0 : decide ((k : Int) < (N : Int)) = true := by simpa using hkN
          by_cases hyx : y < x
          · have g1 : decide (y < x) = true := by simpa using hyx
            go_wp2_with fail
            go_quiet (fail)
            go_wp2_with fail
            exact ⟨⟨k + 1, by omega, by go_num, below_drewN hB3, hid0 (fun j h hjk => by
              rcases Nat.lt_or_ge j k with h1 | h1
              · exact hlo.out j h h1
              · obtain rfl : j = k := by omega
                rw [HY.out]; exact hyx)⟩, by simp [intOf]; omega⟩
          · have g1 : decide (y < x) = false := by simpa using hyx
            have hIO3 := hid0 (HIO.out.later hB3)
            have hnx3 := hid0 (below_through hB3 hnxH.out.size hnxH.out)
            go_wp2_with fail
            go_quiet (fail)
            generalize hWd : World.drewN wr nq = Wd
            have hyk' : Wd.cell? ⟨bo, oo + k, none⟩ = some (.int .i64 y) := by rw [← hWd]; exact hyk
            have hx3' : Wd.cell? ⟨bl, ol + i, none⟩ = some (.int .i64 x) := by rw [← hWd]; exact hx3
            have hIO4 : Hid (IntsAt Wd (some ⟨bo, oo, none⟩) O) := by rw [← hWd]; exact hIO3
            have hnx4 : Hid (Below w2.heap.size w2 Wd) := by rw [← hWd]; exact hid0 (below_drewN hnx3.out)
            clear hWd hyk hx3 g1 hIO3 hnx3 hB3
            by_cases hex : y = x
            · have g2 : (y == x) = true := by simpa using hex
              have HX := hid0 hex
              clear hex hyx
              go_wp2_with fail
              go_quiet (fail)
              go_wp2_with fail
              exact ⟨⟨i + 1, [], by omega, by go_num, by
                rw [hFt.out, HR1.out (by rw [← HX.out, ← HY.out]; exact List.getElem_mem hkO)]
                exact ⟨⟨_, _, by rw [HN.out], by rw [HN.out]; exact hcO, hIO4.out⟩⟩, below_drewN hnx4.out⟩, by simp [intOf]; omega⟩
            · have g2 : (y == x) = false := by simpa using hex
              have HX := hid0 (show ∀ h : k < O.length, x < O[k] from fun h => by rw [HY.out]; omega)
              clear hex hyx
              go_wp2_with fail
              go_quiet (fail)
              generalize hWe : World.drewN Wd nq = We
              have hIO5 : Hid (IntsAt We (some ⟨bo, oo, none⟩) O) := by rw [← hWe]; exact hIO4
              have hnx5 : Hid (Below w2.heap.size w2 We) := by rw [← hWe]; exact hid0 (below_drewN hnx4.out)
              have hx5 : We.cell? ⟨bl, ol + i, none⟩ = some (.int .i64 x) := by rw [← hWe]; exact hx3'
              clear hWe hyk' hx3' hIO4 hnx4 g0 g2
              obtain ⟨a1, c1, HS1, HS2⟩ := slice_hi (some ⟨bo, oo, none⟩) O N cO k HN.out (by omega) hcO (by omega)
              have HS0 := slice_lo (some ⟨bo, oo, none⟩) N cO k (by omega) hcO (by omega)
              have HR := hid0 (show rise (F.take (i + 1)) = O.take k ++ ([x] ++ O.drop k) by rw [hFt.out, HR2.out k (by rw [HN.out]; omega) hlo.out HX.out])
              have HN' := HN.out
              have hOl : O.length = N := HN'
              have hB : Below We.drew.heap.size We.drew We.drew := Below.refl _ _
              have hx0 : We.drew.cell? ⟨bl, ol + i, none⟩ = some (.int .i64 x) := hx5
              have HIO : Hid (IntsAt We.drew (some ⟨bo, oo, none⟩) O) := hIO5
              have hnx2 : Hid (Below w2.heap.size w2 We.drew) := hid0 (Below.drew hnx5.out)
              clear hIO5 hnx5 hx5 HN'
              go_wp2_with fail
              refine wp_region_held_drew (S := (fun W => Below We.drew.heap.size We.drew W)) (by kernel_rfl) hB (fun hHeld => ?_)
              generalize We.drew = W0 at hB hx0 HIO hnx2 hHeld ⊢
              refine wpAnyH_take (i := 1) (v := ?_) rfl (by kernel_rfl) (by kernel_rfl) (by kernel_rfl) (fun _ _ _ h => h) (Or.inl ⟨by rfl, ?_⟩) (by assumption) ?_
              rotate_left
              · (intro wx hSw; go_simp; (try with_reducible rfl); (try omega))
              (try simp only [Act.put, List.setIfInBounds_toArray, List.getElem_toArray])
              refine wpAnyH_take (i := 2) (v := ?_) rfl (by kernel_rfl) (by kernel_rfl) (by kernel_rfl) (fun _ _ _ h => h) (Or.inl ⟨by rfl, ?_⟩) (by assumption) ?_
              rotate_left
              · (intro wx hSw; go_simp; (try with_reducible rfl); (try omega))
              (try simp only [Act.put, List.setIfInBounds_toArray, List.set_cons_zero, List.set_cons_succ, List.getElem_toArray, List.getElem_cons_zero, List.getElem_cons_succ])
              refine wpAnyH_take (i := 3) (v := ?_) rfl (by kernel_rfl) (by kernel_rfl) (by kernel_rfl) (fun _ _ _ h => h) (Or.inl ⟨by rfl, ?_⟩) (by assumption) ?_
              rotate_left
              · (intro wx hSw; go_simp; (try with_reducible rfl); (try omega))
              (try simp only [Act.put, List.setIfInBounds_toArray, List.set_cons_zero, List.set_cons_succ, List.getElem_toArray, List.getElem_cons_zero, List.getElem_cons_succ])
              refine wpAnyH_take (i := 5) (v := ?_) rfl (by kernel_rfl) (by kernel_rfl) (by kernel_rfl) (fun _ _ _ h => h) (Or.inl ⟨by rfl, ?_⟩) (by assumption) ?_
              rotate_left
              · (intro wx hSw; go_simp; (try with_reducible rfl); (try omega))
              (try simp only [Act.put, List.setIfInBounds_toArray, List.set_cons_zero, List.set_cons_succ, List.getElem_toArray, List.getElem_cons_zero, List.getElem_cons_succ])
              refine wpAnyH_take (i := 6) (v := ?_) rfl (by kernel_rfl) (by kernel_rfl) (by kernel_rfl) (fun _ _ _ h => h) (Or.inl ⟨by rfl, ?_⟩) (by assumption) ?_
              rotate_left
              · (intro wx hSw; go_simp; (try with_reducible rfl); (try omega))
              (try simp only [Act.put, List.setIfInBounds_toArray, List.set_cons_zero, List.set_cons_succ, List.getElem_toArray, List.getElem_cons_zero, List.getElem_cons_succ])
              refine wpAnyH_take (i := 7) (v := ?_) rfl (by kernel_rfl) (by kernel_rfl) (by kernel_rfl) (fun _ _ _ h => h) (Or.inl ⟨by rfl, ?_⟩) (by assumption) ?_
              rotate_left
              · (intro wx hSw; go_simp; (try with_reducible rfl); (try omega))
              (try simp only [Act.put, List.setIfInBounds_toArray, List.set_cons_zero, List.set_cons_succ, List.getElem_toArray, List.getElem_cons_zero, List.getElem_cons_succ])
              refine wpAnyH_take (i := 8) (v := ?_) rfl (by kernel_rfl) (by kernel_rfl) (by kernel_rfl) (fun _ _ _ h => h) (Or.inl ⟨by rfl, ?_⟩) (by assumption) ?_
              rotate_left
              · (intro wx hSw; have q0 := cell_later hSw hx0; go_simp; (try with_reducible rfl); (try omega))
              (try simp only [Act.put, List.setIfInBounds_toArray, List.set_cons_zero, List.set_cons_succ, List.getElem_toArray, List.getElem_cons_zero, List.getElem_cons_succ])
              refine wpAnyH_take (i := 11) (v := ?_) rfl (by kernel_rfl) (by kernel_rfl) (by kernel_rfl) (fun _ _ _ h => h) (Or.inl ⟨by rfl, ?_⟩) (by assumption) ?_
              rotate_left
              · (intro wx hSw; go_simp; (try with_reducible rfl); (try omega))
              (try simp only [Act.put, List.setIfInBounds_toArray, List.set_cons_zero, List.set_cons_succ, List.getElem_toArray, List.getElem_cons_zero, List.getElem_cons_succ])
              refine wpAnyH_take (i := 12) (v := ?_) rfl (by kernel_rfl) (by kernel_rfl) (by kernel_rfl) (fun _ _ _ h => h) (Or.inl ⟨by rfl, ?_⟩) (by assumption) ?_
              rotate_left
              · (intro wx hSw; go_simp; (try with_reducible rfl); (try omega))
              (try simp only [Act.put, List.setIfInBounds_toArray, List.set_cons_zero, List.set_cons_succ, List.getElem_toArray, List.getElem_cons_zero, List.getElem_cons_succ])
              refine wpAnyH_take (i := 13) (v := ?_) rfl (by kernel_rfl) (by kernel_rfl) (by kernel_rfl) (fun _ _ _ h => h) (Or.inl ⟨by rfl, ?_⟩) (by assumption) ?_
              rotate_left
              · (intro wx hSw; go_simp; (try with_reducible rfl); (try omega))
              (try simp only [Act.put, List.setIfInBounds_toArray, List.set_cons_zero, List.set_cons_succ, List.getElem_toArray, List.getElem_cons_zero, List.getElem_cons_succ])
              refine wpAnyH_ready (rs := [0, 9]) (by kernel_rfl) (by simp) ?_
              refine AllReadyH.cons rfl (fun K hK => ?_) ?_
              · (try simp only [Act.put, List.setIfInBounds_toArray, List.set_cons_zero, List.set_cons_succ, List.getElem_toArray, List.getElem_cons_zero])
                go_simp
                obtain ⟨W1, hW1⟩ : ∃ W', W0.alloc (.cells #[] 3) = W' := ⟨_, rfl⟩
                have hO := made11 W0 W0.heap.size hB.size; rw [hW1] at hO
                have hB := hB.alloc hB.size (.cells #[] 3); rw [hW1] at hB
                rw [hW1]
                refine hK.out _ _ hB (fun hHeld => ?_)
                clear hW1
                clear hK K
                (try simp only [Act.put, List.setIfInBounds_toArray, List.set_cons_zero, List.set_cons_succ, List.getElem_toArray, List.getElem_cons_zero, List.getElem_cons_succ])
                refine wpAnyH_ready (rs := [4, 9]) (by kernel_rfl) (by simp) ?_
                refine AllReadyH.cons rfl (fun K hK => ?_) ?_
                · refine app_if (by rfl) _ _ (by rfl) (by rfl) W0.heap.size (0) (ints []) hO (some ⟨bo, oo, none⟩) (k) cO (by rfl) (O.take k) (by rw [List.length_take]; omega) (head_at k (HIO.out.later hB)) (by omega) hB.size ?_
                  intro v4 W2 hO2 hg2 hat2
                  have hB := hB.grown hg2 hB.size (fun k hk => (hO.lt k hk).1)
                  clear hO
                  have hO := hO2
                  clear hO2 hg2 hat2
                  rw [Nat.zero_add] at hO
                  refine hK.out _ _ hB (fun hHeld => ?_)
                  clear hK K
                  (try simp only [Act.put, List.setIfInBounds_toArray, List.set_cons_zero, List.set_cons_succ, List.getElem_toArray, List.getElem_cons_zero, List.getElem_cons_succ])
                  refine wpAnyH_ready (rs := [9]) (by kernel_rfl) (by simp) ?_
                  refine AllReadyH.cons rfl (fun K hK => ?_) ?_
                  · (try simp only [Act.put, List.setIfInBounds_toArray, List.set_cons_zero, List.set_cons_succ, List.getElem_toArray, List.getElem_cons_zero, List.getElem_cons_succ])
                    go_simp
                    obtain ⟨W3, hW3⟩ : ∃ W', W2.alloc (.cells #[.int .i64 x] 3) = W' := ⟨_, rfl⟩
                    have X9 : VarB W3 W2.heap.size [.int .i64 x] := by rw [← hW3]; exact VarB.new _ _ _
                    have hne9 : v4.ownBlock ≠ some W2.heap.size := fun e => by have := (hO.lt _ e).2; omega
                    have hO := hO.alloc (.cells #[.int .i64 x] 3); rw [hW3] at hO
                    have hB := hB.alloc hB.size (.cells #[.int .i64 x] 3); rw [hW3] at hB
                    rw [hW3]
                    refine hK.out _ _ hB (fun hHeld => ?_)
                    clear hW3
                    clear hK K
                    (try simp only [Act.put, List.setIfInBounds_toArray, List.set_cons_zero, List.set_cons_succ, List.getElem_toArray, List.getElem_cons_zero, List.getElem_cons_succ])
                    refine wpAnyH_ready (rs := [10]) (by kernel_rfl) (by simp) ?_
                    refine AllReadyH.cons rfl (fun K hK => ?_) ?_
                    · refine app_if (by rfl) _ _ (by rfl) (by rfl) W0.heap.size (k) (ints [] ++ ints (O.take k)) hO (some ⟨W2.heap.size, 0, none⟩) (1) 1 (by rfl) [x] rfl (fun _ => ⟨_, 0, rfl, fun i hi => by match i, hi with | 0, _ => exact X9.cell 0 rfl | i + 1, hi => exact absurd hi (by simp)⟩) (by omega) hB.size ?_
                      intro v10 W4 hO2 hg2 hat2
                      have hne2 : v10.ownBlock ≠ some W2.heap.size := by rcases hat2 with e | e; (rw [e]; exact hne9); (rw [e]; intro e2; have e3 := Option.some.inj e2; have := X9.lt; omega)
                      have X9 := X9.keep (hg2.block _ X9.lt (fun e => hne9 e.symm)) hg2.size
                      have hne9 := hne2; clear hne2
                      have hB := hB.grown hg2 hB.size (fun k hk => (hO.lt k hk).1)
                      clear hO
                      have hO := hO2
                      clear hO2 hg2 hat2
                      refine hK.out _ _ hB (fun hHeld => ?_)
                      clear hK K
                      (try simp only [Act.put, List.setIfInBounds_toArray, List.set_cons_zero, List.set_cons_succ, List.getElem_toArray, List.getElem_cons_zero, List.getElem_cons_succ])
                      refine wpAnyH_ready (rs := [14]) (by kernel_rfl) (by simp) ?_
                      refine AllReadyH.cons rfl (fun K hK => ?_) ?_
                      · refine app_if (by rfl) _ _ (by rfl) (by rfl) W0.heap.size (k + 1) (ints [] ++ ints (O.take k) ++ ints [x]) hO a1 (N - k) c1 (by rfl) (O.drop k) (by rw [List.length_drop]; omega) (HS2 _ (HIO.out.later hB)) (by omega) hB.size ?_
                        intro v14 W5 hO2 hg2 hat2
                        have hne2 : v14.ownBlock ≠ some W2.heap.size := by rcases hat2 with e | e; (rw [e]; exact hne9); (rw [e]; intro e2; have e3 := Option.some.inj e2; have := X9.lt; omega)
                        have X9 := X9.keep (hg2.block _ X9.lt (fun e => hne9 e.symm)) hg2.size
                        have hne9 := hne2; clear hne2
                        have hB := hB.grown hg2 hB.size (fun k hk => (hO.lt k hk).1)
                        clear hO
                        have hO := hO2
                        clear hO2 hg2 hat2
                        refine hK.out _ _ hB (fun hHeld => ?_)
                        clear hK K
                        (try simp only [Act.put, List.setIfInBounds_toArray, List.set_cons_zero, List.set_cons_succ, List.getElem_toArray, List.getElem_cons_zero, List.getElem_cons_succ])
                        refine wpAnyH_take (i := 15) (v := ?_) rfl (by kernel_rfl) (by kernel_rfl) (by kernel_rfl) (fun _ _ _ h => h) (Or.inl ⟨by rfl, ?_⟩) (by assumption) ?_
                        rotate_left
                        · (intro wx hSw; go_simp; (try with_reducible rfl); (try omega))
                        (try simp only [Act.put, List.setIfInBounds_toArray, List.set_cons_zero, List.set_cons_succ, List.getElem_toArray, List.getElem_cons_zero, List.getElem_cons_succ])
                        refine wpAnyH_done (by kernel_rfl) ?_ _
                        have hO : W5.ownsRow W0.heap.size 3 1 v14 (k + 1 + (N - k)) (ints (O.take k ++ ([x] ++ O.drop k))) := by have h := hO; simpa [ints] using h
                        have hO := IL.own hO (by simp only [List.length_append, List.length_take, List.length_drop, List.length_singleton]; omega)
                        have hO := hid0 hO
                        go_wp2_with fail
                        exact ⟨⟨i + 1, [], by omega, by go_num, by rw [HR.out]; exact hO.out, below_through hB hnx2.out.size hnx2.out⟩, by simp [intOf]; omega⟩
                      exact AllReadyH.nil
                    exact AllReadyH.nil
                  exact AllReadyH.nil
                refine AllReadyH.cons rfl (fun K hK => ?_) ?_
                · (try simp only [Act.put, List.setIfInBounds_toArray, List.set_cons_zero, List.set_cons_succ, List.getElem_toArray, List.getElem_cons_zero, List.getElem_cons_succ])
                  go_simp
                  obtain ⟨W2, hW2⟩ : ∃ W', W1.alloc (.cells #[.int .i64 x] 3) = W' := ⟨_, rfl⟩
                  have X9 : VarB W2 W1.heap.size [.int .i64 x] := by rw [← hW2]; exact VarB.new _ _ _
                  have hne9 : (Value.slice (some ⟨W0.heap.size, 0, none⟩) 0 0).ownBlock ≠ some W1.heap.size := fun e => by have := (hO.lt _ e).2; omega
                  have hO := hO.alloc (.cells #[.int .i64 x] 3); rw [hW2] at hO
                  have hB := hB.alloc hB.size (.cells #[.int .i64 x] 3); rw [hW2] at hB
                  rw [hW2]
                  refine hK.out _ _ hB (fun hHeld => ?_)
                  clear hW2
                  clear hK K
                  (try simp only [Act.put, List.setIfInBounds_toArray, List.set_cons_zero, List.set_cons_succ, List.getElem_toArray, List.getElem_cons_zero, List.getElem_cons_succ])
                  refine wpAnyH_ready (rs := [4]) (by kernel_rfl) (by simp) ?_
                  refine AllReadyH.cons rfl (fun K hK => ?_) ?_
                  · refine app_if (by rfl) _ _ (by rfl) (by rfl) W0.heap.size (0) (ints []) hO (some ⟨bo, oo, none⟩) (k) cO (by rfl) (O.take k) (by rw [List.length_take]; omega) (head_at k (HIO.out.later hB)) (by omega) hB.size ?_
                    intro v4 W3 hO2 hg2 hat2
                    have hne2 : v4.ownBlock ≠ some W1.heap.size := by rcases hat2 with e | e; (rw [e]; exact hne9); (rw [e]; intro e2; have e3 := Option.some.inj e2; have := X9.lt; omega)
                    have X9 := X9.keep (hg2.block _ X9.lt (fun e => hne9 e.symm)) hg2.size
                    have hne9 := hne2; clear hne2
                    have hB := hB.grown hg2 hB.size (fun k hk => (hO.lt k hk).1)
                    clear hO
                    have hO := hO2
                    clear hO2 hg2 hat2
                    rw [Nat.zero_add] at hO
                    refine hK.out _ _ hB (fun hHeld => ?_)
                    clear hK K
                    (try simp only [Act.put, List.setIfInBounds_toArray, List.set_cons_zero, List.set_cons_succ, List.getElem_toArray, List.getElem_cons_zero, List.getElem_cons_succ])
                    refine wpAnyH_ready (rs := [10]) (by kernel_rfl) (by simp) ?_
                    refine AllReadyH.cons rfl (fun K hK => ?_) ?_
                    · refine app_if (by rfl) _ _ (by rfl) (by rfl) W0.heap.size (k) (ints [] ++ ints (O.take k)) hO (some ⟨W1.heap.size, 0, none⟩) (1) 1 (by rfl) [x] rfl (fun _ => ⟨_, 0, rfl, fun i hi => by match i, hi with | 0, _ => exact X9.cell 0 rfl | i + 1, hi => exact absurd hi (by simp)⟩) (by omega) hB.size ?_
                      intro v10 W4 hO2 hg2 hat2
                      have hne2 : v10.ownBlock ≠ some W1.heap.size := by rcases hat2 with e | e; (rw [e]; exact hne9); (rw [e]; intro e2; have e3 := Option.some.inj e2; have := X9.lt; omega)
                      have X9 := X9.keep (hg2.block _ X9.lt (fun e => hne9 e.symm)) hg2.size
                      have hne9 := hne2; clear hne2
                      have hB := hB.grown hg2 hB.size (fun k hk => (hO.lt k hk).1)
                      clear hO
                      have hO := hO2
                      clear hO2 hg2 hat2
                      refine hK.out _ _ hB (fun hHeld => ?_)
                      clear hK K
                      (try simp only [Act.put, List.setIfInBounds_toArray, List.set_cons_zero, List.set_cons_succ, List.getElem_toArray, List.getElem_cons_zero, List.getElem_cons_succ])
                      refine wpAnyH_ready (rs := [14]) (by kernel_rfl) (by simp) ?_
                      refine AllReadyH.cons rfl (fun K hK => ?_) ?_
                      · refine app_if (by rfl) _ _ (by rfl) (by rfl) W0.heap.size (k + 1) (ints [] ++ ints (O.take k) ++ ints [x]) hO a1 (N - k) c1 (by rfl) (O.drop k) (by rw [List.length_drop]; omega) (HS2 _ (HIO.out.later hB)) (by omega) hB.size ?_
                        intro v14 W5 hO2 hg2 hat2
                        have hne2 : v14.ownBlock ≠ some W1.heap.size := by rcases hat2 with e | e; (rw [e]; exact hne9); (rw [e]; intro e2; have e3 := Option.some.inj e2; have := X9.lt; omega)
                        have X9 := X9.keep (hg2.block _ X9.lt (fun e => hne9 e.symm)) hg2.size
                        have hne9 := hne2; clear hne2
                        have hB := hB.grown hg2 hB.size (fun k hk => (hO.lt k hk).1)
                        clear hO
                        have hO := hO2
                        clear hO2 hg2 hat2
                        refine hK.out _ _ hB (fun hHeld => ?_)
                        clear hK K
                        (try simp only [Act.put, List.setIfInBounds_toArray, List.set_cons_zero, List.set_cons_succ, List.getElem_toArray, List.getElem_cons_zero, List.getElem_cons_succ])
                        refine wpAnyH_take (i := 15) (v := ?_) rfl (by kernel_rfl) (by kernel_rfl) (by kernel_rfl) (fun _ _ _ h => h) (Or.inl ⟨by rfl, ?_⟩) (by assumption) ?_
                        rotate_left
                        · (intro wx hSw; go_simp; (try with_reducible rfl); (try omega))
                        (try simp only [Act.put, List.setIfInBounds_toArray, List.set_cons_zero, List.set_cons_succ, List.getElem_toArray, List.getElem_cons_zero, List.getElem_cons_succ])
                        refine wpAnyH_done (by kernel_rfl) ?_ _
                        have hO : W5.ownsRow W0.heap.size 3 1 v14 (k + 1 + (N - k)) (ints (O.take k ++ ([x] ++ O.drop k))) := by have h := hO; simpa [ints] using h
                        have hO := IL.own hO (by simp only [List.length_append, List.length_take, List.length_drop, List.length_singleton]; omega)
                        have hO := hid0 hO
                        go_wp2_with fail
                        exact ⟨⟨i + 1, [], by omega, by go_num, by rw [HR.out]; exact hO.out, below_through hB hnx2.out.size hnx2.out⟩, by simp [intOf]; omega⟩
                      exact AllReadyH.nil
                    exact AllReadyH.nil
                  exact AllReadyH.nil
                exact AllReadyH.nil
              refine AllReadyH.cons rfl (fun K hK => ?_) ?_
              · (try simp only [Act.put, List.setIfInBounds_toArray, List.set_cons_zero, List.set_cons_succ, List.getElem_toArray, List.getElem_cons_zero, List.getElem_cons_succ])
                go_simp
                obtain ⟨W1, hW1⟩ : ∃ W', W0.alloc (.cells #[.int .i64 x] 3) = W' := ⟨_, rfl⟩
                have X9 : VarB W1 W0.heap.size [.int .i64 x] := by rw [← hW1]; exact VarB.new _ _ _
                have hB := hB.alloc hB.size (.cells #[.int .i64 x] 3); rw [hW1] at hB
                rw [hW1]
                refine hK.out _ _ hB (fun hHeld => ?_)
                clear hW1
                clear hK K
                (try simp only [Act.put, List.setIfInBounds_toArray, List.set_cons_zero, List.set_cons_succ, List.getElem_toArray, List.getElem_cons_zero, List.getElem_cons_succ])
                refine wpAnyH_ready (rs := [0]) (by kernel_rfl) (by simp) ?_
                refine AllReadyH.cons rfl (fun K hK => ?_) ?_
                · (try simp only [Act.put, List.setIfInBounds_toArray, List.set_cons_zero, List.set_cons_succ, List.getElem_toArray, List.getElem_cons_zero])
                  go_simp
                  obtain ⟨W2, hW2⟩ : ∃ W', W1.alloc (.cells #[] 3) = W' := ⟨_, rfl⟩
                  have hO := made11 W1 W0.heap.size hB.size; rw [hW2] at hO
                  have hB := hB.alloc hB.size (.cells #[] 3); rw [hW2] at hB
                  have hne9 : (Value.slice (some ⟨W1.heap.size, 0, none⟩) 0 0).ownBlock ≠ some W0.heap.size := by have := X9.lt; simp [Value.ownBlock]; omega
                  have X9 := X9.alloc (.cells #[] 3); rw [hW2] at X9
                  rw [hW2]
                  refine hK.out _ _ hB (fun hHeld => ?_)
                  clear hW2
                  clear hK K
                  (try simp only [Act.put, List.setIfInBounds_toArray, List.set_cons_zero, List.set_cons_succ, List.getElem_toArray, List.getElem_cons_zero, List.getElem_cons_succ])
                  refine wpAnyH_ready (rs := [4]) (by kernel_rfl) (by simp) ?_
                  refine AllReadyH.cons rfl (fun K hK => ?_) ?_
                  · refine app_if (by rfl) _ _ (by rfl) (by rfl) W0.heap.size (0) (ints []) hO (some ⟨bo, oo, none⟩) (k) cO (by rfl) (O.take k) (by rw [List.length_take]; omega) (head_at k (HIO.out.later hB)) (by omega) hB.size ?_
                    intro v4 W3 hO2 hg2 hat2
                    have hne2 : v4.ownBlock ≠ some W0.heap.size := by rcases hat2 with e | e; (rw [e]; exact hne9); (rw [e]; intro e2; have e3 := Option.some.inj e2; have := X9.lt; omega)
                    have X9 := X9.keep (hg2.block _ X9.lt (fun e => hne9 e.symm)) hg2.size
                    have hne9 := hne2; clear hne2
                    have hB := hB.grown hg2 hB.size (fun k hk => (hO.lt k hk).1)
                    clear hO
                    have hO := hO2
                    clear hO2 hg2 hat2
                    rw [Nat.zero_add] at hO
                    refine hK.out _ _ hB (fun hHeld => ?_)
                    clear hK K
                    (try simp only [Act.put, List.setIfInBounds_toArray, List.set_cons_zero, List.set_cons_succ, List.getElem_toArray, List.getElem_cons_zero, List.getElem_cons_succ])
                    refine wpAnyH_ready (rs := [10]) (by kernel_rfl) (by simp) ?_
                    refine AllReadyH.cons rfl (fun K hK => ?_) ?_
                    · refine app_if (by rfl) _ _ (by rfl) (by rfl) W0.heap.size (k) (ints [] ++ ints (O.take k)) hO (some ⟨W0.heap.size, 0, none⟩) (1) 1 (by rfl) [x] rfl (fun _ => ⟨_, 0, rfl, fun i hi => by match i, hi with | 0, _ => exact X9.cell 0 rfl | i + 1, hi => exact absurd hi (by simp)⟩) (by omega) hB.size ?_
                      intro v10 W4 hO2 hg2 hat2
                      have hne2 : v10.ownBlock ≠ some W0.heap.size := by rcases hat2 with e | e; (rw [e]; exact hne9); (rw [e]; intro e2; have e3 := Option.some.inj e2; have := X9.lt; omega)
                      have X9 := X9.keep (hg2.block _ X9.lt (fun e => hne9 e.symm)) hg2.size
                      have hne9 := hne2; clear hne2
                      have hB := hB.grown hg2 hB.size (fun k hk => (hO.lt k hk).1)
                      clear hO
                      have hO := hO2
                      clear hO2 hg2 hat2
                      refine hK.out _ _ hB (fun hHeld => ?_)
                      clear hK K
                      (try simp only [Act.put, List.setIfInBounds_toArray, List.set_cons_zero, List.set_cons_succ, List.getElem_toArray, List.getElem_cons_zero, List.getElem_cons_succ])
                      refine wpAnyH_ready (rs := [14]) (by kernel_rfl) (by simp) ?_
                      refine AllReadyH.cons rfl (fun K hK => ?_) ?_
                      · refine app_if (by rfl) _ _ (by rfl) (by rfl) W0.heap.size (k + 1) (ints [] ++ ints (O.take k) ++ ints [x]) hO a1 (N - k) c1 (by rfl) (O.drop k) (by rw [List.length_drop]; omega) (HS2 _ (HIO.out.later hB)) (by omega) hB.size ?_
                        intro v14 W5 hO2 hg2 hat2
                        have hne2 : v14.ownBlock ≠ some W0.heap.size := by rcases hat2 with e | e; (rw [e]; exact hne9); (rw [e]; intro e2; have e3 := Option.some.inj e2; have := X9.lt; omega)
                        have X9 := X9.keep (hg2.block _ X9.lt (fun e => hne9 e.symm)) hg2.size
                        have hne9 := hne2; clear hne2
                        have hB := hB.grown hg2 hB.size (fun k hk => (hO.lt k hk).1)
                        clear hO
                        have hO := hO2
                        clear hO2 hg2 hat2
                        refine hK.out _ _ hB (fun hHeld => ?_)
                        clear hK K
                        (try simp only [Act.put, List.setIfInBounds_toArray, List.set_cons_zero, List.set_cons_succ, List.getElem_toArray, List.getElem_cons_zero, List.getElem_cons_succ])
                        refine wpAnyH_take (i := 15) (v := ?_) rfl (by kernel_rfl) (by kernel_rfl) (by kernel_rfl) (fun _ _ _ h => h) (Or.inl ⟨by rfl, ?_⟩) (by assumption) ?_
                        rotate_left
                        · (intro wx hSw; go_simp; (try with_reducible rfl); (try omega))
                        (try simp only [Act.put, List.setIfInBounds_toArray, List.set_cons_zero, List.set_cons_succ, List.getElem_toArray, List.getElem_cons_zero, List.getElem_cons_succ])
                        refine wpAnyH_done (by kernel_rfl) ?_ _
                        have hO : W5.ownsRow W0.heap.size 3 1 v14 (k + 1 + (N - k)) (ints (O.take k ++ ([x] ++ O.drop k))) := by have h := hO; simpa [ints] using h
                        have hO := IL.own hO (by simp only [List.length_append, List.length_take, List.length_drop, List.length_singleton]; omega)
                        have hO := hid0 hO
                        go_wp2_with fail
                        exact ⟨⟨i + 1, [], by omega, by go_num, by rw [HR.out]; exact hO.out, below_through hB hnx2.out.size hnx2.out⟩, by simp [intOf]; omega⟩
                      exact AllReadyH.nil
                    exact AllReadyH.nil
                  exact AllReadyH.nil
                exact AllReadyH.nil
              exact AllReadyH.nil
        · have g0 : decide ((k : Int) < (N : Int)) = false := by simp; omega
          have hIO3 := hid0 (HIO.out.later hB3)
          have hnx3 := hid0 (below_through hB3 hnxH.out.size hnxH.out)
          have HX := hid0 (show ∀ h : k < O.length, x < O[k] from fun h => absurd h (by rw [HN.out]; omega))
          go_wp2_with fail
          go_quiet (fail)
          generalize hWd : World.drewN wr nq = Wd
          have hIO4 : Hid (IntsAt Wd ao O) := by rw [← hWd]; exact hIO3
          have hnx4 : Hid (Below w2.heap.size w2 Wd) := by rw [← hWd]; exact hid0 (below_drewN hnx3.out)
          have hx4 : Wd.cell? ⟨bl, ol + i, none⟩ = some (.int .i64 x) := by rw [← hWd]; exact hx3
          clear hWd hx3 hIO3 hnx3 hB3
          go_wp2_with fail
          go_quiet (fail)
          generalize hWe : World.drewN Wd nq = We
          have hIO5 : Hid (IntsAt We ao O) := by rw [← hWe]; exact hIO4
          have hnx5 : Hid (Below w2.heap.size w2 We) := by rw [← hWe]; exact hid0 (below_drewN hnx4.out)
          have hx5 : We.cell? ⟨bl, ol + i, none⟩ = some (.int .i64 x) := by rw [← hWe]; exact hx4
          clear hWe hx4 hIO4 hnx4 g0
          obtain ⟨a1, c1, HS1, HS2⟩ := slice_hi ao O N cO k HN.out (by omega) hcO (by omega)
          have HS0 := slice_lo ao N cO k (by omega) hcO (by omega)
          have HR := hid0 (show rise (F.take (i + 1)) = O.take k ++ ([x] ++ O.drop k) by rw [hFt.out, HR2.out k (by rw [HN.out]; omega) hlo.out HX.out])
          have HN' := HN.out
          have hOl : O.length = N := HN'
          have hB : Below We.drew.heap.size We.drew We.drew := Below.refl _ _
          have hx0 : We.drew.cell? ⟨bl, ol + i, none⟩ = some (.int .i64 x) := hx5
          have HIO : Hid (IntsAt We.drew ao O) := hIO5
          have hnx2 : Hid (Below w2.heap.size w2 We.drew) := hid0 (Below.drew hnx5.out)
          clear hIO5 hnx5 hx5 HN'
          go_wp2_with fail
          refine wp_region_held_drew (S := (fun W => Below We.drew.heap.size We.drew W)) (by kernel_rfl) hB (fun hHeld => ?_)
          generalize We.drew = W0 at hB hx0 HIO hnx2 hHeld ⊢
          refine wpAnyH_take (i := 1) (v := ?_) rfl (by kernel_rfl) (by kernel_rfl) (by kernel_rfl) (fun _ _ _ h => h) (Or.inl ⟨by rfl, ?_⟩) (by assumption) ?_
          rotate_left
          · (intro wx hSw; go_simp; (try with_reducible rfl); (try omega))
          (try simp only [Act.put, List.setIfInBounds_toArray, List.getElem_toArray])
          refine wpAnyH_take (i := 2) (v := ?_) rfl (by kernel_rfl) (by kernel_rfl) (by kernel_rfl) (fun _ _ _ h => h) (Or.inl ⟨by rfl, ?_⟩) (by assumption) ?_
          rotate_left
          · (intro wx hSw; go_simp; (try with_reducible rfl); (try omega))
          (try simp only [Act.put, List.setIfInBounds_toArray, List.set_cons_zero, List.set_cons_succ, List.getElem_toArray, List.getElem_cons_zero, List.getElem_cons_succ])
          refine wpAnyH_take (i := 3) (v := ?_) rfl (by kernel_rfl) (by kernel_rfl) (by kernel_rfl) (fun _ _ _ h => h) (Or.inl ⟨by rfl, ?_⟩) (by assumption) ?_
          rotate_left
          · (intro wx hSw; go_simp; (try with_reducible rfl); (try omega))
          (try simp only [Act.put, List.setIfInBounds_toArray, List.set_cons_zero, List.set_cons_succ, List.getElem_toArray, List.getElem_cons_zero, List.getElem_cons_succ])
          refine wpAnyH_take (i := 5) (v := ?_) rfl (by kernel_rfl) (by kernel_rfl) (by kernel_rfl) (fun _ _ _ h => h) (Or.inl ⟨by rfl, ?_⟩) (by assumption) ?_
          rotate_left
          · (intro wx hSw; go_simp; (try with_reducible rfl); (try omega))
          (try simp only [Act.put, List.setIfInBounds_toArray, List.set_cons_zero, List.set_cons_succ, List.getElem_toArray, List.getElem_cons_zero, List.getElem_cons_succ])
          refine wpAnyH_take (i := 6) (v := ?_) rfl (by kernel_rfl) (by kernel_rfl) (by kernel_rfl) (fun _ _ _ h => h) (Or.inl ⟨by rfl, ?_⟩) (by assumption) ?_
          rotate_left
          · (intro wx hSw; go_simp; (try with_reducible rfl); (try omega))
          (try simp only [Act.put, List.setIfInBounds_toArray, List.set_cons_zero, List.set_cons_succ, List.getElem_toArray, List.getElem_cons_zero, List.getElem_cons_succ])
          refine wpAnyH_take (i := 7) (v := ?_) rfl (by kernel_rfl) (by kernel_rfl) (by kernel_rfl) (fun _ _ _ h => h) (Or.inl ⟨by rfl, ?_⟩) (by assumption) ?_
          rotate_left
          · (intro wx hSw; go_simp; (try with_reducible rfl); (try omega))
          (try simp only [Act.put, List.setIfInBounds_toArray, List.set_cons_zero, List.set_cons_succ, List.getElem_toArray, List.getElem_cons_zero, List.getElem_cons_succ])
          refine wpAnyH_take (i := 8) (v := ?_) rfl (by kernel_rfl) (by kernel_rfl) (by kernel_rfl) (fun _ _ _ h => h) (Or.inl ⟨by rfl, ?_⟩) (by assumption) ?_
          rotate_left
          · (intro wx hSw; have q0 := cell_later hSw hx0; go_simp; (try with_reducible rfl); (try omega))
          (try simp only [Act.put, List.setIfInBounds_toArray, List.set_cons_zero, List.set_cons_succ, List.getElem_toArray, List.getElem_cons_zero, List.getElem_cons_succ])
          refine wpAnyH_take (i := 11) (v := ?_) rfl (by kernel_rfl) (by kernel_rfl) (by kernel_rfl) (fun _ _ _ h => h) (Or.inl ⟨by rfl, ?_⟩) (by assumption) ?_
          rotate_left
          · (intro wx hSw; go_simp; (try with_reducible rfl); (try omega))
          (try simp only [Act.put, List.setIfInBounds_toArray, List.set_cons_zero, List.set_cons_succ, List.getElem_toArray, List.getElem_cons_zero, List.getElem_cons_succ])
          refine wpAnyH_take (i := 12) (v := ?_) rfl (by kernel_rfl) (by kernel_rfl) (by kernel_rfl) (fun _ _ _ h => h) (Or.inl ⟨by rfl, ?_⟩) (by assumption) ?_
          rotate_left
          · (intro wx hSw; go_simp; (try with_reducible rfl); (try omega))
          (try simp only [Act.put, List.setIfInBounds_toArray, List.set_cons_zero, List.set_cons_succ, List.getElem_toArray, List.getElem_cons_zero, List.getElem_cons_succ])
          refine wpAnyH_take (i := 13) (v := ?_) rfl (by kernel_rfl) (by kernel_rfl) (by kernel_rfl) (fun _ _ _ h => h) (Or.inl ⟨by rfl, ?_⟩) (by assumption) ?_
          rotate_left
          · (intro wx hSw; go_simp; (try with_reducible rfl); (try omega))
          (try simp only [Act.put, List.setIfInBounds_toArray, List.set_cons_zero, List.set_cons_succ, List.getElem_toArray, List.getElem_cons_zero, List.getElem_cons_succ])
          refine wpAnyH_ready (rs := [0, 9]) (by kernel_rfl) (by simp) ?_
          refine AllReadyH.cons rfl (fun K hK => ?_) ?_
          · (try simp only [Act.put, List.setIfInBounds_toArray, List.set_cons_zero, List.set_cons_succ, List.getElem_toArray, List.getElem_cons_zero])
            go_simp
            obtain ⟨W1, hW1⟩ : ∃ W', W0.alloc (.cells #[] 3) = W' := ⟨_, rfl⟩
            have hO := made11 W0 W0.heap.size hB.size; rw [hW1] at hO
            have hB := hB.alloc hB.size (.cells #[] 3); rw [hW1] at hB
            rw [hW1]
            refine hK.out _ _ hB (fun hHeld => ?_)
            clear hW1
            clear hK K
            (try simp only [Act.put, List.setIfInBounds_toArray, List.set_cons_zero, List.set_cons_succ, List.getElem_toArray, List.getElem_cons_zero, List.getElem_cons_succ])
            refine wpAnyH_ready (rs := [4, 9]) (by kernel_rfl) (by simp) ?_
            refine AllReadyH.cons rfl (fun K hK => ?_) ?_
            · refine app_if (by rfl) _ _ (by rfl) (by rfl) W0.heap.size (0) (ints []) hO ao (k) cO (by rfl) (O.take k) (by rw [List.length_take]; omega) (head_at k (HIO.out.later hB)) (by omega) hB.size ?_
              intro v4 W2 hO2 hg2 hat2
              have hB := hB.grown hg2 hB.size (fun k hk => (hO.lt k hk).1)
              clear hO
              have hO := hO2
              clear hO2 hg2 hat2
              rw [Nat.zero_add] at hO
              refine hK.out _ _ hB (fun hHeld => ?_)
              clear hK K
              (try simp only [Act.put, List.setIfInBounds_toArray, List.set_cons_zero, List.set_cons_succ, List.getElem_toArray, List.getElem_cons_zero, List.getElem_cons_succ])
              refine wpAnyH_ready (rs := [9]) (by kernel_rfl) (by simp) ?_
              refine AllReadyH.cons rfl (fun K hK => ?_) ?_
              · (try simp only [Act.put, List.setIfInBounds_toArray, List.set_cons_zero, List.set_cons_succ, List.getElem_toArray, List.getElem_cons_zero, List.getElem_cons_succ])
                go_simp
                obtain ⟨W3, hW3⟩ : ∃ W', W2.alloc (.cells #[.int .i64 x] 3) = W' := ⟨_, rfl⟩
                have X9 : VarB W3 W2.heap.size [.int .i64 x] := by rw [← hW3]; exact VarB.new _ _ _
                have hne9 : v4.ownBlock ≠ some W2.heap.size := fun e => by have := (hO.lt _ e).2; omega
                have hO := hO.alloc (.cells #[.int .i64 x] 3); rw [hW3] at hO
                have hB := hB.alloc hB.size (.cells #[.int .i64 x] 3); rw [hW3] at hB
                rw [hW3]
                refine hK.out _ _ hB (fun hHeld => ?_)
                clear hW3
                clear hK K
                (try simp only [Act.put, List.setIfInBounds_toArray, List.set_cons_zero, List.set_cons_succ, List.getElem_toArray, List.getElem_cons_zero, List.getElem_cons_succ])
                refine wpAnyH_ready (rs := [10]) (by kernel_rfl) (by simp) ?_
                refine AllReadyH.cons rfl (fun K hK => ?_) ?_
                · refine app_if (by rfl) _ _ (by rfl) (by rfl) W0.heap.size (k) (ints [] ++ ints (O.take k)) hO (some ⟨W2.heap.size, 0, none⟩) (1) 1 (by rfl) [x] rfl (fun _ => ⟨_, 0, rfl, fun i hi => by match i, hi with | 0, _ => exact X9.cell 0 rfl | i + 1, hi => exact absurd hi (by simp)⟩) (by omega) hB.size ?_
                  intro v10 W4 hO2 hg2 hat2
                  have hne2 : v10.ownBlock ≠ some W2.heap.size := by rcases hat2 with e | e; (rw [e]; exact hne9); (rw [e]; intro e2; have e3 := Option.some.inj e2; have := X9.lt; omega)
                  have X9 := X9.keep (hg2.block _ X9.lt (fun e => hne9 e.symm)) hg2.size
                  have hne9 := hne2; clear hne2
                  have hB := hB.grown hg2 hB.size (fun k hk => (hO.lt k hk).1)
                  clear hO
                  have hO := hO2
                  clear hO2 hg2 hat2
                  refine hK.out _ _ hB (fun hHeld => ?_)
                  clear hK K
                  (try simp only [Act.put, List.setIfInBounds_toArray, List.set_cons_zero, List.set_cons_succ, List.getElem_toArray, List.getElem_cons_zero, List.getElem_cons_succ])
                  refine wpAnyH_ready (rs := [14]) (by kernel_rfl) (by simp) ?_
                  refine AllReadyH.cons rfl (fun K hK => ?_) ?_
                  · refine app_if (by rfl) _ _ (by rfl) (by rfl) W0.heap.size (k + 1) (ints [] ++ ints (O.take k) ++ ints [x]) hO a1 (N - k) c1 (by rfl) (O.drop k) (by rw [List.length_drop]; omega) (HS2 _ (HIO.out.later hB)) (by omega) hB.size ?_
                    intro v14 W5 hO2 hg2 hat2
                    have hne2 : v14.ownBlock ≠ some W2.heap.size := by rcases hat2 with e | e; (rw [e]; exact hne9); (rw [e]; intro e2; have e3 := Option.some.inj e2; have := X9.lt; omega)
                    have X9 := X9.keep (hg2.block _ X9.lt (fun e => hne9 e.symm)) hg2.size
                    have hne9 := hne2; clear hne2
                    have hB := hB.grown hg2 hB.size (fun k hk => (hO.lt k hk).1)
                    clear hO
                    have hO := hO2
                    clear hO2 hg2 hat2
                    refine hK.out _ _ hB (fun hHeld => ?_)
                    clear hK K
                    (try simp only [Act.put, List.setIfInBounds_toArray, List.set_cons_zero, List.set_cons_succ, List.getElem_toArray, List.getElem_cons_zero, List.getElem_cons_succ])
                    refine wpAnyH_take (i := 15) (v := ?_) rfl (by kernel_rfl) (by kernel_rfl) (by kernel_rfl) (fun _ _ _ h => h) (Or.inl ⟨by rfl, ?_⟩) (by assumption) ?_
                    rotate_left
                    · (intro wx hSw; go_simp; (try with_reducible rfl); (try omega))
                    (try simp only [Act.put, List.setIfInBounds_toArray, List.set_cons_zero, List.set_cons_succ, List.getElem_toArray, List.getElem_cons_zero, List.getElem_cons_succ])
                    refine wpAnyH_done (by kernel_rfl) ?_ _
                    have hO : W5.ownsRow W0.heap.size 3 1 v14 (k + 1 + (N - k)) (ints (O.take k ++ ([x] ++ O.drop k))) := by have h := hO; simpa [ints] using h
                    have hO := IL.own hO (by simp only [List.length_append, List.length_take, List.length_drop, List.length_singleton]; omega)
                    have hO := hid0 hO
                    go_wp2_with fail
                    exact ⟨⟨i + 1, [], by omega, by go_num, by rw [HR.out]; exact hO.out, below_through hB hnx2.out.size hnx2.out⟩, by simp [intOf]; omega⟩
                  exact AllReadyH.nil
                exact AllReadyH.nil
              exact AllReadyH.nil
            refine AllReadyH.cons rfl (fun K hK => ?_) ?_
            · (try simp only [Act.put, List.setIfInBounds_toArray, List.set_cons_zero, List.set_cons_succ, List.getElem_toArray, List.getElem_cons_zero, List.getElem_cons_succ])
              go_simp
              obtain ⟨W2, hW2⟩ : ∃ W', W1.alloc (.cells #[.int .i64 x] 3) = W' := ⟨_, rfl⟩
              have X9 : VarB W2 W1.heap.size [.int .i64 x] := by rw [← hW2]; exact VarB.new _ _ _
              have hne9 : (Value.slice (some ⟨W0.heap.size, 0, none⟩) 0 0).ownBlock ≠ some W1.heap.size := fun e => by have := (hO.lt _ e).2; omega
              have hO := hO.alloc (.cells #[.int .i64 x] 3); rw [hW2] at hO
              have hB := hB.alloc hB.size (.cells #[.int .i64 x] 3); rw [hW2] at hB
              rw [hW2]
              refine hK.out _ _ hB (fun hHeld => ?_)
              clear hW2
              clear hK K
              (try simp only [Act.put, List.setIfInBounds_toArray, List.set_cons_zero, List.set_cons_succ, List.getElem_toArray, List.getElem_cons_zero, List.getElem_cons_succ])
              refine wpAnyH_ready (rs := [4]) (by kernel_rfl) (by simp) ?_
              refine AllReadyH.cons rfl (fun K hK => ?_) ?_
              · refine app_if (by rfl) _ _ (by rfl) (by rfl) W0.heap.size (0) (ints []) hO ao (k) cO (by rfl) (O.take k) (by rw [List.length_take]; omega) (head_at k (HIO.out.later hB)) (by omega) hB.size ?_
                intro v4 W3 hO2 hg2 hat2
                have hne2 : v4.ownBlock ≠ some W1.heap.size := by rcases hat2 with e | e; (rw [e]; exact hne9); (rw [e]; intro e2; have e3 := Option.some.inj e2; have := X9.lt; omega)
                have X9 := X9.keep (hg2.block _ X9.lt (fun e => hne9 e.symm)) hg2.size
                have hne9 := hne2; clear hne2
                have hB := hB.grown hg2 hB.size (fun k hk => (hO.lt k hk).1)
                clear hO
                have hO := hO2
                clear hO2 hg2 hat2
                rw [Nat.zero_add] at hO
                refine hK.out _ _ hB (fun hHeld => ?_)
                clear hK K
                (try simp only [Act.put, List.setIfInBounds_toArray, List.set_cons_zero, List.set_cons_succ, List.getElem_toArray, List.getElem_cons_zero, List.getElem_cons_succ])
                refine wpAnyH_ready (rs := [10]) (by kernel_rfl) (by simp) ?_
                refine AllReadyH.cons rfl (fun K hK => ?_) ?_
                · refine app_if (by rfl) _ _ (by rfl) (by rfl) W0.heap.size (k) (ints [] ++ ints (O.take k)) hO (some ⟨W1.heap.size, 0, none⟩) (1) 1 (by rfl) [x] rfl (fun _ => ⟨_, 0, rfl, fun i hi => by match i, hi with | 0, _ => exact X9.cell 0 rfl | i + 1, hi => exact absurd hi (by simp)⟩) (by omega) hB.size ?_
                  intro v10 W4 hO2 hg2 hat2
                  have hne2 : v10.ownBlock ≠ some W1.heap.size := by rcases hat2 with e | e; (rw [e]; exact hne9); (rw [e]; intro e2; have e3 := Option.some.inj e2; have := X9.lt; omega)
                  have X9 := X9.keep (hg2.block _ X9.lt (fun e => hne9 e.symm)) hg2.size
                  have hne9 := hne2; clear hne2
                  have hB := hB.grown hg2 hB.size (fun k hk => (hO.lt k hk).1)
                  clear hO
                  have hO := hO2
                  clear hO2 hg2 hat2
                  refine hK.out _ _ hB (fun hHeld => ?_)
                  clear hK K
                  (try simp only [Act.put, List.setIfInBounds_toArray, List.set_cons_zero, List.set_cons_succ, List.getElem_toArray, List.getElem_cons_zero, List.getElem_cons_succ])
                  refine wpAnyH_ready (rs := [14]) (by kernel_rfl) (by simp) ?_
                  refine AllReadyH.cons rfl (fun K hK => ?_) ?_
                  · refine app_if (by rfl) _ _ (by rfl) (by rfl) W0.heap.size (k + 1) (ints [] ++ ints (O.take k) ++ ints [x]) hO a1 (N - k) c1 (by rfl) (O.drop k) (by rw [List.length_drop]; omega) (HS2 _ (HIO.out.later hB)) (by omega) hB.size ?_
                    intro v14 W5 hO2 hg2 hat2
                    have hne2 : v14.ownBlock ≠ some W1.heap.size := by rcases hat2 with e | e; (rw [e]; exact hne9); (rw [e]; intro e2; have e3 := Option.some.inj e2; have := X9.lt; omega)
                    have X9 := X9.keep (hg2.block _ X9.lt (fun e => hne9 e.symm)) hg2.size
                    have hne9 := hne2; clear hne2
                    have hB := hB.grown hg2 hB.size (fun k hk => (hO.lt k hk).1)
                    clear hO
                    have hO := hO2
                    clear hO2 hg2 hat2
                    refine hK.out _ _ hB (fun hHeld => ?_)
                    clear hK K
                    (try simp only [Act.put, List.setIfInBounds_toArray, List.set_cons_zero, List.set_cons_succ, List.getElem_toArray, List.getElem_cons_zero, List.getElem_cons_succ])
                    refine wpAnyH_take (i := 15) (v := ?_) rfl (by kernel_rfl) (by kernel_rfl) (by kernel_rfl) (fun _ _ _ h => h) (Or.inl ⟨by rfl, ?_⟩) (by assumption) ?_
                    rotate_left
                    · (intro wx hSw; go_simp; (try with_reducible rfl); (try omega))
                    (try simp only [Act.put, List.setIfInBounds_toArray, List.set_cons_zero, List.set_cons_succ, List.getElem_toArray, List.getElem_cons_zero, List.getElem_cons_succ])
                    refine wpAnyH_done (by kernel_rfl) ?_ _
                    have hO : W5.ownsRow W0.heap.size 3 1 v14 (k + 1 + (N - k)) (ints (O.take k ++ ([x] ++ O.drop k))) := by have h := hO; simpa [ints] using h
                    have hO := IL.own hO (by simp only [List.length_append, List.length_take, List.length_drop, List.length_singleton]; omega)
                    have hO := hid0 hO
                    go_wp2_with fail
                    exact ⟨⟨i + 1, [], by omega, by go_num, by rw [HR.out]; exact hO.out, below_through hB hnx2.out.size hnx2.out⟩, by simp [intOf]; omega⟩
                  exact AllReadyH.nil
                exact AllReadyH.nil
              exact AllReadyH.nil
            exact AllReadyH.nil
          refine AllReadyH.cons rfl (fun K hK => ?_) ?_
          · (try simp only [Act.put, List.setIfInBounds_toArray, List.set_cons_zero, List.set_cons_succ, List.getElem_toArray, List.getElem_cons_zero, List.getElem_cons_succ])
            go_simp
            obtain ⟨W1, hW1⟩ : ∃ W', W0.alloc (.cells #[.int .i64 x] 3) = W' := ⟨_, rfl⟩
            have X9 : VarB W1 W0.heap.size [.int .i64 x] := by rw [← hW1]; exact VarB.new _ _ _
            have hB := hB.alloc hB.size (.cells #[.int .i64 x] 3); rw [hW1] at hB
            rw [hW1]
            refine hK.out _ _ hB (fun hHeld => ?_)
            clear hW1
            clear hK K
            (try simp only [Act.put, List.setIfInBounds_toArray, List.set_cons_zero, List.set_cons_succ, List.getElem_toArray, List.getElem_cons_zero, List.getElem_cons_succ])
            refine wpAnyH_ready (rs := [0]) (by kernel_rfl) (by simp) ?_
            refine AllReadyH.cons rfl (fun K hK => ?_) ?_
            · (try simp only [Act.put, List.setIfInBounds_toArray, List.set_cons_zero, List.set_cons_succ, List.getElem_toArray, List.getElem_cons_zero])
              go_simp
              obtain ⟨W2, hW2⟩ : ∃ W', W1.alloc (.cells #[] 3) = W' := ⟨_, rfl⟩
              have hO := made11 W1 W0.heap.size hB.size; rw [hW2] at hO
              have hB := hB.alloc hB.size (.cells #[] 3); rw [hW2] at hB
              have hne9 : (Value.slice (some ⟨W1.heap.size, 0, none⟩) 0 0).ownBlock ≠ some W0.heap.size := by have := X9.lt; simp [Value.ownBlock]; omega
              have X9 := X9.alloc (.cells #[] 3); rw [hW2] at X9
              rw [hW2]
              refine hK.out _ _ hB (fun hHeld => ?_)
              clear hW2
              clear hK K
              (try simp only [Act.put, List.setIfInBounds_toArray, List.set_cons_zero, List.set_cons_succ, List.getElem_toArray, List.getElem_cons_zero, List.getElem_cons_succ])
              refine wpAnyH_ready (rs := [4]) (by kernel_rfl) (by simp) ?_
              refine AllReadyH.cons rfl (fun K hK => ?_) ?_
              · refine app_if (by rfl) _ _ (by rfl) (by rfl) W0.heap.size (0) (ints []) hO ao (k) cO (by rfl) (O.take k) (by rw [List.length_take]; omega) (head_at k (HIO.out.later hB)) (by omega) hB.size ?_
                intro v4 W3 hO2 hg2 hat2
                have hne2 : v4.ownBlock ≠ some W0.heap.size := by rcases hat2 with e | e; (rw [e]; exact hne9); (rw [e]; intro e2; have e3 := Option.some.inj e2; have := X9.lt; omega)
                have X9 := X9.keep (hg2.block _ X9.lt (fun e => hne9 e.symm)) hg2.size
                have hne9 := hne2; clear hne2
                have hB := hB.grown hg2 hB.size (fun k hk => (hO.lt k hk).1)
                clear hO
                have hO := hO2
                clear hO2 hg2 hat2
                rw [Nat.zero_add] at hO
                refine hK.out _ _ hB (fun hHeld => ?_)
                clear hK K
                (try simp only [Act.put, List.setIfInBounds_toArray, List.set_cons_zero, List.set_cons_succ, List.getElem_toArray, List.getElem_cons_zero, List.getElem_cons_succ])
                refine wpAnyH_ready (rs := [10]) (by kernel_rfl) (by simp) ?_
                refine AllReadyH.cons rfl (fun K hK => ?_) ?_
                · refine app_if (by rfl) _ _ (by rfl) (by rfl) W0.heap.size (k) (ints [] ++ ints (O.take k)) hO (some ⟨W0.heap.size, 0, none⟩) (1) 1 (by rfl) [x] rfl (fun _ => ⟨_, 0, rfl, fun i hi => by match i, hi with | 0, _ => exact X9.cell 0 rfl | i + 1, hi => exact absurd hi (by simp)⟩) (by omega) hB.size ?_
                  intro v10 W4 hO2 hg2 hat2
                  have hne2 : v10.ownBlock ≠ some W0.heap.size := by rcases hat2 with e | e; (rw [e]; exact hne9); (rw [e]; intro e2; have e3 := Option.some.inj e2; have := X9.lt; omega)
                  have X9 := X9.keep (hg2.block _ X9.lt (fun e => hne9 e.symm)) hg2.size
                  have hne9 := hne2; clear hne2
                  have hB := hB.grown hg2 hB.size (fun k hk => (hO.lt k hk).1)
                  clear hO
                  have hO := hO2
                  clear hO2 hg2 hat2
                  refine hK.out _ _ hB (fun hHeld => ?_)
                  clear hK K
                  (try simp only [Act.put, List.setIfInBounds_toArray, List.set_cons_zero, List.set_cons_succ, List.getElem_toArray, List.getElem_cons_zero, List.getElem_cons_succ])
                  refine wpAnyH_ready (rs := [14]) (by kernel_rfl) (by simp) ?_
                  refine AllReadyH.cons rfl (fun K hK => ?_) ?_
                  · refine app_if (by rfl) _ _ (by rfl) (by rfl) W0.heap.size (k + 1) (ints [] ++ ints (O.take k) ++ ints [x]) hO a1 (N - k) c1 (by rfl) (O.drop k) (by rw [List.length_drop]; omega) (HS2 _ (HIO.out.later hB)) (by omega) hB.size ?_
                    intro v14 W5 hO2 hg2 hat2
                    have hne2 : v14.ownBlock ≠ some W0.heap.size := by rcases hat2 with e | e; (rw [e]; exact hne9); (rw [e]; intro e2; have e3 := Option.some.inj e2; have := X9.lt; omega)
                    have X9 := X9.keep (hg2.block _ X9.lt (fun e => hne9 e.symm)) hg2.size
                    have hne9 := hne2; clear hne2
                    have hB := hB.grown hg2 hB.size (fun k hk => (hO.lt k hk).1)
                    clear hO
                    have hO := hO2
                    clear hO2 hg2 hat2
                    refine hK.out _ _ hB (fun hHeld => ?_)
                    clear hK K
                    (try simp only [Act.put, List.setIfInBounds_toArray, List.set_cons_zero, List.set_cons_succ, List.getElem_toArray, List.getElem_cons_zero, List.getElem_cons_succ])
                    refine wpAnyH_take (i := 15) (v := ?_) rfl (by kernel_rfl) (by kernel_rfl) (by kernel_rfl) (fun _ _ _ h => h) (Or.inl ⟨by rfl, ?_⟩) (by assumption) ?_
                    rotate_left
                    · (intro wx hSw; go_simp; (try with_reducible rfl); (try omega))
                    (try simp only [Act.put, List.setIfInBounds_toArray, List.set_cons_zero, List.set_cons_succ, List.getElem_toArray, List.getElem_cons_zero, List.getElem_cons_succ])
                    refine wpAnyH_done (by kernel_rfl) ?_ _
                    have hO : W5.ownsRow W0.heap.size 3 1 v14 (k + 1 + (N - k)) (ints (O.take k ++ ([x] ++ O.drop k))) := by have h := hO; simpa [ints] using h
                    have hO := IL.own hO (by simp only [List.length_append, List.length_take, List.length_drop, List.length_singleton]; omega)
                    have hO := hid0 hO
                    go_wp2_with fail
                    exact ⟨⟨i + 1, [], by omega, by go_num, by rw [HR.out]; exact hO.out, below_through hB hnx2.out.size hnx2.out⟩, by simp [intOf]; omega⟩
                  exact AllReadyH.nil
                exact AllReadyH.nil
              exact AllReadyH.nil
            exact AllReadyH.nil
          exact AllReadyH.nil
    · obtain rfl : i = M := by omega
      rw [List.take_of_length_le (by rw [HM.out]; exact Nat.le_refl _)] at hIO
      obtain ⟨ao, cO, rfl, hcO, hIO⟩ := hIO.out
      have HIO := hid0 hIO
      clear hIO
      go_wp2_with fail
      go_ret
      rw [hFe.out]
      exact ⟨⟨ao, cO, rfl, HIO.out⟩, below_through hnx hB2.out.size hB2.out⟩
end Go.Proofs.YtokkgikajammhaaGreat
