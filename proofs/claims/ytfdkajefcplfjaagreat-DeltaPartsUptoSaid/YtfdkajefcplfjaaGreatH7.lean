/- Several of my texts laid together, each as it was: Yi, Yj, Yk, Yl. Conditions: each names its own. -/
import Derived.Test.YtfdkajefcplfjaaGreatH6
import Derived.Lib.SlicesCompact
import Derived.Maps.AppendAt
import Derived.Test.YtfdkajefcplfjaaGreatShelf
import Derived.Sort.OwnSortedInts
/- Numbers rising, each once: what is left of a sorted list when neighbours that are alike go. Nothing of any program here. Conditions: none. -/
namespace Go.Proofs.YtfdkajefcplfjaaGreat
open Go.RowKit

def rise (F : List Int) : List Int := Lib.compact (F.mergeSort fun x y => decide (x ≤ y))
theorem compact_len (zs : List Int) : (Lib.compact zs).length ≤ zs.length := by
  unfold Lib.compact Lib.compactUpTo
  rw [List.length_map]
  exact Nat.le_trans (List.length_filter_le _ _) (by simp)
theorem compact_at (zs : List Int) (x : Int) : x ∈ Lib.compact zs ↔ ∃ i, ∃ h : i < zs.length, zs[i] = x ∧ (i = 0 ∨ ∃ h' : i - 1 < zs.length, zs[i - 1] ≠ zs[i]) := by
  unfold Lib.compact Lib.compactUpTo
  simp only [List.mem_map, List.mem_filter, List.mem_range]
  constructor
  · rintro ⟨i, ⟨hi, hk⟩, rfl⟩
    refine ⟨i, hi, by simp [hi], ?_⟩
    rcases Nat.eq_zero_or_pos i with h0 | h0
    · exact .inl h0
    · refine .inr ⟨by omega, fun e => ?_⟩
      simp [Lib.keeps, show i ≠ 0 by omega, hi, show i - 1 < zs.length by omega] at hk
      exact hk e.symm
  · rintro ⟨i, hi, rfl, hk⟩
    refine ⟨i, ⟨hi, ?_⟩, by simp [hi]⟩
    rcases Nat.eq_zero_or_pos i with h0 | h0
    · simp [Lib.keeps, h0]
    · rcases hk with h | ⟨h1, h2⟩
      · omega
      · simp [Lib.keeps, show i ≠ 0 by omega, hi, show i - 1 < zs.length by omega]
        exact fun e => h2 e.symm
theorem mem_compact (zs : List Int) (x : Int) : x ∈ Lib.compact zs ↔ x ∈ zs := by
  rw [compact_at]
  constructor
  · rintro ⟨i, hi, rfl, _⟩; exact List.getElem_mem hi
  · intro hx
    obtain ⟨i, hi, rfl⟩ := List.mem_iff_getElem.1 hx
    clear hx
    induction i with
    | zero => exact ⟨0, hi, rfl, .inl rfl⟩
    | succ i ih =>
      by_cases h : zs[i] = zs[i + 1]
      · rw [← h]; exact ih (by omega)
      · exact ⟨i + 1, hi, rfl, .inr ⟨by omega, h⟩⟩
theorem compact_lt (zs : List Int) (hs : zs.Pairwise (· ≤ ·)) : (Lib.compact zs).Pairwise (· < ·) := by
  unfold Lib.compact Lib.compactUpTo
  rw [List.pairwise_map]
  have h0 := (List.pairwise_lt_range (n := zs.length)).filter (Lib.keeps zs.toArray)
  refine List.Pairwise.imp_of_mem ?_ h0
  intro i j hi hj hij
  simp only [List.mem_filter, List.mem_range] at hi hj
  have hk := hj.2
  simp [Lib.keeps, show j ≠ 0 by omega, hj.1, show j - 1 < zs.length by omega] at hk
  have h1 : zs[i]'hi.1 ≤ zs[j - 1]'(by omega) := by
    rcases Nat.lt_or_ge i (j - 1) with h | h
    · exact List.pairwise_iff_getElem.1 hs i (j - 1) hi.1 (by omega) h
    · obtain rfl : i = j - 1 := by omega
      exact Int.le_refl _
  have h2 : zs[j - 1]'(by omega) ≤ zs[j]'hj.1 := List.pairwise_iff_getElem.1 hs (j - 1) j (by omega) hj.1 (by omega)
  simp [hi.1, hj.1]
  omega
theorem sort_pair (F : List Int) : (F.mergeSort fun x y => decide (x ≤ y)).Pairwise (· ≤ ·) := by
  have h := List.pairwise_mergeSort (le := fun x y : Int => decide (x ≤ y)) (fun a b c h1 h2 => by simp at *; omega) (fun a b => by simp; omega) F
  exact h.imp (fun h => by simpa using h)
theorem mem_rise (F : List Int) (x : Int) : x ∈ rise F ↔ x ∈ F := by
  unfold rise; rw [mem_compact, List.mem_mergeSort]
theorem rise_lt (F : List Int) : (rise F).Pairwise (· < ·) := compact_lt _ (sort_pair F)
theorem rise_len (F : List Int) : (rise F).length ≤ F.length := by
  have := compact_len (F.mergeSort fun x y => decide (x ≤ y))
  rw [List.length_mergeSort] at this
  exact this
/-- Two lists that rise and have the same numbers are one. -/
theorem lt_same : ∀ (a b : List Int), a.Pairwise (· < ·) → b.Pairwise (· < ·) → (∀ x, x ∈ a ↔ x ∈ b) → a = b
  | [], [], _, _, _ => rfl
  | [], y :: b, _, _, h => absurd ((h y).2 (by simp)) (by simp)
  | x :: a, [], _, _, h => absurd ((h x).1 (by simp)) (by simp)
  | x :: a, y :: b, ha, hb, h => by
    rw [List.pairwise_cons] at ha hb
    have e : x = y := by
      rcases List.mem_cons.1 ((h x).1 (by simp)) with e | e
      · exact e
      · rcases List.mem_cons.1 ((h y).2 (by simp)) with e' | e'
        · exact e'.symm
        · have := ha.1 y e'
          have := hb.1 x e
          omega
    subst e
    rw [lt_same a b ha.2 hb.2 (fun z => ⟨fun hz => by
      rcases List.mem_cons.1 ((h z).1 (by simp [hz])) with e | e
      · subst e; exact absurd (ha.1 z hz) (by omega)
      · exact e, fun hz => by
      rcases List.mem_cons.1 ((h z).2 (by simp [hz])) with e | e
      · subst e; exact absurd (hb.1 z hz) (by omega)
      · exact e⟩)]
end Go.Proofs.YtfdkajefcplfjaaGreat

/- The project's read: the places of an expression's columns, put behind those that are found: a contract of the call, in whatever memory. Conditions: the expression's cells are known, what is found lies in a row of its own, and is not too long. -/
namespace Go.Proofs.YtfdkajefcplfjaaGreat
open Go.RowKit

/-- A row of its own has grown: what else was there is as it was. -/
structure Grw (w : World) (v : Value) (w' : World) (v' : Value) : Prop where
  g : w.grownBy w' v.ownBlock
  o : v'.ownBlock = v.ownBlock ∨ ∀ k, v'.ownBlock = some k → w.heap.size ≤ k
theorem Grw.refl (w : World) (v : Value) : Grw w v w v := ⟨⟨rfl, rfl, rfl, Nat.le_refl _, fun _ _ _ => rfl⟩, .inl rfl⟩
theorem Grw.trans {w w1 w2 : World} {v v1 v2 : Value} (h : Grw w v w1 v1) (k : Grw w1 v1 w2 v2) : Grw w v w2 v2 := by
  refine ⟨⟨k.g.os.trans h.g.os, k.g.tape.trans h.g.tape, k.g.output.trans h.g.output, Nat.le_trans h.g.size k.g.size, fun i hi hn => ?_⟩, ?_⟩
  · have h1 := h.g.block i hi hn
    refine (k.g.block i (Nat.lt_of_lt_of_le hi h.g.size) ?_).trans h1
    rcases h.o with e | e
    · rw [e]; exact hn
    · intro e2; have := e i e2.symm; omega
  · rcases k.o with e | e
    · rw [e]; exact h.o
    · exact .inr fun i hi => Nat.le_trans h.g.size (e i hi)
theorem Grw.alloc {w w1 : World} {v v1 : Value} (h : Grw w v w1 v1) (o : Obj) : Grw w v (w1.alloc o) v1 :=
  h.trans ⟨World.grownBy_alloc w1 o _, .inl rfl⟩
theorem Grw.drew {w w1 : World} {v v1 : Value} (h : Grw w v w1 v1) : Grw w v w1.drew v1 := ⟨⟨h.g.os, h.g.tape, h.g.output, h.g.size, h.g.block⟩, h.o⟩
theorem Grw.app {w w1 w2 : World} {v v1 v2 : Value} (h : Grw w v w1 v1) (g : w1.grownBy w2 v1.ownBlock) (o : v2.ownBlock = v1.ownBlock ∨ v2.ownBlock = some w1.heap.size) : Grw w v w2 v2 :=
  h.trans ⟨g, o.imp_right fun e k hk => by rw [e] at hk; cases hk; exact Nat.le_refl _⟩
theorem Grw.below {n : Nat} {x w w' : World} {v v' : Value} (h : Grw w v w' v') (hb : Below n x w) (hn : n ≤ w.heap.size) (hv : ∀ k, v.ownBlock = some k → n ≤ k) : Below n x w' := hb.grown h.g hn hv
theorem Grw.var {w w' : World} {v v' : Value} {b : Nat} {us : List Value} (h : Grw w v w' v') (hV : VarB w b us) (hb : v.ownBlock ≠ some b) : VarB w' b us := hV.keep (h.g.block b hV.lt (fun e => hb e.symm)) h.g.size
/-- A row of numbers of its own. -/
structure IRow (w0 w : World) (v : Value) (F : List Int) : Prop where
  own : w.ownsRow w0.heap.size 3 1 v F.length (ints F)
  b : Below w0.heap.size w0 w
theorem IRow.lo {w0 w : World} {v : Value} {F : List Int} (h : IRow w0 w v F) : ∀ k, v.ownBlock = some k → w0.heap.size ≤ k := fun k hk => (h.own.lt k hk).1
theorem IRow.hi {w0 w : World} {v : Value} {F : List Int} (h : IRow w0 w v F) : ∀ k, v.ownBlock = some k → k < w.heap.size := fun k hk => (h.own.lt k hk).2
theorem IRow.nil (w : World) : IRow w w (.slice none 0 0) [] := ⟨World.ownsRow_nil _ _ _ _, Below.refl _ _⟩
theorem IRow.alloc {w0 w : World} {v : Value} {F : List Int} (h : IRow w0 w v F) (o : Obj) : IRow w0 (w.alloc o) v F := ⟨h.own.alloc o, h.b.alloc h.b.size o⟩
theorem IRow.drew {w0 w : World} {v : Value} {F : List Int} (h : IRow w0 w v F) : IRow w0 w.drew v F := ⟨h.own, Below.drew h.b⟩
theorem IRow.below {w0 w w' : World} {v : Value} {F : List Int} (h : IRow w0 w v F) (hb : Below w.heap.size w w') : IRow w0 w' v F := ⟨own_belowY h.own hb, below_through hb h.b.size h.b⟩
theorem IRow.box {w0 w : World} {v : Value} {F : List Int} (h : IRow w0 w v F) : v.ownBlock ≠ some w.heap.size := fun e => by have := h.hi _ e; omega
/-- What a call answers that puts numbers behind those that are there. -/
def RdAns (w0 w : World) (v : Value) (L : List Int) (e : Ending) (w' : World) : Prop := ∃ v', e = .returned v' ∧ IRow w0 w' v' L ∧ Grw w v w' v'
structure RdOk (n : Nat) : Prop where
  out : ∀ (x : Cx) (w0 w : World) (v : Value) (F : List Int), CxAt w0 n x → IRow w0 w v F → F.length + sizeC x ≤ 8000000 → Calls Tryz.prog 225 #[v, x.val] w (RdAns w0 w v (F ++ rdC x))
structure RdHalf (w0 : World) (x : Cx) (s : Nat) : Prop where
  out : ∀ (w : World) (v : Value) (F : List Int), IRow w0 w v F → F.length + s ≤ 8000000 → Calls Tryz.prog 225 #[v, x.val] w (RdAns w0 w v (F ++ rdC x))
theorem RdOk.half {n : Nat} (H : RdOk n) {w0 : World} {x : Cx} (hx : CxAt w0 n x) : RdHalf w0 x (sizeC x) := ⟨fun w v F h1 h2 => H.out x w0 w v F hx h1 h2⟩
set_option maxHeartbeats 8000000 in
set_option maxRecDepth 1000000 in
theorem read_one {n : Nat} (IH : RdOk n) (q : Int) (vv : Val) (p : Option Addr) (c : Nat) (ys : List Cx) (w0 w : World) (v : Value) (F : List Int) (hx : CxAt w0 (n + 1) (.mk 1 q vv p c ys)) (hF : IRow w0 w v F) (hs : F.length + sizeC (.mk 1 q vv p c ys) ≤ 8000000) :
    Calls Tryz.prog 225 #[v, .agg #[.int .i64 1, .int .i64 q, .int .i64 vv.k, .int .i64 vv.n, .string vv.s, .slice p ys.length c]] w (RdAns w0 w v (F ++ rdC (.mk 1 q vv p c ys))) := by
  obtain ⟨i0, hi, hz0, hz1, hz2⟩ := info_parts infoI
  obtain ⟨hk, hA⟩ := hx
  have H : ∀ j (hj : j < ys.length), RdHalf w0 ys[j] (sizeC ys[j]) := fun j hj => IH.half (hA _ (List.getElem_mem hj))
  have HH := hid0 H
  have HK := hid0 hk
  have hroom := hk.room
  rw [sizeC] at hs
  have hF0 := hF.b.size
  clear IH hA H hk
  have HR := hid0 (show F ++ rdC (.mk 1 q vv p c ys) = (F ++ [q]) ++ rdL ys by rw [rdC, if_pos rfl, List.append_assoc])
  have V := VarB.new w [.int .i64 1, .int .i64 q, .int .i64 vv.k, .int .i64 vv.n, .string vv.s, .slice p ys.length c] 44
  have a0 := V.cell 0 rfl
  have a1 := V.cell 1 rfl
  have a2 := V.cell 2 rfl
  have a3 := V.cell 3 rfl
  have a4 := V.cell 4 rfl
  have a5 := V.cell 5 rfl
  have HV := hid0 V
  have HF := hid0 hF
  have hbx := hF.box
  clear V hF
  go_enter Tryz.func225, Tryz.ntmps225
  go_wp2_with (at_builtin; refine wpList_append_own_at _ rfl _ _ 39 rfl w0.heap.size 3 i0 (.int .i64 0) 1 8 Tryz.underlying39 hi hz0 hz1 hz2 rfl (by decide) _ _ _ rfl ((HF.out.own.alloc _).alloc _) ⟨w.heap.size + 1, 0, none⟩ 1 1 [.int .i64 q] rfl rfl ?c1 ?c2 ?c3 ?c4 ?c5 ?_)
  case c1 =>
    intro j u hj
    match j, hj with
    | 0, hj => simp at hj; subst hj; simp [Addr.add]
  case c2 => intro u hu; simp at hu; subst hu; rfl
  case c3 => unfold maxLen; omega
  case c4 => omega
  case c5 => simp; omega
  intro v1 w1 hown' hgrow _ hat
  have hG1 : Grw w v w1 v1 := (((Grw.refl w v).alloc _).alloc _).app hgrow (by simpa using hat)
  have V1 : VarB w1 w.heap.size _ := Grw.var ⟨hgrow, .inl rfl⟩ (HV.out.alloc _) hbx
  have a5 := V1.cell 5 rfl
  rw [← ints_snoc] at hown'
  have hI1 : IRow w0 w1 v1 (F ++ [q]) := ⟨by simpa using hown', hG1.below HF.out.b HF.out.b.size HF.out.lo⟩
  have HI1 := hid0 hI1
  have HG1 := hid0 hG1
  clear hown' hgrow hat hI1 hG1 V1 a0 a1 a2 a3 a4 HV HF
  go_wp2_with fail
  clear a5
  go_loopw [0, 18] (fun u i wr => ∃ k : Nat, k ≤ ys.length ∧ i = .int .i64 k ∧ IRow w0 wr u ((F ++ [q]) ++ rdL (ys.take k)) ∧ Grw w v wr u) (fun _ i _ => ys.length - (intOf i).toNat)
  case atStart => exact ⟨0, Nat.zero_le _, rfl, by simpa [rdL] using HI1.out, HG1.out⟩
  case round =>
    obtain ⟨k, hk, rfl, hI, hG⟩ := hrel
    have hsz := hI.b.size
    by_cases hlt : k < ys.length
    · have H := HH.out k hlt
      have HT := hid0 (rdL_take ys k hlt)
      have hs1 := sizeCL_take ys k hlt
      have hs2 := rdL_len (ys.take k)
      obtain ⟨b, o, rfl, hb, hX⟩ := HK.out.arg k hlt
      generalize hy : ys[k] = t at H hX HT hs1
      clear hy
      obtain ⟨kx, ax, vx, px, cx, yx⟩ := t
      have hb' : b < wr.heap.size := by omega
      have q0 := cell_later hI.b (rng hX 0 rfl)
      have q1 := cell_later hI.b (rng hX 1 rfl)
      have q2 := cell_later hI.b (rng hX 2 rfl)
      have q3 := cell_later hI.b (rng hX 3 rfl)
      have q4 := cell_later hI.b (rng hX 4 rfl)
      have q5 := cell_later hI.b (rng hX 5 rfl)
      simp only [Nat.add_zero] at q0
      have HI := hid0 hI
      have HG := hid0 hG
      clear hX hI hG
      go_wp2_with fail
      go_at_call 225
      refine (H.out _ _ _ (HI.out.alloc _) (by simp only [List.length_append, List.length_cons, List.length_nil]; omega)).mono ?_
      rintro e w3 ⟨v3, rfl, hI3, hG3⟩
      rw [List.append_assoc, ← HT.out] at hI3
      have hG4 := (HG.out.alloc _).trans hG3
      have HI3 := hid0 hI3
      have HG4 := hid0 hG4
      clear hI3 hG3 hG4 HI HG q0 q1 q2 q3 q4 q5
      go_wp2_with fail
      exact ⟨⟨k + 1, by omega, by go_num, HI3.out, HG4.out⟩, by simp [intOf]; omega⟩
    · obtain rfl : k = ys.length := by omega
      rw [List.take_length] at hI
      have HI := hid0 hI
      have HG := hid0 hG
      clear hI hG
      go_wp2_with fail
      go_ret
      exact ⟨_, rfl, by rw [HR.out]; exact HI.out, HG.out⟩
set_option maxHeartbeats 8000000 in
set_option maxRecDepth 1000000 in
theorem read_other {n : Nat} (IH : RdOk n) (k : Int) (q : Int) (vv : Val) (p : Option Addr) (c : Nat) (ys : List Cx) (w0 w : World) (v : Value) (F : List Int) (hx : CxAt w0 (n + 1) (.mk k q vv p c ys)) (hF : IRow w0 w v F) (hs : F.length + sizeC (.mk k q vv p c ys) ≤ 8000000) (hk1 : k ≠ 1) :
    Calls Tryz.prog 225 #[v, .agg #[.int .i64 k, .int .i64 q, .int .i64 vv.k, .int .i64 vv.n, .string vv.s, .slice p ys.length c]] w (RdAns w0 w v (F ++ rdC (.mk k q vv p c ys))) := by
  obtain ⟨i0, hi, hz0, hz1, hz2⟩ := info_parts infoI
  obtain ⟨hk, hA⟩ := hx
  have H : ∀ j (hj : j < ys.length), RdHalf w0 ys[j] (sizeC ys[j]) := fun j hj => IH.half (hA _ (List.getElem_mem hj))
  have HH := hid0 H
  have HK := hid0 hk
  have hroom := hk.room
  rw [sizeC] at hs
  have hF0 := hF.b.size
  clear IH hA H hk
  have HR := hid0 (show F ++ rdC (.mk k q vv p c ys) = F ++ rdL ys by rw [rdC, if_neg hk1]; rfl)
  have ht : (k == 1) = false := by simpa using hk1
  clear hk1
  have V := VarB.new w [.int .i64 k, .int .i64 q, .int .i64 vv.k, .int .i64 vv.n, .string vv.s, .slice p ys.length c] 44
  have a0 := V.cell 0 rfl
  have a1 := V.cell 1 rfl
  have a2 := V.cell 2 rfl
  have a3 := V.cell 3 rfl
  have a4 := V.cell 4 rfl
  have a5 := V.cell 5 rfl
  have HI1 := hid0 (hF.alloc (.cells #[.int .i64 k, .int .i64 q, .int .i64 vv.k, .int .i64 vv.n, .string vv.s, .slice p ys.length c] 44))
  have HG1 := hid0 ((Grw.refl w v).alloc (.cells #[.int .i64 k, .int .i64 q, .int .i64 vv.k, .int .i64 vv.n, .string vv.s, .slice p ys.length c] 44))
  clear V hF
  go_enter Tryz.func225, Tryz.ntmps225
  go_wp2_with fail
  clear a0 a1 a2 a3 a4 a5
  go_loopw [0, 18] (fun u i wr => ∃ k : Nat, k ≤ ys.length ∧ i = .int .i64 k ∧ IRow w0 wr u (F ++ rdL (ys.take k)) ∧ Grw w v wr u) (fun _ i _ => ys.length - (intOf i).toNat)
  case atStart => exact ⟨0, Nat.zero_le _, rfl, by simpa [rdL] using HI1.out, HG1.out⟩
  case round =>
    obtain ⟨k, hk, rfl, hI, hG⟩ := hrel
    have hsz := hI.b.size
    by_cases hlt : k < ys.length
    · have H := HH.out k hlt
      have HT := hid0 (rdL_take ys k hlt)
      have hs1 := sizeCL_take ys k hlt
      have hs2 := rdL_len (ys.take k)
      obtain ⟨b, o, rfl, hb, hX⟩ := HK.out.arg k hlt
      generalize hy : ys[k] = t at H hX HT hs1
      clear hy
      obtain ⟨kx, ax, vx, px, cx, yx⟩ := t
      have hb' : b < wr.heap.size := by omega
      have q0 := cell_later hI.b (rng hX 0 rfl)
      have q1 := cell_later hI.b (rng hX 1 rfl)
      have q2 := cell_later hI.b (rng hX 2 rfl)
      have q3 := cell_later hI.b (rng hX 3 rfl)
      have q4 := cell_later hI.b (rng hX 4 rfl)
      have q5 := cell_later hI.b (rng hX 5 rfl)
      simp only [Nat.add_zero] at q0
      have HI := hid0 hI
      have HG := hid0 hG
      clear hX hI hG
      go_wp2_with fail
      go_at_call 225
      refine (H.out _ _ _ (HI.out.alloc _) (by simp only [List.length_append]; omega)).mono ?_
      rintro e w3 ⟨v3, rfl, hI3, hG3⟩
      rw [List.append_assoc, ← HT.out] at hI3
      have hG4 := (HG.out.alloc _).trans hG3
      have HI3 := hid0 hI3
      have HG4 := hid0 hG4
      clear hI3 hG3 hG4 HI HG q0 q1 q2 q3 q4 q5
      go_wp2_with fail
      exact ⟨⟨k + 1, by omega, by go_num, HI3.out, HG4.out⟩, by simp [intOf]; omega⟩
    · obtain rfl : k = ys.length := by omega
      rw [List.take_length] at hI
      have HI := hid0 hI
      have HG := hid0 hG
      clear hI hG
      go_wp2_with fail
      go_ret
      exact ⟨_, rfl, by rw [HR.out]; exact HI.out, HG.out⟩
theorem read_allY : ∀ n, RdOk n
  | 0 => ⟨fun _ _ _ _ _ h _ _ => h.elim⟩
  | n + 1 => ⟨fun x w0 w v F hx hF hs => by
    obtain ⟨k, q, vv, p, c, ys⟩ := x
    by_cases hk : k = 1
    · subst hk; exact read_one (read_allY n) q vv p c ys w0 w v F hx hF hs
    · exact read_other (read_allY n) k q vv p c ys w0 w v F hx hF hs hk⟩
theorem read_any {n : Nat} {x : Cx} {w0 w : World} {v : Value} {F : List Int} (hx : CxAt w0 n x) (hF : IRow w0 w v F) (hs : F.length + sizeC x ≤ 8000000) : Calls Tryz.prog 225 #[v, x.val] w (RdAns w0 w v (F ++ rdC x)) := (read_allY n).out x w0 w v F hx hF hs
end Go.Proofs.YtfdkajefcplfjaaGreat

/- The project's asked: the places of a condition's columns: a contract of the call, in whatever memory. Conditions: as read's. -/
namespace Go.Proofs.YtfdkajefcplfjaaGreat
open Go.RowKit

theorem Grw.ne {w w' : World} {v v' : Value} {b : Nat} (h : Grw w v w' v') (hv : v.ownBlock ≠ some b) (hb : b < w.heap.size) : v'.ownBlock ≠ some b := by
  rcases h.o with e | e
  · rw [e]; exact hv
  · intro e2; have := e b e2; omega
structure AkOk (n : Nat) : Prop where
  out : ∀ (x : Tx) (w0 w : World) (v : Value) (F : List Int), TxAt w0 n x → IRow w0 w v F → F.length + sizeT x ≤ 8000000 → Calls Tryz.prog 162 #[v, x.val] w (RdAns w0 w v (F ++ asT x))
structure AkHalf (w0 : World) (x : Tx) (s : Nat) : Prop where
  out : ∀ (w : World) (v : Value) (F : List Int), IRow w0 w v F → F.length + s ≤ 8000000 → Calls Tryz.prog 162 #[v, x.val] w (RdAns w0 w v (F ++ asT x))
theorem AkOk.half {n : Nat} (H : AkOk n) {w0 : World} {x : Tx} (hx : TxAt w0 n x) : AkHalf w0 x (sizeT x) := ⟨fun w v F h1 h2 => H.out x w0 w v F hx h1 h2⟩
set_option maxHeartbeats 8000000 in
set_option maxRecDepth 1000000 in
theorem asked_step {n : Nat} (IH : AkOk n) (k op : Int) (kl al : Int) (vl : Val) (pl : Option Addr) (cl : Nat) (yl : List Cx) (kr ar : Int) (vr : Val) (pr : Option Addr) (cr : Nat) (yr : List Cx) (p : Option Addr) (c : Nat) (ys : List Tx) (w0 w : World) (v : Value) (F : List Int) (hx : TxAt w0 (n + 1) (.mk k op (.mk kl al vl pl cl yl) (.mk kr ar vr pr cr yr) p c ys)) (hF : IRow w0 w v F) (hs : F.length + sizeT (.mk k op (.mk kl al vl pl cl yl) (.mk kr ar vr pr cr yr) p c ys) ≤ 8000000) :
    Calls Tryz.prog 162 #[v, .agg #[.int .i64 k, .int .i64 op, .int .i64 kl, .int .i64 al, .int .i64 vl.k, .int .i64 vl.n, .string vl.s, .slice pl yl.length cl, .int .i64 kr, .int .i64 ar, .int .i64 vr.k, .int .i64 vr.n, .string vr.s, .slice pr yr.length cr, .slice p ys.length c]] w (RdAns w0 w v (F ++ asT (.mk k op (.mk kl al vl pl cl yl) (.mk kr ar vr pr cr yr) p c ys))) := by
  obtain ⟨⟨hl, hr⟩, hk, hA⟩ := hx
  have H : ∀ j (hj : j < ys.length), AkHalf w0 ys[j] (sizeT ys[j]) := fun j hj => IH.half (hA _ (List.getElem_mem hj))
  have HH := hid0 H
  have HK := hid0 hk
  have hroom := hk.room
  rw [sizeT] at hs
  have hL := (read_allY n).half hl
  have hRr := (read_allY n).half hr
  have sl := rdC_len (.mk kl al vl pl cl yl)
  have sr := rdC_len (.mk kr ar vr pr cr yr)
  have hF0 := hF.b.size
  clear IH hA H hk hl hr
  have HR := hid0 (show F ++ asT (.mk k op (.mk kl al vl pl cl yl) (.mk kr ar vr pr cr yr) p c ys) = (F ++ rdC (.mk kl al vl pl cl yl) ++ rdC (.mk kr ar vr pr cr yr)) ++ asL ys by rw [asT]; simp only [List.append_assoc])
  generalize hgl : rdC (.mk kl al vl pl cl yl) = FL at HR hL sl
  generalize hgr : rdC (.mk kr ar vr pr cr yr) = FR at HR hRr sr
  generalize hsl : sizeC (.mk kl al vl pl cl yl) = SL at hs hL sl
  generalize hsr : sizeC (.mk kr ar vr pr cr yr) = SR at hs hRr sr
  have C1 : ∀ (w : World) (v : Value) (F : List Int), IRow w0 w v F → F.length + SL ≤ 8000000 → Calls Tryz.prog 225 #[v, .agg #[.int .i64 kl, .int .i64 al, .int .i64 vl.k, .int .i64 vl.n, .string vl.s, .slice pl yl.length cl]] w (RdAns w0 w v (F ++ FL)) := fun w v F h1 h2 => by have h := hL.out w v F h1 h2; rw [hgl] at h; exact h
  have C2 : ∀ (w : World) (v : Value) (F : List Int), IRow w0 w v F → F.length + SR ≤ 8000000 → Calls Tryz.prog 225 #[v, .agg #[.int .i64 kr, .int .i64 ar, .int .i64 vr.k, .int .i64 vr.n, .string vr.s, .slice pr yr.length cr]] w (RdAns w0 w v (F ++ FR)) := fun w v F h1 h2 => by have h := hRr.out w v F h1 h2; rw [hgr] at h; exact h
  have C1 := hid0 C1
  have C2 := hid0 C2
  clear hL hRr hgl hgr hsl hsr
  have V := VarB.new w [.int .i64 k, .int .i64 op, .int .i64 kl, .int .i64 al, .int .i64 vl.k, .int .i64 vl.n, .string vl.s, .slice pl yl.length cl, .int .i64 kr, .int .i64 ar, .int .i64 vr.k, .int .i64 vr.n, .string vr.s, .slice pr yr.length cr, .slice p ys.length c] 47
  have HV := hid0 V
  have HF := hid0 hF
  have hbx := hF.box
  clear V hF
  go_enter Tryz.func162, Tryz.ntmps162
  go_wp2_with fail
  have hI1 : IRow w0 _ v F := (HF.out.alloc (.cells #[.int .i64 k, .int .i64 op, .int .i64 kl, .int .i64 al, .int .i64 vl.k, .int .i64 vl.n, .string vl.s, .slice pl yl.length cl, .int .i64 kr, .int .i64 ar, .int .i64 vr.k, .int .i64 vr.n, .string vr.s, .slice pr yr.length cr, .slice p ys.length c] 47)).drew
  have hG1 : Grw w v _ v := ((Grw.refl w v).alloc (.cells #[.int .i64 k, .int .i64 op, .int .i64 kl, .int .i64 al, .int .i64 vl.k, .int .i64 vl.n, .string vl.s, .slice pl yl.length cl, .int .i64 kr, .int .i64 ar, .int .i64 vr.k, .int .i64 vr.n, .string vr.s, .slice pr yr.length cr, .slice p ys.length c] 47)).drew
  have hS : BoxS w0 w.heap.size [.int .i64 k, .int .i64 op, .int .i64 kl, .int .i64 al, .int .i64 vl.k, .int .i64 vl.n, .string vl.s, .slice pl yl.length cl, .int .i64 kr, .int .i64 ar, .int .i64 vr.k, .int .i64 vr.n, .string vr.s, .slice pr yr.length cr, .slice p ys.length c] _ := ⟨HV.out.drew, hI1.b⟩
  clear HV HF
  refine wp_region_held_drew (S := BoxS w0 w.heap.size [.int .i64 k, .int .i64 op, .int .i64 kl, .int .i64 al, .int .i64 vl.k, .int .i64 vl.n, .string vl.s, .slice pl yl.length cl, .int .i64 kr, .int .i64 ar, .int .i64 vr.k, .int .i64 vr.n, .string vr.s, .slice pr yr.length cr, .slice p ys.length c]) (by kernel_rfl) hS (fun hHeld => ?_)
  refine wpAnyH_take (i := 0) (v := ?_) rfl (by kernel_rfl) (by kernel_rfl) (by kernel_rfl) (fun _ _ _ h => h) (Or.inl ⟨by rfl, ?_⟩) (by assumption) ?_
  rotate_left
  · (intro wx hSw; have q1 := hSw.a.cell 1 rfl; go_simp; (try with_reducible rfl); (try omega))
  (try simp only [Act.put, List.setIfInBounds_toArray, List.set_cons_zero, List.set_cons_succ, List.getElem_toArray, List.getElem_cons_zero])
  refine wpAnyH_take (i := 1) (v := ?_) rfl (by kernel_rfl) (by kernel_rfl) (by kernel_rfl) (fun _ _ _ h => h) (Or.inl ⟨by rfl, ?_⟩) (by assumption) ?_
  rotate_left
  · (intro wx hSw; have q1 := hSw.a.cell 1 rfl; go_simp; (try with_reducible rfl); (try omega))
  (try simp only [Act.put, List.setIfInBounds_toArray, List.set_cons_zero, List.set_cons_succ, List.getElem_toArray, List.getElem_cons_zero, List.getElem_cons_succ])
  refine wpAnyH_take (i := 2) (v := .agg [.int .i64 kl, .int .i64 al, .int .i64 vl.k, .int .i64 vl.n, .string vl.s, .slice pl yl.length cl].toArray) rfl (by kernel_rfl) (by kernel_rfl) (by kernel_rfl) (fun _ _ _ h => h) (yieldsIf_load_mid rfl 44 _ rfl w.heap.size (2) rfl [.int .i64 kl, .int .i64 al, .int .i64 vl.k, .int .i64 vl.n, .string vl.s, .slice pl yl.length cl] _ (fun w h => range_mid (xs := [.int .i64 k, .int .i64 op]) (ys := [.int .i64 kl, .int .i64 al, .int .i64 vl.k, .int .i64 vl.n, .string vl.s, .slice pl yl.length cl]) (zs := [.int .i64 kr, .int .i64 ar, .int .i64 vr.k, .int .i64 vr.n, .string vr.s, .slice pr yr.length cr, .slice p ys.length c]) h.a.at_) Tryz.underlying44 rfl (sizeX)) (by assumption) ?_
  (try simp only [Act.put, List.setIfInBounds_toArray, List.set_cons_zero, List.set_cons_succ, List.getElem_toArray, List.getElem_cons_zero, List.getElem_cons_succ])
  refine wpAnyH_take (i := 4) (v := ?_) rfl (by kernel_rfl) (by kernel_rfl) (by kernel_rfl) (fun _ _ _ h => h) (Or.inl ⟨by rfl, ?_⟩) (by assumption) ?_
  rotate_left
  · (intro wx hSw; have q1 := hSw.a.cell 1 rfl; go_simp; (try with_reducible rfl); (try omega))
  (try simp only [Act.put, List.setIfInBounds_toArray, List.set_cons_zero, List.set_cons_succ, List.getElem_toArray, List.getElem_cons_zero, List.getElem_cons_succ])
  refine wpAnyH_take (i := 5) (v := .agg [.int .i64 kr, .int .i64 ar, .int .i64 vr.k, .int .i64 vr.n, .string vr.s, .slice pr yr.length cr].toArray) rfl (by kernel_rfl) (by kernel_rfl) (by kernel_rfl) (fun _ _ _ h => h) (yieldsIf_load_mid rfl 44 _ rfl w.heap.size (8) rfl [.int .i64 kr, .int .i64 ar, .int .i64 vr.k, .int .i64 vr.n, .string vr.s, .slice pr yr.length cr] _ (fun w h => range_mid (xs := [.int .i64 k, .int .i64 op, .int .i64 kl, .int .i64 al, .int .i64 vl.k, .int .i64 vl.n, .string vl.s, .slice pl yl.length cl]) (ys := [.int .i64 kr, .int .i64 ar, .int .i64 vr.k, .int .i64 vr.n, .string vr.s, .slice pr yr.length cr]) (zs := [.slice p ys.length c]) h.a.at_) Tryz.underlying44 rfl (sizeX)) (by assumption) ?_
  (try simp only [Act.put, List.setIfInBounds_toArray, List.set_cons_zero, List.set_cons_succ, List.getElem_toArray, List.getElem_cons_zero, List.getElem_cons_succ])
  refine wpAnyH_ready (rs := [3]) (by kernel_rfl) (by simp) ?_
  refine AllReadyH.cons rfl (fun K hK => ?_) AllReadyH.nil
  go_simp
  refine (C1.out _ _ _ hI1 (by omega)).mono ?_
  rintro e w3 ⟨v3, rfl, hI3, hG3⟩
  have hS3 : BoxS w0 w.heap.size [.int .i64 k, .int .i64 op, .int .i64 kl, .int .i64 al, .int .i64 vl.k, .int .i64 vl.n, .string vl.s, .slice pl yl.length cl, .int .i64 kr, .int .i64 ar, .int .i64 vr.k, .int .i64 vr.n, .string vr.s, .slice pr yr.length cr, .slice p ys.length c] _ := ⟨hG3.var hS.a hbx, hI3.b⟩
  have hbx3 := hG3.ne hbx hS.a.lt
  have hG3 := hG1.trans hG3
  refine hK.out _ _ hS3 (fun hHeld => ?_)
  clear hK K
  (try simp only [Act.put, List.setIfInBounds_toArray, List.set_cons_zero, List.set_cons_succ, List.getElem_toArray, List.getElem_cons_zero, List.getElem_cons_succ])
  refine wpAnyH_ready (rs := [6]) (by kernel_rfl) (by simp) ?_
  refine AllReadyH.cons rfl (fun K hK => ?_) AllReadyH.nil
  go_simp
  refine (C2.out _ _ _ hI3 (by rw [List.length_append]; omega)).mono ?_
  rintro e w4 ⟨v4, rfl, hI4, hG4⟩
  have hS4 : BoxS w0 w.heap.size [.int .i64 k, .int .i64 op, .int .i64 kl, .int .i64 al, .int .i64 vl.k, .int .i64 vl.n, .string vl.s, .slice pl yl.length cl, .int .i64 kr, .int .i64 ar, .int .i64 vr.k, .int .i64 vr.n, .string vr.s, .slice pr yr.length cr, .slice p ys.length c] _ := ⟨hG4.var hS3.a hbx3, hI4.b⟩
  have hG4 := hG3.trans hG4
  refine hK.out _ _ hS4 (fun hHeld => ?_)
  clear hK K
  (try simp only [Act.put, List.setIfInBounds_toArray, List.set_cons_zero, List.set_cons_succ, List.getElem_toArray, List.getElem_cons_zero, List.getElem_cons_succ])
  refine wpAnyH_take (i := 7) (v := ?_) rfl (by kernel_rfl) (by kernel_rfl) (by kernel_rfl) (fun _ _ _ h => h) (Or.inl ⟨by rfl, ?_⟩) (by assumption) ?_
  rotate_left
  · (intro wx hSw; have q1 := hSw.a.cell 1 rfl; go_simp; (try with_reducible rfl); (try omega))
  (try simp only [Act.put, List.setIfInBounds_toArray, List.set_cons_zero, List.getElem_toArray, List.getElem_cons_zero, List.getElem_cons_succ])
  refine wpAnyH_done (by kernel_rfl) ?_ _
  have a14 := hS4.a.cell 14 rfl
  have HI1 := hid0 hI4
  have HG1 := hid0 hG4
  have hz4 := hS4.b.size
  clear hI4 hG4 hI3 hG3 hI1 hG1 hS hS3 hS4 hHeld C1 C2 hbx hbx3
  go_wp2_with fail
  clear a14
  go_loopw [0, 17] (fun u i wr => ∃ k : Nat, k ≤ ys.length ∧ i = .int .i64 k ∧ IRow w0 wr u ((F ++ FL ++ FR) ++ asL (ys.take k)) ∧ Grw w v wr u) (fun _ i _ => ys.length - (intOf i).toNat)
  case atStart => exact ⟨0, Nat.zero_le _, rfl, by simpa [asL] using HI1.out, HG1.out⟩
  case round =>
    obtain ⟨j, hk, rfl, hI, hG⟩ := hrel
    have hsz := hI.b.size
    by_cases hlt : j < ys.length
    · have H := HH.out j hlt
      have HT := hid0 (asL_take ys j hlt)
      have hs1 := sizeTL_take ys j hlt
      have hs2 := asL_len (ys.take j)
      obtain ⟨b, o, rfl, hb, hX⟩ := HK.out.arg j hlt
      generalize hy : ys[j] = t at H hX HT hs1
      clear hy
      obtain ⟨kt, ot, ⟨kf, af, vf, pf, cf, yf⟩, ⟨kg, ag, vg, pg, cg, yg⟩, pt, ct, yt⟩ := t
      have hb' : b < wr.heap.size := by omega
      have q0 := cell_later hI.b (rng hX 0 rfl)
      have q1 := cell_later hI.b (rng hX 1 rfl)
      have q2 := cell_later hI.b (rng hX 2 rfl)
      have q3 := cell_later hI.b (rng hX 3 rfl)
      have q4 := cell_later hI.b (rng hX 4 rfl)
      have q5 := cell_later hI.b (rng hX 5 rfl)
      have q6 := cell_later hI.b (rng hX 6 rfl)
      have q7 := cell_later hI.b (rng hX 7 rfl)
      have q8 := cell_later hI.b (rng hX 8 rfl)
      have q9 := cell_later hI.b (rng hX 9 rfl)
      have q10 := cell_later hI.b (rng hX 10 rfl)
      have q11 := cell_later hI.b (rng hX 11 rfl)
      have q12 := cell_later hI.b (rng hX 12 rfl)
      have q13 := cell_later hI.b (rng hX 13 rfl)
      have q14 := cell_later hI.b (rng hX 14 rfl)
      simp only [Nat.add_zero] at q0
      have HI := hid0 hI
      have HG := hid0 hG
      clear hX hI hG
      go_wp2_with fail
      go_at_call 162
      refine (H.out _ _ _ (HI.out.alloc _) (by simp only [List.length_append]; omega)).mono ?_
      rintro e w5 ⟨v5, rfl, hI5, hG5⟩
      rw [List.append_assoc, ← HT.out] at hI5
      have hG6 := (HG.out.alloc _).trans hG5
      have HI5 := hid0 hI5
      have HG6 := hid0 hG6
      clear hI5 hG5 hG6 HI HG q0 q1 q2 q3 q4 q5 q6 q7 q8 q9 q10 q11 q12 q13 q14
      go_wp2_with fail
      exact ⟨⟨j + 1, by omega, by go_num, HI5.out, HG6.out⟩, by simp [intOf]; omega⟩
    · obtain rfl : j = ys.length := by omega
      rw [List.take_length] at hI
      have HI := hid0 hI
      have HG := hid0 hG
      clear hI hG
      go_wp2_with fail
      go_ret
      exact ⟨_, rfl, by rw [HR.out]; exact HI.out, HG.out⟩
theorem asked_all : ∀ n, AkOk n
  | 0 => ⟨fun _ _ _ _ _ h _ _ => h.elim⟩
  | n + 1 => ⟨fun x w0 w v F hx hF hs => by
    obtain ⟨k, op, ⟨kl, al, vl, pl, cl, yl⟩, ⟨kr, ar, vr, pr, cr, yr⟩, p, c, ys⟩ := x
    exact asked_step (asked_all n) k op kl al vl pl cl yl kr ar vr pr cr yr p c ys w0 w v F hx hF hs⟩
theorem asked_any {n : Nat} {x : Tx} {w0 w : World} {v : Value} {F : List Int} (hx : TxAt w0 n x) (hF : IRow w0 w v F) (hs : F.length + sizeT x ≤ 8000000) : Calls Tryz.prog 162 #[v, x.val] w (RdAns w0 w v (F ++ asT x)) := (asked_all n).out x w0 w v F hx hF hs
end Go.Proofs.YtfdkajefcplfjaaGreat

/- The project's Reads and Asks: contracts of the calls, in whatever memory. Conditions: what comes in is not too great. -/
namespace Go.Proofs.YtfdkajefcplfjaaGreat
open Go.RowKit

open Go.Sort
/-- What a call answers that tells a list of numbers. -/
def ListAns (w0 : World) (L : List Int) (e : Ending) (w' : World) : Prop := (∃ a c, e = .returned (.slice a L.length c) ∧ IntsAt w' a L) ∧ Below w0.heap.size w0 w'
structure Calls' (f : Nat) (w : World) (args : Array Value) (Q : World → Ending → World → Prop) : Prop where
  out : ∀ W, Below w.heap.size w W → Calls Tryz.prog f args W (Q W)
set_option maxHeartbeats 8000000 in
set_option maxRecDepth 1000000 in
theorem rising_any {w0 w : World} {v : Value} {F : List Int} (hF : IRow w0 w v F) (hs : F.length ≤ 8000000) :
    Calls Tryz.prog 161 #[v] w (ListAns w0 (rise F)) := by
  rcases hF.own.2 with ⟨rfl, hn⟩ | ⟨g, cap, cur, rfl, hg, hh, hnc, hcm, hsz, htake⟩
  · have e : rise F = [] := List.length_eq_zero_iff.1 (by have := rise_len F; omega)
    have he := hid0 e
    have hb := hid0 hF.b
    clear hF e hn
    go_enter Tryz.func161, Tryz.ntmps161
    go_wp2_with fail
    go_at_call 223
    refine (Tryz.slices_Sort_int_none none 0 w).mono ?_
    rintro e w1 ⟨rfl, rfl⟩
    go_wp2_with fail
    go_at_call 224
    refine (Tryz.slices_Compact_int_empty none 0 _).mono ?_
    rintro e w1 ⟨rfl, rfl⟩
    go_wp2_with fail
    go_ret
    rw [he.out]
    exact ⟨⟨none, 0, rfl, fun h => absurd rfl h⟩, hb.out⟩
  · have hgs := (hF.own.lt g rfl).2
    have hfin : ∀ j u, (ints F)[j]? = some u → w.cell? ((⟨g, 0, none⟩ : Addr).add j) = some u := hF.own.cells rfl
    have htk : cur.toList.take F.length = F.map (Value.int .i64) := by simpa [ints] using htake
    have hH := holds_of_blockI hh htk
    obtain ⟨ts, hts⟩ : ∃ ts, F.mergeSort (fun x y => decide (x ≤ y)) = ts := ⟨_, rfl⟩
    have hlt : ts.length = F.length := by rw [← hts]; exact List.length_mergeSort F
    have C1 := Tryz.slices_Sort_int g 0 cap F w hH hgs (by omega)
    rw [hts] at C1
    have C1' : Calls Tryz.prog 223 #[.slice (some ⟨g, 0, none⟩) F.length cap] w fun e w' => e = .returned (.tuple #[]) ∧ w'.ownsRow w0.heap.size 3 1 (.slice (some ⟨g, 0, none⟩) F.length cap) F.length (ts.map (Value.int .i64)) ∧ w.grownBy w' (some g) := C1.mono fun e w' ⟨he, n, os, hw⟩ => by
      subst hw
      exact ⟨he, ownsRow_sortedI hlt hg hh hnc hcm (by simpa using hsz), grownBy_sortedI _⟩
    have C1' := hid0 C1'
    have hb := hid0 hF.b
    have hr : rise F = Lib.compact ts := by rw [← hts]; rfl
    have hr := hid0 hr
    clear hF hh htake hfin htk hH hts C1 hsz
    go_enter Tryz.func161, Tryz.ntmps161
    go_wp2_with fail
    go_at_call 223
    refine C1'.out.mono ?_
    rintro e w1 ⟨rfl, hown1, hgr1⟩
    rcases hown1.2 with ⟨h0, _⟩ | ⟨g', cap', cur', h0, _, hh', hnc', hcm', hsz', htake'⟩
    · cases h0
    cases h0
    have hb1 : Below w0.heap.size w0 w1 := hb.out.grown hgr1 hb.out.size (fun k hk => by cases hk; exact hg)
    have hlt' : ts.length = F.length := hlt
    have htk' : cur'.toList.take ts.length = ts.map (Value.int .i64) := by rw [hlt']; simpa using htake'
    have hH' := holds_of_blockI hh' htk'
    have C2 := Tryz.slices_Compact_int g 0 cap ts w1 hH' (by omega) (by omega)
    have hcl := compact_len ts
    have C2' : Calls Tryz.prog 224 #[.slice (some ⟨g, 0, none⟩) F.length cap] w1 (ListAns w0 (Lib.compact ts)) := by
      rw [← hlt']
      refine C2.mono fun e w' ⟨he, q, hw⟩ => ?_
      subst he
      have hgrow0 : ∀ W : World, grow W #[] = W := fun W => by simp [grow]
      have hw' : w' = grow (putRow (Value.int .i64) (Sort.ahead w1 q) g 0 (Lib.compact ts ++ List.replicate (ts.length - (Lib.compact ts).length) 0).toArray) #[] := by rw [hgrow0]; exact hw
      have hl2 : (Lib.compact ts ++ List.replicate (ts.length - (Lib.compact ts).length) (0 : Int)).length = ts.length := by simp; omega
      have O2 : w'.ownsRow w0.heap.size 3 1 (.slice (some ⟨g, 0, none⟩) ts.length cap) ts.length (ints (Lib.compact ts ++ List.replicate (ts.length - (Lib.compact ts).length) 0)) := by
        rw [hw']
        exact ownsRow_sortedI hl2 hg hh' (by omega) hcm (by simpa using hsz')
      obtain ⟨a, c, ev, _, hI⟩ := ints_owned O2 hl2
      obtain rfl : a = some ⟨g, 0, none⟩ := (Value.slice.inj ev).1.symm
      refine ⟨⟨some ⟨g, 0, none⟩, cap, rfl, ?_⟩, ?_⟩
      · intro hne
        obtain ⟨b, o, e, hc⟩ := hI (fun e => hne (List.append_eq_nil_iff.1 e).1)
        refine ⟨b, o, e, fun i hi => ?_⟩
        rw [hc i (by rw [List.length_append]; omega), List.getElem_append_left hi]
      · rw [hw']
        exact hb1.grown (grownBy_sortedI _) hb1.size (fun k hk => by cases hk; exact hg)
    have C2' := hid0 C2'
    clear C2 hH' htk' hsz' htake' hh' hown1 hgr1
    go_wp2_with fail
    go_at_call 224
    refine C2'.out.mono ?_
    rintro e w2 ⟨⟨a2, c2, rfl, hI2⟩, hb2⟩
    have HI2 := hid0 hI2
    clear hI2
    go_wp2_with fail
    go_ret
    rw [hr.out]
    exact ⟨⟨a2, c2, rfl, HI2.out⟩, hb2⟩
theorem reads_any {n : Nat} {x : Cx} {w : World} (hx : CxAt w n x) (hs : sizeC x ≤ 8000000) : Calls Tryz.prog 248 #[x.val] w (ListAns w (rise (rdC x))) := by
  have hl := rdC_len x
  have H : Calls' 225 w #[.slice none 0 0, x.val] (fun W e w' => RdAns w W (.slice none 0 0) (rdC x) e w') := ⟨fun W hb => read_any (F := []) hx ⟨World.ownsRow_nil _ _ _ _, hb⟩ (by simpa using hs)⟩
  generalize rdC x = F at H hl
  obtain ⟨k, q, v, p, c, ys⟩ := x
  have V := VarB.new w [.int .i64 k, .int .i64 q, .int .i64 v.k, .int .i64 v.n, .string v.s, .slice p ys.length c] 44
  have a0 := V.cell 0 rfl
  have a1 := V.cell 1 rfl
  have a2 := V.cell 2 rfl
  have a3 := V.cell 3 rfl
  have a4 := V.cell 4 rfl
  have a5 := V.cell 5 rfl
  clear V hx
  show Calls Tryz.prog 248 #[.agg #[.int .i64 k, .int .i64 q, .int .i64 v.k, .int .i64 v.n, .string v.s, .slice p ys.length c]] w (ListAns w (rise F))
  go_enter Tryz.func248, Tryz.ntmps248
  go_wp2_with fail
  go_at_call 225
  refine (H.out _ (by go_grown)).mono ?_
  rintro e w1 ⟨v1, rfl, hI1, hG1⟩
  have HI1 := hid0 hI1
  clear hI1 hG1 a0 a1 a2 a3 a4 a5
  go_wp2_with fail
  go_at_call 161
  refine (rising_any HI1.out (by omega)).mono ?_
  rintro e w2 ⟨⟨a2, c2, rfl, hI2⟩, hb2⟩
  have HI2 := hid0 hI2
  clear hI2
  go_wp2_with fail
  go_ret
  exact ⟨⟨a2, c2, rfl, HI2.out⟩, hb2⟩
theorem asks_any {n : Nat} {x : Tx} {w : World} (hx : TxAt w n x) (hs : sizeT x ≤ 8000000) : Calls Tryz.prog 118 #[x.val] w (ListAns w (rise (asT x))) := by
  have hl := asT_len x
  have H : Calls' 162 w #[.slice none 0 0, x.val] (fun W e w' => RdAns w W (.slice none 0 0) (asT x) e w') := ⟨fun W hb => asked_any (F := []) hx ⟨World.ownsRow_nil _ _ _ _, hb⟩ (by simpa using hs)⟩
  generalize asT x = F at H hl
  obtain ⟨k, op, ⟨kl, al, vl, pl, cl, yl⟩, ⟨kr, ar, vr, pr, cr, yr⟩, p, c, ys⟩ := x
  have V := VarB.new w [.int .i64 k, .int .i64 op, .int .i64 kl, .int .i64 al, .int .i64 vl.k, .int .i64 vl.n, .string vl.s, .slice pl yl.length cl, .int .i64 kr, .int .i64 ar, .int .i64 vr.k, .int .i64 vr.n, .string vr.s, .slice pr yr.length cr, .slice p ys.length c] 47
  have a0 := V.cell 0 rfl
  have a1 := V.cell 1 rfl
  have a2 := V.cell 2 rfl
  have a3 := V.cell 3 rfl
  have a4 := V.cell 4 rfl
  have a5 := V.cell 5 rfl
  have a6 := V.cell 6 rfl
  have a7 := V.cell 7 rfl
  have a8 := V.cell 8 rfl
  have a9 := V.cell 9 rfl
  have a10 := V.cell 10 rfl
  have a11 := V.cell 11 rfl
  have a12 := V.cell 12 rfl
  have a13 := V.cell 13 rfl
  have a14 := V.cell 14 rfl
  clear V hx
  show Calls Tryz.prog 118 #[.agg #[.int .i64 k, .int .i64 op, .int .i64 kl, .int .i64 al, .int .i64 vl.k, .int .i64 vl.n, .string vl.s, .slice pl yl.length cl, .int .i64 kr, .int .i64 ar, .int .i64 vr.k, .int .i64 vr.n, .string vr.s, .slice pr yr.length cr, .slice p ys.length c]] w (ListAns w (rise F))
  go_enter Tryz.func118, Tryz.ntmps118
  go_wp2_with fail
  go_at_call 162
  refine (H.out _ (by go_grown)).mono ?_
  rintro e w1 ⟨v1, rfl, hI1, hG1⟩
  have HI1 := hid0 hI1
  clear hI1 hG1 a0 a1 a2 a3 a4 a5 a6 a7 a8 a9 a10 a11 a12 a13 a14
  go_wp2_with fail
  go_at_call 161
  refine (rising_any HI1.out (by omega)).mono ?_
  rintro e w2 ⟨⟨a2, c2, rfl, hI2⟩, hb2⟩
  have HI2 := hid0 hI2
  clear hI2
  go_wp2_with fail
  go_ret
  exact ⟨⟨a2, c2, rfl, HI2.out⟩, hb2⟩
end Go.Proofs.YtfdkajefcplfjaaGreat
