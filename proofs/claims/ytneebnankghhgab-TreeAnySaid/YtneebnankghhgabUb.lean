/- Several of my texts laid together, each as it was: Ub. Conditions: each names its own. -/
import Derived.Test.YtneebnankghhgabUa
import Derived.Test.YtneebnankghhgabUl
import Derived.BigRegion
import Derived.BigQuiet
import Derived.Deep.Cut
import Derived.Laws.OwnMore
/- The document's own tree: a key is put: a contract of the call, in whatever memory. Conditions: the tree's memory is known; its keys rise; 1000 keys at most. -/
namespace Go.Proofs.Ytneebnankghhgab
open Go.RowKit

/-- A part of a row, behind 's[:i]' and 's[i:]'. -/
def PartAt (w : World) (ad : Option Addr) (N : List Value) : Prop := (ad = none → N = []) ∧ ∀ j u, N[j]? = some u → ∃ d, ad = some d ∧ w.cell? (d.add j) = some u
theorem part_lo {P : Program} {T e : TypeId} {i0 : TypeInfo} (hu : P.underlying T = some (.slice (P.elem T))) (he : P.elem T = e) (hi : P.info? e = some i0) {w : World} {base n i : Nat} {v : Value} {xs : List Value} (h : w.ownsRow base e 1 v n xs) (hin : i ≤ n) (hn : n ≤ 1000) :
    ∃ a c, (∀ W : World, (Instr.slice T v none (some (.int .i64 (i : Int))) none).run P W = .ok (.slice a i c) W) ∧ (∀ W, Below w.heap.size w W → PartAt W a (xs.take i)) := by
  have h0 := h
  have hso : ∀ W, (sizeOf (P.elem T)).run P W = .ok i0.size W := fun W => by
    rw [he]; simp [sizeOf, typeInfo, hi]
  rcases h.2 with ⟨rfl, rfl⟩ | ⟨g, cap, cur, rfl, hg, hh, h1, h2, h3, h4⟩
  · have hx : xs = [] := List.length_eq_zero_iff.1 (by simpa using h.1)
    obtain rfl : i = 0 := by omega
    refine ⟨none, 0, fun W => ?_, fun W _ => ⟨fun _ => by simp, fun j u hj => by simp at hj⟩⟩
    rw [run_slice_h (P := P) W T none 0 0 hu .i64 ((0 : Nat) : Int) (by omega) (by omega), hso]
    simp [Result.andThen, sliced]
  · refine ⟨some ⟨g, 0, none⟩, cap, fun W => ?_, fun W hb => ⟨fun e => (by cases e), fun j u hj => ⟨_, rfl, ?_⟩⟩⟩
    · rw [run_slice_h W T (some ⟨g, 0, none⟩) n cap hu .i64 (i : Int) (by omega) (by omega), hso]
      simp [Result.andThen, sliced, WideShapes.add_plain]
    · exact (own_below7 h0 hb).cells rfl j u (by rw [List.getElem?_take] at hj; split at hj <;> simp_all)
theorem part_hi {P : Program} {T e : TypeId} {i0 : TypeInfo} (hu : P.underlying T = some (.slice (P.elem T))) (he : P.elem T = e) (hi : P.info? e = some i0) (hsz : i0.size = 1) {w : World} {base n i : Nat} {v : Value} {xs : List Value} (h : w.ownsRow base e 1 v n xs) (hin : i ≤ n) (hn : n ≤ 1000) :
    ∃ a c, (∀ W : World, (Instr.slice T v (some (.int .i64 (i : Int))) none none).run P W = .ok (.slice a (n - i) c) W) ∧ (∀ W, Below w.heap.size w W → PartAt W a (xs.drop i)) := by
  have h0 := h
  have hso : ∀ W, (sizeOf (P.elem T)).run P W = .ok i0.size W := fun W => by
    rw [he]; simp [sizeOf, typeInfo, hi]
  rcases h.2 with ⟨rfl, rfl⟩ | ⟨g, cap, cur, rfl, hg, hh, h1, h2, h3, h4⟩
  · have hx : xs = [] := List.length_eq_zero_iff.1 (by simpa using h.1)
    obtain rfl : i = 0 := by omega
    subst hx
    refine ⟨none, 0, fun W => ?_, fun W _ => ⟨fun _ => by simp, fun j u hj => by simp at hj⟩⟩
    rw [run_slice_l W T none 0 0 hu .i64 ((0 : Nat) : Int) (by omega) (by omega), hso]
    simp [Result.andThen, sliced]
  · by_cases hc : cap = i
    · have hd : xs.drop i = [] := List.drop_eq_nil_of_le (by rw [h.1]; omega)
      refine ⟨some ⟨g, 0, none⟩, cap - i, fun W => ?_, fun W hb => ⟨fun e => (by cases e), fun j u hj => (by rw [hd] at hj; simp at hj)⟩⟩
      rw [run_slice_l W T (some ⟨g, 0, none⟩) n cap hu .i64 (i : Int) (by omega) (by omega), hso]
      simp [Result.andThen, sliced, hc]
    · refine ⟨some ⟨g, i, none⟩, cap - i, fun W => ?_, fun W hb => ⟨fun e => (by cases e), fun j u hj => ⟨_, rfl, ?_⟩⟩⟩
      · rw [run_slice_l W T (some ⟨g, 0, none⟩) n cap hu .i64 (i : Int) (by omega) (by omega), hso]
        simp [Result.andThen, sliced, WideShapes.add_plain, hc, hsz]
      · have := (own_below7 h0 hb).cells rfl (i + j) u (by rwa [List.getElem?_drop] at hj)
        rw [WideShapes.add_plain] at this ⊢
        simpa using this
theorem step_row7 {w : World} {ops : Array Oper} {o : Oper} {a : Act} {K : Act → World → Prop} {Q : Exit → Act → World → Prop} {X : Prop} (hgd : o.guard = none) (s x : Operand) (T e : TypeId) (z : Value) (bytes : Nat)
    (hinf : (Try.prog.info? e).map (fun i => (i.zero, i.size, i.bytes)) = some (some z, 1, bytes)) (hu : Try.prog.underlying T = some (.slice e)) (hz : z.cells.size = 1) (hby : bytes ≤ 64)
    (ho : o.op = .call { callee := .builtin .append, args := #[s, x], argTypes := #[T, T] })
    {v : Value} (hs : a.eval s = v) (base n : Nat) (xs : List Value) (hown : w.ownsRow base e 1 v n xs)
    (ad : Option Addr) (m c : Nat) (hx : a.eval x = .slice ad m c) (N : List Value) (hm : N.length = m) (hnews : PartAt w ad N) (h1 : ∀ u ∈ N, u.oneCell' = true)
    (hlen : n + m ≤ 3000) (hbase : base ≤ w.heap.size)
    (h : ∀ v' w', w'.ownsRow base e 1 v' (n + m) (xs ++ N) → w.grownBy w' v.ownBlock → Below base w w' → K (a.put o.dst v') w') :
    if Region.wanted o (yielded ops a.tmps) = true then Oper.wp Try.prog o a w K Q else X := by
  have hw : Region.wanted o (yielded ops a.tmps) = true := by simp [Region.wanted, hgd]
  rw [if_pos hw]
  obtain ⟨i0, hi, hz0, hz1, hz2⟩ := info_parts hinf
  cases ad with
  | some ad =>
    refine wp_append_own w s x T ho base e i0 z 1 bytes hu hi hz0 hz1 hz2 hz (by decide) v n xs hs hown ad m c N hx (by omega) (fun j u hj => by obtain ⟨d, e, hc⟩ := hnews.2 j u hj; cases e; exact hc) h1 (by unfold maxLen; omega) (Nat.le_trans (Nat.mul_le_mul hlen hby) (by omega)) hbase ?_
    intro v' w' hown' hgrow _
    exact h v' w' hown' hgrow ((Below.refl _ _).grown hgrow hbase (fun k hk => (hown.lt k hk).1))
  | none =>
    have hN := hnews.1 rfl
    subst hN
    obtain rfl : m = 0 := by simpa using hm.symm
    obtain ⟨b, c', hv, hc'⟩ := own_shape hown
    have hr := run_append_nil7 (P := Try.prog) w T o.type e i0 hu hi b n c' c hc'
    rw [← hv] at hr
    unfold Oper.wp execOp
    simp only [ho, resolve, invoke, builtin, Sem.run_bind, Sem.run_pure, Result.andThen_ok, List.map_toArray, List.map_cons, List.map_nil, hs, hx, hr]
    exact h v w (by simpa using hown) (World.grownBy.refl _ _) (Below.refl _ _)
theorem below_al {w W : World} (h : Below w.heap.size w W) (o : Obj) : Below w.heap.size w (W.alloc o) := h.alloc h.size o
theorem made7 (W : World) (base : Nat) (e : TypeId) (hb : base ≤ W.heap.size) : (W.alloc (.cells #[] e)).ownsRow base e 1 (.slice (some ⟨W.heap.size, 0, none⟩) 0 0) 0 [] := World.ownsRow_made W #[] 0 hb (by unfold maxLen; omega) rfl
theorem made7b (W : World) (o : Obj) (base : Nat) (e : TypeId) (hb : base ≤ W.heap.size) : ((W.alloc o).alloc (.cells #[] e)).ownsRow base e 1 (.slice (some ⟨W.heap.size + 1, 0, none⟩) 0 0) 0 [] := by
  have h := made7 (W.alloc o) base e (by simp; omega)
  simpa using h
theorem one7 {W : World} {B : Nat} {v : Value} (h : W.cell? ⟨B, 0, none⟩ = some v) : PartAt W (some ⟨B, 0, none⟩) [v] := ⟨fun e => (by cases e), fun j u hj => ⟨_, rfl, by
  cases j with
  | zero => cases hj; rw [WideShapes.add_plain]; exact h
  | succ j => simp at hj⟩⟩
/-- What a call on the document's tree leaves: all other blocks as they lay. -/
structure TurnR (B : Nat) (vv vv' : Value) (w w' : World) : Prop where
  size : w.heap.size ≤ w'.heap.size
  block : ∀ j, j < w.heap.size → j ≠ B → vv.ownBlock ≠ some j → w'.heap[j]? = w.heap[j]?
  own : vv'.ownBlock = vv.ownBlock ∨ ∀ j, vv'.ownBlock = some j → w.heap.size ≤ j
  same : w'.os = w.os ∧ w'.tape = w.tape ∧ w'.output = w.output
theorem own_mono7 {w : World} {base base' : Nat} {e : TypeId} {s k : Nat} {v : Value} {xs : List Value} (h : w.ownsRow base e s v k xs) (hb : base' ≤ base) : w.ownsRow base' e s v k xs := by
  refine ⟨h.1, ?_⟩
  rcases h.2 with h | ⟨g, cap, cur, h1, h2, h3⟩
  · exact .inl h
  · exact .inr ⟨g, cap, cur, h1, Nat.le_trans hb h2, h3⟩
theorem own_store7 {W : World} {base n B : Nat} {e : TypeId} {v : Value} {xs : List Value} (h : W.ownsRow base e 1 v n xs) (hb : B < base) (j : Nat) (u : Value) : (W.setCell ⟨B, j, none⟩ u).ownsRow base e 1 v n xs :=
  h.kept (row := some B) ⟨rfl, rfl, rfl, by simp, fun k _ hne => Deep.blk_setCell_other W ⟨B, j, none⟩ u k (fun e => hne (by rw [e]))⟩ (.inr (fun e => by have := (h.lt B e).1; omega))
/-- The keys have turned, what they have has not yet. -/
structure MidR (B : Nat) (w wr : World) (vk vv : Value) (L' L : List (Key × Int)) : Prop where
  c0 : wr.cell? ⟨B, 0, none⟩ = some vk
  c1 : wr.cell? ⟨B, 1, none⟩ = some vv
  f : ∀ j, wr.frozen? ⟨B, j, none⟩ = false
  rk : wr.ownsRow (B + 1) 9 1 vk L'.length (rkC L')
  rv : wr.ownsRow (B + 1) 3 1 vv L.length (rvC L)
  size : w.heap.size ≤ wr.heap.size
  block : ∀ j, j < w.heap.size → j ≠ B → wr.heap[j]? = w.heap[j]?
  same : wr.os = w.os ∧ wr.tape = w.tape ∧ wr.output = w.output
theorem mid_of {B : Nat} {w w3 : World} {vk vv v : Value} {L L' : List (Key × Int)} {m : Nat} {xs : List Value} (h : RefAt w B vk vv L) (hb : Below w.heap.size w w3) (hown : w3.ownsRow w.heap.size 9 1 v m xs) (hm : m = L'.length) (hxs : xs = rkC L') :
    MidR B w (w3.setCell ⟨B, 0, none⟩ v) v vv L' L := by
  have h3 := h.later hb
  have hlt := h.lt
  subst hm hxs
  exact ⟨World.cell?_setCell_same _ _ _ h3.c0, by rw [World.cell?_setCell_other _ _ _ _ (by simp)]; exact h3.c1, fun j => by rw [World.frozen?_setCell]; exact h3.f j,
    own_store7 (own_mono7 hown (by omega)) (by omega) 0 v, own_store7 h3.rv (by omega) 0 v, by rw [World.size_setCell]; exact hb.size,
    fun j hj hne => (Deep.blk_setCell_other w3 ⟨B, 0, none⟩ v j (fun e => hne e)).trans (hb.block j hj), ⟨hb.os, hb.tape, hb.output⟩⟩
theorem fin_of {B : Nat} {w W w3 : World} {vk vv v : Value} {L L' : List (Key × Int)} {m : Nat} {xs : List Value} (h : MidR B w W vk vv L' L) (hBw : B < w.heap.size) (hb : Below W.heap.size W w3) (hown : w3.ownsRow W.heap.size 3 1 v m xs) (hm : m = L'.length) (hxs : xs = rvC L') :
    RefAt (w3.setCell ⟨B, 1, none⟩ v) B vk v L' ∧ TurnR B vv v w (w3.setCell ⟨B, 1, none⟩ v) := by
  have hlt : B < W.heap.size := Nat.lt_of_lt_of_le hBw h.size
  subst hm hxs
  have c1 := cell_later hb h.c1
  refine ⟨⟨by rw [World.cell?_setCell_other _ _ _ _ (by simp)]; exact cell_later hb h.c0, World.cell?_setCell_same _ _ _ c1, fun j => by rw [World.frozen?_setCell]; exact (hb.frozen (p := ⟨B, j, none⟩) hlt).trans (h.f j),
    own_store7 (own_below7 h.rk hb) (by omega) 1 v, own_store7 (own_mono7 hown (by omega)) (by omega) 1 v⟩, ⟨by rw [World.size_setCell]; exact Nat.le_trans h.size hb.size, fun j hj hne hv => ?_, .inr fun j hj => ?_, ⟨hb.os.trans h.same.1, hb.tape.trans h.same.2.1, hb.output.trans h.same.2.2⟩⟩⟩
  · exact (Deep.blk_setCell_other w3 ⟨B, 1, none⟩ v j (fun e => hne e)).trans ((hb.block j (Nat.lt_of_lt_of_le hj h.size)).trans (h.block j hj hne))
  · exact Nat.le_trans h.size (hown.lt j hj).1
theorem rkC_app {β : Type} (A C : List (Key × β)) (x : Key × β) : rkC (A ++ x :: C) = rkC A ++ [.string (txt x.1)] ++ rkC C := by simp [rkC]
theorem rvC_app (A C : List (Key × Int)) (x : Key × Int) : rvC (A ++ x :: C) = rvC A ++ [.int .i64 x.2] ++ rvC C := by simp [rvC]
set_option maxRecDepth 100000 in
set_option maxHeartbeats 8000000 in
theorem refPutNew (B : Nat) (vk vv : Value) (L : List (Key × Int)) (k : Key) (x : Int) (w : World) (h : RefAt w B vk vv L) (hl : L.length ≤ 1000) (hs : Asc L) (hg : getA k L = none) :
    Calls Try.prog 22 #[.pointer (some ⟨B, 0, none⟩), .string (txt k), .int .i64 x] w fun e w' => e = .returned (.tuple #[.int .i64 0, .bool false]) ∧ ∃ vk' vv', RefAt w' B vk' vv' (insA k x L) ∧ TurnR B vv vv' w w' := by
  have CP := refPlace_any B vk vv L k w h hl
  have hle := map_pl k L
  obtain ⟨i, hi⟩ : ∃ i, pl k (L.map (·.1)) = i := ⟨_, rfl⟩
  have hh := ref_here hs hi
  rw [hi] at CP hle
  have hins := ins_at (k := k) (v := x) hs
  have hnk : hasK k (L.map (·.1)) = false := by
    have hq := get_at (k := k) hs
    rw [hg] at hq
    cases hc' : hasK k (L.map (·.1)) with
    | false => rfl
    | true =>
      exfalso
      rw [if_pos hc', hi] at hq
      unfold hasK at hc'
      rw [hi] at hc'
      rcases Nat.lt_or_ge i L.length with hlt | hge
      · rw [List.getElem?_eq_getElem hlt] at hq
        simp at hq
      · rw [List.getElem?_eq_none (by rw [List.length_map]; omega)] at hc'
        simp at hc'
  rw [hnk, hi] at hins
  simp only [Bool.false_eq_true, if_false] at hins
  obtain ⟨n, hn⟩ : ∃ n, L.length = n := ⟨_, rfl⟩
  rw [hn] at hle hl
  obtain ⟨iS, hiS, _, hiS1, _⟩ := info_parts infoS
  obtain ⟨iI, hiI, _, hiI1, _⟩ := info_parts infoVI
  obtain ⟨a, c, a', c', rfl, rfl⟩ := h.shape
  obtain ⟨a1, c1, run1, part1⟩ := part_lo (P := Try.prog) (T := 46) (by rfl) (by rfl) hiS h.rk (i := i) (by omega) (by omega)
  obtain ⟨a2, c2, run2, part2⟩ := part_hi (P := Try.prog) (T := 46) (by rfl) (by rfl) hiS hiS1 h.rk (i := i) (by omega) (by omega)
  have z0 := h.c0
  rw [hn] at run1 run2 z0
  have hf0 := h.f 0
  have hBl := h.lt
  have HH := hid0 h
  have hm : i + 1 + (n - i) = (insA k x L).length := by rw [hins]; simp; omega
  have hxk : rkC (insA k x L) = (rkC L).take i ++ [.string (txt k)] ++ (rkC L).drop i := by rw [hins, rkC_app]; simp [rkC, List.map_take, List.map_drop]
  have hxv : rvC (insA k x L) = (rvC L).take i ++ [.int .i64 x] ++ (rvC L).drop i := by rw [hins, rvC_app]; simp [rvC, List.map_take, List.map_drop]
  have HM := hid0 (And.intro hm (And.intro hxk hxv))
  have HN := hid0 hn
  have HLK := hid0 (show ((rkC L).take i).length = i by unfold rkC; rw [List.length_take, List.length_map]; omega)
  have HLD := hid0 (show ((rkC L).drop i).length = n - i by unfold rkC; rw [List.length_drop, List.length_map]; omega)
  have HVK := hid0 (show ((rvC L).take i).length = i by unfold rvC; rw [List.length_take, List.length_map]; omega)
  have HVD := hid0 (show ((rvC L).drop i).length = n - i by unfold rvC; rw [List.length_drop, List.length_map]; omega)
  have hone : ∀ u ∈ rkC L, u.oneCell' = true := by intro u hu; unfold rkC at hu; obtain ⟨y, _, rfl⟩ := List.mem_map.1 hu; rfl
  have hvne : ∀ u ∈ rvC L, u.oneCell' = true := by intro u hu; unfold rvC at hu; obtain ⟨y, _, rfl⟩ := List.mem_map.1 hu; rfl
  have h1k : ∀ u ∈ (rkC L).take i, u.oneCell' = true := fun u hu => hone u (List.mem_of_mem_take hu)
  have h1d : ∀ u ∈ (rkC L).drop i, u.oneCell' = true := fun u hu => hone u (List.mem_of_mem_drop hu)
  have hvk : ∀ u ∈ (rvC L).take i, u.oneCell' = true := fun u hu => hvne u (List.mem_of_mem_take hu)
  have hvd : ∀ u ∈ (rvC L).drop i, u.oneCell' = true := fun u hu => hvne u (List.mem_of_mem_drop hu)
  have hSa : ∀ W, Below w.heap.size w W → W.cell? ⟨B, 0, none⟩ = w.cell? ⟨B, 0, none⟩ ∧ Below w.heap.size w W := fun W hb => ⟨(cell_later hb h.c0).trans h.c0.symm, hb⟩
  clear hins hnk hm hxk hxv
  rcases hh with ⟨hge, -⟩ | ⟨y, hy, hyk⟩
  case' inl =>
    have hni : ¬ (i : Int) < (n : Int) := by omega
    clear h hs hi hg hge hn hone hvne
  case' inr =>
    obtain ⟨g, cc, g', cc', e1, -, q0, -⟩ := h.at hy
    simp only [Value.slice.injEq] at e1
    obtain ⟨rfl, -, -⟩ := e1
    have hni : (i : Int) < (n : Int) := by have := (List.getElem?_eq_some_iff.1 hy).1; omega
    have hbk : ((txt y.1).toList == (txt k).toList) = false := by
      rcases hyk with ⟨_, hq⟩ | ⟨hq, _⟩
      · rw [hg] at hq; cases hq
      · exact txt_ne hq
    clear h hs hi hg hn hone hvne hyk hy
  all_goals
    go_enter Try.func22, Try.ntmps22
    go_wp2_with fail
    refine CP.mono ?_
    rintro e w' ⟨rfl, rfl⟩
    go_wp2_with fail
    go_cut [] from 9 (fun wr => ∃ v, MidR B w wr v (.slice a' L.length c') (insA k x L) L)
    case first =>
      refine wp_region_last (S := (fun w' => w'.cell? ⟨B, 0, none⟩ = w.cell? ⟨B, 0, none⟩ ∧ Below w.heap.size w w')) 21 (by kernel_rfl) (by kernel_rfl) (by (try dsimp only); (first | with_reducible assumption | (refine hSa _ ?_; repeat (first | with_reducible assumption | exact Below.refl _ _ | refine Below.drew ?_ | refine below_al ?_ _)))) (fun hHeld => ?_)
      simp only [List.take_succ_cons, List.take_zero, List.drop_succ_cons, List.drop_zero]
      refine wpAnyH_take (i := 0) (v := ?_) rfl (by kernel_rfl) (by kernel_rfl) (by kernel_rfl) (fun _ _ _ h => h) (Or.inl ⟨by rfl, ?_⟩) (by assumption) ?_
      rotate_left
      · (intro w hSw; (try dsimp only at hSw); go_simp; (try with_reducible rfl))
      (try simp only [Act.put, List.setIfInBounds_toArray, List.set_cons_zero, List.set_cons_succ, List.getElem_toArray, List.getElem_cons_zero])
      refine wpAnyH_take (i := 2) (v := ?_) rfl (by kernel_rfl) (by kernel_rfl) (by kernel_rfl) (fun _ _ _ h => h) (Or.inl ⟨by rfl, ?_⟩) (by assumption) ?_
      rotate_left
      · (intro w hSw; (try dsimp only at hSw); go_simp; (try with_reducible rfl))
      (try simp only [Act.put, List.setIfInBounds_toArray, List.set_cons_zero, List.set_cons_succ, List.getElem_toArray, List.getElem_cons_zero, List.getElem_cons_succ])
      refine wpAnyH_take (i := 3) (v := ?_) rfl (by kernel_rfl) (by kernel_rfl) (by kernel_rfl) (fun _ _ _ h => h) (Or.inl ⟨by rfl, ?_⟩) (by assumption) ?_
      rotate_left
      · (intro w hSw; (try dsimp only at hSw); go_simp; (try with_reducible rfl))
      (try simp only [Act.put, List.setIfInBounds_toArray, List.set_cons_zero, List.set_cons_succ, List.getElem_toArray, List.getElem_cons_zero, List.getElem_cons_succ])
      refine wpAnyH_take (i := 4) (v := ?_) rfl (by kernel_rfl) (by kernel_rfl) (by kernel_rfl) (fun _ _ _ h => h) (Or.inl ⟨by rfl, ?_⟩) (by assumption) ?_
      rotate_left
      · (intro w hSw; (try dsimp only at hSw); go_simp; (try with_reducible rfl))
      (try simp only [Act.put, List.setIfInBounds_toArray, List.set_cons_zero, List.set_cons_succ, List.getElem_toArray, List.getElem_cons_zero, List.getElem_cons_succ])
      refine wpAnyH_take (i := 5) (v := ?_) rfl (by kernel_rfl) (by kernel_rfl) (by kernel_rfl) (fun _ _ _ h => h) (Or.inl ⟨by rfl, ?_⟩) (by assumption) ?_
      rotate_left
      · (intro w hSw; (try dsimp only at hSw); go_simp; (try with_reducible rfl))
      (try simp only [Act.put, List.setIfInBounds_toArray, List.set_cons_zero, List.set_cons_succ, List.getElem_toArray, List.getElem_cons_zero, List.getElem_cons_succ])
      refine wpAnyH_take (i := 6) (v := ?_) rfl (by kernel_rfl) (by kernel_rfl) (by kernel_rfl) (fun _ _ _ h => h) (Or.inl ⟨by rfl, ?_⟩) (by assumption) ?_
      rotate_left
      · (intro w hSw; (try dsimp only at hSw); go_simp; (try with_reducible rfl))
      (try simp only [Act.put, List.setIfInBounds_toArray, List.set_cons_zero, List.set_cons_succ, List.getElem_toArray, List.getElem_cons_zero, List.getElem_cons_succ])
      refine wpAnyH_take (i := 7) (v := ?_) rfl (by kernel_rfl) (by kernel_rfl) (by kernel_rfl) (fun _ _ _ h => h) (Or.inl ⟨by rfl, ?_⟩) (by assumption) ?_
      rotate_left
      · (intro w hSw; (try dsimp only at hSw); go_simp; (try with_reducible rfl))
      (try simp only [Act.put, List.setIfInBounds_toArray, List.set_cons_zero, List.set_cons_succ, List.getElem_toArray, List.getElem_cons_zero, List.getElem_cons_succ])
      refine wpAnyH_take (i := 9) (v := ?_) rfl (by kernel_rfl) (by kernel_rfl) (by kernel_rfl) (fun _ _ _ h => h) (Or.inl ⟨by rfl, ?_⟩) (by assumption) ?_
      rotate_left
      · (intro w hSw; (try dsimp only at hSw); go_simp; (try with_reducible rfl))
      (try simp only [Act.put, List.setIfInBounds_toArray, List.set_cons_zero, List.set_cons_succ, List.getElem_toArray, List.getElem_cons_zero, List.getElem_cons_succ])
      refine wpAnyH_take (i := 12) (v := ?_) rfl (by kernel_rfl) (by kernel_rfl) (by kernel_rfl) (fun _ _ _ h => h) (Or.inl ⟨by rfl, ?_⟩) (by assumption) ?_
      rotate_left
      · (intro w hSw; (try dsimp only at hSw); go_simp; (try with_reducible rfl))
      (try simp only [Act.put, List.setIfInBounds_toArray, List.set_cons_zero, List.set_cons_succ, List.getElem_toArray, List.getElem_cons_zero, List.getElem_cons_succ])
      refine wpAnyH_take (i := 13) (v := ?_) rfl (by kernel_rfl) (by kernel_rfl) (by kernel_rfl) (fun _ _ _ h => h) (Or.inl ⟨by rfl, ?_⟩) (by assumption) ?_
      rotate_left
      · (intro w hSw; (try dsimp only at hSw); go_simp; (try with_reducible rfl))
      (try simp only [Act.put, List.setIfInBounds_toArray, List.set_cons_zero, List.set_cons_succ, List.getElem_toArray, List.getElem_cons_zero, List.getElem_cons_succ])
      refine wpAnyH_take (i := 14) (v := ?_) rfl (by kernel_rfl) (by kernel_rfl) (by kernel_rfl) (fun _ _ _ h => h) (Or.inl ⟨by rfl, ?_⟩) (by assumption) ?_
      rotate_left
      · (intro w hSw; (try dsimp only at hSw); go_simp; (try with_reducible rfl))
      (try simp only [Act.put, List.setIfInBounds_toArray, List.set_cons_zero, List.set_cons_succ, List.getElem_toArray, List.getElem_cons_zero, List.getElem_cons_succ])
      refine wpAnyH_take (i := 15) (v := ?_) rfl (by kernel_rfl) (by kernel_rfl) (by kernel_rfl) (fun _ _ _ h => h) (Or.inl ⟨by rfl, ?_⟩) (by assumption) ?_
      rotate_left
      · (intro w hSw; (try dsimp only at hSw); go_simp; (try with_reducible rfl))
      (try simp only [Act.put, List.setIfInBounds_toArray, List.set_cons_zero, List.set_cons_succ, List.getElem_toArray, List.getElem_cons_zero, List.getElem_cons_succ])
      refine wpAnyH_take (i := 16) (v := ?_) rfl (by kernel_rfl) (by kernel_rfl) (by kernel_rfl) (fun _ _ _ h => h) (Or.inl ⟨by rfl, ?_⟩) (by assumption) ?_
      rotate_left
      · (intro w hSw; (try dsimp only at hSw); go_simp; (try with_reducible rfl))
      (try simp only [Act.put, List.setIfInBounds_toArray, List.set_cons_zero, List.set_cons_succ, List.getElem_toArray, List.getElem_cons_zero, List.getElem_cons_succ])
      refine wpAnyH_take (i := 17) (v := ?_) rfl (by kernel_rfl) (by kernel_rfl) (by kernel_rfl) (fun _ _ _ h => h) (Or.inl ⟨by rfl, ?_⟩) (by assumption) ?_
      rotate_left
      · (intro w hSw; (try dsimp only at hSw); go_simp; (try with_reducible rfl))
      (try simp only [Act.put, List.setIfInBounds_toArray, List.set_cons_zero, List.set_cons_succ, List.getElem_toArray, List.getElem_cons_zero, List.getElem_cons_succ])
      refine wpAnyH_ready (rs := [1, 10]) (by kernel_rfl) (by simp) ?_
      refine AllReadyH.cons rfl (fun K hK => ?_) ?_
      · (try simp only [Act.put, List.setIfInBounds_toArray, List.set_cons_zero, List.set_cons_succ, List.getElem_toArray, List.getElem_cons_zero, List.getElem_cons_succ])
        go_simp
        refine hK.out _ _ (by (try dsimp only); (first | with_reducible assumption | (refine hSa _ ?_; repeat (first | with_reducible assumption | exact Below.refl _ _ | refine Below.drew ?_ | refine below_al ?_ _)))) (fun hHeld2 => ?_)
        clear hK K
        clear hHeld
        have hHeld := hHeld2
        clear hHeld2
        (try simp only [Act.put, List.setIfInBounds_toArray, List.set_cons_zero, List.set_cons_succ, List.getElem_toArray, List.getElem_cons_zero, List.getElem_cons_succ])
        refine wpAnyH_ready (rs := [8, 10]) (by kernel_rfl) (by simp) ?_
        refine AllReadyH.cons rfl (fun K hK => ?_) ?_
        · (refine step_row7 (v := .slice (some ⟨_, 0, none⟩) 0 0) (by rfl) _ _ 46 9 _ _ infoS (by rfl) (by rfl) (by decide) (by rfl) (by rfl) w.heap.size 0 [] (by repeat (first | exact made7 _ _ _ (by simp) | exact made7b _ _ _ _ (by simp) | with_reducible refine World.ownsRow.drew ?_ | with_reducible refine World.ownsRow.alloc ?_ _)) a1 i c1 (by rfl) ((rkC L).take i) HLK.out (part1 _ (by repeat (first | with_reducible assumption | exact Below.refl _ _ | refine Below.drew ?_ | refine below_al ?_ _))) h1k (by omega) (by simp <;> omega) ?_; intro v1 w1 hown1 hgrow1 hb1; rw [Nat.zero_add, List.nil_append] at hown1; have hB1 : Below w.heap.size w w1 := Below.trans (by repeat (first | with_reducible assumption | exact Below.refl _ _ | refine Below.drew ?_ | refine below_al ?_ _)) hb1; clear hb1)
          refine hK.out _ _ (by (try dsimp only); (first | with_reducible assumption | (refine hSa _ ?_; repeat (first | with_reducible assumption | exact Below.refl _ _ | refine Below.drew ?_ | refine below_al ?_ _)))) (fun hHeld2 => ?_)
          clear hK K
          clear hHeld
          have hHeld := hHeld2
          clear hHeld2
          (try simp only [Act.put, List.setIfInBounds_toArray, List.set_cons_zero, List.set_cons_succ, List.getElem_toArray, List.getElem_cons_zero, List.getElem_cons_succ])
          refine wpAnyH_ready (rs := [10]) (by kernel_rfl) (by simp) ?_
          refine AllReadyH.cons rfl (fun K hK => ?_) ?_
          · (try simp only [Act.put, List.setIfInBounds_toArray, List.set_cons_zero, List.set_cons_succ, List.getElem_toArray, List.getElem_cons_zero, List.getElem_cons_succ])
            go_simp
            refine hK.out _ _ (by (try dsimp only); (first | with_reducible assumption | (refine hSa _ ?_; repeat (first | with_reducible assumption | exact Below.refl _ _ | refine Below.drew ?_ | refine below_al ?_ _)))) (fun hHeld2 => ?_)
            clear hK K
            clear hHeld
            have hHeld := hHeld2
            clear hHeld2
            (try simp only [Act.put, List.setIfInBounds_toArray, List.set_cons_zero, List.set_cons_succ, List.getElem_toArray, List.getElem_cons_zero, List.getElem_cons_succ])
            refine wpAnyH_ready (rs := [11]) (by kernel_rfl) (by simp) ?_
            refine AllReadyH.cons rfl (fun K hK => ?_) ?_
            · (refine step_row7 (by rfl) _ _ 46 9 _ _ infoS (by rfl) (by rfl) (by decide) (by rfl) (by rfl) w.heap.size i ((rkC L).take i) (by repeat (first | exact hown1 | with_reducible refine World.ownsRow.drew ?_ | with_reducible refine World.ownsRow.alloc ?_ _)) (some _) 1 1 (by rfl) [.string (txt k)] (by rfl) (by first | exact one7 (by go_cell) | exact one7 (World.grownBy.cell hgrow1 (by go_cell) (by simp [Value.ownBlock]))) (by intro u hu; simp at hu; subst hu; rfl) (by omega) (by first | exact hB1.size | (have := hB1.size; simp; omega)) ?_; intro v2 w2 hown2 hgrow2 hb2; have hB2 : Below w.heap.size w w2 := Below.trans (by repeat (first | with_reducible assumption | exact Below.refl _ _ | refine Below.drew ?_ | refine below_al ?_ _)) hb2; clear hb2)
              refine hK.out _ _ (by (try dsimp only); (first | with_reducible assumption | (refine hSa _ ?_; repeat (first | with_reducible assumption | exact Below.refl _ _ | refine Below.drew ?_ | refine below_al ?_ _)))) (fun hHeld2 => ?_)
              clear hK K
              clear hHeld
              have hHeld := hHeld2
              clear hHeld2
              (try simp only [Act.put, List.setIfInBounds_toArray, List.set_cons_zero, List.set_cons_succ, List.getElem_toArray, List.getElem_cons_zero, List.getElem_cons_succ])
              refine wpAnyH_ready (rs := [18]) (by kernel_rfl) (by simp) ?_
              refine AllReadyH.cons rfl (fun K hK => ?_) ?_
              · (refine step_row7 (by rfl) _ _ 46 9 _ _ infoS (by rfl) (by rfl) (by decide) (by rfl) (by rfl) w.heap.size (i + 1) ((rkC L).take i ++ [.string (txt k)]) (by repeat (first | exact hown2 | with_reducible refine World.ownsRow.drew ?_ | with_reducible refine World.ownsRow.alloc ?_ _)) a2 (n - i) c2 (by rfl) ((rkC L).drop i) HLD.out (part2 _ (by repeat (first | with_reducible assumption | exact Below.refl _ _ | refine Below.drew ?_ | refine below_al ?_ _))) h1d (by omega) (by exact hB2.size) ?_; intro v3 w3 hown3 hgrow3 hb3; obtain ⟨a3, c3', rfl, -⟩ := own_shape hown3; have hB3 : Below w.heap.size w w3 := Below.trans (by repeat (first | with_reducible assumption | exact Below.refl _ _ | refine Below.drew ?_ | refine below_al ?_ _)) hb3; clear hb3; have hf3 := (hB3.frozen (p := ⟨B, 0, none⟩) hBl).trans hf0; have hc3 := cell_later hB3 z0)
                refine hK.out _ _ (by (try dsimp only); (first | with_reducible assumption | (refine hSa _ ?_; repeat (first | with_reducible assumption | exact Below.refl _ _ | refine Below.drew ?_ | refine below_al ?_ _)))) (fun hHeld2 => ?_)
                clear hK K
                clear hHeld
                have hHeld := hHeld2
                clear hHeld2
                (try simp only [Act.put, List.setIfInBounds_toArray, List.set_cons_zero, List.set_cons_succ, List.getElem_toArray, List.getElem_cons_zero, List.getElem_cons_succ])
                refine wpAnyH_take (i := 19) (v := ?_) rfl (by kernel_rfl) (by kernel_rfl) (by kernel_rfl) (fun _ _ _ h => h) (Or.inl ⟨by rfl, ?_⟩) (by assumption) ?_
                rotate_left
                · (intro w hSw; (try dsimp only at hSw); go_simp; (try with_reducible rfl))
                (try simp only [Act.put, List.setIfInBounds_toArray, List.set_cons_zero, List.set_cons_succ, List.getElem_toArray, List.getElem_cons_zero, List.getElem_cons_succ])
                refine wpAnyH_take (i := 20) (v := ?_) rfl (by kernel_rfl) (by kernel_rfl) (by kernel_rfl) (fun _ _ _ h => h) (Or.inl ⟨by rfl, ?_⟩) (by assumption) ?_
                rotate_left
                · (intro w hSw; (try dsimp only at hSw); go_simp; (try with_reducible rfl))
                (try simp only [Act.put, List.setIfInBounds_toArray, List.set_cons_zero, List.set_cons_succ, List.getElem_toArray, List.getElem_cons_zero, List.getElem_cons_succ])
                refine wpAnyH_done (by kernel_rfl) ?_ _
                (try unfold LastQ; try dsimp only)
                go_wp2_with fail
                go_meet
                case rel => exact ⟨_, mid_of HH.out hB3 hown3 HM.out.1 HM.out.2.1.symm⟩
              exact AllReadyH.nil
            exact AllReadyH.nil
          exact AllReadyH.nil
        refine AllReadyH.cons rfl (fun K hK => ?_) ?_
        · (try simp only [Act.put, List.setIfInBounds_toArray, List.set_cons_zero, List.set_cons_succ, List.getElem_toArray, List.getElem_cons_zero, List.getElem_cons_succ])
          go_simp
          refine hK.out _ _ (by (try dsimp only); (first | with_reducible assumption | (refine hSa _ ?_; repeat (first | with_reducible assumption | exact Below.refl _ _ | refine Below.drew ?_ | refine below_al ?_ _)))) (fun hHeld2 => ?_)
          clear hK K
          clear hHeld
          have hHeld := hHeld2
          clear hHeld2
          (try simp only [Act.put, List.setIfInBounds_toArray, List.set_cons_zero, List.set_cons_succ, List.getElem_toArray, List.getElem_cons_zero, List.getElem_cons_succ])
          refine wpAnyH_ready (rs := [8]) (by kernel_rfl) (by simp) ?_
          refine AllReadyH.cons rfl (fun K hK => ?_) ?_
          · (refine step_row7 (v := .slice (some ⟨_, 0, none⟩) 0 0) (by rfl) _ _ 46 9 _ _ infoS (by rfl) (by rfl) (by decide) (by rfl) (by rfl) w.heap.size 0 [] (by repeat (first | exact made7 _ _ _ (by simp) | exact made7b _ _ _ _ (by simp) | with_reducible refine World.ownsRow.drew ?_ | with_reducible refine World.ownsRow.alloc ?_ _)) a1 i c1 (by rfl) ((rkC L).take i) HLK.out (part1 _ (by repeat (first | with_reducible assumption | exact Below.refl _ _ | refine Below.drew ?_ | refine below_al ?_ _))) h1k (by omega) (by simp <;> omega) ?_; intro v1 w1 hown1 hgrow1 hb1; rw [Nat.zero_add, List.nil_append] at hown1; have hB1 : Below w.heap.size w w1 := Below.trans (by repeat (first | with_reducible assumption | exact Below.refl _ _ | refine Below.drew ?_ | refine below_al ?_ _)) hb1; clear hb1)
            refine hK.out _ _ (by (try dsimp only); (first | with_reducible assumption | (refine hSa _ ?_; repeat (first | with_reducible assumption | exact Below.refl _ _ | refine Below.drew ?_ | refine below_al ?_ _)))) (fun hHeld2 => ?_)
            clear hK K
            clear hHeld
            have hHeld := hHeld2
            clear hHeld2
            (try simp only [Act.put, List.setIfInBounds_toArray, List.set_cons_zero, List.set_cons_succ, List.getElem_toArray, List.getElem_cons_zero, List.getElem_cons_succ])
            refine wpAnyH_ready (rs := [11]) (by kernel_rfl) (by simp) ?_
            refine AllReadyH.cons rfl (fun K hK => ?_) ?_
            · (refine step_row7 (by rfl) _ _ 46 9 _ _ infoS (by rfl) (by rfl) (by decide) (by rfl) (by rfl) w.heap.size i ((rkC L).take i) (by repeat (first | exact hown1 | with_reducible refine World.ownsRow.drew ?_ | with_reducible refine World.ownsRow.alloc ?_ _)) (some _) 1 1 (by rfl) [.string (txt k)] (by rfl) (by first | exact one7 (by go_cell) | exact one7 (World.grownBy.cell hgrow1 (by go_cell) (by simp [Value.ownBlock]))) (by intro u hu; simp at hu; subst hu; rfl) (by omega) (by first | exact hB1.size | (have := hB1.size; simp; omega)) ?_; intro v2 w2 hown2 hgrow2 hb2; have hB2 : Below w.heap.size w w2 := Below.trans (by repeat (first | with_reducible assumption | exact Below.refl _ _ | refine Below.drew ?_ | refine below_al ?_ _)) hb2; clear hb2)
              refine hK.out _ _ (by (try dsimp only); (first | with_reducible assumption | (refine hSa _ ?_; repeat (first | with_reducible assumption | exact Below.refl _ _ | refine Below.drew ?_ | refine below_al ?_ _)))) (fun hHeld2 => ?_)
              clear hK K
              clear hHeld
              have hHeld := hHeld2
              clear hHeld2
              (try simp only [Act.put, List.setIfInBounds_toArray, List.set_cons_zero, List.set_cons_succ, List.getElem_toArray, List.getElem_cons_zero, List.getElem_cons_succ])
              refine wpAnyH_ready (rs := [18]) (by kernel_rfl) (by simp) ?_
              refine AllReadyH.cons rfl (fun K hK => ?_) ?_
              · (refine step_row7 (by rfl) _ _ 46 9 _ _ infoS (by rfl) (by rfl) (by decide) (by rfl) (by rfl) w.heap.size (i + 1) ((rkC L).take i ++ [.string (txt k)]) (by repeat (first | exact hown2 | with_reducible refine World.ownsRow.drew ?_ | with_reducible refine World.ownsRow.alloc ?_ _)) a2 (n - i) c2 (by rfl) ((rkC L).drop i) HLD.out (part2 _ (by repeat (first | with_reducible assumption | exact Below.refl _ _ | refine Below.drew ?_ | refine below_al ?_ _))) h1d (by omega) (by exact hB2.size) ?_; intro v3 w3 hown3 hgrow3 hb3; obtain ⟨a3, c3', rfl, -⟩ := own_shape hown3; have hB3 : Below w.heap.size w w3 := Below.trans (by repeat (first | with_reducible assumption | exact Below.refl _ _ | refine Below.drew ?_ | refine below_al ?_ _)) hb3; clear hb3; have hf3 := (hB3.frozen (p := ⟨B, 0, none⟩) hBl).trans hf0; have hc3 := cell_later hB3 z0)
                refine hK.out _ _ (by (try dsimp only); (first | with_reducible assumption | (refine hSa _ ?_; repeat (first | with_reducible assumption | exact Below.refl _ _ | refine Below.drew ?_ | refine below_al ?_ _)))) (fun hHeld2 => ?_)
                clear hK K
                clear hHeld
                have hHeld := hHeld2
                clear hHeld2
                (try simp only [Act.put, List.setIfInBounds_toArray, List.set_cons_zero, List.set_cons_succ, List.getElem_toArray, List.getElem_cons_zero, List.getElem_cons_succ])
                refine wpAnyH_take (i := 19) (v := ?_) rfl (by kernel_rfl) (by kernel_rfl) (by kernel_rfl) (fun _ _ _ h => h) (Or.inl ⟨by rfl, ?_⟩) (by assumption) ?_
                rotate_left
                · (intro w hSw; (try dsimp only at hSw); go_simp; (try with_reducible rfl))
                (try simp only [Act.put, List.setIfInBounds_toArray, List.set_cons_zero, List.set_cons_succ, List.getElem_toArray, List.getElem_cons_zero, List.getElem_cons_succ])
                refine wpAnyH_take (i := 20) (v := ?_) rfl (by kernel_rfl) (by kernel_rfl) (by kernel_rfl) (fun _ _ _ h => h) (Or.inl ⟨by rfl, ?_⟩) (by assumption) ?_
                rotate_left
                · (intro w hSw; (try dsimp only at hSw); go_simp; (try with_reducible rfl))
                (try simp only [Act.put, List.setIfInBounds_toArray, List.set_cons_zero, List.set_cons_succ, List.getElem_toArray, List.getElem_cons_zero, List.getElem_cons_succ])
                refine wpAnyH_done (by kernel_rfl) ?_ _
                (try unfold LastQ; try dsimp only)
                go_wp2_with fail
                go_meet
                case rel => exact ⟨_, mid_of HH.out hB3 hown3 HM.out.1 HM.out.2.1.symm⟩
              exact AllReadyH.nil
            exact AllReadyH.nil
          exact AllReadyH.nil
        exact AllReadyH.nil
      refine AllReadyH.cons rfl (fun K hK => ?_) ?_
      · (try simp only [Act.put, List.setIfInBounds_toArray, List.set_cons_zero, List.set_cons_succ, List.getElem_toArray, List.getElem_cons_zero, List.getElem_cons_succ])
        go_simp
        refine hK.out _ _ (by (try dsimp only); (first | with_reducible assumption | (refine hSa _ ?_; repeat (first | with_reducible assumption | exact Below.refl _ _ | refine Below.drew ?_ | refine below_al ?_ _)))) (fun hHeld2 => ?_)
        clear hK K
        clear hHeld
        have hHeld := hHeld2
        clear hHeld2
        (try simp only [Act.put, List.setIfInBounds_toArray, List.set_cons_zero, List.set_cons_succ, List.getElem_toArray, List.getElem_cons_zero, List.getElem_cons_succ])
        refine wpAnyH_ready (rs := [1]) (by kernel_rfl) (by simp) ?_
        refine AllReadyH.cons rfl (fun K hK => ?_) ?_
        · (try simp only [Act.put, List.setIfInBounds_toArray, List.set_cons_zero, List.set_cons_succ, List.getElem_toArray, List.getElem_cons_zero, List.getElem_cons_succ])
          go_simp
          refine hK.out _ _ (by (try dsimp only); (first | with_reducible assumption | (refine hSa _ ?_; repeat (first | with_reducible assumption | exact Below.refl _ _ | refine Below.drew ?_ | refine below_al ?_ _)))) (fun hHeld2 => ?_)
          clear hK K
          clear hHeld
          have hHeld := hHeld2
          clear hHeld2
          (try simp only [Act.put, List.setIfInBounds_toArray, List.set_cons_zero, List.set_cons_succ, List.getElem_toArray, List.getElem_cons_zero, List.getElem_cons_succ])
          refine wpAnyH_ready (rs := [8]) (by kernel_rfl) (by simp) ?_
          refine AllReadyH.cons rfl (fun K hK => ?_) ?_
          · (refine step_row7 (v := .slice (some ⟨_, 0, none⟩) 0 0) (by rfl) _ _ 46 9 _ _ infoS (by rfl) (by rfl) (by decide) (by rfl) (by rfl) w.heap.size 0 [] (by repeat (first | exact made7 _ _ _ (by simp) | exact made7b _ _ _ _ (by simp) | with_reducible refine World.ownsRow.drew ?_ | with_reducible refine World.ownsRow.alloc ?_ _)) a1 i c1 (by rfl) ((rkC L).take i) HLK.out (part1 _ (by repeat (first | with_reducible assumption | exact Below.refl _ _ | refine Below.drew ?_ | refine below_al ?_ _))) h1k (by omega) (by simp <;> omega) ?_; intro v1 w1 hown1 hgrow1 hb1; rw [Nat.zero_add, List.nil_append] at hown1; have hB1 : Below w.heap.size w w1 := Below.trans (by repeat (first | with_reducible assumption | exact Below.refl _ _ | refine Below.drew ?_ | refine below_al ?_ _)) hb1; clear hb1)
            refine hK.out _ _ (by (try dsimp only); (first | with_reducible assumption | (refine hSa _ ?_; repeat (first | with_reducible assumption | exact Below.refl _ _ | refine Below.drew ?_ | refine below_al ?_ _)))) (fun hHeld2 => ?_)
            clear hK K
            clear hHeld
            have hHeld := hHeld2
            clear hHeld2
            (try simp only [Act.put, List.setIfInBounds_toArray, List.set_cons_zero, List.set_cons_succ, List.getElem_toArray, List.getElem_cons_zero, List.getElem_cons_succ])
            refine wpAnyH_ready (rs := [11]) (by kernel_rfl) (by simp) ?_
            refine AllReadyH.cons rfl (fun K hK => ?_) ?_
            · (refine step_row7 (by rfl) _ _ 46 9 _ _ infoS (by rfl) (by rfl) (by decide) (by rfl) (by rfl) w.heap.size i ((rkC L).take i) (by repeat (first | exact hown1 | with_reducible refine World.ownsRow.drew ?_ | with_reducible refine World.ownsRow.alloc ?_ _)) (some _) 1 1 (by rfl) [.string (txt k)] (by rfl) (by first | exact one7 (by go_cell) | exact one7 (World.grownBy.cell hgrow1 (by go_cell) (by simp [Value.ownBlock]))) (by intro u hu; simp at hu; subst hu; rfl) (by omega) (by first | exact hB1.size | (have := hB1.size; simp; omega)) ?_; intro v2 w2 hown2 hgrow2 hb2; have hB2 : Below w.heap.size w w2 := Below.trans (by repeat (first | with_reducible assumption | exact Below.refl _ _ | refine Below.drew ?_ | refine below_al ?_ _)) hb2; clear hb2)
              refine hK.out _ _ (by (try dsimp only); (first | with_reducible assumption | (refine hSa _ ?_; repeat (first | with_reducible assumption | exact Below.refl _ _ | refine Below.drew ?_ | refine below_al ?_ _)))) (fun hHeld2 => ?_)
              clear hK K
              clear hHeld
              have hHeld := hHeld2
              clear hHeld2
              (try simp only [Act.put, List.setIfInBounds_toArray, List.set_cons_zero, List.set_cons_succ, List.getElem_toArray, List.getElem_cons_zero, List.getElem_cons_succ])
              refine wpAnyH_ready (rs := [18]) (by kernel_rfl) (by simp) ?_
              refine AllReadyH.cons rfl (fun K hK => ?_) ?_
              · (refine step_row7 (by rfl) _ _ 46 9 _ _ infoS (by rfl) (by rfl) (by decide) (by rfl) (by rfl) w.heap.size (i + 1) ((rkC L).take i ++ [.string (txt k)]) (by repeat (first | exact hown2 | with_reducible refine World.ownsRow.drew ?_ | with_reducible refine World.ownsRow.alloc ?_ _)) a2 (n - i) c2 (by rfl) ((rkC L).drop i) HLD.out (part2 _ (by repeat (first | with_reducible assumption | exact Below.refl _ _ | refine Below.drew ?_ | refine below_al ?_ _))) h1d (by omega) (by exact hB2.size) ?_; intro v3 w3 hown3 hgrow3 hb3; obtain ⟨a3, c3', rfl, -⟩ := own_shape hown3; have hB3 : Below w.heap.size w w3 := Below.trans (by repeat (first | with_reducible assumption | exact Below.refl _ _ | refine Below.drew ?_ | refine below_al ?_ _)) hb3; clear hb3; have hf3 := (hB3.frozen (p := ⟨B, 0, none⟩) hBl).trans hf0; have hc3 := cell_later hB3 z0)
                refine hK.out _ _ (by (try dsimp only); (first | with_reducible assumption | (refine hSa _ ?_; repeat (first | with_reducible assumption | exact Below.refl _ _ | refine Below.drew ?_ | refine below_al ?_ _)))) (fun hHeld2 => ?_)
                clear hK K
                clear hHeld
                have hHeld := hHeld2
                clear hHeld2
                (try simp only [Act.put, List.setIfInBounds_toArray, List.set_cons_zero, List.set_cons_succ, List.getElem_toArray, List.getElem_cons_zero, List.getElem_cons_succ])
                refine wpAnyH_take (i := 19) (v := ?_) rfl (by kernel_rfl) (by kernel_rfl) (by kernel_rfl) (fun _ _ _ h => h) (Or.inl ⟨by rfl, ?_⟩) (by assumption) ?_
                rotate_left
                · (intro w hSw; (try dsimp only at hSw); go_simp; (try with_reducible rfl))
                (try simp only [Act.put, List.setIfInBounds_toArray, List.set_cons_zero, List.set_cons_succ, List.getElem_toArray, List.getElem_cons_zero, List.getElem_cons_succ])
                refine wpAnyH_take (i := 20) (v := ?_) rfl (by kernel_rfl) (by kernel_rfl) (by kernel_rfl) (fun _ _ _ h => h) (Or.inl ⟨by rfl, ?_⟩) (by assumption) ?_
                rotate_left
                · (intro w hSw; (try dsimp only at hSw); go_simp; (try with_reducible rfl))
                (try simp only [Act.put, List.setIfInBounds_toArray, List.set_cons_zero, List.set_cons_succ, List.getElem_toArray, List.getElem_cons_zero, List.getElem_cons_succ])
                refine wpAnyH_done (by kernel_rfl) ?_ _
                (try unfold LastQ; try dsimp only)
                go_wp2_with fail
                go_meet
                case rel => exact ⟨_, mid_of HH.out hB3 hown3 HM.out.1 HM.out.2.1.symm⟩
              exact AllReadyH.nil
            exact AllReadyH.nil
          exact AllReadyH.nil
        exact AllReadyH.nil
      exact AllReadyH.nil
      
    case rest =>
      obtain ⟨vk', hMid⟩ := hcut
      clear part1 part2 run1 run2 z0 hf0 hSa
      obtain ⟨b1, d1, run1, part1⟩ := part_lo (P := Try.prog) (T := 37) (by rfl) (by rfl) hiI hMid.rv (i := i) (by have := HN.out; omega) (by have := HN.out; omega)
      obtain ⟨b2, d2, run2, part2⟩ := part_hi (P := Try.prog) (T := 37) (by rfl) (by rfl) hiI hiI1 hMid.rv (i := i) (by have := HN.out; omega) (by have := HN.out; omega)
      have z0 := hMid.c1
      rw [HN.out] at run1 run2 z0
      have hf0 := hMid.f 1
      have hBl2 : B < wc.heap.size := Nat.lt_of_lt_of_le hBl hMid.size
      have hSa : ∀ W, Below wc.heap.size wc W → W.cell? ⟨B, 1, none⟩ = wc.cell? ⟨B, 1, none⟩ ∧ Below wc.heap.size wc W := fun W hb => ⟨(cell_later hb z0).trans z0.symm, hb⟩
      have HMID := hid0 hMid
      clear hMid
      go_wp2_with fail
      refine wp_region_last (S := (fun w' => w'.cell? ⟨B, 1, none⟩ = wc.cell? ⟨B, 1, none⟩ ∧ Below wc.heap.size wc w')) 21 (by kernel_rfl) (by kernel_rfl) (by (try dsimp only); (first | with_reducible assumption | (refine hSa _ ?_; repeat (first | with_reducible assumption | exact Below.refl _ _ | refine Below.drew ?_ | refine below_al ?_ _)))) (fun hHeld => ?_)
      simp only [List.take_succ_cons, List.take_zero, List.drop_succ_cons, List.drop_zero]
      refine wpAnyH_take (i := 0) (v := ?_) rfl (by kernel_rfl) (by kernel_rfl) (by kernel_rfl) (fun _ _ _ h => h) (Or.inl ⟨by rfl, ?_⟩) (by assumption) ?_
      rotate_left
      · (intro w hSw; (try dsimp only at hSw); go_simp; (try with_reducible rfl))
      (try simp only [Act.put, List.setIfInBounds_toArray, List.set_cons_zero, List.set_cons_succ, List.getElem_toArray, List.getElem_cons_zero])
      refine wpAnyH_take (i := 2) (v := ?_) rfl (by kernel_rfl) (by kernel_rfl) (by kernel_rfl) (fun _ _ _ h => h) (Or.inl ⟨by rfl, ?_⟩) (by assumption) ?_
      rotate_left
      · (intro w hSw; (try dsimp only at hSw); go_simp; (try with_reducible rfl))
      (try simp only [Act.put, List.setIfInBounds_toArray, List.set_cons_zero, List.set_cons_succ, List.getElem_toArray, List.getElem_cons_zero, List.getElem_cons_succ])
      refine wpAnyH_take (i := 3) (v := ?_) rfl (by kernel_rfl) (by kernel_rfl) (by kernel_rfl) (fun _ _ _ h => h) (Or.inl ⟨by rfl, ?_⟩) (by assumption) ?_
      rotate_left
      · (intro w hSw; (try dsimp only at hSw); go_simp; (try with_reducible rfl))
      (try simp only [Act.put, List.setIfInBounds_toArray, List.set_cons_zero, List.set_cons_succ, List.getElem_toArray, List.getElem_cons_zero, List.getElem_cons_succ])
      refine wpAnyH_take (i := 4) (v := ?_) rfl (by kernel_rfl) (by kernel_rfl) (by kernel_rfl) (fun _ _ _ h => h) (Or.inl ⟨by rfl, ?_⟩) (by assumption) ?_
      rotate_left
      · (intro w hSw; (try dsimp only at hSw); go_simp; (try with_reducible rfl))
      (try simp only [Act.put, List.setIfInBounds_toArray, List.set_cons_zero, List.set_cons_succ, List.getElem_toArray, List.getElem_cons_zero, List.getElem_cons_succ])
      refine wpAnyH_take (i := 5) (v := ?_) rfl (by kernel_rfl) (by kernel_rfl) (by kernel_rfl) (fun _ _ _ h => h) (Or.inl ⟨by rfl, ?_⟩) (by assumption) ?_
      rotate_left
      · (intro w hSw; (try dsimp only at hSw); go_simp; (try with_reducible rfl))
      (try simp only [Act.put, List.setIfInBounds_toArray, List.set_cons_zero, List.set_cons_succ, List.getElem_toArray, List.getElem_cons_zero, List.getElem_cons_succ])
      refine wpAnyH_take (i := 6) (v := ?_) rfl (by kernel_rfl) (by kernel_rfl) (by kernel_rfl) (fun _ _ _ h => h) (Or.inl ⟨by rfl, ?_⟩) (by assumption) ?_
      rotate_left
      · (intro w hSw; (try dsimp only at hSw); go_simp; (try with_reducible rfl))
      (try simp only [Act.put, List.setIfInBounds_toArray, List.set_cons_zero, List.set_cons_succ, List.getElem_toArray, List.getElem_cons_zero, List.getElem_cons_succ])
      refine wpAnyH_take (i := 7) (v := ?_) rfl (by kernel_rfl) (by kernel_rfl) (by kernel_rfl) (fun _ _ _ h => h) (Or.inl ⟨by rfl, ?_⟩) (by assumption) ?_
      rotate_left
      · (intro w hSw; (try dsimp only at hSw); go_simp; (try with_reducible rfl))
      (try simp only [Act.put, List.setIfInBounds_toArray, List.set_cons_zero, List.set_cons_succ, List.getElem_toArray, List.getElem_cons_zero, List.getElem_cons_succ])
      refine wpAnyH_take (i := 9) (v := ?_) rfl (by kernel_rfl) (by kernel_rfl) (by kernel_rfl) (fun _ _ _ h => h) (Or.inl ⟨by rfl, ?_⟩) (by assumption) ?_
      rotate_left
      · (intro w hSw; (try dsimp only at hSw); go_simp; (try with_reducible rfl))
      (try simp only [Act.put, List.setIfInBounds_toArray, List.set_cons_zero, List.set_cons_succ, List.getElem_toArray, List.getElem_cons_zero, List.getElem_cons_succ])
      refine wpAnyH_take (i := 12) (v := ?_) rfl (by kernel_rfl) (by kernel_rfl) (by kernel_rfl) (fun _ _ _ h => h) (Or.inl ⟨by rfl, ?_⟩) (by assumption) ?_
      rotate_left
      · (intro w hSw; (try dsimp only at hSw); go_simp; (try with_reducible rfl))
      (try simp only [Act.put, List.setIfInBounds_toArray, List.set_cons_zero, List.set_cons_succ, List.getElem_toArray, List.getElem_cons_zero, List.getElem_cons_succ])
      refine wpAnyH_take (i := 13) (v := ?_) rfl (by kernel_rfl) (by kernel_rfl) (by kernel_rfl) (fun _ _ _ h => h) (Or.inl ⟨by rfl, ?_⟩) (by assumption) ?_
      rotate_left
      · (intro w hSw; (try dsimp only at hSw); go_simp; (try with_reducible rfl))
      (try simp only [Act.put, List.setIfInBounds_toArray, List.set_cons_zero, List.set_cons_succ, List.getElem_toArray, List.getElem_cons_zero, List.getElem_cons_succ])
      refine wpAnyH_take (i := 14) (v := ?_) rfl (by kernel_rfl) (by kernel_rfl) (by kernel_rfl) (fun _ _ _ h => h) (Or.inl ⟨by rfl, ?_⟩) (by assumption) ?_
      rotate_left
      · (intro w hSw; (try dsimp only at hSw); go_simp; (try with_reducible rfl))
      (try simp only [Act.put, List.setIfInBounds_toArray, List.set_cons_zero, List.set_cons_succ, List.getElem_toArray, List.getElem_cons_zero, List.getElem_cons_succ])
      refine wpAnyH_take (i := 15) (v := ?_) rfl (by kernel_rfl) (by kernel_rfl) (by kernel_rfl) (fun _ _ _ h => h) (Or.inl ⟨by rfl, ?_⟩) (by assumption) ?_
      rotate_left
      · (intro w hSw; (try dsimp only at hSw); go_simp; (try with_reducible rfl))
      (try simp only [Act.put, List.setIfInBounds_toArray, List.set_cons_zero, List.set_cons_succ, List.getElem_toArray, List.getElem_cons_zero, List.getElem_cons_succ])
      refine wpAnyH_take (i := 16) (v := ?_) rfl (by kernel_rfl) (by kernel_rfl) (by kernel_rfl) (fun _ _ _ h => h) (Or.inl ⟨by rfl, ?_⟩) (by assumption) ?_
      rotate_left
      · (intro w hSw; (try dsimp only at hSw); go_simp; (try with_reducible rfl))
      (try simp only [Act.put, List.setIfInBounds_toArray, List.set_cons_zero, List.set_cons_succ, List.getElem_toArray, List.getElem_cons_zero, List.getElem_cons_succ])
      refine wpAnyH_take (i := 17) (v := ?_) rfl (by kernel_rfl) (by kernel_rfl) (by kernel_rfl) (fun _ _ _ h => h) (Or.inl ⟨by rfl, ?_⟩) (by assumption) ?_
      rotate_left
      · (intro w hSw; (try dsimp only at hSw); go_simp; (try with_reducible rfl))
      (try simp only [Act.put, List.setIfInBounds_toArray, List.set_cons_zero, List.set_cons_succ, List.getElem_toArray, List.getElem_cons_zero, List.getElem_cons_succ])
      refine wpAnyH_ready (rs := [1, 10]) (by kernel_rfl) (by simp) ?_
      refine AllReadyH.cons rfl (fun K hK => ?_) ?_
      · (try simp only [Act.put, List.setIfInBounds_toArray, List.set_cons_zero, List.set_cons_succ, List.getElem_toArray, List.getElem_cons_zero, List.getElem_cons_succ])
        go_simp
        refine hK.out _ _ (by (try dsimp only); (first | with_reducible assumption | (refine hSa _ ?_; repeat (first | with_reducible assumption | exact Below.refl _ _ | refine Below.drew ?_ | refine below_al ?_ _)))) (fun hHeld2 => ?_)
        clear hK K
        clear hHeld
        have hHeld := hHeld2
        clear hHeld2
        (try simp only [Act.put, List.setIfInBounds_toArray, List.set_cons_zero, List.set_cons_succ, List.getElem_toArray, List.getElem_cons_zero, List.getElem_cons_succ])
        refine wpAnyH_ready (rs := [8, 10]) (by kernel_rfl) (by simp) ?_
        refine AllReadyH.cons rfl (fun K hK => ?_) ?_
        · (refine step_row7 (v := .slice (some ⟨_, 0, none⟩) 0 0) (by rfl) _ _ 37 3 _ _ infoVI (by rfl) (by rfl) (by decide) (by rfl) (by rfl) wc.heap.size 0 [] (by repeat (first | exact made7 _ _ _ (by simp) | exact made7b _ _ _ _ (by simp) | with_reducible refine World.ownsRow.drew ?_ | with_reducible refine World.ownsRow.alloc ?_ _)) b1 i d1 (by rfl) ((rvC L).take i) HVK.out (part1 _ (by repeat (first | with_reducible assumption | exact Below.refl _ _ | refine Below.drew ?_ | refine below_al ?_ _))) hvk (by omega) (by simp <;> omega) ?_; intro v1 w1 hown1 hgrow1 hb1; rw [Nat.zero_add, List.nil_append] at hown1; have hB1 : Below wc.heap.size wc w1 := Below.trans (by repeat (first | with_reducible assumption | exact Below.refl _ _ | refine Below.drew ?_ | refine below_al ?_ _)) hb1; clear hb1)
          refine hK.out _ _ (by (try dsimp only); (first | with_reducible assumption | (refine hSa _ ?_; repeat (first | with_reducible assumption | exact Below.refl _ _ | refine Below.drew ?_ | refine below_al ?_ _)))) (fun hHeld2 => ?_)
          clear hK K
          clear hHeld
          have hHeld := hHeld2
          clear hHeld2
          (try simp only [Act.put, List.setIfInBounds_toArray, List.set_cons_zero, List.set_cons_succ, List.getElem_toArray, List.getElem_cons_zero, List.getElem_cons_succ])
          refine wpAnyH_ready (rs := [10]) (by kernel_rfl) (by simp) ?_
          refine AllReadyH.cons rfl (fun K hK => ?_) ?_
          · (try simp only [Act.put, List.setIfInBounds_toArray, List.set_cons_zero, List.set_cons_succ, List.getElem_toArray, List.getElem_cons_zero, List.getElem_cons_succ])
            go_simp
            refine hK.out _ _ (by (try dsimp only); (first | with_reducible assumption | (refine hSa _ ?_; repeat (first | with_reducible assumption | exact Below.refl _ _ | refine Below.drew ?_ | refine below_al ?_ _)))) (fun hHeld2 => ?_)
            clear hK K
            clear hHeld
            have hHeld := hHeld2
            clear hHeld2
            (try simp only [Act.put, List.setIfInBounds_toArray, List.set_cons_zero, List.set_cons_succ, List.getElem_toArray, List.getElem_cons_zero, List.getElem_cons_succ])
            refine wpAnyH_ready (rs := [11]) (by kernel_rfl) (by simp) ?_
            refine AllReadyH.cons rfl (fun K hK => ?_) ?_
            · (refine step_row7 (by rfl) _ _ 37 3 _ _ infoVI (by rfl) (by rfl) (by decide) (by rfl) (by rfl) wc.heap.size i ((rvC L).take i) (by repeat (first | exact hown1 | with_reducible refine World.ownsRow.drew ?_ | with_reducible refine World.ownsRow.alloc ?_ _)) (some _) 1 1 (by rfl) [.int .i64 x] (by rfl) (by first | exact one7 (by go_cell) | exact one7 (World.grownBy.cell hgrow1 (by go_cell) (by simp [Value.ownBlock]))) (by intro u hu; simp at hu; subst hu; rfl) (by omega) (by first | exact hB1.size | (have := hB1.size; simp; omega)) ?_; intro v2 w2 hown2 hgrow2 hb2; have hB2 : Below wc.heap.size wc w2 := Below.trans (by repeat (first | with_reducible assumption | exact Below.refl _ _ | refine Below.drew ?_ | refine below_al ?_ _)) hb2; clear hb2)
              refine hK.out _ _ (by (try dsimp only); (first | with_reducible assumption | (refine hSa _ ?_; repeat (first | with_reducible assumption | exact Below.refl _ _ | refine Below.drew ?_ | refine below_al ?_ _)))) (fun hHeld2 => ?_)
              clear hK K
              clear hHeld
              have hHeld := hHeld2
              clear hHeld2
              (try simp only [Act.put, List.setIfInBounds_toArray, List.set_cons_zero, List.set_cons_succ, List.getElem_toArray, List.getElem_cons_zero, List.getElem_cons_succ])
              refine wpAnyH_ready (rs := [18]) (by kernel_rfl) (by simp) ?_
              refine AllReadyH.cons rfl (fun K hK => ?_) ?_
              · (refine step_row7 (by rfl) _ _ 37 3 _ _ infoVI (by rfl) (by rfl) (by decide) (by rfl) (by rfl) wc.heap.size (i + 1) ((rvC L).take i ++ [.int .i64 x]) (by repeat (first | exact hown2 | with_reducible refine World.ownsRow.drew ?_ | with_reducible refine World.ownsRow.alloc ?_ _)) b2 (n - i) d2 (by rfl) ((rvC L).drop i) HVD.out (part2 _ (by repeat (first | with_reducible assumption | exact Below.refl _ _ | refine Below.drew ?_ | refine below_al ?_ _))) hvd (by omega) (by exact hB2.size) ?_; intro v3 w3 hown3 hgrow3 hb3; obtain ⟨a3, c3', rfl, -⟩ := own_shape hown3; have hB3 : Below wc.heap.size wc w3 := Below.trans (by repeat (first | with_reducible assumption | exact Below.refl _ _ | refine Below.drew ?_ | refine below_al ?_ _)) hb3; clear hb3; have hf3 := (hB3.frozen (p := ⟨B, 1, none⟩) hBl2).trans hf0; have hc3 := cell_later hB3 z0)
                refine hK.out _ _ (by (try dsimp only); (first | with_reducible assumption | (refine hSa _ ?_; repeat (first | with_reducible assumption | exact Below.refl _ _ | refine Below.drew ?_ | refine below_al ?_ _)))) (fun hHeld2 => ?_)
                clear hK K
                clear hHeld
                have hHeld := hHeld2
                clear hHeld2
                (try simp only [Act.put, List.setIfInBounds_toArray, List.set_cons_zero, List.set_cons_succ, List.getElem_toArray, List.getElem_cons_zero, List.getElem_cons_succ])
                refine wpAnyH_take (i := 19) (v := ?_) rfl (by kernel_rfl) (by kernel_rfl) (by kernel_rfl) (fun _ _ _ h => h) (Or.inl ⟨by rfl, ?_⟩) (by assumption) ?_
                rotate_left
                · (intro w hSw; (try dsimp only at hSw); go_simp; (try with_reducible rfl))
                (try simp only [Act.put, List.setIfInBounds_toArray, List.set_cons_zero, List.set_cons_succ, List.getElem_toArray, List.getElem_cons_zero, List.getElem_cons_succ])
                refine wpAnyH_take (i := 20) (v := ?_) rfl (by kernel_rfl) (by kernel_rfl) (by kernel_rfl) (fun _ _ _ h => h) (Or.inl ⟨by rfl, ?_⟩) (by assumption) ?_
                rotate_left
                · (intro w hSw; (try dsimp only at hSw); go_simp; (try with_reducible rfl))
                (try simp only [Act.put, List.setIfInBounds_toArray, List.set_cons_zero, List.set_cons_succ, List.getElem_toArray, List.getElem_cons_zero, List.getElem_cons_succ])
                refine wpAnyH_done (by kernel_rfl) ?_ _
                (try unfold LastQ; try dsimp only)
                go_wp2_with fail
                go_ret2
                have hF := fin_of HMID.out hBl hB3 hown3 HM.out.1 HM.out.2.2.symm
                exact ⟨rfl, _, _, hF.1, hF.2⟩
              exact AllReadyH.nil
            exact AllReadyH.nil
          exact AllReadyH.nil
        refine AllReadyH.cons rfl (fun K hK => ?_) ?_
        · (try simp only [Act.put, List.setIfInBounds_toArray, List.set_cons_zero, List.set_cons_succ, List.getElem_toArray, List.getElem_cons_zero, List.getElem_cons_succ])
          go_simp
          refine hK.out _ _ (by (try dsimp only); (first | with_reducible assumption | (refine hSa _ ?_; repeat (first | with_reducible assumption | exact Below.refl _ _ | refine Below.drew ?_ | refine below_al ?_ _)))) (fun hHeld2 => ?_)
          clear hK K
          clear hHeld
          have hHeld := hHeld2
          clear hHeld2
          (try simp only [Act.put, List.setIfInBounds_toArray, List.set_cons_zero, List.set_cons_succ, List.getElem_toArray, List.getElem_cons_zero, List.getElem_cons_succ])
          refine wpAnyH_ready (rs := [8]) (by kernel_rfl) (by simp) ?_
          refine AllReadyH.cons rfl (fun K hK => ?_) ?_
          · (refine step_row7 (v := .slice (some ⟨_, 0, none⟩) 0 0) (by rfl) _ _ 37 3 _ _ infoVI (by rfl) (by rfl) (by decide) (by rfl) (by rfl) wc.heap.size 0 [] (by repeat (first | exact made7 _ _ _ (by simp) | exact made7b _ _ _ _ (by simp) | with_reducible refine World.ownsRow.drew ?_ | with_reducible refine World.ownsRow.alloc ?_ _)) b1 i d1 (by rfl) ((rvC L).take i) HVK.out (part1 _ (by repeat (first | with_reducible assumption | exact Below.refl _ _ | refine Below.drew ?_ | refine below_al ?_ _))) hvk (by omega) (by simp <;> omega) ?_; intro v1 w1 hown1 hgrow1 hb1; rw [Nat.zero_add, List.nil_append] at hown1; have hB1 : Below wc.heap.size wc w1 := Below.trans (by repeat (first | with_reducible assumption | exact Below.refl _ _ | refine Below.drew ?_ | refine below_al ?_ _)) hb1; clear hb1)
            refine hK.out _ _ (by (try dsimp only); (first | with_reducible assumption | (refine hSa _ ?_; repeat (first | with_reducible assumption | exact Below.refl _ _ | refine Below.drew ?_ | refine below_al ?_ _)))) (fun hHeld2 => ?_)
            clear hK K
            clear hHeld
            have hHeld := hHeld2
            clear hHeld2
            (try simp only [Act.put, List.setIfInBounds_toArray, List.set_cons_zero, List.set_cons_succ, List.getElem_toArray, List.getElem_cons_zero, List.getElem_cons_succ])
            refine wpAnyH_ready (rs := [11]) (by kernel_rfl) (by simp) ?_
            refine AllReadyH.cons rfl (fun K hK => ?_) ?_
            · (refine step_row7 (by rfl) _ _ 37 3 _ _ infoVI (by rfl) (by rfl) (by decide) (by rfl) (by rfl) wc.heap.size i ((rvC L).take i) (by repeat (first | exact hown1 | with_reducible refine World.ownsRow.drew ?_ | with_reducible refine World.ownsRow.alloc ?_ _)) (some _) 1 1 (by rfl) [.int .i64 x] (by rfl) (by first | exact one7 (by go_cell) | exact one7 (World.grownBy.cell hgrow1 (by go_cell) (by simp [Value.ownBlock]))) (by intro u hu; simp at hu; subst hu; rfl) (by omega) (by first | exact hB1.size | (have := hB1.size; simp; omega)) ?_; intro v2 w2 hown2 hgrow2 hb2; have hB2 : Below wc.heap.size wc w2 := Below.trans (by repeat (first | with_reducible assumption | exact Below.refl _ _ | refine Below.drew ?_ | refine below_al ?_ _)) hb2; clear hb2)
              refine hK.out _ _ (by (try dsimp only); (first | with_reducible assumption | (refine hSa _ ?_; repeat (first | with_reducible assumption | exact Below.refl _ _ | refine Below.drew ?_ | refine below_al ?_ _)))) (fun hHeld2 => ?_)
              clear hK K
              clear hHeld
              have hHeld := hHeld2
              clear hHeld2
              (try simp only [Act.put, List.setIfInBounds_toArray, List.set_cons_zero, List.set_cons_succ, List.getElem_toArray, List.getElem_cons_zero, List.getElem_cons_succ])
              refine wpAnyH_ready (rs := [18]) (by kernel_rfl) (by simp) ?_
              refine AllReadyH.cons rfl (fun K hK => ?_) ?_
              · (refine step_row7 (by rfl) _ _ 37 3 _ _ infoVI (by rfl) (by rfl) (by decide) (by rfl) (by rfl) wc.heap.size (i + 1) ((rvC L).take i ++ [.int .i64 x]) (by repeat (first | exact hown2 | with_reducible refine World.ownsRow.drew ?_ | with_reducible refine World.ownsRow.alloc ?_ _)) b2 (n - i) d2 (by rfl) ((rvC L).drop i) HVD.out (part2 _ (by repeat (first | with_reducible assumption | exact Below.refl _ _ | refine Below.drew ?_ | refine below_al ?_ _))) hvd (by omega) (by exact hB2.size) ?_; intro v3 w3 hown3 hgrow3 hb3; obtain ⟨a3, c3', rfl, -⟩ := own_shape hown3; have hB3 : Below wc.heap.size wc w3 := Below.trans (by repeat (first | with_reducible assumption | exact Below.refl _ _ | refine Below.drew ?_ | refine below_al ?_ _)) hb3; clear hb3; have hf3 := (hB3.frozen (p := ⟨B, 1, none⟩) hBl2).trans hf0; have hc3 := cell_later hB3 z0)
                refine hK.out _ _ (by (try dsimp only); (first | with_reducible assumption | (refine hSa _ ?_; repeat (first | with_reducible assumption | exact Below.refl _ _ | refine Below.drew ?_ | refine below_al ?_ _)))) (fun hHeld2 => ?_)
                clear hK K
                clear hHeld
                have hHeld := hHeld2
                clear hHeld2
                (try simp only [Act.put, List.setIfInBounds_toArray, List.set_cons_zero, List.set_cons_succ, List.getElem_toArray, List.getElem_cons_zero, List.getElem_cons_succ])
                refine wpAnyH_take (i := 19) (v := ?_) rfl (by kernel_rfl) (by kernel_rfl) (by kernel_rfl) (fun _ _ _ h => h) (Or.inl ⟨by rfl, ?_⟩) (by assumption) ?_
                rotate_left
                · (intro w hSw; (try dsimp only at hSw); go_simp; (try with_reducible rfl))
                (try simp only [Act.put, List.setIfInBounds_toArray, List.set_cons_zero, List.set_cons_succ, List.getElem_toArray, List.getElem_cons_zero, List.getElem_cons_succ])
                refine wpAnyH_take (i := 20) (v := ?_) rfl (by kernel_rfl) (by kernel_rfl) (by kernel_rfl) (fun _ _ _ h => h) (Or.inl ⟨by rfl, ?_⟩) (by assumption) ?_
                rotate_left
                · (intro w hSw; (try dsimp only at hSw); go_simp; (try with_reducible rfl))
                (try simp only [Act.put, List.setIfInBounds_toArray, List.set_cons_zero, List.set_cons_succ, List.getElem_toArray, List.getElem_cons_zero, List.getElem_cons_succ])
                refine wpAnyH_done (by kernel_rfl) ?_ _
                (try unfold LastQ; try dsimp only)
                go_wp2_with fail
                go_ret2
                have hF := fin_of HMID.out hBl hB3 hown3 HM.out.1 HM.out.2.2.symm
                exact ⟨rfl, _, _, hF.1, hF.2⟩
              exact AllReadyH.nil
            exact AllReadyH.nil
          exact AllReadyH.nil
        exact AllReadyH.nil
      refine AllReadyH.cons rfl (fun K hK => ?_) ?_
      · (try simp only [Act.put, List.setIfInBounds_toArray, List.set_cons_zero, List.set_cons_succ, List.getElem_toArray, List.getElem_cons_zero, List.getElem_cons_succ])
        go_simp
        refine hK.out _ _ (by (try dsimp only); (first | with_reducible assumption | (refine hSa _ ?_; repeat (first | with_reducible assumption | exact Below.refl _ _ | refine Below.drew ?_ | refine below_al ?_ _)))) (fun hHeld2 => ?_)
        clear hK K
        clear hHeld
        have hHeld := hHeld2
        clear hHeld2
        (try simp only [Act.put, List.setIfInBounds_toArray, List.set_cons_zero, List.set_cons_succ, List.getElem_toArray, List.getElem_cons_zero, List.getElem_cons_succ])
        refine wpAnyH_ready (rs := [1]) (by kernel_rfl) (by simp) ?_
        refine AllReadyH.cons rfl (fun K hK => ?_) ?_
        · (try simp only [Act.put, List.setIfInBounds_toArray, List.set_cons_zero, List.set_cons_succ, List.getElem_toArray, List.getElem_cons_zero, List.getElem_cons_succ])
          go_simp
          refine hK.out _ _ (by (try dsimp only); (first | with_reducible assumption | (refine hSa _ ?_; repeat (first | with_reducible assumption | exact Below.refl _ _ | refine Below.drew ?_ | refine below_al ?_ _)))) (fun hHeld2 => ?_)
          clear hK K
          clear hHeld
          have hHeld := hHeld2
          clear hHeld2
          (try simp only [Act.put, List.setIfInBounds_toArray, List.set_cons_zero, List.set_cons_succ, List.getElem_toArray, List.getElem_cons_zero, List.getElem_cons_succ])
          refine wpAnyH_ready (rs := [8]) (by kernel_rfl) (by simp) ?_
          refine AllReadyH.cons rfl (fun K hK => ?_) ?_
          · (refine step_row7 (v := .slice (some ⟨_, 0, none⟩) 0 0) (by rfl) _ _ 37 3 _ _ infoVI (by rfl) (by rfl) (by decide) (by rfl) (by rfl) wc.heap.size 0 [] (by repeat (first | exact made7 _ _ _ (by simp) | exact made7b _ _ _ _ (by simp) | with_reducible refine World.ownsRow.drew ?_ | with_reducible refine World.ownsRow.alloc ?_ _)) b1 i d1 (by rfl) ((rvC L).take i) HVK.out (part1 _ (by repeat (first | with_reducible assumption | exact Below.refl _ _ | refine Below.drew ?_ | refine below_al ?_ _))) hvk (by omega) (by simp <;> omega) ?_; intro v1 w1 hown1 hgrow1 hb1; rw [Nat.zero_add, List.nil_append] at hown1; have hB1 : Below wc.heap.size wc w1 := Below.trans (by repeat (first | with_reducible assumption | exact Below.refl _ _ | refine Below.drew ?_ | refine below_al ?_ _)) hb1; clear hb1)
            refine hK.out _ _ (by (try dsimp only); (first | with_reducible assumption | (refine hSa _ ?_; repeat (first | with_reducible assumption | exact Below.refl _ _ | refine Below.drew ?_ | refine below_al ?_ _)))) (fun hHeld2 => ?_)
            clear hK K
            clear hHeld
            have hHeld := hHeld2
            clear hHeld2
            (try simp only [Act.put, List.setIfInBounds_toArray, List.set_cons_zero, List.set_cons_succ, List.getElem_toArray, List.getElem_cons_zero, List.getElem_cons_succ])
            refine wpAnyH_ready (rs := [11]) (by kernel_rfl) (by simp) ?_
            refine AllReadyH.cons rfl (fun K hK => ?_) ?_
            · (refine step_row7 (by rfl) _ _ 37 3 _ _ infoVI (by rfl) (by rfl) (by decide) (by rfl) (by rfl) wc.heap.size i ((rvC L).take i) (by repeat (first | exact hown1 | with_reducible refine World.ownsRow.drew ?_ | with_reducible refine World.ownsRow.alloc ?_ _)) (some _) 1 1 (by rfl) [.int .i64 x] (by rfl) (by first | exact one7 (by go_cell) | exact one7 (World.grownBy.cell hgrow1 (by go_cell) (by simp [Value.ownBlock]))) (by intro u hu; simp at hu; subst hu; rfl) (by omega) (by first | exact hB1.size | (have := hB1.size; simp; omega)) ?_; intro v2 w2 hown2 hgrow2 hb2; have hB2 : Below wc.heap.size wc w2 := Below.trans (by repeat (first | with_reducible assumption | exact Below.refl _ _ | refine Below.drew ?_ | refine below_al ?_ _)) hb2; clear hb2)
              refine hK.out _ _ (by (try dsimp only); (first | with_reducible assumption | (refine hSa _ ?_; repeat (first | with_reducible assumption | exact Below.refl _ _ | refine Below.drew ?_ | refine below_al ?_ _)))) (fun hHeld2 => ?_)
              clear hK K
              clear hHeld
              have hHeld := hHeld2
              clear hHeld2
              (try simp only [Act.put, List.setIfInBounds_toArray, List.set_cons_zero, List.set_cons_succ, List.getElem_toArray, List.getElem_cons_zero, List.getElem_cons_succ])
              refine wpAnyH_ready (rs := [18]) (by kernel_rfl) (by simp) ?_
              refine AllReadyH.cons rfl (fun K hK => ?_) ?_
              · (refine step_row7 (by rfl) _ _ 37 3 _ _ infoVI (by rfl) (by rfl) (by decide) (by rfl) (by rfl) wc.heap.size (i + 1) ((rvC L).take i ++ [.int .i64 x]) (by repeat (first | exact hown2 | with_reducible refine World.ownsRow.drew ?_ | with_reducible refine World.ownsRow.alloc ?_ _)) b2 (n - i) d2 (by rfl) ((rvC L).drop i) HVD.out (part2 _ (by repeat (first | with_reducible assumption | exact Below.refl _ _ | refine Below.drew ?_ | refine below_al ?_ _))) hvd (by omega) (by exact hB2.size) ?_; intro v3 w3 hown3 hgrow3 hb3; obtain ⟨a3, c3', rfl, -⟩ := own_shape hown3; have hB3 : Below wc.heap.size wc w3 := Below.trans (by repeat (first | with_reducible assumption | exact Below.refl _ _ | refine Below.drew ?_ | refine below_al ?_ _)) hb3; clear hb3; have hf3 := (hB3.frozen (p := ⟨B, 1, none⟩) hBl2).trans hf0; have hc3 := cell_later hB3 z0)
                refine hK.out _ _ (by (try dsimp only); (first | with_reducible assumption | (refine hSa _ ?_; repeat (first | with_reducible assumption | exact Below.refl _ _ | refine Below.drew ?_ | refine below_al ?_ _)))) (fun hHeld2 => ?_)
                clear hK K
                clear hHeld
                have hHeld := hHeld2
                clear hHeld2
                (try simp only [Act.put, List.setIfInBounds_toArray, List.set_cons_zero, List.set_cons_succ, List.getElem_toArray, List.getElem_cons_zero, List.getElem_cons_succ])
                refine wpAnyH_take (i := 19) (v := ?_) rfl (by kernel_rfl) (by kernel_rfl) (by kernel_rfl) (fun _ _ _ h => h) (Or.inl ⟨by rfl, ?_⟩) (by assumption) ?_
                rotate_left
                · (intro w hSw; (try dsimp only at hSw); go_simp; (try with_reducible rfl))
                (try simp only [Act.put, List.setIfInBounds_toArray, List.set_cons_zero, List.set_cons_succ, List.getElem_toArray, List.getElem_cons_zero, List.getElem_cons_succ])
                refine wpAnyH_take (i := 20) (v := ?_) rfl (by kernel_rfl) (by kernel_rfl) (by kernel_rfl) (fun _ _ _ h => h) (Or.inl ⟨by rfl, ?_⟩) (by assumption) ?_
                rotate_left
                · (intro w hSw; (try dsimp only at hSw); go_simp; (try with_reducible rfl))
                (try simp only [Act.put, List.setIfInBounds_toArray, List.set_cons_zero, List.set_cons_succ, List.getElem_toArray, List.getElem_cons_zero, List.getElem_cons_succ])
                refine wpAnyH_done (by kernel_rfl) ?_ _
                (try unfold LastQ; try dsimp only)
                go_wp2_with fail
                go_ret2
                have hF := fin_of HMID.out hBl hB3 hown3 HM.out.1 HM.out.2.2.symm
                exact ⟨rfl, _, _, hF.1, hF.2⟩
              exact AllReadyH.nil
            exact AllReadyH.nil
          exact AllReadyH.nil
        exact AllReadyH.nil
      exact AllReadyH.nil
      
end Go.Proofs.Ytneebnankghhgab
