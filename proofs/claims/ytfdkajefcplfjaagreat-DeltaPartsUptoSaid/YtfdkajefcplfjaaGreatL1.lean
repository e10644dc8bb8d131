/- Several of my texts laid together, each as it was: M1, M2, M3. Conditions: each names its own. -/
import Derived.Test.YtfdkajefcplfjaaGreatH5
import Derived.Test.YtfdkajefcplfjaaGreatH2
import Derived.Laws.AppendOwnNone
import Derived.Test.YtfdkajefcplfjaaGreatI2
import Derived.Test.YtfdkajefcplfjaaGreatI8
/- The reference's Add and Find of bags: contracts of the calls, in whatever memory. Conditions: the rows' cells are known; they are not too many. -/
namespace Go.Proofs.YtfdkajefcplfjaaGreat
open Go.RowKit

/-- Elements that lie somewhere, appended to a list of one's own. -/
theorem wp_appE {w : World} {ops : Array Oper} {rest : List Oper} {o : Oper} {a : Act} {Q : Exit → Act → World → Prop} (hgd : o.guard = none) (s x : Operand)
    (ho : o.op = .call { callee := .builtin .append, args := #[s, x], argTypes := #[57, 57] })
    {base : Nat} {v : Value} {E E2 : List Elem} {a2 : Option Addr} {c2 : Nat} (hs : a.eval s = v) (hx : a.eval x = .slice a2 E2.length c2) (hm : OwnB w base v E) (h2 : ElemsAt w a2 E2) (hlen : (E.length + E2.length) * 32 ≤ 140737488355328) (hbase : base ≤ w.heap.size)
    (h : ∀ v' w', OwnB w' base v' (E ++ E2) → w.grownBy w' v.ownBlock → wpList Tryz.prog ops Q rest (a.put o.dst v') w') : wpList Tryz.prog ops Q (o :: rest) a w := by
  obtain ⟨i0, hi, hz0, hz1, hz2⟩ := info_parts info36
  have some_ : ∀ ad, a2 = some ad → (∀ j u, (cellsE E2)[j]? = some u → w.cell? (ad.add j) = some u) → wpList Tryz.prog ops Q (o :: rest) a w := fun ad e hc => by
    refine wpList_append_own w hgd s x 57 ho base 80 i0 (.agg #[.slice none 0 0, .int .i64 0]) 2 32 Tryz.underlying57 hi hz0 hz1 hz2 rfl (by decide) v E.length (cellsE E) hs hm.out ad E2.length c2 (cellsE E2) (by rw [hx, e]) (cellsE_len E2) hc (cellsE_one E2) (by unfold maxLen; omega) hlen hbase ?_
    intro v' w' hown' hgrow _
    exact h v' w' ⟨by rw [List.length_append, show cellsE (E ++ E2) = cellsE E ++ cellsE E2 by simp [cellsE]]; exact hown'⟩ hgrow
  cases a2 with
  | some ad => exact some_ ad rfl (cellsE_of h2.1)
  | none =>
    obtain rfl : E2 = [] := by
      by_cases hn : E2 = []
      · exact hn
      · obtain ⟨_, _, e, _⟩ := h2.1 hn; cases e
    refine wpList_plain hgd fun K hK => ?_
    have hr : ∀ ty, (Builtin.append_ #[57, 57] ty #[v, .slice none 0 c2]).run Tryz.prog w = .ok v w := fun ty => by
      rcases hm.out.2 with ⟨e, _⟩ | ⟨g, cap, cur, e, _, _, hn, _⟩
      · rw [e]; exact run_append_none w _ ty _ i0 Tryz.underlying57 hi none 0 0 c2 (Nat.le_refl _)
      · rw [e]; exact run_append_none w _ ty _ i0 Tryz.underlying57 hi _ _ _ c2 hn
    have hx0 : a.eval x = .slice none 0 c2 := hx
    unfold Oper.wp execOp
    simp only [ho, resolve, invoke, builtin, Sem.run_bind, Sem.run_pure, Result.andThen_ok, List.map_toArray, List.map_cons, List.map_nil, hs, hx0, hr]
    exact hK _ _ (h v w (by rw [List.append_nil]; exact hm) ⟨rfl, rfl, rfl, Nat.le_refl _, fun _ _ _ => rfl⟩)
set_option maxHeartbeats 2000000 in
set_option maxRecDepth 1000000 in
theorem refAdd_any (a1 a2 : Option Addr) (c1 c2 : Nat) (E1 E2 : List Elem) (w : World) (h1 : ElemsAt w a1 E1) (h2 : ElemsAt w a2 E2) (hl : E1.length + E2.length ≤ 1000000) (hs : absS (E1.map pr ++ E2.map pr) ≤ 4611686018427387904) :
    Calls Tryz.prog 26 #[.slice a1 E1.length c1, .slice a2 E2.length c2] w (OfAns w (E1.map pr ++ E2.map pr)) := by
  have hown : (w.alloc (Obj.cells #[] 80)).ownsRow w.heap.size 80 2 (.slice (some ⟨w.heap.size, 0, none⟩) 0 0) 0 [] := World.ownsRow_made w #[] 0 (Nat.le_refl _) (by unfold maxLen; omega) rfl
  have hO : OwnB (w.alloc (Obj.cells #[] 80)) w.heap.size (.slice (some ⟨w.heap.size, 0, none⟩) 0 0) [] := ⟨hown⟩
  have hB0 : Below w.heap.size w (w.alloc (Obj.cells #[] 80)) := (Below.refl _ _).alloc (Nat.le_refl _) _
  have H1 := hid0 (h1.later hB0)
  have H1' := hid0 h1
  have H2 := hid0 h2
  have HS := hid0 hs
  clear h1 h2 hs hown
  go_enter Tryz.func26, Tryz.ntmps26
  go_wp2_with (first | (at_builtin; refine wp_appE rfl _ _ rfl rfl rfl hO H1.out (by simp; omega) (by simp) ?_) | fail)
  intro v1 w1 hm1 hg1
  have hB1 : Below w.heap.size w w1 := hB0.grown hg1 (by simp) (fun k hk => (hO.out.lt k hk).1)
  have hO1 : Hid (OwnB w1 w.heap.size v1 E1) := hid0 hm1
  clear hg1 hO hB0 hm1
  go_wp2_with (first | (at_builtin; go_loud (refine wp_appE rfl _ _ rfl rfl rfl hO1.out (H2.out.later hB1) (by (try simp only [List.nil_append]); omega) hB1.size ?_)) | fail)
  intro v2 w2 hm2 hg2
  have hB2 : Below w.heap.size w w2 := hB1.grown hg2 hB1.size (fun k hk => (hO1.out.out.lt k hk).1)
  have hR2 : RowsIn w2 (E1 ++ E2) := fun e he => by
    rcases List.mem_append.1 he with he | he
    · exact (H1'.out.later hB2).2 e he
    · exact (H2.out.later hB2).2 e he
  have hl3 : (E1 ++ E2).length ≤ 1000000 := by rw [List.length_append]; exact hl
  have HS3 := HS.out
  rw [← List.map_append] at HS3
  have HE := hid0 (List.map_append (f := pr) (l₁ := E1) (l₂ := E2))
  generalize E1 ++ E2 = E3 at hm2 hR2 hl3 HS3 HE
  obtain ⟨a', c', rfl, hcap, _, hcl⟩ := elems_owned hm2.out
  have CO := hid0 (refOf_any a' c' E3 w2 ⟨hcl, hR2⟩ hcap hl3 HS3)
  have HB := hid0 hB2
  clear hm2 hg2 hcl hO1 hB1 hB2 hcap hR2 hl3 HS3 HS H1 H1' H2
  go_wp2_with (first | (go_at_call 49; go_must (refine CO.out.mono ?_; rintro e w3 ⟨⟨a5, c5, E5, rfl, hc5, hE5, hm5⟩, hb5⟩)) | fail)
  go_ret
  exact ⟨⟨a5, c5, E5, rfl, hc5, hE5, by rw [hm5, HE.out]⟩, below_through hb5 HB.out.size HB.out⟩
/-- The number of the first element of a list with a row. -/
def findP (L : List Pair) (r : List Val) : Int := match L.find? (fun x => decide (rowsV x.1 r = 0)) with
  | some x => x.2
  | none => 0
end Go.Proofs.YtfdkajefcplfjaaGreat

/- More rows are never fewer, plainly: lists of rows and how often each is there. Nothing of any program here. Conditions: each lemma names its own. -/
namespace Go.Proofs.YtfdkajefcplfjaaGreat
open Go.RowKit

/-- The sum over a list of what each of its rows weighs. -/
def wsum (g : List Val → Int) : List Pair → Int
  | [] => 0
  | x :: L => x.2 * g x.1 + wsum g L
def posB (L : List Pair) : Prop := ∀ x ∈ L, 0 ≤ x.2
/-- B is A with rows more. -/
def LeP (A B : List Pair) : Prop := ∃ C, posB C ∧ ∀ g, wsum g B = wsum g A + wsum g C
theorem wsum_app (g : List Val → Int) : ∀ A B : List Pair, wsum g (A ++ B) = wsum g A + wsum g B
  | [], B => by simp [wsum]
  | x :: A, B => by rw [List.cons_append, wsum, wsum, wsum_app g A B]; omega
theorem wsum_add (g h : List Val → Int) : ∀ A : List Pair, wsum (fun r => g r + h r) A = wsum g A + wsum h A
  | [] => rfl
  | x :: A => by rw [wsum, wsum, wsum, wsum_add g h A, Int.mul_add]; omega
theorem wsum_map (φ : List Val → List Val) (n : Int) (g : List Val → Int) : ∀ A : List Pair, wsum g (A.map fun y => (φ y.1, n * y.2)) = n * wsum (fun r => g (φ r)) A
  | [] => by simp [wsum]
  | x :: A => by
    rw [List.map_cons, wsum, wsum, wsum_map φ n g A, Int.mul_add, ← Int.mul_assoc]
theorem wsum_map1 (φ : List Val → List Val) (g : List Val → Int) : ∀ A : List Pair, wsum g (A.map fun y => (φ y.1, y.2)) = wsum (fun r => g (φ r)) A
  | [] => rfl
  | x :: A => by rw [List.map_cons, wsum, wsum, wsum_map1 φ g A]
theorem wsum_pairs (g : List Val → Int) (B : List Pair) : ∀ A : List Pair, wsum g (pairsB A B) = wsum (fun r => wsum (fun s => g (r ++ s)) B) A
  | [] => by simp [pairsB, wsum]
  | x :: A => by
    have e : pairsB (x :: A) B = (B.map fun y => (x.1 ++ y.1, x.2 * y.2)) ++ pairsB A B := by simp [pairsB]
    rw [e, wsum_app, wsum_pairs g B A, wsum, wsum_map (fun s => x.1 ++ s) x.2 g B]
theorem wsum_filter (q : List Val → Bool) (g : List Val → Int) : ∀ L : List Pair, wsum g (L.filter fun x => q x.1) = wsum (fun r => if q r then g r else 0) L
  | [] => rfl
  | x :: L => by
    rw [List.filter_cons, wsum]
    by_cases h : q x.1 = true
    · rw [if_pos h, wsum, wsum_filter q g L, if_pos h]
    · rw [if_neg h, wsum_filter q g L, if_neg h]; simp
theorem wsum_ins (g : List Val → Int) (x : Pair) : ∀ B : List Pair, wsum g (insB x B) = x.2 * g x.1 + wsum g B
  | [] => by
    unfold insB
    split
    · rename_i h; simp [wsum, h]
    · rfl
  | y :: B => by
    unfold insB
    split
    · split
      · rename_i h; simp [h]
      · rfl
    · split
      · rename_i hk
        have e : x.1 = y.1 := (rowsV_is _ _).1 hk
        split
        · rename_i h
          rw [e, wsum]
          have : (x.2 + y.2) * g y.1 = 0 := by rw [h, Int.zero_mul]
          rw [Int.add_mul] at this; omega
        · show (x.2 + y.2) * g y.1 + wsum g B = x.2 * g x.1 + (y.2 * g y.1 + wsum g B)
          rw [e, Int.add_mul]; omega
      · rw [wsum, wsum, wsum_ins g x B]; omega
theorem wsum_ofB (g : List Val → Int) : ∀ L : List Pair, wsum g (ofB L) = wsum g L
  | [] => rfl
  | x :: L => by
    show wsum g (insB x (ofB L)) = _
    rw [wsum_ins, wsum_ofB g L]; rfl
theorem wsum_pos {g : List Val → Int} (hg : ∀ r, 0 ≤ g r) : ∀ {L : List Pair}, posB L → 0 ≤ wsum g L
  | [], _ => Int.le_refl _
  | x :: L, h => by
    have := wsum_pos hg (L := L) (fun y hy => h y (by simp [hy]))
    have := Int.mul_nonneg (h x (by simp)) (hg x.1)
    unfold wsum; omega
theorem posB_app {A B : List Pair} (h : posB A) (k : posB B) : posB (A ++ B) := fun x hx => by
  rcases List.mem_append.1 hx with hx | hx
  · exact h x hx
  · exact k x hx
theorem posB_pairs {A B : List Pair} (h : posB A) (k : posB B) : posB (pairsB A B) := fun x hx => by
  unfold pairsB at hx
  obtain ⟨a, ha, hx⟩ := List.mem_flatMap.1 hx
  obtain ⟨b, hb, rfl⟩ := List.mem_map.1 hx
  exact Int.mul_nonneg (h a ha) (k b hb)
theorem LeP.refl (A : List Pair) : LeP A A := ⟨[], fun x hx => by simp at hx, fun g => by simp [wsum]⟩
theorem LeP.none {B : List Pair} (h : posB B) : LeP [] B := ⟨B, h, fun g => by simp [wsum]⟩
theorem LeP.add {A M : List Pair} (h : posB M) : LeP A (ofB (A ++ M)) := ⟨M, h, fun g => by rw [wsum_ofB, wsum_app]⟩
theorem LeP.pairs {A A' B B' : List Pair} (pA : posB A) (pB : posB B) (h : LeP A A') (k : LeP B B') : LeP (pairsB A B) (pairsB A' B') := by
  obtain ⟨C, hC, hA⟩ := h
  obtain ⟨D, hD, hB⟩ := k
  refine ⟨pairsB A D ++ (pairsB C B ++ pairsB C D), posB_app (posB_pairs pA hD) (posB_app (posB_pairs hC pB) (posB_pairs hC hD)), fun g => ?_⟩
  have e : (fun r => wsum (fun s => g (r ++ s)) B') = fun r => wsum (fun s => g (r ++ s)) B + wsum (fun s => g (r ++ s)) D := funext fun r => hB _
  rw [wsum_app, wsum_app, wsum_pairs, wsum_pairs, wsum_pairs, wsum_pairs, wsum_pairs, hA, e, wsum_add, wsum_add]
  omega
theorem LeP.filter {A B : List Pair} (q : List Val → Bool) (h : LeP A B) : LeP (A.filter fun x => q x.1) (B.filter fun x => q x.1) := by
  obtain ⟨C, hC, hA⟩ := h
  exact ⟨C.filter fun x => q x.1, fun x hx => hC x (List.mem_filter.1 hx).1, fun g => by rw [wsum_filter, wsum_filter, wsum_filter, hA]⟩
theorem LeP.map {A B : List Pair} (φ : List Val → List Val) (h : LeP A B) : LeP (A.map fun x => (φ x.1, x.2)) (B.map fun x => (φ x.1, x.2)) := by
  obtain ⟨C, hC, hA⟩ := h
  exact ⟨C.map fun x => (φ x.1, x.2), fun x hx => by
    obtain ⟨y, hy, rfl⟩ := List.mem_map.1 hx
    exact hC y hy, fun g => by rw [wsum_map1, wsum_map1, wsum_map1, hA]⟩
theorem sumOf_wsum (r : List Val) : ∀ L : List Pair, sumOf r L = wsum (fun s => if rowsV s r = 0 then 1 else 0) L
  | [] => rfl
  | x :: L => by
    rw [sumOf, wsum, sumOf_wsum r L]
    congr 1
    split <;> simp
theorem LeP.sum {A B : List Pair} (h : LeP A B) (r : List Val) : sumOf r A ≤ sumOf r B := by
  obtain ⟨C, hC, hA⟩ := h
  rw [sumOf_wsum, sumOf_wsum, hA]
  have := wsum_pos (g := fun s => if rowsV s r = 0 then 1 else 0) (fun s => by split <;> omega) hC
  omega
/-- In a bag a row's number is what is found. -/
theorem find_sum (r : List Val) : ∀ {B : List Pair}, Rises B → findP B r = sumOf r B
  | [], _ => rfl
  | x :: B, h => by
    unfold findP
    rw [List.find?_cons, sumOf]
    by_cases hk : rowsV x.1 r = 0
    · have e : x.1 = r := (rowsV_is _ _).1 hk
      have h2 : sumOf r B = 0 := by rw [← e]; exact sumOf_below h.2.1
      simp only [hk, decide_true, if_true, h2]; omega
    · have ih := find_sum r h.2.2
      unfold findP at ih
      simp only [hk, decide_false, if_false]
      rw [ih]; omega
theorem sum_mem : ∀ {A : List Pair}, Rises A → ∀ x ∈ A, sumOf x.1 A = x.2
  | y :: A, h, x, hx => by
    rcases List.mem_cons.1 hx with rfl | hx
    · rw [sumOf, if_pos (rowsV_self _), sumOf_below h.2.1]; omega
    · rw [sumOf, sum_mem h.2.2 x hx, if_neg (fun e => by have := h.2.1 x hx; omega)]; omega
/-- A bag with rows more has each row at least as often. -/
theorem more_found {A B : List Pair} (h : LeP A B) : ∀ x ∈ ofB A, x.2 ≤ findP (ofB B) x.1 := fun x hx => by
  rw [find_sum _ (rises_ofB B), ← sum_mem (rises_ofB A) x hx, sumOf_ofB, sumOf_ofB]
  exact h.sum x.1
end Go.Proofs.YtfdkajefcplfjaaGreat

/- More rows are never fewer, plainly: what a plan of one part without groups tells. Nothing of any program here. Conditions: each lemma names its own. -/
namespace Go.Proofs.YtfdkajefcplfjaaGreat
open Go.RowKit

/-- What is there, with rows more. -/
def AllLe : List Nx → List Nx → Prop
  | [], [] => True
  | x :: l, y :: l' => (x.s = y.s ∧ LeP (x.E.map pr) (y.E.map pr)) ∧ AllLe l l'
  | _, _ => False
theorem AllLe.snoc {x y : Nx} (hs : x.s = y.s) (h : LeP (x.E.map pr) (y.E.map pr)) : ∀ {l l' : List Nx}, AllLe l l' → AllLe (l ++ [x]) (l' ++ [y])
  | [], [], _ => ⟨⟨hs, h⟩, trivial⟩
  | [], _ :: _, k => k.elim
  | _ :: _, [], k => k.elim
  | _ :: _, _ :: _, ⟨a, k⟩ => ⟨a, AllLe.snoc hs h k⟩
theorem AllLe.rows (s : List UInt8) : ∀ {l l' : List Nx}, AllLe l l' → LeP (rowsN l s) (rowsN l' s)
  | [], [], _ => LeP.refl _
  | [], _ :: _, k => k.elim
  | _ :: _, [], k => k.elim
  | x :: l, y :: l', ⟨⟨a, b⟩, k⟩ => by
    have ih := AllLe.rows s k
    unfold rowsN findN at ih ⊢
    rw [List.find?_cons, List.find?_cons, ← a]
    cases x.s.data.toList == s
    · exact ih
    · exact b
theorem AllLe.len : ∀ {l l' : List Nx}, AllLe l l' → l.length = l'.length
  | [], [], _ => rfl
  | [], _ :: _, k => k.elim
  | _ :: _, [], k => k.elim
  | _ :: _, _ :: _, ⟨_, k⟩ => by rw [List.length_cons, List.length_cons, AllLe.len k]
/-- The rows of these names are there. -/
def Pos1 (l : List Nx) (fs : List ByteArray) : Prop := ∀ s ∈ fs, ∀ x ∈ rowsN l s.data.toList, 1 ≤ x.2
theorem Cheap.pos1 {l : List Nx} {fs : List ByteArray} (h : Cheap l fs) : Pos1 l fs := fun s hs x hx => by
  obtain ⟨y, hy, hE⟩ := h.ok s hs
  unfold rowsN at hx
  rw [hy] at hx
  obtain ⟨e, he, rfl⟩ := List.mem_map.1 hx
  exact (hE e he).1
theorem size_none {L : List Pair} (h : ∀ x ∈ L, 1 ≤ x.2) (h0 : sizeB L = 0) : L = [] := by
  have := absS_pos h
  rw [size_is h] at h0
  unfold maxMany at h0
  exact List.eq_nil_of_length_eq_zero (by omega)
theorem sizeN_none {l : List Nx} {s : List UInt8} (h : ∀ x ∈ rowsN l s, 1 ≤ x.2) (h0 : sizeN l s = 0) : rowsN l s = [] := by
  unfold rowsN sizeN at *
  split
  · rename_i x hx
    rw [hx] at h h0
    exact size_none h h0
  · rfl
theorem cost_none {l : List Nx} : ∀ {fs : List ByteArray}, Pos1 l fs → ∀ (n : Int) (R : List Pair), (n = 0 → R = []) → fs.foldl (fun n s => timesM n (sizeN l s.data.toList)) n = 0 → fs.foldl (fun R s => pairsB R (rowsN l s.data.toList)) R = []
  | [], _, n, R, h, h0 => h h0
  | s :: fs, hp, n, R, h, h0 => by
    rw [List.foldl_cons] at h0 ⊢
    refine cost_none (fun t ht => hp t (by simp [ht])) _ _ (fun e => ?_) h0
    have e2 : n * sizeN l s.data.toList = 0 := by unfold timesM maxMany at e; omega
    rcases Int.mul_eq_zero.1 e2 with e3 | e3
    · rw [h e3]; rfl
    · rw [sizeN_none (hp s (by simp)) e3]; unfold pairsB; simp
theorem side_prod {l : List Nx} {p : Px} (h : Pos1 l p.fs) : sideB l p = prodB l p.fs := by
  unfold sideB
  split
  · rename_i h0
    exact (cost_none h 1 oneB (fun e => by omega) h0).symm
  · rfl
theorem prod_pos {l : List Nx} : ∀ {fs : List ByteArray}, Pos1 l fs → ∀ {R : List Pair}, posB R → posB (fs.foldl (fun R s => pairsB R (rowsN l s.data.toList)) R)
  | [], _, _, h => h
  | s :: fs, hp, R, h => by
    rw [List.foldl_cons]
    exact prod_pos (fun t ht => hp t (by simp [ht])) (posB_pairs h fun x hx => by have := hp s (by simp) x hx; omega)
theorem prod_le {l l' : List Nx} (hl : AllLe l l') : ∀ {fs : List ByteArray}, Pos1 l fs → ∀ {R R' : List Pair}, posB R → LeP R R' → LeP (fs.foldl (fun R s => pairsB R (rowsN l s.data.toList)) R) (fs.foldl (fun R s => pairsB R (rowsN l' s.data.toList)) R')
  | [], _, _, _, _, h => h
  | s :: fs, hp, R, R', hR, h => by
    rw [List.foldl_cons, List.foldl_cons]
    have hs : posB (rowsN l s.data.toList) := fun x hx => by have := hp s (by simp) x hx; omega
    exact prod_le hl (fun t ht => hp t (by simp [ht])) (posB_pairs hR hs) (LeP.pairs hR hs h (hl.rows _))
theorem one_pos : posB oneB := fun x hx => by
  simp only [oneB, List.mem_singleton] at hx
  subst hx; show (0 : Int) ≤ 1; omega
theorem kept_le {l l' : List Nx} {p : Px} (hl : AllLe l l') (h : Pos1 l p.fs) (h' : Pos1 l' p.fs) : LeP (keptB l p) (keptB l' p) := by
  unfold keptB
  rw [side_prod h, side_prod h']
  exact LeP.filter (fun r => decide (hoT r p.wh = 2)) (prod_le hl h one_pos (LeP.refl _))
/-- What a part without groups tells of a row. -/
def rowO (os : List Ox) (r : List Val) : List Val := os.map fun o => (evC r o.e).1
theorem told_plain {p : Px} (hg : groupedB p = false) (K : List Pair) : toldL p (groupsM p K) = K.map fun x => (rowO p.os x.1, x.2) := by
  unfold groupsM toldL
  rw [hg]
  simp only [Bool.false_eq_true, if_false, List.map_map]
  refine List.map_congr_left fun x _ => ?_
  show (rowM p.os [x], x.2) = _
  congr 1
  unfold rowM rowO
  refine List.map_congr_left fun o ho => ?_
  unfold groupedB at hg
  have h1 := (Bool.or_eq_false_iff.1 hg).2
  have h2 := List.any_eq_false.1 h1 o ho
  have h3 : o.g = 0 := by simpa using h2
  unfold outM
  rw [if_pos h3]; rfl
theorem sum_once (r : List Val) : ∀ {B : List Pair}, Rises B → sumOf r (onceB B) = if 0 < sumOf r B then 1 else 0
  | [], _ => by simp [onceB, sumOf]
  | x :: B, h => by
    have ih := sum_once r h.2.2
    have e : onceB (x :: B) = if 0 < x.2 then (x.1, 1) :: onceB B else onceB B := by
      unfold onceB
      rw [List.filter_cons]
      by_cases h0 : 0 < x.2
      · simp [h0]
      · simp [h0]
    by_cases hk : rowsV x.1 r = 0
    · have e1 : x.1 = r := (rowsV_is _ _).1 hk
      have h2 : sumOf r B = 0 := by rw [← e1]; exact sumOf_below h.2.1
      rw [h2] at ih
      rw [e, sumOf, if_pos hk, h2]
      split
      · rw [sumOf, if_pos hk, ih, if_neg (by omega), if_pos (by omega)]; rfl
      · rw [ih, if_neg (by omega)]
        rename_i h0
        rw [if_neg (by omega)]
    · rw [e, sumOf, if_neg hk]
      split
      · rw [sumOf, if_neg hk, ih, Int.zero_add, Int.zero_add]
      · rw [ih, Int.zero_add]
theorem more_sums {A B : List Pair} (h : ∀ r, sumOf r A ≤ sumOf r B) : ∀ x ∈ ofB A, x.2 ≤ findP (ofB B) x.1 := fun x hx => by
  rw [find_sum _ (rises_ofB B), ← sum_mem (rises_ofB A) x hx, sumOf_ofB, sumOf_ofB]
  exact h x.1
theorem told_le {p : Px} (hg : groupedB p = false) {K K' : List Pair} (h : LeP K K') (r : List Val) : sumOf r (toldM p K) ≤ sumOf r (toldM p K') := by
  have h1 := (h.map (rowO p.os)).sum r
  unfold toldM
  rw [told_plain hg, told_plain hg]
  split
  · rw [sum_once r (rises_ofB _), sum_once r (rises_ofB _), sumOf_ofB, sumOf_ofB]
    split
    · rw [if_pos (by omega)]; omega
    · split <;> omega
  · exact h1
theorem rowsM_parts {l : List Nx} {p : Px} (h : (rowsM l [p]).2 = 0) : Cheap l p.fs ∧ (rowsM l [p]).1 = ofB (toldM p (keptB l p)) := by
  unfold rowsM at h ⊢
  by_cases h1 : readyE l [p] ≠ 0
  · rw [if_pos h1] at h; exact absurd h h1
  · rw [if_neg h1] at h ⊢
    by_cases h2 : 2000 < costP l [p]
    · rw [if_pos h2] at h; exact absurd h (by show ¬ (19 : Int) = 0; omega)
    · rw [if_neg h2] at h ⊢
      by_cases h3 : allE l [p] ≠ 0
      · rw [if_pos h3] at h; exact absurd h h3
      · rw [if_neg h3]
        exact ⟨(ready_parts (ps := [p]) (show readyE l [p] = 0 by omega) (by omega) p (by simp)).cheap, by show ofB (allL l [p]) = _; unfold allL; simp⟩
/-- Where a plan of one part without groups tells what is there, and what is there with rows more, each row is told at least as often. -/
theorem more_plan {l l' : List Nx} {p : Px} (hl : AllLe l l') (hg : groupedB p = false) (h : (rowsM l [p]).2 = 0) (h' : (rowsM l' [p]).2 = 0) : ∀ x ∈ (rowsM l [p]).1, x.2 ≤ findP (rowsM l' [p]).1 x.1 := by
  obtain ⟨c, e⟩ := rowsM_parts h
  obtain ⟨c', e'⟩ := rowsM_parts h'
  rw [e, e']
  exact more_sums (told_le hg (kept_le hl c.pos1 c'.pos1))
end Go.Proofs.YtfdkajefcplfjaaGreat
