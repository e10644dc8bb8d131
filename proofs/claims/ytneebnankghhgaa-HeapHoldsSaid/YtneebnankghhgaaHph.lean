/- Several of my texts laid together, each as it was: Hph. Conditions: each names its own. -/
import Derived.RangeFuncNested
import Derived.RangeFuncBox
import Derived.RangeFuncLeaves
import Derived.Shelf.Abstract
import Derived.WalkKit
import Derived.OwnWalkIn
import Derived.TacticsInMore
import Derived.LoopNIn
import Derived.LoopIn
import Derived.Maps.AppendAt
import Derived.Test.YtneebnankghhgaaHpc
import Derived.Test.YtneebnankghhgaaGE
import Derived.BigRegionIn
/- The project's heap: All: the iterator goes through all rows, by pages, then slots; what All hands out; List: contracts of the calls, in whatever memory. Conditions: the pages' cells are known; a round keeps the blocks in which they lie. -/
namespace Go.Proofs.Ytneebnankghhgaa
open Go.RowKit Go.Shelf

attribute [local go_sem] Oper.semAt_some

/-- The blocks of which T speaks lie as they lay. -/
structure KeepT (T : Nat → Prop) (w w' : World) : Prop where
  size : w.heap.size ≤ w'.heap.size
  block : ∀ k, T k → k < w.heap.size → w'.heap[k]? = w.heap[k]?
theorem KeepT.refl (T : Nat → Prop) (w : World) : KeepT T w w := ⟨Nat.le_refl _, fun _ _ _ => rfl⟩
theorem KeepT.trans {T : Nat → Prop} {A B C : World} (h : KeepT T A B) (k : KeepT T B C) : KeepT T A C := ⟨Nat.le_trans h.size k.size, fun j hj hl => (k.block j hj (Nat.lt_of_lt_of_le hl h.size)).trans (h.block j hj hl)⟩
theorem KeepT.alloc {T : Nat → Prop} {A B : World} (h : KeepT T A B) (o : Obj) : KeepT T A (B.alloc o) := h.trans ⟨by simp, fun _ _ hl => Below.heap_alloc _ _ _ hl⟩
theorem KeepT.cell {T : Nat → Prop} {A B : World} (h : KeepT T A B) {b o : Nat} {v : Value} (hb : T b) (hc : A.cell? ⟨b, o, none⟩ = some v) : B.cell? ⟨b, o, none⟩ = some v :=
  (World.cell?_of_block (a := ⟨b, o, none⟩) (h.block b hb (World.block_lt_of_cell? _ _ hc))).trans hc
theorem KeepT.of_below {T : Nat → Prop} {n : Nat} {A B : World} (h : Below n A B) (hT : ∀ k, T k → k < n) : KeepT T A B := ⟨h.size, fun k hk _ => h.block k (hT k hk)⟩
/-- The heap lies in blocks of which T speaks. -/
structure HpT (T : Nat → Prop) (a : Option Addr) (E : List PgE) : Prop where
  outer : E ≠ [] → ∀ b off, a = some ⟨b, off, none⟩ → T b
  inner : ∀ e ∈ E, e.p ≠ [] → ∀ b off, e.a = some ⟨b, off, none⟩ → T b

theorem take_pre {α : Type} (l : List α) (n : Nat) : l.take n <+: l := List.take_prefix n l
theorem heap_pre {h : Hp} {i : Nat} (hi : i < h.length) (k : Nat) : heapL 0 (h.take i) ++ pageL i 0 (h[i].take k) <+: heapL 0 h := by
  have h1 : heapL 0 h = heapL 0 (h.take (i + 1)) ++ heapL (i + 1) (h.drop (i + 1)) := by
    conv => lhs; rw [← List.take_append_drop (i + 1) h]
    rw [heapL_append, List.length_take, Nat.min_eq_left (by omega), Nat.zero_add]
  have h2 : pageL i 0 h[i] = pageL i 0 (h[i].take k) ++ pageL i (h[i].take k).length (h[i].drop k) := by
    conv => lhs; rw [← List.take_append_drop k h[i]]
    rw [pageL_append, Nat.zero_add]
  rw [h1, heapL_take hi, h2, List.append_assoc, List.append_assoc, ← List.append_assoc]
  exact List.prefix_append _ _

set_option maxRecDepth 100000 in
set_option maxHeartbeats 4000000 in
/-- The iterator that All hands out, for every loop's body that keeps the heap's blocks. -/
theorem hpWalk_in (F : Fence) (n : Nat) (h44 : F.fn 34) (hro : F.round = none) (hn : 1 ≤ n) (l Bn c : Nat) (a : Option Addr) (E : List PgE) (T : Nat → Prop) (hT : HpT T a E) (J Jx : List At → World → Prop)
    (W : World) (hJ : AbidesFrom W.heap.size J) (hA : HpAt W a c E)
    (hY : ∀ pre x W1, J pre W1 → pre.length < (heapL 0 (hp E)).length → YieldAt F (n - 1) Try.prog l #[.agg #[.int .i64 (x.1 : Int), .int .i64 (x.2.1 : Int)], .string (txt x.2.2)] W1 fun e W' =>
      (e = .returned (.bool true) ∧ J (pre ++ [x]) W' ∧ KeepT T W1 W') ∨ (e = .returned (.bool false) ∧ Jx (pre ++ [x]) W'))
    (hBn : W.cell? ⟨Bn, 0, none⟩ = some (.slice a E.length c)) (h0 : J [] W) :
    CallsIn F n Try.prog 34 #[.func (.yield l) #[] #[], .pointer (some ⟨Bn, 0, none⟩)] W fun e W' => (∃ v, e = .returned v) ∧
      ((∃ ys, ys = heapL 0 (hp E) ∧ J ys W') ∨ (∃ pre, pre <+: heapL 0 (hp E) ∧ Jx pre W')) := by
  have hlb : E.length ≤ 5864062014805 := by have := hA.len; omega
  have A := hid0 hA
  have HT := hid0 hT
  have HJ : ∀ pre W (o : Obj), J pre W → J pre (W.alloc o) := fun pre W o hs => hJ pre W _ none hs (World.grownBy_alloc W o none) (fun r e => by cases e)
  clear hA hT
  refine callsIn_of_wp Try.func34 rfl h44 ?_ hro
  simp only [Try.ntmps34, List.size_toArray, List.length_cons, List.length_nil, Nat.reduceAdd, Nat.reduceSub, Array.replicate_succ, Array.replicate_zero, List.push_toArray, List.append_toArray, List.nil_append, List.cons_append]
  gi_wp2
  gi_loopw [10] (fun iv wr => ∃ i : Nat, i ≤ E.length ∧ iv = .int .i64 i ∧ J (heapL 0 ((hp E).take i)) wr ∧ KeepT T W wr)
    (fun iv _ => E.length - (intOf iv).toNat)
  case atStart => exact ⟨0, Nat.zero_le _, rfl, h0, KeepT.refl _ _⟩
  case round =>
    obtain ⟨i, hi, rfl, hJs, hK⟩ := hrel
    by_cases hlt : i < E.length
    · have hne : E ≠ [] := by intro e; rw [e] at hlt; exact absurd hlt (by simp)
      obtain ⟨b, o, rfl, hc⟩ := A.out.cells hne
      have q0 := hK.cell (HT.out.outer hne b o rfl) (hc i hlt)
      have hP := A.out.pages _ (List.getElem_mem hlt)
      have hTi := HT.out.inner _ (List.getElem_mem hlt)
      have hpi := hp_at hlt
      have hpl : i < (hp E).length := by rw [hp_len]; exact hlt
      have hpre := heap_pre hpl
      have hnext := heapL_take hpl
      rw [hpi] at hpre hnext
      obtain ⟨pe, hpe⟩ : ∃ pe, E[i] = pe := ⟨_, rfl⟩
      rw [hpe] at q0 hP hTi hpre hnext
      have HNX := hid0 hnext
      have HPR := hid0 hpre
      have hplen := hP.len
      clear hc hpi hpl hpre hnext hpe
      obtain ⟨pa, pc, pp⟩ := pe
      dsimp only at q0 hP hTi HNX HPR hplen
      have hJ1 := HJ _ _ (Obj.cells #[.slice pa pp.length pc] 55) hJs
      have hK1 := hK.alloc (Obj.cells #[.slice pa pp.length pc] 55)
      have hp0 := line_new1 wr (.slice pa pp.length pc) 55
      gi_wp2
      gi_loopw [18] (fun kv wq => ∃ k : Nat, k ≤ pp.length ∧ kv = .int .i64 k ∧ J (heapL 0 ((hp E).take i) ++ pageL i 0 (pp.take k)) wq ∧ KeepT T W wq)
        (fun kv _ => pp.length - (intOf kv).toNat)
      case atStart => exact ⟨0, Nat.zero_le _, rfl, by simpa [pageL] using hJ1, hK1⟩
      case round =>
        obtain ⟨k, hk, rfl, hJk, hKk⟩ := hrel
        by_cases hkl : k < pp.length
        · have hpn : pp ≠ [] := by intro e; rw [e] at hkl; exact absurd hkl (by simp)
          obtain ⟨b2, o2, rfl, hc2⟩ := hP.out hpn
          obtain ⟨r0, r1⟩ := hc2 k hkl
          have s0 := hKk.cell (hTi hpn b2 o2 rfl) r0
          have s1 := hKk.cell (hTi hpn b2 o2 rfl) r1
          have hstep := pageL_take i hkl
          have hkI : (k : Int) < (pp.length : Int) := by omega
          clear hc2 r0 r1 q0
          obtain ⟨⟨u, d⟩, hsi⟩ : ∃ s, pp[k] = s := ⟨_, rfl⟩
          rw [hsi] at s0 s1 hstep
          have hK2 := hKk.alloc (Obj.cells #[.bool u, .string (txt d)] 74)
          cases u with
          | false =>
            rw [if_neg (by simp), List.append_nil] at hstep
            have hJ2 := HJ _ _ (Obj.cells #[.bool false, .string (txt d)] 74) hJk
            rw [← hstep] at hJ2
            clear hstep hsi
            gi_wp2
            refine ⟨fun _ h => (by cases h), ?_⟩
            gi_wp2
            go_roundw
            case rel => exact ⟨k + 1, by omega, by go_num, hJ2, hK2⟩
            case measure => simp [intOf]; omega
          | true =>
            rw [if_pos rfl] at hstep
            have hfull := HPR.out (k + 1)
            rw [hstep, ← List.append_assoc] at hfull
            have hlen : (heapL 0 ((hp E).take i) ++ pageL i 0 (pp.take k)).length < (heapL 0 (hp E)).length := by
              have := hfull.length_le
              rw [List.length_append] at this
              simp only [List.length_singleton] at this
              omega
            obtain ⟨fn, tmps, assign, body, hy, hR⟩ := hY _ (i, k, d) (wr.alloc (Obj.cells #[.bool true, .string (txt d)] 74)) (HJ _ _ _ hJk) hlen
            dsimp only at hy
            have HST := hid0 hstep
            have HFU := hid0 hfull
            clear hstep hfull hsi
            gi_wp2
            refine hR.mono ?_
            rintro e W3 (⟨rfl, hJ3, hk3⟩ | ⟨rfl, hJx3⟩)
            · gi_wp2
              go_roundw
              case rel => exact ⟨k + 1, by omega, by go_num, by rw [HST.out, ← List.append_assoc]; exact hJ3, hK2.trans hk3⟩
              case measure => simp [intOf]; omega
            · gi_wp2
              refine bodyPost_ret (results_none rfl _ _ _) rfl ?_
              exact ⟨⟨_, rfl⟩, .inr ⟨_, HFU.out, hJx3⟩⟩
        · obtain rfl : k = pp.length := by omega
          rw [List.take_of_length_le (Nat.le_refl _), ← HNX.out] at hJk
          have hkI : ¬ (pp.length : Int) < (pp.length : Int) := by omega
          gi_wp2
          go_roundw
          case rel => exact ⟨i + 1, by omega, by go_num, hJk, hKk⟩
          case measure => simp [intOf]; omega
    · obtain rfl : i = E.length := by omega
      rw [List.take_of_length_le (by rw [hp_len]; exact Nat.le_refl _)] at hJs
      gi_wp2
      go_end0
      exact ⟨⟨_, rfl⟩, .inl ⟨_, rfl, hJs⟩⟩

set_option maxRecDepth 100000 in
set_option maxHeartbeats 1000000 in
/-- .. of a heap that may not be: no row. -/
theorem hpNone_in (F : Fence) (n : Nat) (h43 : F.fn 33) (hro : F.round = none) (l : Nat) (J : List At → World → Prop) (W : World) (h0 : J [] W) :
    CallsIn F n Try.prog 33 #[.func (.yield l) #[] #[]] W fun e W' => (∃ v, e = .returned v) ∧ J [] W' := by
  refine callsIn_of_wp Try.func33 rfl h43 ?_ hro
  simp only [Try.ntmps33, List.size_toArray, List.length_cons, List.length_nil, Nat.reduceAdd, Nat.reduceSub, Array.replicate_succ, Array.replicate_zero, List.push_toArray, List.append_toArray, List.nil_append, List.cons_append]
  gi_wp2
  go_end0
  exact ⟨⟨_, rfl⟩, h0⟩

/-- What All hands out: an iterator over nothing, or one over a copy of the pages, in memory of its own. -/
def AllAns (w : World) (E : List PgE) (e : Ending) (w' : World) : Prop :=
  ((rightH (hp E) = false ∧ e = .returned (.func (.func 33) #[] #[])) ∨
   (rightH (hp E) = true ∧ ∃ N a' c', e = .returned (.func (.func 34) #[] #[.pointer (some ⟨N, 0, none⟩)]) ∧ w.heap.size ≤ N ∧ w'.cell? ⟨N, 0, none⟩ = some (.slice a' E.length c') ∧ OwnH w' w.heap.size (.slice a' E.length c') E)) ∧ Below w.heap.size w w'
set_option maxHeartbeats 1000000 in
theorem hpAll_any (a : Option Addr) (c : Nat) (E : List PgE) (w : World) (h : HpAt w a c E) :
    Calls Try.prog 23 #[.agg #[.slice a E.length c]] w (AllAns w E) := by
  have hB0 : Below w.heap.size w (w.alloc (Obj.cells #[.slice a E.length c] 25)) := (Below.refl _ _).alloc (Nat.le_refl _) _
  have C := hpRight_any a c E _ (h.alloc (Obj.cells #[.slice a E.length c] 25))
  have v0 := VarAt.new w (.slice a E.length c) 25
  have A := hid0 h
  unfold AllAns
  obtain ⟨q0, f0⟩ := v0
  cases hr : rightH (hp E) with
  | false =>
    rw [hr] at C
    clear hr h
    go_enter Try.func23, Try.ntmps23
    go_wp2_with fail
    refine C.mono ?_
    rintro e w1 ⟨rfl, hb⟩
    go_wp2_with fail
    go_ret
    exact ⟨.inl ⟨by trivial, rfl⟩, below_through hb hB0.size hB0⟩
  | true =>
    rw [hr] at C
    clear hr h
    go_enter Try.func23, Try.ntmps23
    go_wp2_with fail
    refine C.mono ?_
    rintro e w1 ⟨rfl, hb⟩
    obtain ⟨q1, f1⟩ := (VarAt.mk q0 f0).later hb
    have hB1 := below_through hb hB0.size hB0
    have C26 := hpCopied_any a c E w1 (A.out.later hB1).cellsH A.out.len
    go_wp2_with fail
    refine C26.mono ?_
    rintro e w2 ⟨⟨v, rfl, hown⟩, hb2⟩
    obtain ⟨a', c', rfl, hcap, -, -⟩ := pgs_owned hown
    have hB2 := below_through hb2 hB1.size hB1
    have hB3 := hB2.alloc hB2.size (Obj.cells #[.slice a' E.length c'] 25)
    have hO3 := (hown.alloc (Obj.cells #[.slice a' E.length c'] 25)).base hB1.size
    have hN := (VarAt.new w2 (.slice a' E.length c') 25).cell
    go_wp2_with fail
    go_ret
    exact ⟨.inr ⟨by trivial, w2.heap.size, a', c', rfl, hB2.size, hN, hO3⟩, hB3⟩
end Go.Proofs.Ytneebnankghhgaa
namespace Go.Proofs.Ytneebnankghhgaa
open Go.RowKit Go.Shelf

attribute [local go_sem] Oper.semAt_some

theorem hpAll_stops {w00 w w1 : World} {a : Option Addr} {c : Nat} {E : List PgE} {e : Ending} (A : HpAt w00 a c E) (hB : Below w00.heap.size w00 w1) (hw : w00.heap.size ≤ w.heap.size) (h : AllAns w E e w1) :
    ∃ gf lb, e = .returned (.func (.func gf) #[] lb) ∧ (∀ args W, (callFunc gf args).run Try.prog W = .ok (.enter gf args) W) ∧
      ∀ (T : Nat → Prop) (_ : ∀ k, k < w1.heap.size → (k < w00.heap.size ∨ w.heap.size ≤ k) → T k) (F : Fence) (n : Nat) (_ : ∀ f, F.fn f) (_ : F.round = none) (_ : 1 ≤ n),
        SeqStopsK F n Try.prog gf lb (fun x : At => #[.agg #[.int .i64 (x.1 : Int), .int .i64 (x.2.1 : Int)], .string (txt x.2.2)]) (KeepT T) (fun ys => ys = listH (hp E)) (fun pre => pre <+: listH (hp E)) (listH (hp E)).length w1 := by
  obtain ⟨h, hb⟩ := h
  rcases h with ⟨hr, rfl⟩ | ⟨hr, N, a', c', rfl, hN, hc, hO⟩
  · have hl : listH (hp E) = [] := by unfold listH; rw [hr]; rfl
    refine ⟨_, _, rfl, enters_of Try.func33 (by kernel_rfl) rfl, fun T hT F n hF hro hn l J Jx W hW hJ hJx hY h0 => ?_⟩
    rw [hl]
    exact (hpNone_in F n (hF _) hro l J W h0).mono fun e W' ⟨he, hj⟩ => ⟨he, .inl ⟨_, rfl, hj⟩⟩
  · have hl : listH (hp E) = heapL 0 (hp E) := by unfold listH; rw [hr]; rfl
    refine ⟨_, _, rfl, enters_of Try.func34 (by kernel_rfl) rfl, fun T hT F n hF hro hn l J Jx W hW hJ hJx hY h0 => ?_⟩
    rw [hl] at hY ⊢
    have hNl : N < w1.heap.size := World.block_lt_of_cell? _ _ hc
    obtain ⟨hA', _⟩ := (hO.kept hW).heap A (hB.trans (hW.mono hB.size)) hw
    refine hpWalk_in F n (hF _) hro hn l N c' a' E T ⟨fun hne b off e => ?_, fun x hx hne b off e => ?_⟩ J Jx W hJ hA' hY ((hW.cell (p := ⟨N, 0, none⟩) hNl).trans hc) h0
    · obtain ⟨b', off', e', hcs⟩ := hO.slots hne
      rw [e] at e'
      obtain ⟨rfl, rfl⟩ : b = b' ∧ off = off' := by simpa using e'
      have h0' : 0 < E.length := by
        rcases Nat.eq_zero_or_pos E.length with h | h
        · exact absurd (List.length_eq_zero_iff.1 h) hne
        · exact h
      exact hT b (World.block_lt_of_cell? _ _ (hcs 0 h0')) (.inr (hO.place b off e))
    · obtain ⟨b', off', e', hcs⟩ := (A.pages x hx).out hne
      rw [e] at e'
      obtain ⟨rfl, rfl⟩ : b = b' ∧ off = off' := by simpa using e'
      have h0' : 0 < x.p.length := by
        rcases Nat.eq_zero_or_pos x.p.length with h | h
        · exact absurd (List.length_eq_zero_iff.1 h) hne
        · exact h
      have hlt : b < w00.heap.size := World.block_lt_of_cell? _ _ (hcs 0 h0').1
      exact hT b (by have := hB.size; omega) (.inl hlt)

/-! ### Two rows that grow side by side -/
def idCells (L : List At) : List Value := L.flatMap fun t => [.int .i64 (t.1 : Int), .int .i64 (t.2.1 : Int)]
def strCells (L : List At) : List Value := L.map fun t => .string (txt t.2.2)
theorem idCells_snoc (L : List At) (t : At) : idCells (L ++ [t]) = idCells L ++ [.int .i64 (t.1 : Int), .int .i64 (t.2.1 : Int)] := by simp [idCells]
theorem strCells_snoc (L : List At) (t : At) : strCells (L ++ [t]) = strCells L ++ [.string (txt t.2.2)] := by simp [strCells]
theorem infoId : (Try.prog.info? 29).map (fun i => (i.zero, i.size, i.bytes)) = some (some (.agg #[.int .i64 0, .int .i64 0]), 2, 16) := by kernel_rfl
theorem infoStr : (Try.prog.info? 9).map (fun i => (i.zero, i.size, i.bytes)) = some (some (.string ⟨#[]⟩), 1, 16) := by kernel_rfl
/-- A variable of two ints, its block whole. -/
def Box2 (W : World) (B : Nat) (x y : Int) : Prop := W.heap[B]? = some (.cells #[.int .i64 x, .int .i64 y] 29 (0, 0))
theorem Box2.lt {W : World} {B : Nat} {x y : Int} (h : Box2 W B x y) : B < W.heap.size := (Array.getElem?_eq_some_iff.1 h).1
theorem Box2.c0 {W : World} {B : Nat} {x y : Int} (h : Box2 W B x y) : W.cell? ⟨B, 0, none⟩ = some (.int .i64 x) := by simp [World.cell?, show W.heap[B]? = _ from h]
theorem Box2.c1 {W : World} {B : Nat} {x y : Int} (h : Box2 W B x y) : W.cell? ⟨B, 1, none⟩ = some (.int .i64 y) := by simp [World.cell?, show W.heap[B]? = _ from h]
theorem Box2.new (W : World) (x y : Int) : Box2 (W.alloc (.cells #[.int .i64 x, .int .i64 y] 29)) W.heap.size x y := World.alloc_heap_new W _
theorem row_apart {W : World} {n n' : Nat} {e e' : TypeId} {s s' k k' : Nat} {v v' : Value} {xs ys : List Value} (h : W.ownsRow n e s v k xs) (h' : W.ownsRow n' e' s' v' k' ys) (hne : e ≠ e') : v.ownBlock = none ∨ v.ownBlock ≠ v'.ownBlock := by
  rcases h.2 with ⟨rfl, _⟩ | ⟨g, cap, cur, rfl, _, hg, _⟩
  · exact .inl rfl
  · right
    rcases h'.2 with ⟨rfl, _⟩ | ⟨g', cap', cur', rfl, _, hg', _⟩
    · simp [Value.ownBlock]
    · intro e
      obtain rfl : g = g' := by simpa [Value.ownBlock] using e
      rw [hg] at hg'
      simp at hg'
      exact hne hg'.2
/-- 'out = append(out, ..)' where another variable holds another row: all that the walk owes. -/
theorem appended_two {W w1 : World} {n0 n1 B B' : Nat} {t t' e e' : TypeId} {size size' : Nat} {v v' u : Value} {k m k' : Nat} {xs ys zs : List Value} {tmp : Obj} {T : Nat → Prop}
    (hv : Boxed W B t v) (hte : t ≠ e) (hrow : W.ownsRow n1 e size v k xs) (hn : n1 ≤ W.heap.size) (h01 : n0 ≤ n1) (hB : n0 ≤ B) (hT : ∀ j, T j → j < n1 ∧ j ≠ B)
    (hu : Boxed W B' t' u) (ht' : t' ≠ e) (hBB : B' ≠ B) (hrow' : W.ownsRow n1 e' size' u k' zs) (hee : e' ≠ e) (hte' : t ≠ e')
    (hown' : w1.ownsRow n1 e size v' m ys) (hgrow : (W.alloc tmp).grownBy w1 v.ownBlock) :
    Boxed w1 B t v ∧ Boxed (w1.setCell ⟨B, 0, none⟩ v') B t v' ∧ (w1.setCell ⟨B, 0, none⟩ v').ownsRow n1 e size v' m ys ∧
      Boxed (w1.setCell ⟨B, 0, none⟩ v') B' t' u ∧ (w1.setCell ⟨B, 0, none⟩ v').ownsRow n1 e' size' u k' zs ∧
      KeepsOthers W (w1.setCell ⟨B, 0, none⟩ v') ∧ Below n0 W (w1.setCell ⟨B, 0, none⟩ v') ∧ KeepT T W (w1.setCell ⟨B, 0, none⟩ v') := by
  have hv1 : Boxed w1 B t v := (hv.alloc tmp).kept hgrow (hv.not_row hte hrow)
  have hu1 : Boxed w1 B' t' u := (hu.alloc tmp).kept hgrow ((hu.alloc tmp).not_row ht' (hrow.alloc tmp))
  have hr1 : w1.ownsRow n1 e' size' u k' zs := (hrow'.alloc tmp).kept hgrow (row_apart (hrow'.alloc tmp) (hrow.alloc tmp) hee)
  have hrowT := hrow.alloc tmp
  have hblk : ∀ j, some j = v.ownBlock → n1 ≤ j := fun j ej => by
    rcases hrow.2 with ⟨rfl, _⟩ | ⟨g, cap, cur, rfl, hb, _, _⟩
    · simp [Value.ownBlock] at ej
    · obtain rfl : j = g := by simpa [Value.ownBlock] using ej
      exact hb
  refine ⟨hv1, hv1.set v', hown'.kept (grownBy_setCell' w1 B v') (.inr (hv1.not_row hte hown').symm), hu1.other hBB v', hr1.kept (grownBy_setCell' w1 B v') (.inr (hv1.not_row hte' hr1).symm), ?_, ?_, ?_, ?_⟩
  · refine ((KeepsOthers.alloc W tmp).trans (KeepsOthers.of_grownBy hgrow fun j o ej hj => ?_)).trans (KeepsOthers.setCell _ _ _)
    rcases hrowT.2 with ⟨rfl, _⟩ | ⟨g, cap, cur, rfl, _, hgb, _⟩
    · simp [Value.ownBlock] at ej
    · obtain rfl : g = j := by simpa [Value.ownBlock] using ej
      rw [hgb] at hj; cases hj; rfl
  · exact (((Below.refl n0 W).alloc (by omega) tmp).grown hgrow (by simp; omega) fun j ej => by have := hblk j ej.symm; omega).setCell (p := ⟨B, 0, none⟩) hB v'
  · have h1 := hgrow.size
    simp at h1
    rw [World.size_setCell]; omega
  · intro j hj hl
    obtain ⟨h1, h2⟩ := hT j hj
    rw [Below.heap_setCell _ _ _ _ (by exact h2), hgrow.block j (by simp; omega) (fun ej => by have := hblk j ej; omega), Below.heap_alloc _ _ _ hl]
end Go.Proofs.Ytneebnankghhgaa
namespace Go.Proofs.Ytneebnankghhgaa
open Go.RowKit Go.Shelf

attribute [local go_sem] Oper.semAt_some

theorem pageL_len (i : Nat) : ∀ (k : Nat) (p : Pg), (pageL i k p).length ≤ p.length
  | k, [] => Nat.le_refl _
  | k, s :: p => by
    have := pageL_len i (k + 1) p
    unfold pageL
    split <;> simp <;> omega
theorem heapL_len : ∀ (i : Nat) (h : Hp), (∀ p ∈ h, p.length ≤ 256) → (heapL i h).length ≤ h.length * 256
  | i, [], _ => Nat.le_refl _
  | i, p :: h, hp => by
    have h1 := heapL_len (i + 1) h (fun q hq => hp q (by simp [hq]))
    have h2 := pageL_len i 0 p
    have h3 := hp p (by simp)
    rw [heapL, List.length_append, List.length_cons]
    omega
theorem listH_len (h : Hp) : (listH h).length ≤ 1048576 := by
  unfold listH
  split
  · rename_i hr
    have hR := (rightH_iff h).1 hr
    have h1 := heapL_len 0 h (fun p hp => (hR.pages p hp).len)
    have := hR.len
    omega
  · simp
theorem KeepT.put {T : Nat → Prop} {W : World} {l : Nat} {o' : Obj} (hT : ¬ T l) : KeepT T W (W.putObj l o') :=
  ⟨(grownBy_putObj' W l o').size, fun k hk hl => (grownBy_putObj' W l o').block k hl (fun e => by cases e; exact hT hk)⟩
theorem row_base {w : World} {base base' : Nat} {e : TypeId} {s k : Nat} {v : Value} {xs : List Value} (h : w.ownsRow base e s v k xs) (hb : base' ≤ base) : w.ownsRow base' e s v k xs := by
  refine ⟨h.1, ?_⟩
  rcases h.2 with h | ⟨g, cap, cur, h1, h2, h3⟩
  · exact .inl h
  · exact .inr ⟨g, cap, cur, h1, by omega, h3⟩
theorem cell_two_new (w : World) (x y : Int) (t : TypeId) : ∀ j u, [Value.int .i64 x, .int .i64 y][j]? = some u → (w.alloc (.cells #[.int .i64 x, .int .i64 y] t)).cell? ((⟨w.heap.size, 0, none⟩ : Addr).add j) = some u := by
  intro j u hj
  match j, hj with
  | 0, hj => simp at hj; subst hj; rw [WideShapes.add_plain]; go_cell
  | 1, hj => simp at hj; subst hj; rw [WideShapes.add_plain]; go_cell
  | j + 2, hj => simp at hj

set_option maxRecDepth 100000 in
set_option maxHeartbeats 8000000 in
theorem hpList_any (a : Option Addr) (c : Nat) (E : List PgE) (w : World) (h : HpAt w a c E) :
    Calls Try.prog 11 #[.agg #[.slice a E.length c]] w fun e w' => ∃ v1 v2, e = .returned (.tuple #[v1, v2]) ∧ w'.ownsRow w.heap.size 29 2 v1 (listH (hp E)).length (idCells (listH (hp E))) ∧ w'.ownsRow w.heap.size 9 1 v2 (listH (hp E)).length (strCells (listH (hp E))) ∧ Below w.heap.size w w' := by
  have A := hid0 h
  have hll := listH_len (hp E)
  obtain ⟨i0, hi, hz0, hz1, hz2⟩ := info_parts infoId
  obtain ⟨j0, hj, hy0, hy1, hy2⟩ := info_parts infoStr
  have b0 := ((Boxed.new w 25 (.slice a E.length c)).alloc (.cells #[.slice none 0 0] 44)).alloc (.cells #[.slice none 0 0] 45)
  have b4 := (Boxed.new (w.alloc (.cells #[.slice a E.length c] 25)) 44 (.slice none 0 0)).alloc (.cells #[.slice none 0 0] 45)
  have b5 := Boxed.new ((w.alloc (.cells #[.slice a E.length c] 25)).alloc (.cells #[.slice none 0 0] 44)) 45 (.slice none 0 0)
  simp only [World.size_alloc] at b4 b5
  have hB0 : Below w.heap.size w (((w.alloc (.cells #[.slice a E.length c] 25)).alloc (.cells #[.slice none 0 0] 44)).alloc (.cells #[.slice none 0 0] 45)) := (((Below.refl _ w).alloc (Nat.le_refl _) _).alloc (by simp) _).alloc (by simp; omega) _
  have hsz : (((w.alloc (.cells #[.slice a E.length c] 25)).alloc (.cells #[.slice none 0 0] 44)).alloc (.cells #[.slice none 0 0] 45)).heap.size = w.heap.size + 3 := by simp
  have CA := hpAll_any a c E _ (h.later hB0)
  have q0 := b0.cell
  refine (callsIn_wide (n := 3)).1 ?_
  refine callsIn_of_wp_marks Try.func11 rfl trivial ?_ rfl
  simp only [Try.ntmps11, List.size_toArray, List.length_cons, List.length_nil, Nat.reduceAdd, Nat.reduceSub, Array.replicate_succ, Array.replicate_zero, List.push_toArray, List.append_toArray, List.nil_append, List.cons_append]
  clear h
  gi_wp2_with fail
  refine ⟨trivial, (callsIn_wide.2 CA).mono ?_⟩
  rintro e w1 hAns
  have hb := hAns.2
  have hs1 := hb.size
  rw [hsz] at hs1
  have hB1 := hB0.trans (hb.mono hB0.size)
  obtain ⟨gf, lb, rfl, eg, hst⟩ := hpAll_stops A.out hB1 (by rw [hsz]; omega) hAns
  have p4 : Boxed w1 (w.heap.size + 1) 44 (.slice none 0 0) := (hb.block _ b4.lt).trans b4
  have p5 : Boxed w1 (w.heap.size + 1 + 1) 45 (.slice none 0 0) := (hb.block _ b5.lt).trans b5
  have hstT := hst (fun k => k < w1.heap.size ∧ k ≠ w.heap.size + 1 ∧ k ≠ w.heap.size + 1 + 1) (fun k h1 h2 => ⟨h1, by rw [hsz] at h2; omega, by rw [hsz] at h2; omega⟩) Fence.wide 2 (fun _ => trivial) rfl (by omega)
  clear hst hAns hb b0 b4 b5 hB0 hsz CA q0
  gi_wp2_with fail
  refine wpIn_rangeFunc_ownH rfl (by omega) (gf := gf) (lb := lb) rfl trivial eg hstT (fun h k => h.trans k) (fun W l o o' h1 _ _ _ => KeepT.put (fun hk => by have := hk.1; omega)) (Below.refl _ _) (fun _ => rfl)
    (fun pre W => ((∃ v, Boxed W (w.heap.size + 1) 44 v ∧ W.ownsRow w1.heap.size 29 2 v pre.length (idCells pre) ∧ True) ∧ (∃ v, Boxed W (w.heap.size + 1 + 1) 45 v ∧ W.ownsRow w1.heap.size 9 1 v pre.length (strCells pre) ∧ True)) ∧ (Below w.heap.size w W ∧ w1.heap.size ≤ W.heap.size))
    (fun _ _ _ => False)
    (OwnFrom.and (OwnFrom.and (Own.from (holdsRow_own w1.heap.size (w.heap.size + 1) 44 29 2 List.length idCells (fun _ _ => True)) _) (Own.from (holdsRow_own w1.heap.size (w.heap.size + 1 + 1) 45 9 1 List.length strCells (fun _ _ => True)) _)) (OwnFrom.and (ownFrom_below (Nat.le_refl _) hB1.size) (fun _ _ _ _ hs hg _ => Nat.le_trans hs hg.size)))
    (fun _ _ _ _ _ hs _ _ => hs)
    ⟨⟨⟨_, p4, World.ownsRow_nil _ _ _ _, trivial⟩, ⟨_, p5, World.ownsRow_nil _ _ _ _, trivial⟩⟩, hB1, Nat.le_refl _⟩
    (fun x a' W => ∃ Bx, w1.heap.size ≤ Bx ∧ Box2 W Bx (x.1 : Int) (x.2.1 : Int) ∧ a' = { tmps := #[.agg #[.slice a E.length c], .pointer (some ⟨w.heap.size, 0, none⟩), .slice none 0 0, .slice none 0 0, .pointer (some ⟨w.heap.size + 1, 0, none⟩), .pointer (some ⟨w.heap.size + 1 + 1, 0, none⟩), .pointer (some ⟨Bx, 0, none⟩), .string (txt x.2.2), .agg #[.slice a E.length c], .func (.func gf) #[] lb, .agg #[.int .i64 (x.1 : Int), .int .i64 (x.2.1 : Int)], .string (txt x.2.2), undef, undef, undef, undef, undef, undef, undef, undef, undef, undef], defers := [] })
    (fun x a' _ X Y row hs hg hr => by
      obtain ⟨Bx, h1, h2, h3⟩ := hs
      exact ⟨Bx, h1, (hg.block Bx h2.lt (fun e => by obtain ⟨_, o, ho, hc⟩ := hr Bx e.symm; rw [h2] at ho; cases ho; cases hc)).trans h2, h3⟩)
    ?assign ?body ?done ?stop
  case assign =>
    rintro l pre x W K ⟨⟨⟨v1, p1, r1, -⟩, ⟨v2, p2, r2, -⟩⟩, hB, hs⟩ hK
    gi_wp2
    exact hK _ _ ((KeepsOthers.alloc _ _).from _) ((KeepT.refl _ _).alloc _) ⟨⟨⟨v1, p1.alloc _, r1.alloc _, trivial⟩, ⟨v2, p2.alloc _, r2.alloc _, trivial⟩⟩, hB.alloc hB.size _, by rw [World.size_alloc]; omega⟩ ⟨W.heap.size, hs, Box2.new W _ _, rfl⟩
  case body =>
    rintro l pre x a' W hl ⟨r, hr⟩ ⟨⟨⟨v1, p1, r1, -⟩, ⟨v2, p2, r2, -⟩⟩, hB, hs⟩ ⟨Bx, hBx, hX, rfl⟩ hlt
    have c1 := p1.cell
    have cx0 := hX.c0
    have cx1 := hX.c1
    have hW2 : ∀ (w2 : World) (u : Value), (w2.setCell ⟨w.heap.size + 1, 0, none⟩ u).heap.size = w2.heap.size := fun _ _ => World.size_setCell _ _ _
    gi_wp2_with (first
      | (gi_at_builtin; refine wpListIn_append_own _ rfl _ _ 44 rfl w1.heap.size 29 i0 (.agg #[.int .i64 0, .int .i64 0]) 2 16 Try.underlying44 hi hz0 hz1 hz2 rfl (by decide) _ _ _ rfl (r1.alloc _) ⟨W.heap.size, 0, none⟩ 1 1 [.int .i64 (x.1 : Int), .int .i64 (x.2.1 : Int)] rfl rfl (cell_two_new _ _ _ _) (by simp [Value.oneCell']) (by unfold maxLen; omega) (by omega) (by rw [World.size_alloc]; omega) ?_; intro v1' w2 hown1 hgrow1 _; obtain ⟨g1, cap1, rfl⟩ := ownsRow_succ hown1; obtain ⟨A1, A2, A3, A4, A5, A6, A7, A8⟩ := appended_two (n0 := w.heap.size) (T := fun k => k < w1.heap.size ∧ k ≠ w.heap.size + 1 ∧ k ≠ w.heap.size + 1 + 1) p1 (by decide) r1 hs (by omega) (by omega) (fun j hj => ⟨hj.1, hj.2.1⟩) p2 (by decide) (by omega) r2 (by decide) (by decide) hown1 hgrow1; have hc1 := A1.cell; have hf1 := A1.frozen; have hc2 := A4.cell; have hsA := A8.size; rw [hW2] at hsA)
      | (gi_at_builtin; refine wpListIn_append_own _ rfl _ _ 45 rfl w1.heap.size 9 j0 (.string ⟨#[]⟩) 1 16 Try.underlying45 hj hy0 hy1 hy2 rfl (by decide) _ _ _ rfl (A5.alloc _) ⟨w2.heap.size, 0, none⟩ 1 1 [.string (txt x.2.2)] rfl rfl (by have h1 := cell_one_new (w2.setCell ⟨w.heap.size + 1, 0, none⟩ (.slice (some ⟨g1, 0, none⟩) (pre.length + 1) cap1)) (.string (txt x.2.2)) 9; rw [hW2] at h1; exact h1) (by simp [Value.oneCell']) (by unfold maxLen; omega) (by omega) (by rw [World.size_alloc, hW2]; omega) ?_; intro v2' w3 hown2 hgrow2 _; obtain ⟨g2, cap2, rfl⟩ := ownsRow_succ hown2; obtain ⟨D1, D2, D3, D4, D5, D6, D7, D8⟩ := appended_two (n0 := w.heap.size) (T := fun k => k < w1.heap.size ∧ k ≠ w.heap.size + 1 ∧ k ≠ w.heap.size + 1 + 1) A4 (by decide) A5 (by rw [hW2]; omega) (by omega) (by omega) (fun j hj => ⟨hj.1, hj.2.2⟩) A2 (by decide) (by omega) A3 (by decide) (by decide) hown2 hgrow2; have hd1 := D1.cell; have hf2 := D1.frozen))
    exact ⟨(A6.trans D6).from _, A8.trans D8, ⟨⟨_, D4, by rw [List.length_append, idCells_snoc]; exact D5, trivial⟩, ⟨_, D2, by rw [List.length_append, strCells_snoc]; exact D3, trivial⟩⟩, (hB.trans A7).trans D7, Nat.le_trans hs (A8.trans D8).size⟩
  case done =>
    rintro D ys W hD rfl ⟨⟨⟨v1, p1, r1, -⟩, ⟨v2, p2, r2, -⟩⟩, hB, hs⟩ hK
    have c1 := p1.cell
    have c2 := p2.cell
    gi_wp2_with fail
    gi_region
    gi_wp2
    have hK' : W.drew.heap[D]? = some (.deferred (some [])) := hK
    refine ⟨by simp, .inl ⟨_, _, rfl, run_takeDeferred hK', ?_⟩⟩
    exact ⟨.tuple #[v1, v2], by simp [results, Try.results11, go_sem], v1, v2, rfl, row_base (ownsRow_putObj (W := W.drew) r1 _ hK' rfl) hB1.size, row_base (ownsRow_putObj (W := W.drew) r2 _ hK' rfl) hB1.size, (Below.drew hB).trans ((Below.refl w.heap.size W.drew).grown (grownBy_putObj' W.drew D (.deferred none)) (by have := hB.size; exact this) (fun k e => by cases e; have := hB1.size; omega))⟩
  case stop =>
    rintro D c pre W _ _ h _
    exact h.elim
end Go.Proofs.Ytneebnankghhgaa
