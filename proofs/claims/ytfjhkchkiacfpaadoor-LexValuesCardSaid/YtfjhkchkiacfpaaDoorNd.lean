/- The project's lexer: a text, a sign: contracts of the calls, in whatever memory. Conditions: the row of bytes isn't empty. -/
import Derived.Test.YtfjhkchkiacfpaaDoorNc
namespace Go.Proofs.YtfjhkchkiacfpaaDoor
open Go.RowKit

theorem cell_new8 (w : World) (v : Value) (t : TypeId) : (w.alloc (Obj.cells #[v] t)).cell? ⟨w.heap.size, 0, none⟩ = some v := by go_cell
def txW (r : List UInt8) : Wd × Nat := match txR r with | none => (noW, 0) | some x => (⟨3, x.1, 0, 0⟩, x.2 + 1)
theorem txR_plain {c : UInt8} (h : c ≠ 39) : ∀ r, txR (c :: r) = (txR r).map (fun x => (c :: x.1, x.2 + 1))
  | [] => by simp [txR, h]
  | d :: r => by simp [txR, h]
theorem txR_two (r : List UInt8) : txR (39 :: 39 :: r) = (txR r).map (fun x => (39 :: x.1, x.2 + 2)) := by simp [txR]
theorem txR_end {r : List UInt8} (h : ∀ d, r.head? = some d → d ≠ 39) : txR (39 :: r) = some ([], 1) := by
  cases r with
  | nil => simp [txR]
  | cons d r => simp [txR, h d rfl]
/-- How far a text has been read: j bytes, which are t. -/
structure TxTo (r : List UInt8) (j : Nat) (t : List UInt8) : Prop where
  eq : txR r = (txR (r.drop j)).map (fun x => (t ++ x.1, j + x.2))
  len : t.length ≤ j
theorem TxTo.start (r : List UInt8) : TxTo r 0 [] := ⟨by simp, Nat.le_refl _⟩
theorem TxTo.plain {r : List UInt8} {j : Nat} {t : List UInt8} (h : TxTo r j t) (hj : j < r.length) (hc : r[j] ≠ 39) : TxTo r (j + 1) (t ++ [r[j]]) := by
  refine ⟨?_, by have := h.len; simp; omega⟩
  rw [h.eq, List.drop_eq_getElem_cons hj, txR_plain hc, Option.map_map]
  congr 1
  funext x
  simp [Nat.add_comm, Nat.add_left_comm]
theorem TxTo.two {r : List UInt8} {j : Nat} {t : List UInt8} (h : TxTo r j t) (hj : j + 1 < r.length) (hc : r[j] = 39) (hd : r[j + 1] = 39) : TxTo r (j + 2) (t ++ [39]) := by
  refine ⟨?_, by have := h.len; simp; omega⟩
  rw [h.eq, List.drop_eq_getElem_cons (show j < r.length by omega), List.drop_eq_getElem_cons hj, hc, hd, txR_two, Option.map_map]
  congr 1
  funext x
  simp [Nat.add_comm, Nat.add_left_comm]
theorem TxTo.done {r : List UInt8} {j : Nat} {t : List UInt8} (h : TxTo r j t) (hj : j < r.length) (hc : r[j] = 39) (hd : ∀ h : j + 1 < r.length, r[j + 1] ≠ 39) : txW r = (⟨3, t, 0, 0⟩, j + 2) := by
  have e : txR r = some (t, j + 1) := by
    rw [h.eq, List.drop_eq_getElem_cons hj, hc, txR_end]
    · simp
    · intro d hd'
      rcases Nat.lt_or_ge (j + 1) r.length with g | g
      · rw [List.drop_eq_getElem_cons g] at hd'
        rw [← Option.some.inj hd']; exact hd g
      · rw [List.drop_eq_nil_of_le g] at hd'; cases hd'
  unfold txW
  rw [e]
theorem TxTo.none {r : List UInt8} {j : Nat} {t : List UInt8} (h : TxTo r j t) (hj : r.length ≤ j) : txW r = (noW, 0) := by
  have e : txR r = Option.none := by
    rw [h.eq, List.drop_eq_nil_of_le hj]; rfl
  unfold txW
  rw [e]

set_option maxHeartbeats 2000000 in
theorem lxText_any (q : UInt8) (r : List UInt8) (w : World) (hl : r.length ≤ 2048) :
    Calls Tryd.prog 26 #[.string (txt (q :: r))] w fun e w' => e = .returned (.tuple #[wdV (txW r).1, .int .i64 ((txW r).2 : Nat)]) ∧ Below w.heap.size w w' := by
  have hsz : (txt (q :: r)).size = r.length + 1 := by rw [txt_size]; rfl
  have HB0 := hid0 ((Below.refl w.heap.size w).alloc (Nat.le_refl _) noCells)
  have HN := hid0 (NoAt.new w)
  go_enter Tryd.func26, Tryd.ntmps26
  go_wp2
  go_loopw [4, 5] (fun bv i wr => ∃ (j : Nat) (t : List UInt8), j ≤ r.length ∧ i = .int .i64 ((j : Int) + 1) ∧ Buf wr (w.heap.size + 1) bv t ∧ Kept (w.heap.size + 1) (w.alloc noCells) wr ∧ Hid (TxTo r j t)) (fun _ i _ => r.length + 1 - (intOf i).toNat)
  case atStart => exact ⟨0, [], Nat.zero_le _, rfl, Buf.nil _ _, Kept.refl _ _, hid0 (TxTo.start r)⟩
  case round =>
    obtain ⟨j, t, hj, rfl, hBuf, hK, hT⟩ := hrel
    have hbs : w.heap.size + 1 ≤ wr.heap.size := by have := hK.below.size; simpa using this
    have hNo : NoAt wr w.heap.size := HN.out.later (by have := hK.below; simpa using this)
    have hBw : Below w.heap.size w wr := HB0.out.trans (hK.below.mono (Nat.le_succ _))
    obtain ⟨r0, r1, r2, r3, rf⟩ := hNo
    have rf0 := rf 0
    have hlen := hT.out.len
    by_cases hlt : j < r.length
    · have hji : (j : Int) < (r.length : Int) := by omega
      have hw1 : IntKind.i64.wrap ((j : Int) + 1) = (j : Int) + 1 := IntWalk.i64_in _ (by omega)
      have hw2 : IntKind.i64.wrap ((j : Int) + 1 + 1) = (j : Int) + 1 + 1 := IntWalk.i64_in _ (by omega)
      have g1 : ∀ h, (txt (q :: r))[j + 1]'h = r[j] := fun h => txt_get (q :: r) (j + 1) h (by simp; omega)
      by_cases hc : r[j] = 39
      · have g2 : ∀ h, (txt (q :: r))[j + 1]'h = 39 := fun h => (g1 h).trans hc
        clear g1
        by_cases hd : ∃ h : j + 1 < r.length, r[j + 1] = 39
        · obtain ⟨hlt2, hd⟩ := hd
          have hj2 : ¬ (j : Int) + 1 = (r.length : Int) := by omega
          have hj3 : ¬ (j : Int) + 1 + 1 = (r.length : Int) + 1 := by omega
          have hj4 : (j : Int) + 1 + 1 < (r.length : Int) + 1 := by omega
          have g3 : ∀ h, (txt (q :: r))[j + 2]'h = 39 := fun h => (txt_get (q :: r) (j + 2) h (by simp; omega)).trans hd
          have HT := hid0 (hT.out.two hlt2 hc hd)
          have hBa := fun o => hBuf.alloc o
          have hnt : ((j : Int) + 1 + 1).toNat = j + 2 := by omega
          go_wp2_with (at_builtin; refine wp_put1 rfl _ _ rfl rfl (hBa _) wr.heap.size rfl 39 (cell_new8 _ _ _) ?hn ?hl ?hb ?_)
          case hn => first | rfl | simp
          case hl => omega
          case hb => simp; omega
          intro v1 w1 hB2 hK1
          have hk1 := hK.trans ((Kept.alloc hbs _).trans hK1)
          clear hK1
          go_wp2
          exact ⟨⟨j + 2, t ++ [39], by omega, by go_num, hB2, hk1, HT⟩, by simp [intOf]; omega⟩
        · have HD := hid0 (hT.out.done hlt hc (fun h e => hd ⟨h, e⟩))
          have conv1 := hBuf.conv
          rcases Nat.lt_or_ge (j + 1) r.length with hlt2 | hge2
          · have hj2 : ¬ (j : Int) + 1 = (r.length : Int) := by omega
            have hj3 : ¬ (j : Int) + 1 + 1 = (r.length : Int) + 1 := by omega
            have hj4 : (j : Int) + 1 + 1 < (r.length : Int) + 1 := by omega
            have g3 : ∀ h, (txt (q :: r))[j + 2]'h = r[j + 1] := fun h => txt_get (q :: r) (j + 2) h (by simp; omega)
            have hd' : ¬ ((r[j + 1]).toNat : Int) = 39 := fun e => hd ⟨hlt2, UInt8.toNat_inj.1 (show (r[j + 1]).toNat = 39 by omega)⟩
            have hnt : ((j : Int) + 1 + 1).toNat = j + 2 := by omega
            have hb1 : (((r[j + 1]).toNat : Int) != 39) = true := by simpa using hd'
            have hb2 : ((j : Int) + 1 + 1 == (r.length : Int) + 1) = false := by rw [beq_eq_false_iff_ne]; omega
            clear hd hj2 hj3 hd'
            go_wp2
            refine bodyPost_ret (v := .tuple #[wdV ⟨3, t, 0, 0⟩, .int .i64 ((j : Int) + 1 + 1)]) (by simp [results, Tryd.results26, go_sem, wdV, r0, r1, r2, r3]; done) rfl ⟨?_, (((hBw.setCell (Nat.le_refl _) _).setCell (Nat.le_refl _) _).setCell (Nat.le_refl _) _).setCell (Nat.le_refl _) _⟩
            rw [HD.out]
            exact congrArg (fun x => Ending.returned (.tuple #[wdV ⟨3, t, 0, 0⟩, .int .i64 x])) (by show (j : Int) + 1 + 1 = ((j + 2 : Nat) : Int); omega)
          · have hb2 : ((j : Int) + 1 + 1 == (r.length : Int) + 1) = true := by rw [beq_iff_eq]; omega
            clear hd
            go_wp2
            refine bodyPost_ret (v := .tuple #[wdV ⟨3, t, 0, 0⟩, .int .i64 ((j : Int) + 1 + 1)]) (by simp [results, Tryd.results26, go_sem, wdV, r0, r1, r2, r3]; done) rfl ⟨?_, (((hBw.setCell (Nat.le_refl _) _).setCell (Nat.le_refl _) _).setCell (Nat.le_refl _) _).setCell (Nat.le_refl _) _⟩
            rw [HD.out]
            exact congrArg (fun x => Ending.returned (.tuple #[wdV ⟨3, t, 0, 0⟩, .int .i64 x])) (by show (j : Int) + 1 + 1 = ((j + 2 : Nat) : Int); omega)
      · have hc' : ¬ ((r[j]).toNat : Int) = 39 := fun e => hc (UInt8.toNat_inj.1 (show (r[j]).toNat = 39 by omega))
        have HT := hid0 (hT.out.plain hlt hc)
        have hBa := fun o => hBuf.alloc o
        go_wp2_with (at_builtin; refine wp_put1 rfl _ _ rfl rfl (hBa _) wr.heap.size rfl r[j] (cell_new8 _ _ _) ?hn ?hl ?hb ?_)
        case hn => first | rfl | simp
        case hl => omega
        case hb => simp; omega
        intro v1 w1 hB2 hK1
        have hk1 := hK.trans ((Kept.alloc hbs _).trans hK1)
        clear hK1
        go_wp2
        exact ⟨⟨j + 1, t ++ [r[j]], by omega, by go_num, hB2, hk1, HT⟩, by simp [intOf]; omega⟩
    · have hji : ¬ (j : Int) < (r.length : Int) := by omega
      have HT := hid0 (hT.out.none (by omega))
      go_wp2
      refine bodyPost_ret (v := .tuple #[wdV noW, .int .i64 0]) (by simp [results, Tryd.results26, go_sem, wdV_no, r0, r1, r2, r3]; done) rfl ⟨?_, (((hBw.setCell (Nat.le_refl _) _).setCell (Nat.le_refl _) _).setCell (Nat.le_refl _) _).setCell (Nat.le_refl _) _⟩
      rw [HT.out]; rfl

theorem two_bytes (c d a b : UInt8) : ((txt [c, d]).toList == [a, b]) = (c == a && d == b) := by
  rw [ByteArray.toList_eq]
  simp [txt]

theorem sgS_two {c d : UInt8} {r : List UInt8} (h : (c = 60 ∧ d = 62) ∨ (c = 60 ∧ d = 61) ∨ (c = 62 ∧ d = 61)) : sgS (c :: d :: r) = 2 := if_pos h
theorem sgS_else {c d : UInt8} {r : List UInt8} (h : ¬ ((c = 60 ∧ d = 62) ∨ (c = 60 ∧ d = 61) ∨ (c = 62 ∧ d = 61))) : sgS (c :: d :: r) = 1 := if_neg h

set_option maxHeartbeats 2000000 in
theorem lxSign_any (l : List UInt8) (w : World) (hl : l.length ≤ 2048) (hne : l ≠ []) :
    Calls Tryd.prog 28 #[.string (txt l)] w fun e w' => e = .returned (.tuple #[wdV ⟨4, l.take (sgS l), 0, 0⟩, .int .i64 (sgS l : Nat)]) ∧ Below w.heap.size w w' := by
  have hsz : (txt l).size = l.length := txt_size l
  match l, hne with
  | [c], _ =>
    have X1 : (txt [c]).extract 0 1 = txt [c] := by rw [txt_cut]; rfl
    go_enter Tryd.func28, Tryd.ntmps28
    go_wp2
    exact bodyPost_ret (v := .tuple #[wdV ⟨4, [c], 0, 0⟩, .int .i64 1]) (by simp [results, Tryd.results28, go_sem, wdV]; done) rfl ⟨rfl, by go_grown⟩
  | c :: d :: r, _ =>
    have hlen : (1 : Int) < ((c :: d :: r).length : Int) := by simp; omega
    have X1 : (txt (c :: d :: r)).extract 0 1 = txt [c] := by rw [txt_cut]; rfl
    have X2 : (txt (c :: d :: r)).extract 0 2 = txt [c, d] := by rw [txt_cut]; rfl
    have T1 := two_bytes c d 60 62
    have T2 := two_bytes c d 60 61
    have T3 := two_bytes c d 62 61
    obtain ⟨n, hn⟩ : ∃ n, (c :: d :: r).length = n := ⟨_, rfl⟩
    rw [hn] at hsz hlen
    clear hn
    by_cases h : (c = 60 ∧ d = 62) ∨ (c = 60 ∧ d = 61) ∨ (c = 62 ∧ d = 61)
    · have HS := hid0 (sgS_two (r := r) h)
      rcases h with ⟨rfl, rfl⟩ | ⟨rfl, rfl⟩ | ⟨rfl, rfl⟩
      all_goals
        simp at T1 T2 T3
        go_enter Tryd.func28, Tryd.ntmps28
        go_wp2
        first
          | exact bodyPost_ret (v := .tuple #[wdV ⟨4, [60, 62], 0, 0⟩, .int .i64 2]) (by simp [results, Tryd.results28, go_sem, wdV]; done) rfl ⟨by rw [HS.out]; rfl, by go_grown⟩
          | exact bodyPost_ret (v := .tuple #[wdV ⟨4, [60, 61], 0, 0⟩, .int .i64 2]) (by simp [results, Tryd.results28, go_sem, wdV]; done) rfl ⟨by rw [HS.out]; rfl, by go_grown⟩
          | exact bodyPost_ret (v := .tuple #[wdV ⟨4, [62, 61], 0, 0⟩, .int .i64 2]) (by simp [results, Tryd.results28, go_sem, wdV]; done) rfl ⟨by rw [HS.out]; rfl, by go_grown⟩
    · have HS := hid0 (sgS_else (r := r) h)
      have T1' : ((txt [c, d]).toList == [60, 62]) = false := by rw [T1]; simp; intro e e'; exact h (.inl ⟨e, e'⟩)
      have T2' : ((txt [c, d]).toList == [60, 61]) = false := by rw [T2]; simp; intro e e'; exact h (.inr (.inl ⟨e, e'⟩))
      have T3' : ((txt [c, d]).toList == [62, 61]) = false := by rw [T3]; simp; intro e e'; exact h (.inr (.inr ⟨e, e'⟩))
      clear T1 T2 T3 h
      go_enter Tryd.func28, Tryd.ntmps28
      go_wp2
      exact bodyPost_ret (v := .tuple #[wdV ⟨4, [c], 0, 0⟩, .int .i64 1]) (by simp [results, Tryd.results28, go_sem, wdV]; done) rfl ⟨by rw [HS.out]; rfl, by go_grown⟩
end Go.Proofs.YtfjhkchkiacfpaaDoor
