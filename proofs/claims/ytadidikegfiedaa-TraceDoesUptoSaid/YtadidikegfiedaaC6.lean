/- Several of my texts laid together, each as it was: T10, T11, T12. Conditions: each names its own. -/
import Derived.Test.YtadidikegfiedaaC5
import Derived.Test.YtadidikegfiedaaB5
import Derived.Lib.MinMax
/- The time behind which a change must stand; whether changes are too many; the entries that a row makes; a new log; the least of times: contracts of the calls, in whatever memory. Conditions: what they read is known; the numbers are those of a bag. -/
namespace Go.Proofs.Ytadidikegfiedaa
open Go.RowKit

set_option maxHeartbeats 1000000 in
theorem latest_any (f : Int) (a : Option Addr) (c : Nat) (E : List Ent) (w : World) (h : EntsAt w a E) (hfew : E.length ≤ 1100000) :
    Calls Try.prog 23 #[.agg #[.int .i64 f, .slice a E.length c]] w fun e w' => e = .returned (.int .i64 (lastD f (E.map dat))) ∧ Below w.heap.size w w' := by
  have V := VarB.new w [.int .i64 f, .slice a E.length c] 24
  have hb1 : Below w.heap.size w (w.alloc (Obj.cells #[.int .i64 f, .slice a E.length c] 24)) := (Below.refl _ _).alloc (Nat.le_refl _) _
  have l0 := V.cell 0 rfl
  have l1 := V.cell 1 rfl
  by_cases hn : E = []
  · subst hn
    have e : lastD f (List.map dat []) = f := rfl
    rw [e]
    simp only [List.length_nil] at l0 l1 hb1 ⊢
    clear h V hfew
    go_enter Try.func23, Try.ntmps23
    go_wp2
    go_ret
    exact ⟨rfl, hb1⟩
  · have hp := List.length_pos_iff.2 hn
    have e := lastD_at f (E.map dat) (by simpa using hn)
    simp only [List.getElem_map, List.length_map] at e
    rw [e]
    obtain ⟨b, o, rfl, hc⟩ := (h.1.later hb1) hn
    have q0 := (hc (E.length - 1) (by omega)).1
    have ek : (dat (E[E.length - 1]'(by omega))).1 = (E[E.length - 1]'(by omega)).s := rfl
    rw [ek]
    generalize (E[E.length - 1]'(by omega)).s = s at q0 ⊢
    obtain ⟨m, hm⟩ : ∃ m, E.length = m := ⟨_, rfl⟩
    rw [hm] at q0 l0 l1 hb1 hfew hp ⊢
    have hne : ((m : Int) == 0) = false := by simp; omega
    clear hc h V e ek hm hn
    go_enter Try.func23, Try.ntmps23
    go_wp2
    go_ret
    exact ⟨rfl, hb1⟩
theorem trNew_any (f : Int) (w : World) : Calls Try.prog 17 #[.int .i64 f] w fun e w' => e = .returned (.agg #[.int .i64 f, .slice none 0 0]) ∧ Below w.heap.size w w' := by
  go_enter Try.func17, Try.ntmps17
  go_wp2
  exact end_blk (VarB.new w [.int .i64 f, .slice none 0 0] 24) rfl rfl _ Try.underlying24 rfl sizeLog rfl ⟨rfl, (Below.refl _ _).alloc (Nat.le_refl _) _⟩
/-- The least of numbers. -/
def lowI : List Int → Int → Int
  | [], now => now
  | x :: l, now => lowI l (if x < now then x else now)
theorem lowI_snoc : ∀ (l : List Int) (x now : Int), lowI (l ++ [x]) now = if x < lowI l now then x else lowI l now
  | [], _, _ => rfl
  | _ :: l, x, _ => lowI_snoc l x _
set_option maxHeartbeats 1000000 in
theorem trLow_any (a : Option Addr) (c : Nat) (l : List Int) (now : Int) (w : World) (h : IntsAt w a l) (hl : l.length ≤ 4398046511104) :
    Calls Try.prog 19 #[.slice a l.length c, .int .i64 now] w fun e w' => e = .returned (.int .i64 (lowI l now)) ∧ Below w.heap.size w w' := by
  have A := hid0 h
  clear h
  go_enter Try.func19, Try.ntmps19
  go_wp2
  go_loopw [5, 11] (fun nv iv wr => ∃ i : Nat, i ≤ l.length ∧ nv = .int .i64 (lowI (l.take i) now) ∧ iv = .int .i64 i ∧ Below w.heap.size w wr) (fun _ iv _ => l.length - (intOf iv).toNat)
  case atStart => exact ⟨0, Nat.zero_le _, rfl, rfl, Below.refl _ _⟩
  case round =>
    obtain ⟨i, hi, rfl, rfl, hB⟩ := hrel
    by_cases hlt : i < l.length
    · obtain ⟨b1, o1, rfl, hc1⟩ := (A.out.later hB) (by intro e; rw [e] at hlt; exact absurd hlt (by simp))
      have q0 := hc1 i hlt
      have HS := hid0 (show lowI (l.take (i + 1)) now = if l[i] < lowI (l.take i) now then l[i] else lowI (l.take i) now by rw [List.take_succ_eq_append_getElem hlt, lowI_snoc])
      clear hc1
      generalize l[i] = x at q0 HS
      generalize lowI (l.take i) now = m at HS ⊢
      go_wp2_with fail
      exact ⟨⟨i + 1, by omega, by rw [HS.out, Int.min_def]; congr 1; split <;> split <;> omega, by go_num, hB⟩, by simp [intOf]; omega⟩
    · have hie : ¬ (i : Int) < l.length := by omega
      have e : l.take i = l := List.take_of_length_le (by omega)
      rw [e]
      go_wp2
      go_ret
      exact ⟨rfl, hB⟩
theorem abs_snoc (L : List Pair) (x : Pair) : absS (L ++ [x]) = absS L + (if x.2 < 0 then -x.2 else x.2) := by rw [absS_append]; simp [absS]
theorem abs_take_le (L : List Pair) (i : Nat) : absS (L.take i) ≤ absS L := by
  have h := absS_append (L.take i) (L.drop i)
  rw [List.take_append_drop] at h
  have := absS_nonneg (L.drop i)
  omega
set_option maxHeartbeats 1000000 in
theorem tooMany_any (a : Option Addr) (c : Nat) (E : List Elem) (w : World) (h : ElemsAt w a E) (hl : E.length ≤ 4398046511104) (hm : ∀ e ∈ E, -1099511627776 ≤ e.n ∧ e.n ≤ 1099511627776) :
    Calls Try.prog 24 #[.slice a E.length c] w fun e w' => e = .returned (.bool (decide (4000 < absS (E.map pr)))) ∧ Below w.heap.size w w' := by
  have A := hid0 h
  have HM := hid0 hm
  obtain ⟨R, hR⟩ : ∃ R, decide (4000 < absS (E.map pr)) = R := ⟨_, rfl⟩
  have HR := hid0 hR
  rw [hR]
  clear h hm hR
  go_enter Try.func24, Try.ntmps24
  go_wp2
  go_loopw [3, 8] (fun nv iv wr => ∃ i : Nat, i ≤ E.length ∧ nv = .int .i64 (absS ((E.map pr).take i)) ∧ iv = .int .i64 i ∧ Hid (absS ((E.map pr).take i) ≤ 4000) ∧ Below w.heap.size w wr) (fun _ iv _ => E.length - (intOf iv).toNat)
  case atStart => exact ⟨0, Nat.zero_le _, rfl, rfl, hid0 (by simp [absS]), Below.refl _ _⟩
  case round =>
    obtain ⟨i, hi, rfl, rfl, hO, hB⟩ := hrel
    by_cases hlt : i < E.length
    · obtain ⟨b1, o1, rfl, hc1⟩ := (A.out.1.later hB) (by intro e; rw [e] at hlt; exact absurd hlt (by simp))
      obtain ⟨q0, q1⟩ := hc1 i hlt
      obtain ⟨m1, m2⟩ := HM.out _ (List.getElem_mem hlt)
      have HS := hid0 (show absS ((E.map pr).take (i + 1)) = absS ((E.map pr).take i) + (if E[i].n < 0 then -E[i].n else E[i].n) by rw [List.take_succ_eq_append_getElem (by simpa using hlt), abs_snoc]; simp [pr])
      have HT := hid0 (abs_take_le (E.map pr) (i + 1))
      have HP := hid0 (absS_nonneg ((E.map pr).take i))
      clear hc1
      generalize E[i] = x at q0 q1 m1 m2 HS
      have hO' := hO.out
      have hP' := HP.out
      generalize absS ((E.map pr).take i) = s at HS hO hO' HP hP' ⊢
      have V := VarB.new wr [.slice x.a x.r.length x.c, .int .i64 x.n] 46
      have v1 := V.cell 1 rfl
      have hbx := Below.alloc hB hB.size (Obj.cells #[.slice x.a x.r.length x.c, .int .i64 x.n] 46)
      clear V
      have hw1 : IntKind.i64.wrap (-x.n) = -x.n := IntWalk.i64_in _ (by omega)
      obtain ⟨M, hM⟩ : ∃ M, max x.n (-x.n) = M := ⟨_, rfl⟩
      have hM1 : M = if x.n < 0 then -x.n else x.n := by rw [← hM, Int.max_def]; split <;> split <;> omega
      have hM2 : 0 ≤ M ∧ M ≤ 1099511627776 := by rw [hM1]; split <;> omega
      have hw2 : IntKind.i64.wrap (s + M) = s + M := IntWalk.i64_in _ (by omega)
      have HS2 := hid0 (show absS ((E.map pr).take (i + 1)) = s + M by rw [HS.out, hM1])
      by_cases hg : s + M > 4000
      · have HRT : Hid (true = R) := hid0 (by rw [← HR.out]; symm; rw [decide_eq_true_eq]; have := HS2.out; have := HT.out; omega)
        clear HS HR
        go_wp2_with fail
        all_goals (go_ret; exact ⟨ret_bool HRT.out, hbx⟩)
      · go_wp2_with fail
        all_goals exact ⟨⟨i + 1, by omega, by rw [HS.out], by go_num, hid0 (by have := HS2.out; omega), hbx⟩, by simp [intOf]; omega⟩
    · have e : (E.map pr).take i = E.map pr := List.take_of_length_le (by simp; omega)
      rw [e] at hO
      have hie : ¬ (i : Int) < E.length := by omega
      have HRF : Hid (false = R) := hid0 (by rw [← HR.out]; symm; rw [decide_eq_false_iff_not]; have := hO.out; omega)
      go_wp2
      go_ret
      exact ⟨ret_bool HRF.out, hB⟩
end Go.Proofs.Ytadidikegfiedaa

/- The entries that a row makes (trace.entries): a contract of the call, in whatever memory. Conditions: the row's cells are known; its number is no more than 4000. -/
namespace Go.Proofs.Ytadidikegfiedaa
open Go.RowKit

set_option maxHeartbeats 4000000 in
theorem entries_any (scn : Int) (x : Elem) (w : World) (hx : RowAt w x.a x.r ∧ rowOK x.r) (hn : -4000 ≤ x.n ∧ x.n ≤ 4000) :
    Calls Try.prog 25 #[.int .i64 scn, .agg #[.slice x.a x.r.length x.c, .int .i64 x.n]] w fun e w' => ∃ v F, e = .returned v ∧ MkN 0 w w' v F ∧ F.map dat = entsOne scn (pr x) := by
  have V := VarT.new w [.slice x.a x.r.length x.c, .int .i64 x.n] 46
  have hb1 : Below w.heap.size w (w.alloc (Obj.cells #[.slice x.a x.r.length x.c, .int .i64 x.n] 46)) := (Below.refl _ _).alloc (Nat.le_refl _) _
  have l0 := V.v.cell 0 rfl
  have l1 := V.v.cell 1 rfl
  have HX := hid0 hx
  have hM0 : MkN 0 w (w.alloc (Obj.cells #[.slice x.a x.r.length x.c, .int .i64 x.n] 46)) (.slice none 0 0) [] := MkN.nil hb1 (Nat.zero_le _)
  obtain ⟨K, hK⟩ : ∃ K, x.n.natAbs = K := ⟨_, rfl⟩
  obtain ⟨g, hg⟩ : ∃ g : Int, (if x.n < 0 then (-1 : Int) else 1) = g := ⟨_, rfl⟩
  have HE := hid0 (show entsOne scn (pr x) = List.replicate K (scn, g, x.r) by rw [← hK, ← hg]; rfl)
  have hm : IntKind.i64.wrap (x.n * g) = (K : Int) := by
    rw [← hg]
    split
    · rw [IntWalk.i64_in _ (by omega)]; omega
    · rw [IntWalk.i64_in _ (by omega)]; omega
  obtain ⟨a, c, r, n⟩ := x
  dsimp only at *
  by_cases hneg : n < 0
  · rw [if_pos hneg] at hg
    subst hg
    go_enter Try.func25, Try.ntmps25
    go_wp2_with fail
    generalize w.alloc (Obj.cells #[.slice a r.length c, .int .i64 n] 46) = w1 at *
    have HM0 := hid0 hM0
    have hM1 : MkN 0 w w1 (.slice none 0 0) [] := HM0.out
    clear hM0
    go_loopw [6, 14] (fun ov iv wr => ∃ (i : Nat) (F : List Ent), i ≤ K ∧ iv = .int .i64 i ∧ MkN 0 w wr ov F ∧ Hid (F.map dat = List.replicate i (scn, ((-1) : Int), r)) ∧ VarT wr w.heap.size [.slice a r.length c, .int .i64 n] 46) (fun _ iv _ => K - (intOf iv).toNat)
    case atStart => exact ⟨0, [], Nat.zero_le _, rfl, hM1, hid0 rfl, V⟩
    case round =>
      obtain ⟨i, F, hi, rfl, hM, hT, W⟩ := hrel
      clear hM1 V l0 l1
      have hFl : F.length = i := by
        have := congrArg List.length hT.out
        rwa [List.length_map, List.length_replicate] at this
      by_cases hlt : i < K
      · have l0 := W.v.cell 0 rfl
        have hrow := (HX.out.1.later (hM.b))
        have CC := hid0 (clone_any a c r wr hrow HX.out.2)
        have HFL := hid0 hFl
        clear hrow hFl
        go_wp2_with (first | (go_at_call 38; go_must (refine CC.out.mono ?_; rintro e wn ⟨⟨a', c', rfl, hrow, hblk⟩, hbn⟩; (have hR := hid0 (RowG.copied 0 (Copied.mk hrow hblk) HX.out.2)); (have hM2 := fun o => (hM.below hbn).alloc o); (have W2 := fun o => (W.below hbn).alloc o); clear hrow hblk)) | (at_builtin; go_must (refine wp_appN rfl _ _ rfl rfl (hM2 _) [⟨scn, (-1), a', c', r⟩] 1 rfl (some ⟨wn.heap.size, 0, none⟩) 1 rfl ?cl ?rg ?ln ?_)) | fail)
        case cl => exact one_ent (by go_cell) (by go_cell) (by go_cell)
        case rg => intro e he; obtain rfl := List.mem_singleton.1 he; exact hR.out.later ((Below.refl _ _).alloc (Nat.le_refl _) _)
        case ln => have := HFL.out; simp; omega
        intro v3 w3 hM3 hK3 _
        have W3 := (W2 (Obj.cells #[.int .i64 scn, .int .i64 (-1), .slice a' r.length c'] 49)).keptT (by decide) hK3
        clear hM hM2 W2 hK3 W
        go_wp2
        exact ⟨⟨i + 1, _, by omega, by go_num, hM3, hid0 (by rw [List.map_append, hT.out, List.replicate_succ']; rfl), W3⟩, by simp [intOf]; omega⟩
      · obtain rfl : i = K := by omega
        go_wp2
        go_ret
        exact ⟨_, F, rfl, hM, by rw [hT.out, HE.out]⟩
  · rw [if_neg hneg] at hg
    subst hg
    go_enter Try.func25, Try.ntmps25
    go_wp2_with fail
    generalize w.alloc (Obj.cells #[.slice a r.length c, .int .i64 n] 46) = w1 at *
    have HM0 := hid0 hM0
    have hM1 : MkN 0 w w1 (.slice none 0 0) [] := HM0.out
    clear hM0
    go_loopw [6, 14] (fun ov iv wr => ∃ (i : Nat) (F : List Ent), i ≤ K ∧ iv = .int .i64 i ∧ MkN 0 w wr ov F ∧ Hid (F.map dat = List.replicate i (scn, (1 : Int), r)) ∧ VarT wr w.heap.size [.slice a r.length c, .int .i64 n] 46) (fun _ iv _ => K - (intOf iv).toNat)
    case atStart => exact ⟨0, [], Nat.zero_le _, rfl, hM1, hid0 rfl, V⟩
    case round =>
      obtain ⟨i, F, hi, rfl, hM, hT, W⟩ := hrel
      clear hM1 V l0 l1
      have hFl : F.length = i := by
        have := congrArg List.length hT.out
        rwa [List.length_map, List.length_replicate] at this
      by_cases hlt : i < K
      · have l0 := W.v.cell 0 rfl
        have hrow := (HX.out.1.later (hM.b))
        have CC := hid0 (clone_any a c r wr hrow HX.out.2)
        have HFL := hid0 hFl
        clear hrow hFl
        go_wp2_with (first | (go_at_call 38; go_must (refine CC.out.mono ?_; rintro e wn ⟨⟨a', c', rfl, hrow, hblk⟩, hbn⟩; (have hR := hid0 (RowG.copied 0 (Copied.mk hrow hblk) HX.out.2)); (have hM2 := fun o => (hM.below hbn).alloc o); (have W2 := fun o => (W.below hbn).alloc o); clear hrow hblk)) | (at_builtin; go_must (refine wp_appN rfl _ _ rfl rfl (hM2 _) [⟨scn, 1, a', c', r⟩] 1 rfl (some ⟨wn.heap.size, 0, none⟩) 1 rfl ?cl ?rg ?ln ?_)) | fail)
        case cl => exact one_ent (by go_cell) (by go_cell) (by go_cell)
        case rg => intro e he; obtain rfl := List.mem_singleton.1 he; exact hR.out.later ((Below.refl _ _).alloc (Nat.le_refl _) _)
        case ln => have := HFL.out; simp; omega
        intro v3 w3 hM3 hK3 _
        have W3 := (W2 (Obj.cells #[.int .i64 scn, .int .i64 1, .slice a' r.length c'] 49)).keptT (by decide) hK3
        clear hM hM2 W2 hK3 W
        go_wp2
        exact ⟨⟨i + 1, _, by omega, by go_num, hM3, hid0 (by rw [List.map_append, hT.out, List.replicate_succ']; rfl), W3⟩, by simp [intOf]; omega⟩
      · obtain rfl : i = K := by omega
        go_wp2
        go_ret
        exact ⟨_, F, rfl, hM, by rw [hT.out, HE.out]⟩
end Go.Proofs.Ytadidikegfiedaa

/- What changes make of a log (trace.Add): a contract of the call, in whatever memory. Conditions: the log's and the changes' cells are known. -/
namespace Go.Proofs.Ytadidikegfiedaa
open Go.RowKit

/-- What changes make of a log, and the error. -/
def addM (f : Int) (D : List Dat) (scn : Int) (E : List Elem) : List Dat × Int :=
  if rightD f D = true ∧ rightE E = true ∧ lastD f D < scn then (if 4000 < absS (E.map pr) then (D, 3) else (D ++ entsD scn (E.map pr), 0)) else (D, 1)
def AddAns (w : World) (f : Int) (R : List Dat × Int) (e : Ending) (w' : World) : Prop := ∃ v F, e = .returned (.tuple #[.agg #[.int .i64 f, v], .int .i64 R.2]) ∧ MkN 0 w w' v F ∧ F.map dat = R.1
structure SAd (w : World) (b3 b6 b8 : Nat) (f : Int) (u v : Value) (F : List Ent) (W : World) : Prop where
  v3 : VarT W b3 [.int .i64 f, u] 24
  v6 : VarT W b6 [.int .i64 0, .slice none 0 0] 24
  v8 : VarT W b8 [.int .i64 f, v] 24
  m : MkN 0 w W v F
theorem SAd.below {w : World} {b3 b6 b8 : Nat} {f : Int} {u v : Value} {F : List Ent} {W W' : World} (h : SAd w b3 b6 b8 f u v F W) (hb : Below W.heap.size W W') : SAd w b3 b6 b8 f u v F W' := ⟨h.v3.below hb, h.v6.below hb, h.v8.below hb, h.m.below hb⟩
theorem rightE_small {E : List Elem} (h : rightE E = true) : ∀ e ∈ E, -1099511627776 ≤ e.n ∧ e.n ≤ 1099511627776 := fun e he => by
  obtain ⟨i, hi, rfl⟩ := List.mem_iff_getElem.1 he
  have h1 := List.all_eq_true.1 h i (List.mem_range.2 hi)
  rw [rightAt_get hi, Bool.and_eq_true] at h1
  have h2 := h1.1
  unfold okR at h2
  simp at h2
  omega
theorem abs_each {L : List Pair} {k : Int} (h : absS L ≤ k) : ∀ x ∈ L, -k ≤ x.2 ∧ x.2 ≤ k := fun x hx => by
  have := absS_mem hx
  omega
structure SAl (w : World) (b6 b8 : Nat) (f : Int) (v : Value) (F : List Ent) (W : World) : Prop where
  v6 : VarT W b6 [.int .i64 0, .slice none 0 0] 24
  v8 : VarT W b8 [.int .i64 f, v] 24
  m : MkN 0 w W v F
structure SAx (w : World) (b6 b8 bx : Nat) (f : Int) (v u : Value) (F : List Ent) (xs : List Value) (W : World) : Prop where
  v6 : VarT W b6 [.int .i64 0, .slice none 0 0] 24
  v8 : VarT W b8 [.int .i64 f, v] 24
  m : MkN 0 w W u F
  bx : VarT W bx xs 46
theorem SAl.box {w : World} {b6 b8 : Nat} {f : Int} {v : Value} {F : List Ent} {W : World} (h : SAl w b6 b8 f v F W) (xs : List Value) : SAx w b6 b8 W.heap.size f v v F xs (W.alloc (Obj.cells xs.toArray 46)) := ⟨h.v6.alloc _, h.v8.alloc _, h.m.alloc _, VarT.new W xs 46⟩
theorem SAx.drew {w : World} {b6 b8 bx : Nat} {f : Int} {v u : Value} {F : List Ent} {xs : List Value} {W : World} (h : SAx w b6 b8 bx f v u F xs W) : SAx w b6 b8 bx f v u F xs W.drew := ⟨h.v6.drew, h.v8.drew, h.m.drew, h.bx.drew⟩
theorem SAx.below {w : World} {b6 b8 bx : Nat} {f : Int} {v u : Value} {F : List Ent} {xs : List Value} {W W' : World} (h : SAx w b6 b8 bx f v u F xs W) (hb : Below W.heap.size W W') : SAx w b6 b8 bx f v u F xs W' := ⟨h.v6.below hb, h.v8.below hb, h.m.below hb, h.bx.below hb⟩
theorem SAx.app {w : World} {b6 b8 bx : Nat} {f : Int} {v u u' : Value} {F F' : List Ent} {xs : List Value} {W W' : World} (h : SAx w b6 b8 bx f v u F xs W) (hM : MkN 0 w W' u' F') (hK : KeptT 49 w.heap.size W W') : SAx w b6 b8 bx f v u' F' xs W' := ⟨h.v6.keptT (by decide) hK, h.v8.keptT (by decide) hK, hM, h.bx.keptT (by decide) hK⟩
theorem SAx.stored {w : World} {b6 b8 bx : Nat} {f : Int} {v u : Value} {F : List Ent} {xs : List Value} {W : World} (h : SAx w b6 b8 bx f v u F xs W) (h8 : w.heap.size ≤ b8 ∧ b6 < b8) : SAl w b6 b8 f u F (W.setCell ⟨b8, 1, none⟩ u) := ⟨h.v6.other (b := b8) (o := 1) [u] (by omega), h.v8.set u (by simp), h.m.puts h.v8 h8.1 (by decide) (h.m.apart h.v8 (by decide)) [u] 1⟩
theorem rightE_nz {E : List Elem} (h : rightE E = true) : ∀ e ∈ E, e.n ≠ 0 := fun e he => by
  obtain ⟨i, hi, rfl⟩ := List.mem_iff_getElem.1 he
  have h1 := List.all_eq_true.1 h i (List.mem_range.2 hi)
  rw [rightAt_get hi, Bool.and_eq_true] at h1
  have h2 := h1.1
  unfold okR at h2
  simp at h2
  omega
theorem own_some {rb : Nat} {w0 w : World} {v : Value} {F : List Ent} (h : MkN rb w0 w v F) (hn : F ≠ []) : ∃ b o c, v = .slice (some ⟨b, o, none⟩) F.length c ∧ CellsN w (some ⟨b, o, none⟩) F := by
  obtain ⟨a, c, rfl, _, hE⟩ := h.ents
  obtain ⟨b, o, rfl, _⟩ := hE.1 hn
  exact ⟨b, o, c, rfl, hE.1⟩
set_option maxHeartbeats 8000000 in
set_option maxRecDepth 1000000 in
theorem trAdd_any (f : Int) (a : Option Addr) (c : Nat) (L : List Ent) (scn : Int) (a2 : Option Addr) (c2 : Nat) (E : List Elem) (w : World) (hL : EntsAt w a L) (hE : ElemsI w a2 c2 E) (hfew : L.length ≤ 1000000) :
    Calls Try.prog 6 #[.agg #[.int .i64 f, .slice a L.length c], .int .i64 scn, .slice a2 E.length c2] w (AddAns w f (addM f (L.map dat) scn E)) := by
  have V3 := (VarT.new w [.int .i64 f, .slice a L.length c] 24).alloc (Obj.cells #[.int .i64 0, .slice none 0 0] 24)
  have V6 := VarT.newAt (w.alloc (Obj.cells #[.int .i64 f, .slice a L.length c] 24)) [.int .i64 0, .slice none 0 0] 24 (B := w.heap.size + 1) (by simp)
  have hb1 : Below w.heap.size w ((w.alloc (Obj.cells #[.int .i64 f, .slice a L.length c] 24)).alloc (Obj.cells #[.int .i64 0, .slice none 0 0] 24)) := ((Below.refl _ _).alloc (Nat.le_refl _) _).alloc (by simp) _
  have hsz : ((w.alloc (Obj.cells #[.int .i64 f, .slice a L.length c] 24)).alloc (Obj.cells #[.int .i64 0, .slice none 0 0] 24)).heap.size = w.heap.size + 2 := by simp
  have C1 := hid0 (copiedN_any f a c L _ (hL.later hb1) (by omega))
  have CR := hid0 (fun W (hW : Below w.heap.size w W) => trRight_any f a c L W (hL.later hW) (by omega))
  have CB := hid0 (fun W (hW : Below w.heap.size w W) => bagRight_all a2 c2 E W (hE.later hW))
  have CLt := hid0 (fun W (hW : Below w.heap.size w W) => latest_any f a c L W (hL.later hW) (by omega))
  have HE := hid0 hE
  have HA : Hid (∀ D, addM f D scn E = if rightD f D = true ∧ rightE E = true ∧ lastD f D < scn then (if 4000 < absS (E.map pr) then (D, 3) else (D ++ entsD scn (E.map pr), 0)) else (D, 1)) := hid0 (fun _ => rfl)
  have CT := hid0 (fun W (hW : Below w.heap.size w W) (hr : rightE E = true) => tooMany_any a2 c2 E W (hE.at_.later hW) hE.few (rightE_small hr))
  obtain ⟨D, hD⟩ : ∃ D, L.map dat = D := ⟨_, rfl⟩
  have HLD := hid0 (show D.length ≤ 1000000 by rw [← hD, List.length_map]; exact hfew)
  rw [hD] at C1 CR CLt ⊢
  obtain ⟨n, hn⟩ : ∃ n, L.length = n := ⟨_, rfl⟩
  obtain ⟨m, hm⟩ : ∃ m, E.length = m := ⟨_, rfl⟩
  have HN := hid0 hn
  have HM := hid0 hm
  have hmfew : m ≤ 4398046511104 := by rw [← hm]; exact hE.few
  rw [hn] at V3 V6 hb1 hsz C1 CR CLt ⊢
  rw [hm] at CB CT ⊢
  clear hL hE hD hn hm hfew
  have a0 := V3.v.cell 0 rfl
  have a1 := V3.v.cell 1 rfl
  go_enter Try.func6, Try.ntmps6
  go_wp2_with fail
  generalize ((w.alloc (Obj.cells #[.int .i64 f, .slice a n c] 24)).alloc (Obj.cells #[.int .i64 0, .slice none 0 0] 24)) = w1 at *
  go_wp2_with (first | (go_at_call 21; go_must (refine C1.out.mono ?_; rintro e w2 ⟨v, F, rfl, hM1, hFD⟩; (have V3 := V3.under hM1.b (by omega)); (have V6 := V6.under hM1.b (by omega)); (have a0 := V3.v.cell 0 rfl); (have a1 := V3.v.cell 1 rfl); (have hM := hM1.low hb1); (have hlt2 : w.heap.size + 1 < w2.heap.size := (by have := hM1.b.size; omega)); (have hlt3 : w.heap.size < w2.heap.size := (by omega)); (have HD := hid0 hFD); (have HLF := hid0 (congrArg List.length hFD)); obtain ⟨av, cv, rfl, _, _⟩ := hM.ents; clear hM1 hFD C1)) | fail)
  obtain ⟨nv, hnv⟩ : ∃ nv, F.length = nv := ⟨_, rfl⟩
  rw [hnv] at hM ⊢
  have HNV := hid0 hnv
  have V8 := VarT.new w2 [.int .i64 f, .slice av nv cv] 24
  have hS : SAd w w.heap.size (w.heap.size + 1) w2.heap.size f (.slice a n c) (.slice av nv cv) F (w2.alloc (Obj.cells #[.int .i64 f, .slice av nv cv] 24)) := ⟨V3.alloc _, V6.alloc _, V8, hM.alloc _⟩
  clear V3 V6 V8 hM a0 a1 hnv hb1 hsz
  generalize w2.alloc (Obj.cells #[.int .i64 f, .slice av nv cv] 24) = W1 at hS ⊢
  refine Calls.mono (CR.out _ hS.m.b) ?_
  rintro e w3 ⟨rfl, hb3⟩
  have hS := hS.below hb3
  clear hb3
  obtain ⟨rd, hrd⟩ : ∃ rd, rightD f D = rd := ⟨_, rfl⟩
  rw [hrd]
  cases rd with
  | false =>
    have hmod : addM f D scn E = (D, 1) := by unfold addM; rw [if_neg (by rw [hrd]; simp)]
    have a0 := hS.v3.v.cell 0 rfl
    have a1 := hS.v3.v.cell 1 rfl
    have z0 := hS.v6.v.cell 0 rfl
    have z1 := hS.v6.v.cell 1 rfl
    have y0 := hS.v6.v.frz 0 (by simp)
    have y1 := hS.v6.v.frz 1 (by simp)
    have e0 := hS.v8.v.cell 0 rfl
    have e1 := hS.v8.v.cell 1 rfl
    have HS := hid0 hS
    clear hS
    go_wp2_with fail
    have hS := HS.out
    have hA := hS.m.apart hS.v6 (by decide)
    have hP := hS.m.puts hS.v6 (by omega) (by decide) hA [.int .i64 f, .slice av nv cv]
    exact end_vt (hS.v6.v.puts [.int .i64 f, .slice av nv cv] rfl) rfl rfl rfl _ Try.underlying24 rfl sizeLog rfl ⟨_, _, by rw [hmod]; rfl, hP, by rw [hmod]; exact HD.out⟩
  | true =>
    have HRD := hid0 hrd
    clear hrd
    have a0 := hS.v3.v.cell 0 rfl
    have a1 := hS.v3.v.cell 1 rfl
    have z0 := hS.v6.v.cell 0 rfl
    have z1 := hS.v6.v.cell 1 rfl
    have y0 := hS.v6.v.frz 0 (by simp)
    have y1 := hS.v6.v.frz 1 (by simp)
    have e0 := hS.v8.v.cell 0 rfl
    have e1 := hS.v8.v.cell 1 rfl
    have HS := hid0 hS
    clear hS
    go_wp2_with fail
    have hS := HS.out
    clear HS a0 a1 z0 z1 y0 y1 e0 e1
    refine Calls.mono (CB.out _ hS.m.b) ?_
    rintro e w4 ⟨rfl, hb4⟩
    have hS := hS.below hb4
    clear hb4
    obtain ⟨rb, hrb⟩ : ∃ rb, rightE E = rb := ⟨_, rfl⟩
    rw [hrb]
    cases rb with
    | false =>
      have hmod : addM f D scn E = (D, 1) := by unfold addM; rw [if_neg (by rw [hrb]; simp)]
      have a0 := hS.v3.v.cell 0 rfl
      have a1 := hS.v3.v.cell 1 rfl
      have z0 := hS.v6.v.cell 0 rfl
      have z1 := hS.v6.v.cell 1 rfl
      have y0 := hS.v6.v.frz 0 (by simp)
      have y1 := hS.v6.v.frz 1 (by simp)
      have e0 := hS.v8.v.cell 0 rfl
      have e1 := hS.v8.v.cell 1 rfl
      have HS := hid0 hS
      clear hS
      go_wp2_with fail
      have hS := HS.out
      have hA := hS.m.apart hS.v6 (by decide)
      have hP := hS.m.puts hS.v6 (by omega) (by decide) hA [.int .i64 f, .slice av nv cv]
      exact end_vt (hS.v6.v.puts [.int .i64 f, .slice av nv cv] rfl) rfl rfl rfl _ Try.underlying24 rfl sizeLog rfl ⟨_, _, by rw [hmod]; rfl, hP, by rw [hmod]; exact HD.out⟩
    | true =>
      have HRB := hid0 hrb
      clear hrb
      have a0 := hS.v3.v.cell 0 rfl
      have a1 := hS.v3.v.cell 1 rfl
      have z0 := hS.v6.v.cell 0 rfl
      have z1 := hS.v6.v.cell 1 rfl
      have y0 := hS.v6.v.frz 0 (by simp)
      have y1 := hS.v6.v.frz 1 (by simp)
      have e0 := hS.v8.v.cell 0 rfl
      have e1 := hS.v8.v.cell 1 rfl
      have HS := hid0 hS
      clear hS
      go_wp2_with fail
      have hS := HS.out
      clear HS a0 a1 z0 z1 y0 y1 e0 e1
      refine Calls.mono (CLt.out _ hS.m.b) ?_
      rintro e w5 ⟨rfl, hb5⟩
      have hS := hS.below hb5
      clear hb5
      obtain ⟨la, hla⟩ : ∃ la, lastD f D = la := ⟨_, rfl⟩
      rw [hla]
      by_cases hle : scn ≤ la
      · have hmod : addM f D scn E = (D, 1) := by unfold addM; rw [if_neg (by rw [hla]; intro h; omega)]
        have hdl : decide (scn ≤ la) = true := by simpa using hle
        have a0 := hS.v3.v.cell 0 rfl
        have a1 := hS.v3.v.cell 1 rfl
        have z0 := hS.v6.v.cell 0 rfl
        have z1 := hS.v6.v.cell 1 rfl
        have y0 := hS.v6.v.frz 0 (by simp)
        have y1 := hS.v6.v.frz 1 (by simp)
        have e0 := hS.v8.v.cell 0 rfl
        have e1 := hS.v8.v.cell 1 rfl
        have HS := hid0 hS
        clear hS
        go_wp2_with fail
        have hS := HS.out
        have hA := hS.m.apart hS.v6 (by decide)
        have hP := hS.m.puts hS.v6 (by omega) (by decide) hA [.int .i64 f, .slice av nv cv]
        exact end_vt (hS.v6.v.puts [.int .i64 f, .slice av nv cv] rfl) rfl rfl rfl _ Try.underlying24 rfl sizeLog rfl ⟨_, _, by rw [hmod]; rfl, hP, by rw [hmod]; exact HD.out⟩
      · have hdl : decide (scn ≤ la) = false := by simpa using hle
        have hmod : addM f D scn E = (if 4000 < absS (E.map pr) then (D, 3) else (D ++ entsD scn (E.map pr), 0)) := by unfold addM; rw [if_pos ⟨HRD.out, HRB.out, by rw [hla]; omega⟩]
        have HMOD := hid0 hmod
        clear hla hmod
        have a0 := hS.v3.v.cell 0 rfl
        have a1 := hS.v3.v.cell 1 rfl
        have z0 := hS.v6.v.cell 0 rfl
        have z1 := hS.v6.v.cell 1 rfl
        have y0 := hS.v6.v.frz 0 (by simp)
        have y1 := hS.v6.v.frz 1 (by simp)
        have e0 := hS.v8.v.cell 0 rfl
        have e1 := hS.v8.v.cell 1 rfl
        have HS := hid0 hS
        clear hS
        go_wp2_with fail
        have hS := HS.out
        clear HS a0 a1 z0 z1 y0 y1 e0 e1
        refine Calls.mono (CT.out _ hS.m.b HRB.out) ?_
        rintro e w6 ⟨rfl, hb6⟩
        have hS := hS.below hb6
        clear hb6
        by_cases hbig : 4000 < absS (E.map pr)
        · have hmod : addM f D scn E = (D, 3) := by rw [HMOD.out, if_pos hbig]
          have hd4 : decide (4000 < absS (E.map pr)) = true := by simpa using hbig
          rw [hd4]
          clear hbig hd4
          have a0 := hS.v3.v.cell 0 rfl
          have a1 := hS.v3.v.cell 1 rfl
          have z0 := hS.v6.v.cell 0 rfl
          have z1 := hS.v6.v.cell 1 rfl
          have y0 := hS.v6.v.frz 0 (by simp)
          have y1 := hS.v6.v.frz 1 (by simp)
          have e0 := hS.v8.v.cell 0 rfl
          have e1 := hS.v8.v.cell 1 rfl
          have HS := hid0 hS
          clear hS
          go_wp2_with fail
          have hS := HS.out
          have hA := hS.m.apart hS.v6 (by decide)
          have hP := hS.m.puts hS.v6 (by omega) (by decide) hA [.int .i64 f, .slice av nv cv]
          exact end_vt (hS.v6.v.puts [.int .i64 f, .slice av nv cv] rfl) rfl rfl rfl _ Try.underlying24 rfl sizeLog rfl ⟨_, _, by rw [hmod]; rfl, hP, by rw [hmod]; exact HD.out⟩
        · have hmod : addM f D scn E = (D ++ entsD scn (E.map pr), 0) := by rw [HMOD.out, if_neg hbig]
          have hd4 : decide (4000 < absS (E.map pr)) = false := by simpa using hbig
          rw [hd4]
          have HSM := hid0 (show absS (E.map pr) ≤ 4000 by omega)
          have HMD := hid0 hmod
          clear hbig hd4 HMOD hmod
          have a0 := hS.v3.v.cell 0 rfl
          have a1 := hS.v3.v.cell 1 rfl
          have z0 := hS.v6.v.cell 0 rfl
          have z1 := hS.v6.v.cell 1 rfl
          have y0 := hS.v6.v.frz 0 (by simp)
          have y1 := hS.v6.v.frz 1 (by simp)
          have e0 := hS.v8.v.cell 0 rfl
          have e1 := hS.v8.v.cell 1 rfl
          have HS := hid0 hS
          clear hS
          go_wp2_with fail
          have hS := HS.out
          clear HS a0 a1 z0 z1 y0 y1 e0 e1
          have HD0 := hid0 (show F.map dat = D ++ entsD scn ((E.map pr).take 0) by rw [HD.out]; simp [entsD])
          have hL0 : SAl w (w.heap.size + 1) w2.heap.size f (.slice av nv cv) F w6 := ⟨hS.v6, hS.v8, hS.m⟩
          have hb8 : w.heap.size + 1 < w2.heap.size := by omega
          clear hS
          go_loopw [33] (fun iv wr => ∃ (i : Nat) (v : Value) (Fi : List Ent), i ≤ m ∧ iv = .int .i64 i ∧ SAl w (w.heap.size + 1) w2.heap.size f v Fi wr ∧ Hid (Fi.map dat = D ++ entsD scn ((E.map pr).take i))) (fun iv _ => m - (intOf iv).toNat)
          case atStart => exact ⟨0, _, F, Nat.zero_le _, rfl, hL0, HD0⟩
          case round =>
            obtain ⟨i, v, Fi, hi, rfl, hR, hT⟩ := hrel
            clear hL0 HD0
            by_cases hlt : i < m
            · have hiE : i < E.length := by rw [HM.out]; exact hlt
              obtain ⟨b1, o1, rfl, hc1⟩ := (HE.out.at_.1.later hR.m.b) (by intro e; rw [e] at hiE; exact absurd hiE (by simp))
              obtain ⟨q0, q1⟩ := hc1 i hiE
              have hx := HE.out.at_.2 _ (List.getElem_mem hiE)
              have hab := abs_each HSM.out (pr E[i]) (List.mem_map_of_mem (List.getElem_mem hiE))
              have hnz := rightE_nz HRB.out _ (List.getElem_mem hiE)
              have CE := hid0 (fun W (hW : Below w.heap.size w W) => entries_any scn E[i] W ⟨hx.1.later hW, hx.2⟩ hab)
              have HNX := hid0 (fun (F4 : List Ent) (h4 : F4.map dat = entsOne scn (pr E[i])) => (show (Fi ++ F4).map dat = D ++ entsD scn ((E.map pr).take (i + 1)) by
                rw [List.map_append, hT.out, h4, List.take_succ_eq_append_getElem (by simpa using hiE), entsD_append, List.append_assoc]
                congr 2
                simp [entsD]))
              have HNZ := hid0 (fun (F4 : List Ent) (h4 : F4.map dat = entsOne scn (pr E[i])) => (show F4 ≠ [] from fun e => by
                have := congrArg List.length h4
                rw [List.length_map, e] at this
                unfold entsOne at this
                rw [List.length_replicate] at this
                have h0 : (pr E[i]).2 = E[i].n := rfl
                rw [h0] at this
                simp at this; omega))
              have HLN := hid0 (fun (F4 : List Ent) (h4 : F4.map dat = entsOne scn (pr E[i])) => (show (Fi.length + F4.length) * 40 ≤ 140737488355328 by
                have e1 := congrArg List.length hT.out
                have e2 := congrArg List.length h4
                rw [List.length_map] at e1 e2
                rw [List.length_append] at e1
                have e3 := entsD_len scn ((E.map pr).take i)
                have e4 := abs_take_le (E.map pr) i
                have e5 := HSM.out
                have e6 := HLD.out
                unfold entsOne at e2
                rw [List.length_replicate] at e2
                omega))
              clear hc1 hx hab hnz hT
              generalize E[i] = x at q0 q1 CE HNX HNZ HLN
              have HR := hid0 hR
              have hltB : w2.heap.size < wr.heap.size := hR.v8.v.lt
              clear hR
              go_wp2_with fail
              have hR := HR.out.box [.slice x.a x.r.length x.c, .int .i64 x.n]
              clear HR q0 q1
              generalize wr.alloc (Obj.cells #[.slice x.a x.r.length x.c, .int .i64 x.n] 46) = WX at hR ⊢
              generalize wr.heap.size = bx at hR ⊢
              refine wp_region_held_drew (S := (fun _ : World => True)) (by kernel_rfl) trivial (fun hHeld => ?_)
              have hR := hR.drew
              generalize WX.drew = WY at hR hHeld ⊢
              refine wpAnyH_take (i := 0) (v := ?_) rfl (by kernel_rfl) (by kernel_rfl) (by kernel_rfl) (fun _ _ _ h => h) (Or.inl ⟨by rfl, ?_⟩) (by assumption) ?_
              rotate_left
              · (intro wx hSw; go_simp; (try with_reducible rfl); (try omega))
              (try simp only [Act.put, List.setIfInBounds_toArray, List.set_cons_zero, List.set_cons_succ, List.getElem_toArray, List.getElem_cons_zero])
              refine wpAnyH_take (i := 2) (v := ?_) rfl (by kernel_rfl) (by kernel_rfl) (by kernel_rfl) (fun _ _ _ h => h) (Or.inl ⟨by rfl, ?_⟩) (by assumption) ?_
              rotate_left
              · (intro wx hSw; go_simp; (try with_reducible rfl); (try omega))
              (try simp only [Act.put, List.setIfInBounds_toArray, List.set_cons_zero, List.set_cons_succ, List.getElem_toArray, List.getElem_cons_zero, List.getElem_cons_succ])
              refine wpAnyH_ready (rs := [1, 3]) (by kernel_rfl) (by simp) ?_
              refine AllReadyH.cons rfl (fun K hK => ?_) ?_
              · (try simp only [Act.put, List.setIfInBounds_toArray, List.set_cons_zero, List.set_cons_succ, List.getElem_toArray, List.getElem_cons_zero, List.getElem_cons_succ])
                have e1 := hR.v8.v.cell 1 rfl
                go_simp
                refine hK.out _ _ trivial (fun hHeld => ?_)
                clear hK K
                (try simp only [Act.put, List.setIfInBounds_toArray, List.set_cons_zero, List.set_cons_succ, List.getElem_toArray, List.getElem_cons_zero, List.getElem_cons_succ])
                refine wpAnyH_ready (rs := [3]) (by kernel_rfl) (by simp) ?_
                refine AllReadyH.cons rfl (fun K hK => ?_) ?_
                · (try simp only [Act.put, List.setIfInBounds_toArray, List.set_cons_zero, List.set_cons_succ, List.getElem_toArray, List.getElem_cons_zero, List.getElem_cons_succ])
                  have b0 := hR.bx.v.cell 0 rfl
                  have b1 := hR.bx.v.cell 1 rfl
                  go_simp
                  refine hK.out _ _ trivial (fun hHeld => ?_)
                  clear hK K
                  (try simp only [Act.put, List.setIfInBounds_toArray, List.set_cons_zero, List.set_cons_succ, List.getElem_toArray, List.getElem_cons_zero, List.getElem_cons_succ])
                  refine wpAnyH_ready (rs := [4]) (by kernel_rfl) (by simp) ?_
                  refine AllReadyH.cons rfl (fun K hK => ?_) ?_
                  · (try simp only [Act.put, List.setIfInBounds_toArray, List.set_cons_zero, List.set_cons_succ, List.getElem_toArray, List.getElem_cons_zero, List.getElem_cons_succ])
                    go_simp
                    refine (CE.out _ hR.m.b).mono ?_
                    rintro e W4 ⟨v4, F4, rfl, hM4, hF4⟩
                    have hR := hR.below hM4.b
                    have HF4 := hid0 hF4
                    obtain ⟨b4, o4, c4, rfl, hC4⟩ := own_some hM4 (HNZ.out F4 hF4)
                    have HC4 := hid0 hC4
                    have HG4 := hid0 hM4.g
                    clear hF4 hM4 hC4
                    obtain ⟨n4, hn4⟩ : ∃ n4, F4.length = n4 := ⟨_, rfl⟩
                    have HN4 := hid0 hn4
                    rw [hn4]
                    clear hn4
                    refine hK.out _ _ trivial (fun hHeld => ?_)
                    clear hK K
                    (try simp only [Act.put, List.setIfInBounds_toArray, List.set_cons_zero, List.set_cons_succ, List.getElem_toArray, List.getElem_cons_zero, List.getElem_cons_succ])
                    refine wpAnyH_ready (rs := [5]) (by kernel_rfl) (by simp) ?_
                    refine AllReadyH.cons rfl (fun K hK => ?_) ?_
                    · refine step_appN (by rfl) _ _ (by rfl) (by rfl) hR.m F4 n4 HN4.out ⟨b4, o4, none⟩ c4 (by rfl) HC4.out HG4.out (HLN.out F4 HF4.out) ?_
                      intro v5 w5 hM5 hK5 _
                      have hR := hR.app hM5 hK5
                      obtain ⟨a5, c5, hv5, _, _⟩ := hM5.ents
                      obtain ⟨n5, hn5⟩ : ∃ n5, (Fi ++ F4).length = n5 := ⟨_, rfl⟩
                      rw [hn5] at hv5
                      subst hv5
                      clear hM5 hK5 hn5
                      refine hK.out _ _ trivial (fun hHeld => ?_)
                      clear hK K
                      (try simp only [Act.put, List.setIfInBounds_toArray, List.set_cons_zero, List.set_cons_succ, List.getElem_toArray, List.getElem_cons_zero, List.getElem_cons_succ])
                      refine wpAnyH_take (i := 6) (v := ?_) rfl (by kernel_rfl) (by kernel_rfl) (by kernel_rfl) (fun _ _ _ h => h) (Or.inl ⟨by rfl, ?_⟩) (by assumption) ?_
                      rotate_left
                      · (intro wx hSw; go_simp; (try with_reducible rfl); (try omega))
                      (try simp only [Act.put, List.setIfInBounds_toArray, List.set_cons_zero, List.set_cons_succ, List.getElem_toArray, List.getElem_cons_zero, List.getElem_cons_succ])
                      refine wpAnyH_ready (rs := [7]) (by kernel_rfl) (by simp) ?_
                      refine AllReadyH.cons rfl (fun K hK => ?_) ?_
                      · (try simp only [Act.put, List.getElem_toArray, List.getElem_cons_zero, List.getElem_cons_succ])
                        have e1 := hR.v8.v.cell 1 rfl
                        have f1 := hR.v8.v.frz 1 (by simp)
                        go_simp
                        refine hK.out _ _ trivial (fun hHeld => ?_)
                        clear hK K
                        (try simp only [Act.put, List.setIfInBounds_toArray, List.set_cons_zero, List.set_cons_succ, List.getElem_toArray, List.getElem_cons_zero, List.getElem_cons_succ])
                        refine wpAnyH_done (by kernel_rfl) ?_ _
                        have hZ := hR.stored (by omega)
                        have HZ := hid0 hZ
                        clear hZ hR hHeld
                        go_wp2
                        exact ⟨⟨i + 1, _, Fi ++ F4, by omega, by go_num, HZ.out, hid0 (HNX.out F4 HF4.out)⟩, by simp [intOf]; omega⟩
                      exact AllReadyH.nil
                    exact AllReadyH.nil
                  exact AllReadyH.nil
                exact AllReadyH.nil
              refine AllReadyH.cons rfl (fun K hK => ?_) ?_
              · (try simp only [Act.put, List.setIfInBounds_toArray, List.set_cons_zero, List.set_cons_succ, List.getElem_toArray, List.getElem_cons_zero, List.getElem_cons_succ])
                have b0 := hR.bx.v.cell 0 rfl
                have b1 := hR.bx.v.cell 1 rfl
                go_simp
                refine hK.out _ _ trivial (fun hHeld => ?_)
                clear hK K
                (try simp only [Act.put, List.setIfInBounds_toArray, List.set_cons_zero, List.set_cons_succ, List.getElem_toArray, List.getElem_cons_zero, List.getElem_cons_succ])
                refine wpAnyH_ready (rs := [1, 4]) (by kernel_rfl) (by simp) ?_
                refine AllReadyH.cons rfl (fun K hK => ?_) ?_
                · (try simp only [Act.put, List.setIfInBounds_toArray, List.set_cons_zero, List.set_cons_succ, List.getElem_toArray, List.getElem_cons_zero, List.getElem_cons_succ])
                  have e1 := hR.v8.v.cell 1 rfl
                  go_simp
                  refine hK.out _ _ trivial (fun hHeld => ?_)
                  clear hK K
                  (try simp only [Act.put, List.setIfInBounds_toArray, List.set_cons_zero, List.set_cons_succ, List.getElem_toArray, List.getElem_cons_zero, List.getElem_cons_succ])
                  refine wpAnyH_ready (rs := [4]) (by kernel_rfl) (by simp) ?_
                  refine AllReadyH.cons rfl (fun K hK => ?_) ?_
                  · (try simp only [Act.put, List.setIfInBounds_toArray, List.set_cons_zero, List.set_cons_succ, List.getElem_toArray, List.getElem_cons_zero, List.getElem_cons_succ])
                    go_simp
                    refine (CE.out _ hR.m.b).mono ?_
                    rintro e W4 ⟨v4, F4, rfl, hM4, hF4⟩
                    have hR := hR.below hM4.b
                    have HF4 := hid0 hF4
                    obtain ⟨b4, o4, c4, rfl, hC4⟩ := own_some hM4 (HNZ.out F4 hF4)
                    have HC4 := hid0 hC4
                    have HG4 := hid0 hM4.g
                    clear hF4 hM4 hC4
                    obtain ⟨n4, hn4⟩ : ∃ n4, F4.length = n4 := ⟨_, rfl⟩
                    have HN4 := hid0 hn4
                    rw [hn4]
                    clear hn4
                    refine hK.out _ _ trivial (fun hHeld => ?_)
                    clear hK K
                    (try simp only [Act.put, List.setIfInBounds_toArray, List.set_cons_zero, List.set_cons_succ, List.getElem_toArray, List.getElem_cons_zero, List.getElem_cons_succ])
                    refine wpAnyH_ready (rs := [5]) (by kernel_rfl) (by simp) ?_
                    refine AllReadyH.cons rfl (fun K hK => ?_) ?_
                    · refine step_appN (by rfl) _ _ (by rfl) (by rfl) hR.m F4 n4 HN4.out ⟨b4, o4, none⟩ c4 (by rfl) HC4.out HG4.out (HLN.out F4 HF4.out) ?_
                      intro v5 w5 hM5 hK5 _
                      have hR := hR.app hM5 hK5
                      obtain ⟨a5, c5, hv5, _, _⟩ := hM5.ents
                      obtain ⟨n5, hn5⟩ : ∃ n5, (Fi ++ F4).length = n5 := ⟨_, rfl⟩
                      rw [hn5] at hv5
                      subst hv5
                      clear hM5 hK5 hn5
                      refine hK.out _ _ trivial (fun hHeld => ?_)
                      clear hK K
                      (try simp only [Act.put, List.setIfInBounds_toArray, List.set_cons_zero, List.set_cons_succ, List.getElem_toArray, List.getElem_cons_zero, List.getElem_cons_succ])
                      refine wpAnyH_take (i := 6) (v := ?_) rfl (by kernel_rfl) (by kernel_rfl) (by kernel_rfl) (fun _ _ _ h => h) (Or.inl ⟨by rfl, ?_⟩) (by assumption) ?_
                      rotate_left
                      · (intro wx hSw; go_simp; (try with_reducible rfl); (try omega))
                      (try simp only [Act.put, List.setIfInBounds_toArray, List.set_cons_zero, List.set_cons_succ, List.getElem_toArray, List.getElem_cons_zero, List.getElem_cons_succ])
                      refine wpAnyH_ready (rs := [7]) (by kernel_rfl) (by simp) ?_
                      refine AllReadyH.cons rfl (fun K hK => ?_) ?_
                      · (try simp only [Act.put, List.getElem_toArray, List.getElem_cons_zero, List.getElem_cons_succ])
                        have e1 := hR.v8.v.cell 1 rfl
                        have f1 := hR.v8.v.frz 1 (by simp)
                        go_simp
                        refine hK.out _ _ trivial (fun hHeld => ?_)
                        clear hK K
                        (try simp only [Act.put, List.setIfInBounds_toArray, List.set_cons_zero, List.set_cons_succ, List.getElem_toArray, List.getElem_cons_zero, List.getElem_cons_succ])
                        refine wpAnyH_done (by kernel_rfl) ?_ _
                        have hZ := hR.stored (by omega)
                        have HZ := hid0 hZ
                        clear hZ hR hHeld
                        go_wp2
                        exact ⟨⟨i + 1, _, Fi ++ F4, by omega, by go_num, HZ.out, hid0 (HNX.out F4 HF4.out)⟩, by simp [intOf]; omega⟩
                      exact AllReadyH.nil
                    exact AllReadyH.nil
                  exact AllReadyH.nil
                refine AllReadyH.cons rfl (fun K hK => ?_) ?_
                · (try simp only [Act.put, List.setIfInBounds_toArray, List.set_cons_zero, List.set_cons_succ, List.getElem_toArray, List.getElem_cons_zero, List.getElem_cons_succ])
                  go_simp
                  refine (CE.out _ hR.m.b).mono ?_
                  rintro e W4 ⟨v4, F4, rfl, hM4, hF4⟩
                  have hR := hR.below hM4.b
                  have HF4 := hid0 hF4
                  obtain ⟨b4, o4, c4, rfl, hC4⟩ := own_some hM4 (HNZ.out F4 hF4)
                  have HC4 := hid0 hC4
                  have HG4 := hid0 hM4.g
                  clear hF4 hM4 hC4
                  obtain ⟨n4, hn4⟩ : ∃ n4, F4.length = n4 := ⟨_, rfl⟩
                  have HN4 := hid0 hn4
                  rw [hn4]
                  clear hn4
                  refine hK.out _ _ trivial (fun hHeld => ?_)
                  clear hK K
                  (try simp only [Act.put, List.setIfInBounds_toArray, List.set_cons_zero, List.set_cons_succ, List.getElem_toArray, List.getElem_cons_zero, List.getElem_cons_succ])
                  refine wpAnyH_ready (rs := [1]) (by kernel_rfl) (by simp) ?_
                  refine AllReadyH.cons rfl (fun K hK => ?_) ?_
                  · (try simp only [Act.put, List.setIfInBounds_toArray, List.set_cons_zero, List.set_cons_succ, List.getElem_toArray, List.getElem_cons_zero, List.getElem_cons_succ])
                    have e1 := hR.v8.v.cell 1 rfl
                    go_simp
                    refine hK.out _ _ trivial (fun hHeld => ?_)
                    clear hK K
                    (try simp only [Act.put, List.setIfInBounds_toArray, List.set_cons_zero, List.set_cons_succ, List.getElem_toArray, List.getElem_cons_zero, List.getElem_cons_succ])
                    refine wpAnyH_ready (rs := [5]) (by kernel_rfl) (by simp) ?_
                    refine AllReadyH.cons rfl (fun K hK => ?_) ?_
                    · refine step_appN (by rfl) _ _ (by rfl) (by rfl) hR.m F4 n4 HN4.out ⟨b4, o4, none⟩ c4 (by rfl) HC4.out HG4.out (HLN.out F4 HF4.out) ?_
                      intro v5 w5 hM5 hK5 _
                      have hR := hR.app hM5 hK5
                      obtain ⟨a5, c5, hv5, _, _⟩ := hM5.ents
                      obtain ⟨n5, hn5⟩ : ∃ n5, (Fi ++ F4).length = n5 := ⟨_, rfl⟩
                      rw [hn5] at hv5
                      subst hv5
                      clear hM5 hK5 hn5
                      refine hK.out _ _ trivial (fun hHeld => ?_)
                      clear hK K
                      (try simp only [Act.put, List.setIfInBounds_toArray, List.set_cons_zero, List.set_cons_succ, List.getElem_toArray, List.getElem_cons_zero, List.getElem_cons_succ])
                      refine wpAnyH_take (i := 6) (v := ?_) rfl (by kernel_rfl) (by kernel_rfl) (by kernel_rfl) (fun _ _ _ h => h) (Or.inl ⟨by rfl, ?_⟩) (by assumption) ?_
                      rotate_left
                      · (intro wx hSw; go_simp; (try with_reducible rfl); (try omega))
                      (try simp only [Act.put, List.setIfInBounds_toArray, List.set_cons_zero, List.set_cons_succ, List.getElem_toArray, List.getElem_cons_zero, List.getElem_cons_succ])
                      refine wpAnyH_ready (rs := [7]) (by kernel_rfl) (by simp) ?_
                      refine AllReadyH.cons rfl (fun K hK => ?_) ?_
                      · (try simp only [Act.put, List.getElem_toArray, List.getElem_cons_zero, List.getElem_cons_succ])
                        have e1 := hR.v8.v.cell 1 rfl
                        have f1 := hR.v8.v.frz 1 (by simp)
                        go_simp
                        refine hK.out _ _ trivial (fun hHeld => ?_)
                        clear hK K
                        (try simp only [Act.put, List.setIfInBounds_toArray, List.set_cons_zero, List.set_cons_succ, List.getElem_toArray, List.getElem_cons_zero, List.getElem_cons_succ])
                        refine wpAnyH_done (by kernel_rfl) ?_ _
                        have hZ := hR.stored (by omega)
                        have HZ := hid0 hZ
                        clear hZ hR hHeld
                        go_wp2
                        exact ⟨⟨i + 1, _, Fi ++ F4, by omega, by go_num, HZ.out, hid0 (HNX.out F4 HF4.out)⟩, by simp [intOf]; omega⟩
                      exact AllReadyH.nil
                    exact AllReadyH.nil
                  exact AllReadyH.nil
                exact AllReadyH.nil
              exact AllReadyH.nil
            · obtain rfl : i = m := by omega
              have e : (E.map pr).take i = E.map pr := List.take_of_length_le (by rw [List.length_map, HM.out]; exact Nat.le_refl _)
              rw [e] at hT
              obtain ⟨a9, c9, rfl, _, _⟩ := hR.m.ents
              have z0 := hR.v6.v.cell 0 rfl
              have z1 := hR.v6.v.cell 1 rfl
              have y0 := hR.v6.v.frz 0 (by simp)
              have y1 := hR.v6.v.frz 1 (by simp)
              have e0 := hR.v8.v.cell 0 rfl
              have e1 := hR.v8.v.cell 1 rfl
              have HR := hid0 hR
              clear hR
              go_wp2_with fail
              have hR := HR.out
              have hA := hR.m.apart hR.v6 (by decide)
              have hP := hR.m.puts hR.v6 (by omega) (by decide) hA [.int .i64 f, .slice a9 Fi.length c9]
              exact end_vt (hR.v6.v.puts [.int .i64 f, .slice a9 Fi.length c9] rfl) rfl rfl rfl _ Try.underlying24 rfl sizeLog rfl ⟨_, _, by rw [HMD.out]; rfl, hP, by rw [HMD.out]; exact hT.out⟩
end Go.Proofs.Ytadidikegfiedaa
