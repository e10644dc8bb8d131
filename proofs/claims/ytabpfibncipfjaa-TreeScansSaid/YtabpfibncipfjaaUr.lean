/- TreeRises: the keys of a tree rise, each is there, and they are as many as the tree says; those from a place on, and those below it, are all of them. Conditions: the steps' cells are known. -/
import Derived.Test.YtabpfibncipfjaaUn
import Derived.Deep.RegionHeld
namespace Go.Proofs.Ytabpfibncipfjaa
open Go.RowKit

theorem flt_all (L : List (Key × Int)) : flt [] [] L = L := by
  unfold flt
  rw [List.filter_eq_self]
  intro x _
  have : ¬ x.1 < ([] : Key) := by simp
  simp [inR]
theorem flt_two {at_ : Key} (ha : at_ ≠ []) : ∀ {L : List (Key × Int)}, Asc L → flt [] at_ L ++ flt at_ [] L = L
  | [], _ => rfl
  | x :: L, h => by
    have hx := List.pairwise_cons.1 h
    by_cases hlt : x.1 < at_
    · have e1 : flt [] at_ (x :: L) = x :: flt [] at_ L := by
        unfold flt
        rw [List.filter_cons_of_pos (by simp [inR, hlt])]
      have e2 : flt at_ [] (x :: L) = flt at_ [] L := by
        unfold flt
        rw [List.filter_cons_of_neg (by simp [inR, hlt])]
      rw [e1, e2, List.cons_append, flt_two ha hx.2]
    · have hall : ∀ y ∈ x :: L, ¬ y.1 < at_ := fun y hy => by
        rcases List.mem_cons.1 hy with rfl | hy
        · exact hlt
        · exact fun g => hlt (k_trans (hx.1 y hy) g)
      rw [flt_high hall ha, List.nil_append]
      unfold flt
      rw [List.filter_eq_self]
      intro y hy
      have := hall y hy
      simp [inR] at this ⊢
      exact this
theorem get_here {L : List (Key × Int)} {i : Nat} {x : Key × Int} (hx : L[i]? = some x) : hasO (getA x.1 L) = true := by
  have h1 := getA_has (k := x.1) (List.mem_of_getElem? hx) rfl
  cases hg : getA x.1 L with
  | none => exact absurd hg h1
  | some v => rfl
theorem bothGetB_any {w0 w : World} {tb ub o : Nat} {L : List (Key × Int)} (h : Both w0 w tb ub o L) (k : Key) :
    Calls Try.prog 24 #[.pointer (some ⟨tb, 0, none⟩), .string (txt k)] w fun e w' => e = .returned (.tuple #[ovI (getA k L), .bool (hasO (getA k L))]) ∧ Below w.heap.size w w' := by
  obtain ⟨vk, vv, hT, hR⟩ := h.out
  exact getI_any _ tb o L k w hT

/-- A row put behind another one, at an operation whose guard is met. -/
theorem wp_row7 {w : World} {ops : Array Oper} {rest : List Oper} {o : Oper} {a : Act} {Q : Exit → Act → World → Prop} (hw : Region.wanted o (yielded ops a.tmps) = true) (s x : Operand) (T e : TypeId) (z : Value) (bytes : Nat)
    (hinf : (Try.prog.info? e).map (fun i => (i.zero, i.size, i.bytes)) = some (some z, 1, bytes)) (hu : Try.prog.underlying T = some (.slice e)) (hz : z.cells.size = 1) (hby : bytes ≤ 64)
    (ho : o.op = .call { callee := .builtin .append, args := #[s, x], argTypes := #[T, T] })
    {v : Value} (hs : a.eval s = v) (base n : Nat) (xs : List Value) (hown : w.ownsRow base e 1 v n xs)
    (ad : Option Addr) (m c : Nat) (hx : a.eval x = .slice ad m c) (N : List Value) (hm : N.length = m) (hnews : PartAt w ad N) (h1 : ∀ u ∈ N, u.oneCell' = true)
    (hlen : n + m ≤ 3000) (hbase : base ≤ w.heap.size)
    (h : ∀ v' w', w'.ownsRow base e 1 v' (n + m) (xs ++ N) → w.grownBy w' v.ownBlock → Below base w w' → wpList Try.prog ops Q rest (a.put o.dst v') w') : wpList Try.prog ops Q (o :: rest) a w := by
  refine BigFrame.wpList_want hw (fun K hK => ?_)
  obtain ⟨i0, hi, hz0, hz1, hz2⟩ := info_parts hinf
  cases ad with
  | some ad =>
    refine wp_append_own w s x T ho base e i0 z 1 bytes hu hi hz0 hz1 hz2 hz (by decide) v n xs hs hown ad m c N hx (by omega) (fun j u hj => by obtain ⟨d, e, hc⟩ := hnews.2 j u hj; cases e; exact hc) h1 (by unfold maxLen; omega) (Nat.le_trans (Nat.mul_le_mul hlen hby) (by omega)) hbase ?_
    intro v' w' hown' hgrow _
    exact hK _ _ (h v' w' hown' hgrow ((Below.refl _ _).grown hgrow hbase (fun k hk => (hown.lt k hk).1)))
  | none =>
    have hN := hnews.1 rfl
    subst hN
    obtain rfl : m = 0 := by simpa using hm.symm
    obtain ⟨b, c', hv, hc'⟩ := own_shape hown
    have hr := run_append_nil7 (P := Try.prog) w T o.type e i0 hu hi b n c' c hc'
    rw [← hv] at hr
    unfold Oper.wp execOp
    simp only [ho, resolve, invoke, builtin, Sem.run_bind, Sem.run_pure, Result.andThen_ok, List.map_toArray, List.map_cons, List.map_nil, hs, hx, hr]
    exact hK _ _ (h v w (by simpa using hown) (World.grownBy.refl _ _) (Below.refl _ _))
theorem sk_flat : ∀ l : List Key, l.flatMap sk = l.map (fun x => Value.string (txt x))
  | [] => rfl
  | x :: l => by
    show [Value.string (txt x)] ++ l.flatMap sk = _
    rw [sk_flat l]; rfl
/-- A slice of keys as a part. -/
theorem part_sl {P : Nat → Prop} {w : World} {a : Option Addr} {n c : Nat} {l : List Key} (h : Sl 1 sk P w (.slice a n c) l) : PartAt w a (l.flatMap sk) := by
  have e := sk_flat l
  refine ⟨fun ha => ?_, fun j u hj => ?_⟩
  · cases l with
    | nil => rfl
    | cons x l =>
      obtain ⟨b, o, e, _, _⟩ := h.one (e1 := fun y => .string (txt y)) (i := 0) (x := x) rfl
      rw [ha] at e; cases e
  · rw [e, List.getElem?_map] at hj
    cases hx : l[j]? with
    | none => rw [hx] at hj; cases hj
    | some x =>
      rw [hx] at hj
      obtain rfl := Option.some.inj hj
      obtain ⟨b, o, e, _, hc⟩ := h.one (e1 := fun y => .string (txt y)) hx
      exact ⟨_, e, by rw [WideShapes.add_plain]; exact hc⟩
theorem sk_one (l : List Key) : ∀ u ∈ l.flatMap sk, u.oneCell' = true := by
  intro u hu
  obtain ⟨x, _, hx⟩ := List.mem_flatMap.1 hu
  simp [sk] at hx
  subst hx; rfl
theorem sk_all (l : List Key) : (l.flatMap sk).length = l.length := by rw [sk_flat, List.length_map]

set_option maxRecDepth 100000 in
set_option maxHeartbeats 8000000 in
theorem lawTreeRises (o : Int) (a : Option Addr) (c : Nat) (ops : List OpR) (at_ : Key) (w : World) (hops : OpsAt7 w a ops) :
    Calls Try.prog 8 #[.int .i64 o, .slice a ops.length c, .string (txt at_)] w fun e w' => e = .returned (.bool true) ∧ Below w.heap.size w w' := by
  have hlen := hops.len
  by_cases ho : o < 3 ∨ 64 < o
  · have CG := grown_no o a ops.length c w (by unfold maxLen; omega) ho
    clear hops
    go_enter Try.func8, Try.ntmps8
    go_wp2_with fail
    refine CG.mono ?_
    rintro e w' ⟨rfl, rfl⟩
    go_wp2_with (first
      | (go_at_call 10; refine (awakeT_any _).mono ?_; rintro e w2 ⟨rfl, hb⟩)
      | fail)
    go_ret
    exact ⟨rfl, hb⟩
  · obtain ⟨m, rfl⟩ : ∃ m : Nat, o = m := ⟨o.toNat, by omega⟩
    have CG := grown_yes m a c ops w (by omega) (by omega) hops
    clear hops
    obtain ⟨L, hL⟩ : ∃ L, playA (·.n) (ops.take 400) = L := ⟨_, rfl⟩
    rw [hL] at CG
    clear hL ho hlen
    go_enter Try.func8, Try.ntmps8
    go_wp2_with fail
    refine CG.mono ?_
    rintro e w1 ⟨tb, ub, rfl, hB, hl⟩
    have hasc : Asc L := by obtain ⟨_, _, hT, _⟩ := hB.out; exact hT.asc
    have HB := hid0 hB
    have HA := hid0 hasc
    have CK := bothKeys_any [] [] hB hl
    rw [flt_all] at CK
    clear CG hB hasc
    go_wp2_with fail
    go_at_call 12
    refine CK.mono ?_
    rintro e w2 ⟨⟨ka, kc, rfl, S2⟩, hb2⟩
    have HB2 := hid0 (HB.out.later hb2)
    have hml : (L.map (·.1)).length = L.length := List.length_map _
    rw [hml] at S2 ⊢
    have HS2 := hid0 S2
    obtain ⟨n, hn⟩ : ∃ n, L.length = n := ⟨_, rfl⟩
    rw [hn] at hl ⊢
    have HN := hid0 hn
    have hw12 : w1.heap.size ≤ w2.heap.size := hb2.size
    clear CK S2 hml hn
    go_wp2_with fail
    go_loopw [11] (fun iv wr => ∃ i : Nat, i ≤ n ∧ iv = .int .i64 i ∧ Below w2.heap.size w2 wr) (fun iv _ => n - (intOf iv).toNat)
    case atStart => exact ⟨0, Nat.zero_le _, rfl, Below.refl _ _⟩
    case round =>
      obtain ⟨i, hi, rfl, hBr⟩ := hrel
      have hbs := hBr.size
      by_cases hlt : i < n
      · have hii : (i : Int) < (n : Int) := by omega
        have hil : i < L.length := by have := HN.out; omega
        obtain ⟨x, hx⟩ : ∃ x, L[i]? = some x := ⟨_, List.getElem?_eq_getElem hil⟩
        have hks : (L.map (·.1))[i]? = some x.1 := by rw [List.getElem?_map, hx]; rfl
        have S3 := HS2.out
        rw [HN.out] at S3
        obtain ⟨kb, ko, rfl, -, q0⟩ := S3.one (e1 := fun y => .string (txt y)) hks
        have z0 := cell_later hBr q0
        have CGe := bothGetB_any (HB2.out.later hBr) x.1
        rw [get_here hx] at CGe
        have HBr := hid0 hBr
        clear q0 S3 hBr
        go_wp2_with fail
        refine CGe.mono ?_
        rintro e w3 ⟨rfl, hb3⟩
        have HB3 := hid0 (HBr.out.trans (hb3.mono hbs))
        have z1 := cell_later hb3 z0
        clear CGe z0
        by_cases h0 : i = 0
        · have q2 : decide ((0 : Int) < (i : Int)) = false := by simp; omega
          have hn0 : i < 1 := by omega
          clear h0
          go_wp2_with fail
          refine wp_region_held_drew (S := fun w' => w'.cell? ⟨kb, ko + i, none⟩ = some (.string (txt x.1))) (by kernel_rfl) z1 (fun hHeld => ?_)
          refine wpAnyH_take (i := 0) (v := ?_) rfl (by kernel_rfl) (by kernel_rfl) (by kernel_rfl) (fun _ _ _ h => h) (Or.inl ⟨by rfl, ?_⟩) (by assumption) ?_
          rotate_left
          · (intro wx hSw; (try dsimp only at hSw); go_split_ands; go_simp; (try with_reducible rfl); (try omega))
          (try simp only [Act.put, List.setIfInBounds_toArray, List.set_cons_zero, List.set_cons_succ, List.getElem_toArray, List.getElem_cons_zero])
          refine wpAnyH_take (i := 1) (v := .bool false) rfl (by kernel_rfl) (by kernel_rfl) (by kernel_rfl) (fun _ _ _ h => h) (Or.inl ⟨by rfl, ?_⟩) (by assumption) ?_
          · (intro wx hSw; (try dsimp only at hSw); go_split_ands; go_simp; (try with_reducible rfl); (try omega))
          (try simp only [Act.put, List.setIfInBounds_toArray, List.set_cons_zero, List.set_cons_succ, List.getElem_toArray, List.getElem_cons_zero, List.getElem_cons_succ])
          refine wpAnyH_take (i := 2) (v := .bool false) rfl (by kernel_rfl) (by kernel_rfl) (by kernel_rfl) (fun _ _ _ h => h) (Or.inl ⟨by rfl, ?_⟩) (by assumption) ?_
          · (intro wx hSw; (try dsimp only at hSw); go_split_ands; go_simp; (try with_reducible rfl); (try omega))
          (try simp only [Act.put, List.setIfInBounds_toArray, List.set_cons_zero, List.set_cons_succ, List.getElem_toArray, List.getElem_cons_zero, List.getElem_cons_succ])
          refine wpAnyH_take (i := 3) (v := ?_) rfl (by kernel_rfl) (by kernel_rfl) (by kernel_rfl) (fun _ _ _ h => h) (Or.inl ⟨by rfl, ?_⟩) (by assumption) ?_
          rotate_left
          · (intro wx hSw; (try dsimp only at hSw); go_split_ands; go_simp; (try with_reducible rfl); (try omega))
          (try simp only [Act.put, List.setIfInBounds_toArray, List.set_cons_zero, List.set_cons_succ, List.getElem_toArray, List.getElem_cons_zero, List.getElem_cons_succ])
          refine wpAnyH_take (i := 4) (v := .bool false) rfl (by kernel_rfl) (by kernel_rfl) (by kernel_rfl) (fun _ _ _ h => h) (Or.inl ⟨by rfl, ?_⟩) (by assumption) ?_
          · (intro wx hSw; (try dsimp only at hSw); go_split_ands; go_simp; (try with_reducible rfl); (try omega))
          (try simp only [Act.put, List.setIfInBounds_toArray, List.set_cons_zero, List.set_cons_succ, List.getElem_toArray, List.getElem_cons_zero, List.getElem_cons_succ])
          refine wpAnyH_take (i := 5) (v := .bool false) rfl (by kernel_rfl) (by kernel_rfl) (by kernel_rfl) (fun _ _ _ h => h) (Or.inl ⟨by rfl, ?_⟩) (by assumption) ?_
          · (intro wx hSw; (try dsimp only at hSw); go_split_ands; go_simp; (try with_reducible rfl); (try omega))
          (try simp only [Act.put, List.setIfInBounds_toArray, List.set_cons_zero, List.set_cons_succ, List.getElem_toArray, List.getElem_cons_zero, List.getElem_cons_succ])
          refine wpAnyH_take (i := 6) (v := undef) rfl (by kernel_rfl) (by kernel_rfl) (by kernel_rfl) (fun _ _ _ h => h) (Or.inr ⟨by rfl, rfl⟩) (by assumption) ?_
          (try simp only [Act.put, List.setIfInBounds_toArray, List.set_cons_zero, List.set_cons_succ, List.getElem_toArray, List.getElem_cons_zero, List.getElem_cons_succ])
          refine wpAnyH_take (i := 7) (v := undef) rfl (by kernel_rfl) (by kernel_rfl) (by kernel_rfl) (fun _ _ _ h => h) (Or.inr ⟨by rfl, rfl⟩) (by assumption) ?_
          (try simp only [Act.put, List.setIfInBounds_toArray, List.set_cons_zero, List.set_cons_succ, List.getElem_toArray, List.getElem_cons_zero, List.getElem_cons_succ])
          refine wpAnyH_take (i := 8) (v := undef) rfl (by kernel_rfl) (by kernel_rfl) (by kernel_rfl) (fun _ _ _ h => h) (Or.inr ⟨by rfl, rfl⟩) (by assumption) ?_
          (try simp only [Act.put, List.setIfInBounds_toArray, List.set_cons_zero, List.set_cons_succ, List.getElem_toArray, List.getElem_cons_zero, List.getElem_cons_succ])
          refine wpAnyH_take (i := 9) (v := undef) rfl (by kernel_rfl) (by kernel_rfl) (by kernel_rfl) (fun _ _ _ h => h) (Or.inr ⟨by rfl, rfl⟩) (by assumption) ?_
          (try simp only [Act.put, List.setIfInBounds_toArray, List.set_cons_zero, List.set_cons_succ, List.getElem_toArray, List.getElem_cons_zero, List.getElem_cons_succ])
          refine wpAnyH_take (i := 10) (v := undef) rfl (by kernel_rfl) (by kernel_rfl) (by kernel_rfl) (fun _ _ _ h => h) (Or.inr ⟨by rfl, rfl⟩) (by assumption) ?_
          (try simp only [Act.put, List.setIfInBounds_toArray, List.set_cons_zero, List.set_cons_succ, List.getElem_toArray, List.getElem_cons_zero, List.getElem_cons_succ])
          refine wpAnyH_take (i := 11) (v := undef) rfl (by kernel_rfl) (by kernel_rfl) (by kernel_rfl) (fun _ _ _ h => h) (Or.inr ⟨by rfl, rfl⟩) (by assumption) ?_
          (try simp only [Act.put, List.setIfInBounds_toArray, List.set_cons_zero, List.set_cons_succ, List.getElem_toArray, List.getElem_cons_zero, List.getElem_cons_succ])
          refine wpAnyH_take (i := 12) (v := undef) rfl (by kernel_rfl) (by kernel_rfl) (by kernel_rfl) (fun _ _ _ h => h) (Or.inr ⟨by rfl, rfl⟩) (by assumption) ?_
          (try simp only [Act.put, List.setIfInBounds_toArray, List.set_cons_zero, List.set_cons_succ, List.getElem_toArray, List.getElem_cons_zero, List.getElem_cons_succ])
          refine wpAnyH_take (i := 13) (v := undef) rfl (by kernel_rfl) (by kernel_rfl) (by kernel_rfl) (fun _ _ _ h => h) (Or.inr ⟨by rfl, rfl⟩) (by assumption) ?_
          (try simp only [Act.put, List.setIfInBounds_toArray, List.set_cons_zero, List.set_cons_succ, List.getElem_toArray, List.getElem_cons_zero, List.getElem_cons_succ])
          refine wpAnyH_take (i := 14) (v := undef) rfl (by kernel_rfl) (by kernel_rfl) (by kernel_rfl) (fun _ _ _ h => h) (Or.inr ⟨by rfl, rfl⟩) (by assumption) ?_
          (try simp only [Act.put, List.setIfInBounds_toArray, List.set_cons_zero, List.set_cons_succ, List.getElem_toArray, List.getElem_cons_zero, List.getElem_cons_succ])
          refine wpAnyH_take (i := 15) (v := undef) rfl (by kernel_rfl) (by kernel_rfl) (by kernel_rfl) (fun _ _ _ h => h) (Or.inr ⟨by rfl, rfl⟩) (by assumption) ?_
          (try simp only [Act.put, List.setIfInBounds_toArray, List.set_cons_zero, List.set_cons_succ, List.getElem_toArray, List.getElem_cons_zero, List.getElem_cons_succ])
          refine wpAnyH_take (i := 16) (v := .bool false) rfl (by kernel_rfl) (by kernel_rfl) (by kernel_rfl) (fun _ _ _ h => h) (Or.inl ⟨by rfl, ?_⟩) (by assumption) ?_
          · (intro wx hSw; (try dsimp only at hSw); go_split_ands; go_simp; (try with_reducible rfl); (try omega))
          (try simp only [Act.put, List.setIfInBounds_toArray, List.set_cons_zero, List.set_cons_succ, List.getElem_toArray, List.getElem_cons_zero, List.getElem_cons_succ])
          refine wpAnyH_take (i := 17) (v := .bool false) rfl (by kernel_rfl) (by kernel_rfl) (by kernel_rfl) (fun _ _ _ h => h) (Or.inl ⟨by rfl, ?_⟩) (by assumption) ?_
          · (intro wx hSw; (try dsimp only at hSw); go_split_ands; go_simp; (try with_reducible rfl); (try omega))
          (try simp only [Act.put, List.setIfInBounds_toArray, List.set_cons_zero, List.set_cons_succ, List.getElem_toArray, List.getElem_cons_zero, List.getElem_cons_succ])
          refine wpAnyH_done (by kernel_rfl) ?_ _
          clear hHeld
          go_wp2_with fail
          refine ⟨⟨i + 1, by omega, by go_num, ?_⟩, by simp [intOf]; omega⟩
          exact Below.drew HB3.out
        · obtain ⟨j, hj⟩ : ∃ j, j + 1 = i := ⟨i - 1, by omega⟩
          have q2 : decide ((0 : Int) < (i : Int)) = true := by simp; omega
          have hn0 : 0 < i := by omega
          have hjl : j < L.length := by omega
          obtain ⟨y, hy⟩ : ∃ y, L[j]? = some y := ⟨_, List.getElem?_eq_getElem hjl⟩
          have hlt2 : y.1 < x.1 := by
            obtain ⟨h1, e1⟩ := List.getElem?_eq_some_iff.1 hy
            obtain ⟨h2, e2⟩ := List.getElem?_eq_some_iff.1 hx
            rw [← e1, ← e2]
            exact List.pairwise_iff_getElem.1 HA.out j i h1 h2 (by omega)
          have hjs : (L.map (·.1))[j]? = some y.1 := by rw [List.getElem?_map, hy]; rfl
          obtain ⟨kb', ko', e', -, q0⟩ := HS2.out.one (e1 := fun y => .string (txt y)) hjs
          obtain ⟨rfl, rfl⟩ : kb = kb' ∧ ko = ko' := by simpa using e'
          have z2 := cell_later HB3.out q0
          have hbl : Op.bytesLess (txt y.1).toList (txt x.1).toList = true := by rw [less_key]; simpa using hlt2
          have hji : (j : Int) < (n : Int) := by omega
          have hwj : IntKind.i64.wrap ((i : Int) - 1) = (j : Int) := by rw [IntWalk.i64_in _ (by omega)]; omega
          clear h0 hj hlt2 hy hx hjs hks e' q0 hjl
          go_wp2_with fail
          refine wp_region_held_drew (S := fun w' => w'.cell? ⟨kb, ko + i, none⟩ = some (.string (txt x.1)) ∧ w'.cell? ⟨kb, ko + j, none⟩ = some (.string (txt y.1))) (by kernel_rfl) ⟨z1, z2⟩ (fun hHeld => ?_)
          refine wpAnyH_take (i := 0) (v := ?_) rfl (by kernel_rfl) (by kernel_rfl) (by kernel_rfl) (fun _ _ _ h => h) (Or.inl ⟨by rfl, ?_⟩) (by assumption) ?_
          rotate_left
          · (intro wx hSw; (try dsimp only at hSw); go_split_ands; go_simp; (try with_reducible rfl); (try omega))
          (try simp only [Act.put, List.setIfInBounds_toArray, List.set_cons_zero, List.set_cons_succ, List.getElem_toArray, List.getElem_cons_zero])
          refine wpAnyH_take (i := 1) (v := .bool false) rfl (by kernel_rfl) (by kernel_rfl) (by kernel_rfl) (fun _ _ _ h => h) (Or.inl ⟨by rfl, ?_⟩) (by assumption) ?_
          · (intro wx hSw; (try dsimp only at hSw); go_split_ands; go_simp; (try with_reducible rfl); (try omega))
          (try simp only [Act.put, List.setIfInBounds_toArray, List.set_cons_zero, List.set_cons_succ, List.getElem_toArray, List.getElem_cons_zero, List.getElem_cons_succ])
          refine wpAnyH_take (i := 2) (v := .bool false) rfl (by kernel_rfl) (by kernel_rfl) (by kernel_rfl) (fun _ _ _ h => h) (Or.inl ⟨by rfl, ?_⟩) (by assumption) ?_
          · (intro wx hSw; (try dsimp only at hSw); go_split_ands; go_simp; (try with_reducible rfl); (try omega))
          (try simp only [Act.put, List.setIfInBounds_toArray, List.set_cons_zero, List.set_cons_succ, List.getElem_toArray, List.getElem_cons_zero, List.getElem_cons_succ])
          refine wpAnyH_take (i := 3) (v := ?_) rfl (by kernel_rfl) (by kernel_rfl) (by kernel_rfl) (fun _ _ _ h => h) (Or.inl ⟨by rfl, ?_⟩) (by assumption) ?_
          rotate_left
          · (intro wx hSw; (try dsimp only at hSw); go_split_ands; go_simp; (try with_reducible rfl); (try omega))
          (try simp only [Act.put, List.setIfInBounds_toArray, List.set_cons_zero, List.set_cons_succ, List.getElem_toArray, List.getElem_cons_zero, List.getElem_cons_succ])
          refine wpAnyH_take (i := 4) (v := .bool true) rfl (by kernel_rfl) (by kernel_rfl) (by kernel_rfl) (fun _ _ _ h => h) (Or.inl ⟨by rfl, ?_⟩) (by assumption) ?_
          · (intro wx hSw; (try dsimp only at hSw); go_split_ands; go_simp; (try with_reducible rfl); (try omega))
          (try simp only [Act.put, List.setIfInBounds_toArray, List.set_cons_zero, List.set_cons_succ, List.getElem_toArray, List.getElem_cons_zero, List.getElem_cons_succ])
          refine wpAnyH_take (i := 5) (v := .bool true) rfl (by kernel_rfl) (by kernel_rfl) (by kernel_rfl) (fun _ _ _ h => h) (Or.inl ⟨by rfl, ?_⟩) (by assumption) ?_
          · (intro wx hSw; (try dsimp only at hSw); go_split_ands; go_simp; (try with_reducible rfl); (try omega))
          (try simp only [Act.put, List.setIfInBounds_toArray, List.set_cons_zero, List.set_cons_succ, List.getElem_toArray, List.getElem_cons_zero, List.getElem_cons_succ])
          refine wpAnyH_take (i := 6) (v := ?_) rfl (by kernel_rfl) (by kernel_rfl) (by kernel_rfl) (fun _ _ _ h => h) (Or.inl ⟨by rfl, ?_⟩) (by assumption) ?_
          rotate_left
          · (intro wx hSw; (try dsimp only at hSw); go_split_ands; go_simp; (try with_reducible rfl); (try omega))
          (try simp only [Act.put, List.setIfInBounds_toArray, List.set_cons_zero, List.set_cons_succ, List.getElem_toArray, List.getElem_cons_zero, List.getElem_cons_succ])
          refine wpAnyH_take (i := 7) (v := ?_) rfl (by kernel_rfl) (by kernel_rfl) (by kernel_rfl) (fun _ _ _ h => h) (Or.inl ⟨by rfl, ?_⟩) (by assumption) ?_
          rotate_left
          · (intro wx hSw; (try dsimp only at hSw); go_split_ands; go_simp; (try with_reducible rfl); (try omega))
          (try simp only [Act.put, List.setIfInBounds_toArray, List.set_cons_zero, List.set_cons_succ, List.getElem_toArray, List.getElem_cons_zero, List.getElem_cons_succ])
          refine wpAnyH_take (i := 8) (v := ?_) rfl (by kernel_rfl) (by kernel_rfl) (by kernel_rfl) (fun _ _ _ h => h) (Or.inl ⟨by rfl, ?_⟩) (by assumption) ?_
          rotate_left
          · (intro wx hSw; (try dsimp only at hSw); go_split_ands; go_simp; (try with_reducible rfl); (try omega))
          (try simp only [Act.put, List.setIfInBounds_toArray, List.set_cons_zero, List.set_cons_succ, List.getElem_toArray, List.getElem_cons_zero, List.getElem_cons_succ])
          refine wpAnyH_take (i := 9) (v := ?_) rfl (by kernel_rfl) (by kernel_rfl) (by kernel_rfl) (fun _ _ _ h => h) (Or.inl ⟨by rfl, ?_⟩) (by assumption) ?_
          rotate_left
          · (intro wx hSw; (try dsimp only at hSw); go_split_ands; go_simp; (try with_reducible rfl); (try omega))
          (try simp only [Act.put, List.setIfInBounds_toArray, List.set_cons_zero, List.set_cons_succ, List.getElem_toArray, List.getElem_cons_zero, List.getElem_cons_succ])
          refine wpAnyH_take (i := 10) (v := ?_) rfl (by kernel_rfl) (by kernel_rfl) (by kernel_rfl) (fun _ _ _ h => h) (Or.inl ⟨by rfl, ?_⟩) (by assumption) ?_
          rotate_left
          · (intro wx hSw; (try dsimp only at hSw); go_split_ands; go_simp; (try with_reducible rfl); (try omega))
          (try simp only [Act.put, List.setIfInBounds_toArray, List.set_cons_zero, List.set_cons_succ, List.getElem_toArray, List.getElem_cons_zero, List.getElem_cons_succ])
          refine wpAnyH_take (i := 11) (v := ?_) rfl (by kernel_rfl) (by kernel_rfl) (by kernel_rfl) (fun _ _ _ h => h) (Or.inl ⟨by rfl, ?_⟩) (by assumption) ?_
          rotate_left
          · (intro wx hSw; (try dsimp only at hSw); go_split_ands; go_simp; (try with_reducible rfl); (try omega))
          (try simp only [Act.put, List.setIfInBounds_toArray, List.set_cons_zero, List.set_cons_succ, List.getElem_toArray, List.getElem_cons_zero, List.getElem_cons_succ])
          refine wpAnyH_take (i := 12) (v := ?_) rfl (by kernel_rfl) (by kernel_rfl) (by kernel_rfl) (fun _ _ _ h => h) (Or.inl ⟨by rfl, ?_⟩) (by assumption) ?_
          rotate_left
          · (intro wx hSw; (try dsimp only at hSw); go_split_ands; go_simp; (try with_reducible rfl); (try omega))
          (try simp only [Act.put, List.setIfInBounds_toArray, List.set_cons_zero, List.set_cons_succ, List.getElem_toArray, List.getElem_cons_zero, List.getElem_cons_succ])
          refine wpAnyH_take (i := 13) (v := ?_) rfl (by kernel_rfl) (by kernel_rfl) (by kernel_rfl) (fun _ _ _ h => h) (Or.inl ⟨by rfl, ?_⟩) (by assumption) ?_
          rotate_left
          · (intro wx hSw; (try dsimp only at hSw); go_split_ands; go_simp; (try with_reducible rfl); (try omega))
          (try simp only [Act.put, List.setIfInBounds_toArray, List.set_cons_zero, List.set_cons_succ, List.getElem_toArray, List.getElem_cons_zero, List.getElem_cons_succ])
          refine wpAnyH_take (i := 14) (v := ?_) rfl (by kernel_rfl) (by kernel_rfl) (by kernel_rfl) (fun _ _ _ h => h) (Or.inl ⟨by rfl, ?_⟩) (by assumption) ?_
          rotate_left
          · (intro wx hSw; (try dsimp only at hSw); go_split_ands; go_simp; (try with_reducible rfl); (try omega))
          (try simp only [Act.put, List.setIfInBounds_toArray, List.set_cons_zero, List.set_cons_succ, List.getElem_toArray, List.getElem_cons_zero, List.getElem_cons_succ])
          refine wpAnyH_take (i := 15) (v := .bool false) rfl (by kernel_rfl) (by kernel_rfl) (by kernel_rfl) (fun _ _ _ h => h) (Or.inl ⟨by rfl, ?_⟩) (by assumption) ?_
          · (intro wx hSw; (try dsimp only at hSw); go_split_ands; go_simp; (try with_reducible rfl); (try omega))
          (try simp only [Act.put, List.setIfInBounds_toArray, List.set_cons_zero, List.set_cons_succ, List.getElem_toArray, List.getElem_cons_zero, List.getElem_cons_succ])
          refine wpAnyH_take (i := 16) (v := .bool false) rfl (by kernel_rfl) (by kernel_rfl) (by kernel_rfl) (fun _ _ _ h => h) (Or.inl ⟨by rfl, ?_⟩) (by assumption) ?_
          · (intro wx hSw; (try dsimp only at hSw); go_split_ands; go_simp; (try with_reducible rfl); (try omega))
          (try simp only [Act.put, List.setIfInBounds_toArray, List.set_cons_zero, List.set_cons_succ, List.getElem_toArray, List.getElem_cons_zero, List.getElem_cons_succ])
          refine wpAnyH_take (i := 17) (v := .bool false) rfl (by kernel_rfl) (by kernel_rfl) (by kernel_rfl) (fun _ _ _ h => h) (Or.inl ⟨by rfl, ?_⟩) (by assumption) ?_
          · (intro wx hSw; (try dsimp only at hSw); go_split_ands; go_simp; (try with_reducible rfl); (try omega))
          (try simp only [Act.put, List.setIfInBounds_toArray, List.set_cons_zero, List.set_cons_succ, List.getElem_toArray, List.getElem_cons_zero, List.getElem_cons_succ])
          refine wpAnyH_done (by kernel_rfl) ?_ _
          clear hHeld
          go_wp2_with fail
          clear hwj
          refine ⟨⟨i + 1, by omega, by go_num, ?_⟩, by simp [intOf]; omega⟩
          exact Below.drew HB3.out
      · obtain rfl : i = n := by omega
        have hii : ¬ (i : Int) < (i : Int) := by omega
        have HBr := hid0 (HB2.out.later hBr)
        have CL := bothKeys_any [] at_ HBr.out (by have := HN.out; omega)
        have tl := txt_nil (to := at_)
        have HKr := hid0 ((HS2.out.weak (Q := fun b => b < w2.heap.size) (fun b _ h => h) (fun x => by simp [sk])).later hBr)
        clear hBr
        by_cases ha : at_ = []
        · have hTW := show ([] : List Key) ++ (flt at_ [] L).map (·.1) = L.map (·.1) by rw [ha, flt_all]; rfl
          have b3 : (txt at_).toList.isEmpty = true := by rw [tl]; simpa using ha
          have b4 : (txt at_).toList = [] := by rw [tl]; exact ha
          have hll : ((flt [] at_ L).map (·.1)).length ≤ 400 := by rw [List.length_map]; exact Nat.le_trans (List.length_filter_le _ _) (by have := HN.out; omega)
          have hlh : ((flt at_ [] L).map (·.1)).length ≤ 400 := by rw [List.length_map]; exact Nat.le_trans (List.length_filter_le _ _) (by have := HN.out; omega)
          have CH0 := fun W (hW : Both w W tb ub m L) => bothKeys_any at_ [] hW (by have := HN.out; omega)
          obtain ⟨lo, hlo⟩ : ∃ lo, (flt [] at_ L).map (·.1) = lo := ⟨_, rfl⟩
          obtain ⟨hi_, hhi⟩ : ∃ hi_, (flt at_ [] L).map (·.1) = hi_ := ⟨_, rfl⟩
          rw [hlo] at CL hll
          rw [hhi] at CH0 hlh hTW
          have HTW := hid0 hTW
          have HCH := hid0 CH0
          clear tl hlo hhi ha hTW CH0
          go_wp2_with fail
          refine CL.mono ?_
          rintro e w3 ⟨⟨la, lc, rfl, S3⟩, hb3⟩
          have HB3 := hid0 (HBr.out.later hb3)
          have HK3 := hid0 ((HKr.out.later hb3))
          have hw23 : w2.heap.size ≤ w3.heap.size := Nat.le_trans hbs hb3.size
          clear S3 hll
          clear CL
          go_wp2_with fail
          go_at_call 10
          refine (awakeT_any _).mono ?_
          rintro e w4 ⟨rfl, hb4⟩
          have HB4 := hid0 (HB3.out.later hb4)
          have HK4 := hid0 (HK3.out.later hb4)
          have hw24 : w2.heap.size ≤ w4.heap.size := Nat.le_trans hw23 hb4.size
          have P4 : ∀ o, PartAt (w4.alloc o) none (([] : List Key).flatMap sk) := fun o => ⟨fun _ => rfl, fun j u hj => by simp at hj⟩
          have CLe := bothLen_any HB4.out
          rw [HN.out] at CLe
          go_wp2_with fail
          go_at_call 17
          refine CLe.mono ?_
          rintro e w5 ⟨rfl, rfl⟩
          have M4 := made7 w4 w4.heap.size 9 (Nat.le_refl _)
          go_wp2_with (at_builtin; refine wp_row7 (by rfl) _ _ 29 9 _ _ infoS (by rfl) (by rfl) (by decide) (by rfl) (by rfl) w4.heap.size 0 [] M4 none 0 0 (by rfl) (([] : List Key).flatMap sk) (sk_all _) (P4 _) (sk_one _) (by omega) (by simp) ?_)
          intro v6 w6 hown6 _ hb6
          have hb46 : Below w4.heap.size w4 w6 := ((Below.refl _ _).alloc (Nat.le_refl _) _).trans hb6
          have HB6 := hid0 (HB4.out.later hb46)
          have HK6 := hid0 (HK4.out.later hb46)
          have CH := HCH.out w6 HB6.out
          have HO6 := hid0 hown6
          clear P4 M4 hown6 hb6 CLe
          go_wp2_with fail
          go_at_call 12
          refine CH.mono ?_
          rintro e w7 ⟨⟨xa, xc, rfl, S7⟩, hb7⟩
          have P7 := part_sl S7
          have hown7 := own_below7 HO6.out hb7
          have HB7 := hid0 (HB6.out.later hb7)
          have HK7 := hid0 (HK6.out.later hb7)
          have hw47 : w4.heap.size ≤ w7.heap.size := Nat.le_trans hb46.size hb7.size
          clear CH S7
          go_wp2_with (at_builtin; refine wp_row7 (by rfl) _ _ 29 9 _ _ infoS (by rfl) (by rfl) (by decide) (by rfl) (by rfl) w4.heap.size _ _ hown7 xa hi_.length xc (by rfl) (hi_.flatMap sk) (sk_all _) P7 (sk_one _) (by omega) hw47 ?_)
          intro v8 w8 hown8 _ hb8
          have hS8 : Sl 1 sk (fun b => w4.heap.size ≤ b) w8 v8 (L.map (·.1)) := by
            rw [← HTW.out]
            refine Sl.of_own sk_len (e := 9) (n := 0 + 0 + hi_.length) ?_ (by simp)
            rw [List.flatMap_append]
            simpa using hown8
          obtain ⟨a8, n8, c8, rfl⟩ := hS8.shape
          have hn8 := hS8.len.1
          rw [List.length_map, HN.out] at hn8
          subst hn8
          have hK8 : Sl 1 sk (fun b => b < w2.heap.size) w8 (.slice ka n8 kc) (L.map (·.1)) := by
            have h7 := HK7.out
            rw [HN.out] at h7
            exact h7.keep (fun b o u hb hc => (hb8.cell (p := ⟨b, o, none⟩) (Nat.lt_of_lt_of_le hb hw24)).trans hc)
          have CS := same_yes _ _ a8 ka n8 c8 kc (L.map (·.1)) w8 hS8 hK8 (by omega)
          have B8 := HB7.out.keep.trans (hb8.mono HB4.out.keep.size)
          clear hown8 hown7 P7 hS8 hK8
          go_wp2_with fail
          refine CS.mono ?_
          rintro e w9 ⟨rfl, hb9⟩
          go_wp2_with fail
          go_ret
          exact ⟨rfl, below_through hb9 B8.size B8⟩
        · have hTW := show (flt [] at_ L).map (·.1) ++ (flt at_ [] L).map (·.1) = L.map (·.1) by rw [← List.map_append, flt_two ha HA.out]
          have b3 : (txt at_).toList.isEmpty = false := by rw [tl]; simpa using ha
          have b4 : ¬ (txt at_).toList = [] := by rw [tl]; exact ha
          have hll : ((flt [] at_ L).map (·.1)).length ≤ 400 := by rw [List.length_map]; exact Nat.le_trans (List.length_filter_le _ _) (by have := HN.out; omega)
          have hlh : ((flt at_ [] L).map (·.1)).length ≤ 400 := by rw [List.length_map]; exact Nat.le_trans (List.length_filter_le _ _) (by have := HN.out; omega)
          have CH0 := fun W (hW : Both w W tb ub m L) => bothKeys_any at_ [] hW (by have := HN.out; omega)
          obtain ⟨lo, hlo⟩ : ∃ lo, (flt [] at_ L).map (·.1) = lo := ⟨_, rfl⟩
          obtain ⟨hi_, hhi⟩ : ∃ hi_, (flt at_ [] L).map (·.1) = hi_ := ⟨_, rfl⟩
          rw [hlo] at CL hll hTW
          rw [hhi] at CH0 hlh hTW
          have HTW := hid0 hTW
          have HCH := hid0 CH0
          clear tl hlo hhi ha hTW CH0
          go_wp2_with fail
          refine CL.mono ?_
          rintro e w3 ⟨⟨la, lc, rfl, S3⟩, hb3⟩
          have HB3 := hid0 (HBr.out.later hb3)
          have HK3 := hid0 ((HKr.out.later hb3))
          have hw23 : w2.heap.size ≤ w3.heap.size := Nat.le_trans hbs hb3.size
          have HS3 := hid0 S3
          clear S3
          clear CL
          go_wp2_with fail
          go_at_call 10
          refine (awakeT_any _).mono ?_
          rintro e w4 ⟨rfl, hb4⟩
          have HB4 := hid0 (HB3.out.later hb4)
          have HK4 := hid0 (HK3.out.later hb4)
          have hw24 : w2.heap.size ≤ w4.heap.size := Nat.le_trans hw23 hb4.size
          have P4 : ∀ o, PartAt (w4.alloc o) la (lo.flatMap sk) := fun o => part_sl ((HS3.out.later hb4).alloc o)
          have CLe := bothLen_any HB4.out
          rw [HN.out] at CLe
          go_wp2_with fail
          go_at_call 17
          refine CLe.mono ?_
          rintro e w5 ⟨rfl, rfl⟩
          have M4 := made7 w4 w4.heap.size 9 (Nat.le_refl _)
          go_wp2_with (at_builtin; refine wp_row7 (by rfl) _ _ 29 9 _ _ infoS (by rfl) (by rfl) (by decide) (by rfl) (by rfl) w4.heap.size 0 [] M4 la lo.length lc (by rfl) (lo.flatMap sk) (sk_all _) (P4 _) (sk_one _) (by omega) (by simp) ?_)
          intro v6 w6 hown6 _ hb6
          have hb46 : Below w4.heap.size w4 w6 := ((Below.refl _ _).alloc (Nat.le_refl _) _).trans hb6
          have HB6 := hid0 (HB4.out.later hb46)
          have HK6 := hid0 (HK4.out.later hb46)
          have CH := HCH.out w6 HB6.out
          have HO6 := hid0 hown6
          clear P4 M4 hown6 hb6 CLe
          go_wp2_with fail
          go_at_call 12
          refine CH.mono ?_
          rintro e w7 ⟨⟨xa, xc, rfl, S7⟩, hb7⟩
          have P7 := part_sl S7
          have hown7 := own_below7 HO6.out hb7
          have HB7 := hid0 (HB6.out.later hb7)
          have HK7 := hid0 (HK6.out.later hb7)
          have hw47 : w4.heap.size ≤ w7.heap.size := Nat.le_trans hb46.size hb7.size
          clear CH S7
          go_wp2_with (at_builtin; refine wp_row7 (by rfl) _ _ 29 9 _ _ infoS (by rfl) (by rfl) (by decide) (by rfl) (by rfl) w4.heap.size _ _ hown7 xa hi_.length xc (by rfl) (hi_.flatMap sk) (sk_all _) P7 (sk_one _) (by omega) hw47 ?_)
          intro v8 w8 hown8 _ hb8
          have hS8 : Sl 1 sk (fun b => w4.heap.size ≤ b) w8 v8 (L.map (·.1)) := by
            rw [← HTW.out]
            refine Sl.of_own sk_len (e := 9) (n := 0 + lo.length + hi_.length) ?_ (by simp)
            rw [List.flatMap_append]
            simpa using hown8
          obtain ⟨a8, n8, c8, rfl⟩ := hS8.shape
          have hn8 := hS8.len.1
          rw [List.length_map, HN.out] at hn8
          subst hn8
          have hK8 : Sl 1 sk (fun b => b < w2.heap.size) w8 (.slice ka n8 kc) (L.map (·.1)) := by
            have h7 := HK7.out
            rw [HN.out] at h7
            exact h7.keep (fun b o u hb hc => (hb8.cell (p := ⟨b, o, none⟩) (Nat.lt_of_lt_of_le hb hw24)).trans hc)
          have CS := same_yes _ _ a8 ka n8 c8 kc (L.map (·.1)) w8 hS8 hK8 (by omega)
          have B8 := HB7.out.keep.trans (hb8.mono HB4.out.keep.size)
          clear hown8 hown7 P7 hS8 hK8
          go_wp2_with fail
          refine CS.mono ?_
          rintro e w9 ⟨rfl, hb9⟩
          go_wp2_with fail
          go_ret
          exact ⟨rfl, below_through hb9 B8.size B8⟩
end Go.Proofs.Ytabpfibncipfjaa
