/- Two expressions that are alike, compared by the reference: true: a contract of the call. Conditions: their cells are known. -/
import Derived.Test.YtolcebbpbihnoaaAd
import Derived.Test.YtolcebbpbihnoaaYm
namespace Go.Proofs.Ytolcebbpbihnoaa
open Go.RowKit

/-- The two that are compared are alike: true is answered. -/
def Yes (w : World) (e : Ending) (w' : World) : Prop := e = .returned (.bool true) ∧ Below w.heap.size w w'
structure ScHalf (w : World) (x y : Cx) : Prop where
  out : ∀ W, Below w.heap.size w W → Calls Try.prog 44 #[x.val, y.val] W (Yes W)
structure ScOk (n : Nat) : Prop where
  out : ∀ (m : Nat) (x y : Cx) (w : World), CxAt w n x → CxAt w m y → datC x = datC y → Calls Try.prog 44 #[x.val, y.val] w (Yes w)
theorem row_arg {w : World} {m : Nat} {p : Option Addr} {us : List (List Value)} (h : RowC w m p us) (i : Nat) (hi : i < us.length) : ∃ b o, p = some ⟨b, o, none⟩ ∧ b < w.heap.size ∧ w.rangeAt b (o + i * m) us[i] := h.out i hi
set_option maxHeartbeats 16000000 in
set_option maxRecDepth 1000000 in
theorem sameC_step {n m : Nat} (IH : ScOk n) (k a : Int) (v : Val) (p : Option Addr) (c : Nat) (ys : List Cx) (p' : Option Addr) (c' : Nat) (ys' : List Cx) (w : World) (hx : CxAt w (n + 1) (.mk k a v p c ys)) (hy : CxAt w (m + 1) (.mk k a v p' c' ys')) (hd : datL ys = datL ys') :
    Calls Try.prog 44 #[(Cx.mk k a v p c ys).val, (Cx.mk k a v p' c' ys').val] w (Yes w) := by
  have hN := (datL_len hd).symm
  have H : ∀ j (h1 : j < ys.length) (h2 : j < ys'.length), ScHalf w ys[j] ys'[j] := fun j h1 h2 => ⟨fun W hb => IH.out m _ _ W ((hx.2 _ (List.getElem_mem h1)).later hb) ((hy.2 _ (List.getElem_mem h2)).later hb) (datL_get hd j h1 h2)⟩
  have HH := hid0 H
  have HK := hid0 hx.1
  have HK' := hid0 hy.1
  have hroom := hx.1.room
  clear IH hx hy H hd
  dsimp only [Cx.val, Cx.cells]
  rw [hN]
  have HN := hid0 hN
  obtain ⟨N, hNN⟩ : ∃ N, ys.length = N := ⟨_, rfl⟩
  rw [hNN] at hroom ⊢
  have HM := hid0 hNN
  clear hN hNN
  obtain ⟨VA, VB⟩ := VarB.two (w := w) [.int .i64 k, .int .i64 a, .int .i64 v.k, .int .i64 v.n, .string v.s, .slice p N c] [.int .i64 k, .int .i64 a, .int .i64 v.k, .int .i64 v.n, .string v.s, .slice p' N c'] 26 26
  have hB0 : Below w.heap.size w ((w.alloc (.cells #[.int .i64 k, .int .i64 a, .int .i64 v.k, .int .i64 v.n, .string v.s, .slice p N c] 26)).alloc (.cells #[.int .i64 k, .int .i64 a, .int .i64 v.k, .int .i64 v.n, .string v.s, .slice p' N c'] 26)) := ((Below.refl _ _).alloc (Nat.le_refl _) _).alloc (by simp) _
  have HS : Hid (AwS w w.heap.size (w.heap.size + 1) [.int .i64 k, .int .i64 a, .int .i64 v.k, .int .i64 v.n, .string v.s, .slice p N c] [.int .i64 k, .int .i64 a, .int .i64 v.k, .int .i64 v.n, .string v.s, .slice p' N c'] _) := hid0 ⟨VA, VB, hB0⟩
  have a0 := VA.cell 0 rfl
  have b0 := VB.cell 0 rfl
  have a1 := VA.cell 1 rfl
  have b1 := VB.cell 1 rfl
  have a2 := VA.cell 2 rfl
  have b2 := VB.cell 2 rfl
  have a3 := VA.cell 3 rfl
  have b3 := VB.cell 3 rfl
  have a4 := VA.cell 4 rfl
  have b4 := VB.cell 4 rfl
  have a5 := VA.cell 5 rfl
  have b5 := VB.cell 5 rfl
  have nk : (k != k) = false := by simp
  have na : (a != a) = false := by simp
  have nl : ((N : Int) != (N : Int)) = false := by simp
  have nv : ∀ W, (binOp .neq 23 (.agg #[.int .i64 v.k, .int .i64 v.n, .string v.s]) (.agg #[.int .i64 v.k, .int .i64 v.n, .string v.s])).run Try.prog W = .ok (.bool false) W := fun W => by
    rw [neq23, (sameV_iff v.k v.n v.s v.k v.n v.s).2 ⟨rfl, rfl, rfl⟩]; rfl
  clear VA VB hB0
  go_enter Try.func44, Try.ntmps44
  go_wp2_with fail
  clear a0 b0 a1 b1 a2 b2 a3 b3 a4 b4 a5 b5 nk na nl nv
  go_loopw [5] (fun iv wr => ∃ j : Nat, j ≤ N ∧ iv = .int .i64 j ∧ AwS w w.heap.size (w.heap.size + 1) [.int .i64 k, .int .i64 a, .int .i64 v.k, .int .i64 v.n, .string v.s, .slice p N c] [.int .i64 k, .int .i64 a, .int .i64 v.k, .int .i64 v.n, .string v.s, .slice p' N c'] wr) (fun iv _ => N - (intOf iv).toNat)
  case atStart => exact ⟨0, Nat.zero_le _, rfl, HS.out⟩
  case round =>
    obtain ⟨j, hj, rfl, hS⟩ := hrel
    have a5 := hS.t.cell 5 rfl
    have b5 := hS.u.cell 5 rfl
    by_cases hlt : j < N
    · have g0 : decide ((j : Int) < (N : Int)) = true := by simpa using hlt
      have h1 : j < ys.length := by rw [HM.out]; exact hlt
      have h2 : j < ys'.length := by rw [HN.out, HM.out]; exact hlt
      have H := HH.out j h1 h2
      obtain ⟨b1, o1, rfl, hb1, hX1⟩ := HK.out.arg j h1
      obtain ⟨b2, o2, rfl, hb2, hX2⟩ := HK'.out.arg j h2
      generalize ys[j] = t1 at H hX1
      generalize ys'[j] = t2 at H hX2
      obtain ⟨kf, af, vf, pf, cf, yf⟩ := t1
      obtain ⟨kg, ag, vg, pg, cg, yg⟩ := t2
      clear h1 h2
      have hSh := hid0 hS
      clear hS
      go_wp2_with fail
      have hS := hSh.out.drew
      clear hSh a5 b5
      refine wp_region_held_drew (S := AwS w w.heap.size (w.heap.size + 1) [.int .i64 k, .int .i64 a, .int .i64 v.k, .int .i64 v.n, .string v.s, .slice (some ⟨b1, o1, none⟩) N c] [.int .i64 k, .int .i64 a, .int .i64 v.k, .int .i64 v.n, .string v.s, .slice (some ⟨b2, o2, none⟩) N c']) (by kernel_rfl) hS (fun hHeld => ?_)
      refine wpAnyH_take (i := 0) (v := ?_) rfl (by kernel_rfl) (by kernel_rfl) (by kernel_rfl) (fun _ _ _ h => h) (Or.inl ⟨by rfl, ?_⟩) (by assumption) ?_
      rotate_left
      · (intro wx hSw; have q5 := hSw.t.cell 5 rfl; have r5 := hSw.u.cell 5 rfl; go_simp; (try with_reducible rfl); (try omega))
      (try simp only [Act.put, List.setIfInBounds_toArray, List.set_cons_zero, List.set_cons_succ, List.getElem_toArray, List.getElem_cons_zero])
      refine wpAnyH_take (i := 1) (v := ?_) rfl (by kernel_rfl) (by kernel_rfl) (by kernel_rfl) (fun _ _ _ h => h) (Or.inl ⟨by rfl, ?_⟩) (by assumption) ?_
      rotate_left
      · (intro wx hSw; have q5 := hSw.t.cell 5 rfl; have r5 := hSw.u.cell 5 rfl; go_simp; (try with_reducible rfl); (try omega))
      (try simp only [Act.put, List.setIfInBounds_toArray, List.set_cons_zero, List.set_cons_succ, List.getElem_toArray, List.getElem_cons_zero, List.getElem_cons_succ])
      refine wpAnyH_take (i := 2) (v := ?_) rfl (by kernel_rfl) (by kernel_rfl) (by kernel_rfl) (fun _ _ _ h => h) (Or.inl ⟨by rfl, ?_⟩) (by assumption) ?_
      rotate_left
      · (intro wx hSw; have q5 := hSw.t.cell 5 rfl; have r5 := hSw.u.cell 5 rfl; go_simp; (try with_reducible rfl); (try omega))
      (try simp only [Act.put, List.setIfInBounds_toArray, List.set_cons_zero, List.set_cons_succ, List.getElem_toArray, List.getElem_cons_zero, List.getElem_cons_succ])
      refine wpAnyH_take (i := 3) (v := ?_) rfl (by kernel_rfl) (by kernel_rfl) (by kernel_rfl) (fun _ _ _ h => h) (Or.inl ⟨by rfl, ?_⟩) (by assumption) ?_
      rotate_left
      · (intro wx hSw; have q5 := hSw.t.cell 5 rfl; have r5 := hSw.u.cell 5 rfl; go_simp; (try with_reducible rfl); (try omega))
      (try simp only [Act.put, List.setIfInBounds_toArray, List.set_cons_zero, List.set_cons_succ, List.getElem_toArray, List.getElem_cons_zero, List.getElem_cons_succ])
      refine wpAnyH_take (i := 4) (v := .agg [.int .i64 kf, .int .i64 af, .int .i64 vf.k, .int .i64 vf.n, .string vf.s, .slice pf yf.length cf].toArray) rfl (by kernel_rfl) (by kernel_rfl) (by kernel_rfl) (fun _ _ _ h => h) (yieldsIf_load_mid rfl 26 _ rfl b1 (o1 + j * 6) rfl [.int .i64 kf, .int .i64 af, .int .i64 vf.k, .int .i64 vf.n, .string vf.s, .slice pf yf.length cf] _ (fun w h => rangeAt_blk hX1 (h.b.block b1 hb1)) Try.underlying26 rfl (sizeX)) (by assumption) ?_
      (try simp only [Act.put, List.setIfInBounds_toArray, List.set_cons_zero, List.set_cons_succ, List.getElem_toArray, List.getElem_cons_zero, List.getElem_cons_succ])
      refine wpAnyH_take (i := 5) (v := ?_) rfl (by kernel_rfl) (by kernel_rfl) (by kernel_rfl) (fun _ _ _ h => h) (Or.inl ⟨by rfl, ?_⟩) (by assumption) ?_
      rotate_left
      · (intro wx hSw; have q5 := hSw.t.cell 5 rfl; have r5 := hSw.u.cell 5 rfl; go_simp; (try with_reducible rfl); (try omega))
      (try simp only [Act.put, List.setIfInBounds_toArray, List.set_cons_zero, List.set_cons_succ, List.getElem_toArray, List.getElem_cons_zero, List.getElem_cons_succ])
      refine wpAnyH_take (i := 6) (v := ?_) rfl (by kernel_rfl) (by kernel_rfl) (by kernel_rfl) (fun _ _ _ h => h) (Or.inl ⟨by rfl, ?_⟩) (by assumption) ?_
      rotate_left
      · (intro wx hSw; have q5 := hSw.t.cell 5 rfl; have r5 := hSw.u.cell 5 rfl; go_simp; (try with_reducible rfl); (try omega))
      (try simp only [Act.put, List.setIfInBounds_toArray, List.set_cons_zero, List.set_cons_succ, List.getElem_toArray, List.getElem_cons_zero, List.getElem_cons_succ])
      refine wpAnyH_take (i := 7) (v := ?_) rfl (by kernel_rfl) (by kernel_rfl) (by kernel_rfl) (fun _ _ _ h => h) (Or.inl ⟨by rfl, ?_⟩) (by assumption) ?_
      rotate_left
      · (intro wx hSw; have q5 := hSw.t.cell 5 rfl; have r5 := hSw.u.cell 5 rfl; go_simp; (try with_reducible rfl); (try omega))
      (try simp only [Act.put, List.setIfInBounds_toArray, List.set_cons_zero, List.set_cons_succ, List.getElem_toArray, List.getElem_cons_zero, List.getElem_cons_succ])
      refine wpAnyH_take (i := 8) (v := ?_) rfl (by kernel_rfl) (by kernel_rfl) (by kernel_rfl) (fun _ _ _ h => h) (Or.inl ⟨by rfl, ?_⟩) (by assumption) ?_
      rotate_left
      · (intro wx hSw; have q5 := hSw.t.cell 5 rfl; have r5 := hSw.u.cell 5 rfl; go_simp; (try with_reducible rfl); (try omega))
      (try simp only [Act.put, List.setIfInBounds_toArray, List.set_cons_zero, List.set_cons_succ, List.getElem_toArray, List.getElem_cons_zero, List.getElem_cons_succ])
      refine wpAnyH_take (i := 9) (v := .agg [.int .i64 kg, .int .i64 ag, .int .i64 vg.k, .int .i64 vg.n, .string vg.s, .slice pg yg.length cg].toArray) rfl (by kernel_rfl) (by kernel_rfl) (by kernel_rfl) (fun _ _ _ h => h) (yieldsIf_load_mid rfl 26 _ rfl b2 (o2 + j * 6) rfl [.int .i64 kg, .int .i64 ag, .int .i64 vg.k, .int .i64 vg.n, .string vg.s, .slice pg yg.length cg] _ (fun w h => rangeAt_blk hX2 (h.b.block b2 hb2)) Try.underlying26 rfl (sizeX)) (by assumption) ?_
      (try simp only [Act.put, List.setIfInBounds_toArray, List.set_cons_zero, List.set_cons_succ, List.getElem_toArray, List.getElem_cons_zero, List.getElem_cons_succ])
      refine wpAnyH_ready (rs := [10]) (by kernel_rfl) (by simp) ?_
      refine AllReadyH.cons rfl (fun K hK => ?_) AllReadyH.nil
      go_simp
      refine (H.out _ hS.b).mono ?_
      rintro e W3 ⟨rfl, hb⟩
      have hS := hS.below hb
      clear hb
      refine hK.out _ _ hS (fun hHeld => ?_)
      clear hK K
      (try simp only [Act.put, List.setIfInBounds_toArray, List.set_cons_zero, List.set_cons_succ, List.getElem_toArray, List.getElem_cons_zero, List.getElem_cons_succ])
      refine wpAnyH_take (i := 11) (v := ?_) rfl (by kernel_rfl) (by kernel_rfl) (by kernel_rfl) (fun _ _ _ h => h) (Or.inl ⟨by rfl, ?_⟩) (by assumption) ?_
      rotate_left
      · (intro wx hSw; have q5 := hSw.t.cell 5 rfl; have r5 := hSw.u.cell 5 rfl; go_simp; (try with_reducible rfl); (try omega))
      (try simp only [Act.put, List.setIfInBounds_toArray, List.set_cons_zero, List.set_cons_succ, List.getElem_toArray, List.getElem_cons_zero, List.getElem_cons_succ])
      refine wpAnyH_done (by kernel_rfl) ?_ _
      go_wp2_with fail
      exact ⟨⟨j + 1, by omega, by go_num, hS⟩, by simp [intOf]; omega⟩
    · have g0 : decide ((j : Int) < (N : Int)) = false := by simpa using hlt
      have hSh := hid0 hS
      clear hS
      go_wp2_with fail
      go_ret
      exact ⟨rfl, hSh.out.b⟩
theorem sameC_all : ∀ n, ScOk n
  | 0 => ⟨fun _ _ _ _ h => h.elim⟩
  | n + 1 => ⟨fun m x y w hx hy hd => by
    obtain ⟨k, a, v, p, c, ys⟩ := x
    obtain ⟨k', a', v', p', c', ys'⟩ := y
    match m, hy with
    | m + 1, hy =>
      rw [datC, datC] at hd
      injection hd with e1 e2 e3 e4
      subst e1; subst e2; subst e3
      exact sameC_step (sameC_all n) k a v p c ys p' c' ys' w hx hy e4⟩
end Go.Proofs.Ytolcebbpbihnoaa
