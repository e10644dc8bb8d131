/- The example of stage 11: it holds: a contract of the call, in whatever memory. Conditions: none. -/
import Derived.Test.YtolcebbpbihnoaaYl
import Derived.Test.YtolcebbpbihnoaaWq
namespace Go.Proofs.Ytolcebbpbihnoaa
open Go.RowKit

theorem num11_any (n : Int) (w : World) :
    Calls Try.prog 21 #[.int .i64 n] w fun e w' => e = .returned (.agg #[.int .i64 1, .int .i64 n, .string ⟨#[]⟩]) ∧ Below w.heap.size w w' := by
  go_enter Try.func21, Try.ntmps21
  go_wp2
  go_returns
  exact ⟨rfl, by go_grown⟩
theorem eqEx (W : World) : (binOp .eql 23 (.agg #[.int .i64 1, .int .i64 15, .string ⟨#[]⟩]) (.agg #[.int .i64 1, .int .i64 15, .string ⟨#[]⟩])).run Try.prog W = .ok (.bool true) W := by
  have h := eql23 1 15 ⟨#[]⟩ 1 15 ⟨#[]⟩ W
  have e : sameV 1 15 ⟨#[]⟩ 1 15 ⟨#[]⟩ = true := by simp [sameV]
  rw [e] at h; exact h
theorem row2_in {W : World} {Y : Nat} {k n k' n' : Int} {s s' : ByteArray} (h : VarB W Y [.int .i64 k, .int .i64 n, .string s, .int .i64 k', .int .i64 n', .string s']) (h1 : inI ⟨k, n, s⟩) (h2 : inI ⟨k', n', s'⟩) : RowIn W (some ⟨Y, 0, none⟩) [⟨k, n, s⟩, ⟨k', n', s'⟩] :=
  ⟨fun _ => ⟨Y, 0, rfl, fun i hi => by
    match i, hi with
    | 0, _ => exact ⟨h.cell 0 rfl, h.cell 1 rfl, h.cell 2 rfl⟩
    | 1, _ => exact ⟨h.cell 3 rfl, h.cell 4 rfl, h.cell 5 rfl⟩
    | i + 2, hi => exact absurd hi (by simp)⟩, fun x hx => by
    simp at hx
    rcases hx with rfl | rfl
    · exact h1
    · exact h2, by unfold maxLen; simp⟩
theorem inI_num {n : Int} (h1 : -1000 ≤ n) (h2 : n ≤ 1000) : inI ⟨1, n, ⟨#[]⟩⟩ := ⟨by show -9223372036854775808 ≤ n; omega, by show n ≤ 9223372036854775807; omega, (Nat.zero_le _ : 0 ≤ maxLen)⟩
theorem inI_none : inI ⟨0, 0, ⟨#[]⟩⟩ := inI_zV
theorem rowNone (W : World) (m : Nat) (p : Option Addr) : RowC W m p [] := ⟨fun i hi => absurd hi (by simp)⟩
theorem cx_leaf {W : World} {k a : Int} {v : Val} (n : Nat) (hv : inI v) (hk : 0 ≤ k ∧ k ≤ 9 := by omega) (ha : 0 ≤ a ∧ a ≤ 9 := by omega) : CxAt W (n + 1) (.mk k a v none 0 []) :=
  ⟨⟨hv, by omega, by omega, by omega, by omega, Nat.le_refl _, by simp, rowNone _ _ _⟩, fun x hx => absurd hx (by simp)⟩
theorem row2_cx {W : World} {X : Nat} {a b : List Value} (ha : a.length = 6) (hX : VarB W X (a ++ b)) : RowC W 6 (some ⟨X, 0, none⟩) [a, b] := by
  refine ⟨fun i hi => ⟨X, 0, rfl, hX.lt, ?_⟩⟩
  match i, hi with
  | 0, _ =>
    intro j v hv
    have hv : a[j]? = some v := hv
    have := hX.at_ j v (by rw [List.getElem?_append_left (List.getElem?_eq_some_iff.1 hv).1]; exact hv)
    simpa using this
  | 1, _ =>
    intro j v hv
    have hv : b[j]? = some v := hv
    have h := hX.at_ (6 + j) v (by rw [List.getElem?_append_right (by omega), show 6 + j - a.length = j by omega]; exact hv)
    rw [show 0 + 1 * 6 + j = 0 + (6 + j) by omega]; exact h
  | i + 2, hi => exact absurd hi (by simp)
theorem evalEx {W : World} {X Y : Nat} (hX : VarB W X [.int .i64 1, .int .i64 1, .int .i64 0, .int .i64 0, .string ⟨#[]⟩, .slice none 0 0, .int .i64 2, .int .i64 0, .int .i64 1, .int .i64 3, .string ⟨#[]⟩, .slice none 0 0]) (hY : VarB W Y [.int .i64 0, .int .i64 0, .string ⟨#[]⟩, .int .i64 1, .int .i64 5, .string ⟨#[]⟩]) :
    Calls Try.prog 8 #[.agg #[.int .i64 5, .int .i64 0, .int .i64 0, .int .i64 0, .string ⟨#[]⟩, .slice (some ⟨X, 0, none⟩) 2 2], .slice (some ⟨Y, 0, none⟩) 2 2] W fun e w' => e = .returned (.tuple #[.agg #[.int .i64 1, .int .i64 15, .string ⟨#[]⟩], .int .i64 0]) ∧ Below W.heap.size W w' := by
  have hR : RowC W 6 (some ⟨X, 0, none⟩) ([(.mk 1 1 zV none 0 []), (.mk 2 0 ⟨1, 3, ⟨#[]⟩⟩ none 0 [])].map Cx.cells) := row2_cx (a := [.int .i64 1, .int .i64 1, .int .i64 0, .int .i64 0, .string ⟨#[]⟩, .slice none 0 0]) (b := [.int .i64 2, .int .i64 0, .int .i64 1, .int .i64 3, .string ⟨#[]⟩, .slice none 0 0]) rfl hX
  have hx : CxAt W 2 (.mk 5 0 zV (some ⟨X, 0, none⟩) 2 [(.mk 1 1 zV none 0 []), (.mk 2 0 ⟨1, 3, ⟨#[]⟩⟩ none 0 [])]) := by
    refine ⟨⟨inI_zV, by omega, by omega, by omega, by omega, Nat.le_refl _, by simp, hR⟩, fun x hx => ?_⟩
    simp at hx
    rcases hx with rfl | rfl
    · exact cx_leaf 0 inI_zV
    · exact cx_leaf 0 (inI_num (by omega) (by omega))
  have h := eval_any 2 hx (row2_in hY inI_none (inI_num (by omega) (by omega)))
  have e : evC [⟨0, 0, ⟨#[]⟩⟩, ⟨1, 5, ⟨#[]⟩⟩] (.mk 5 0 zV (some ⟨X, 0, none⟩) 2 [(.mk 1 1 zV none 0 []), (.mk 2 0 ⟨1, 3, ⟨#[]⟩⟩ none 0 [])]) = (⟨1, 15, ⟨#[]⟩⟩, 0) := by rfl
  exact h.mono fun e' w' hh => by
    have hh2 : EvAns (evC [⟨0, 0, ⟨#[]⟩⟩, ⟨1, 5, ⟨#[]⟩⟩] (.mk 5 0 zV (some ⟨X, 0, none⟩) 2 [(.mk 1 1 zV none 0 []), (.mk 2 0 ⟨1, 3, ⟨#[]⟩⟩ none 0 [])])) W e' w' := hh
    rw [e] at hh2; exact hh2
theorem tx_ex (W : World) : TxAt W 2 (Tx.mk 1 3 (.mk 1 1 zV none 0 []) (.mk 2 0 ⟨1, 9, ⟨#[]⟩⟩ none 0 []) none 0 []) := ⟨⟨cx_leaf 0 inI_zV, cx_leaf 0 (inI_num (by omega) (by omega))⟩, ⟨Nat.le_refl _, by simp, rowNone _ _ _⟩, fun x hx => absurd hx (by simp)⟩
theorem holdsEx1 {W : World} {Y : Nat} (hY : VarB W Y [.int .i64 0, .int .i64 0, .string ⟨#[]⟩, .int .i64 1, .int .i64 5, .string ⟨#[]⟩]) :
    Calls Try.prog 14 #[.agg #[.int .i64 1, .int .i64 3, .int .i64 1, .int .i64 1, .int .i64 0, .int .i64 0, .string ⟨#[]⟩, .slice none 0 0, .int .i64 2, .int .i64 0, .int .i64 1, .int .i64 9, .string ⟨#[]⟩, .slice none 0 0, .slice none 0 0], .slice (some ⟨Y, 0, none⟩) 2 2] W fun e w' => e = .returned (.int .i64 2) ∧ Below W.heap.size W w' := by
  have h := holds_any 2 (tx_ex W) (row2_in hY inI_none (inI_num (by omega) (by omega)))
  have e : hoT [⟨0, 0, ⟨#[]⟩⟩, ⟨1, 5, ⟨#[]⟩⟩] (Tx.mk 1 3 (.mk 1 1 zV none 0 []) (.mk 2 0 ⟨1, 9, ⟨#[]⟩⟩ none 0 []) none 0 []) = 2 := by rfl
  rw [e] at h
  exact h
theorem holdsEx2 {W : World} {Y : Nat} (hY : VarB W Y [.int .i64 0, .int .i64 0, .string ⟨#[]⟩, .int .i64 0, .int .i64 0, .string ⟨#[]⟩]) :
    Calls Try.prog 14 #[.agg #[.int .i64 1, .int .i64 3, .int .i64 1, .int .i64 1, .int .i64 0, .int .i64 0, .string ⟨#[]⟩, .slice none 0 0, .int .i64 2, .int .i64 0, .int .i64 1, .int .i64 9, .string ⟨#[]⟩, .slice none 0 0, .slice none 0 0], .slice (some ⟨Y, 0, none⟩) 2 2] W fun e w' => e = .returned (.int .i64 1) ∧ Below W.heap.size W w' := by
  have h := holds_any 2 (tx_ex W) (row2_in hY inI_none inI_none)
  have e : hoT [⟨0, 0, ⟨#[]⟩⟩, ⟨0, 0, ⟨#[]⟩⟩] (Tx.mk 1 3 (.mk 1 1 zV none 0 []) (.mk 2 0 ⟨1, 9, ⟨#[]⟩⟩ none 0 []) none 0 []) = 1 := by rfl
  rw [e] at h
  exact h
theorem asksEx (W : World) : Calls Try.prog 16 #[.agg #[.int .i64 1, .int .i64 3, .int .i64 1, .int .i64 1, .int .i64 0, .int .i64 0, .string ⟨#[]⟩, .slice none 0 0, .int .i64 2, .int .i64 0, .int .i64 1, .int .i64 9, .string ⟨#[]⟩, .slice none 0 0, .slice none 0 0]] W fun e w' => (∃ a c, e = .returned (.slice a 1 c)) ∧ Below W.heap.size W w' := by
  have h := asks_any (tx_ex W) (by decide)
  have e : (rise (asT (Tx.mk 1 3 (.mk 1 1 zV none 0 []) (.mk 2 0 ⟨1, 9, ⟨#[]⟩⟩ none 0 []) none 0 []))).length = 1 := by
    rw [show asT (Tx.mk 1 3 (.mk 1 1 zV none 0 []) (.mk 2 0 ⟨1, 9, ⟨#[]⟩⟩ none 0 []) none 0 []) = [1] from rfl]; decide +kernel
  exact h.mono fun e' w' ⟨⟨a, c, he, _⟩, hb⟩ => ⟨⟨a, c, by rw [e] at he; exact he⟩, hb⟩
structure AwS (w0 : World) (T U : Nat) (us vs : List Value) (w : World) : Prop where
  t : VarB w T us
  u : VarB w U vs
  b : Below w0.heap.size w0 w
theorem AwS.drew {w0 w : World} {T U : Nat} {us vs : List Value} (h : AwS w0 T U us vs w) : AwS w0 T U us vs w.drew := ⟨h.t.drew, h.u.drew, Below.drew h.b⟩
theorem AwS.below {w0 w w1 : World} {T U : Nat} {us vs : List Value} (h : AwS w0 T U us vs w) (hb : Below w.heap.size w w1) : AwS w0 T U us vs w1 := ⟨h.t.below hb, h.u.below hb, below_through hb h.b.size h.b⟩
theorem AwS.alloc {w0 w : World} {T U : Nat} {us vs : List Value} (h : AwS w0 T U us vs w) (o : Obj) : AwS w0 T U us vs (w.alloc o) := h.below ((Below.refl _ _).alloc (Nat.le_refl _) o)
theorem BoxS.alloc {w0 w : World} {B : Nat} {us : List Value} (h : BoxS w0 B us w) (o : Obj) : BoxS w0 B us (w.alloc o) := h.below ((Below.refl _ _).alloc (Nat.le_refl _) o)
theorem BoxS.puts {w0 w : World} {B T : Nat} {us : List Value} (h : BoxS w0 B us w) (vs : List Value) (hT : B ≠ T) (hn : w0.heap.size ≤ T) : BoxS w0 B us (w.setCells T 0 vs) := ⟨h.a.other vs hT, below_setCells vs 0 h.b hn⟩
theorem VarB.newB {W : World} {us : List Value} {ty : TypeId} {B : Nat} (h : W.heap.size = B) : VarB (W.alloc (.cells us.toArray ty)) B us := by subst h; exact VarB.new W us ty
set_option maxHeartbeats 16000000 in
set_option maxRecDepth 1000000 in
theorem awake11_any (w : World) : Calls Try.prog 10 #[] w fun e w' => e = .returned (.bool true) ∧ Below w.heap.size w w' := by
  have hS : BoxS w w.heap.size [.int .i64 1, .int .i64 1, .int .i64 0, .int .i64 0, .string ⟨#[]⟩, .slice none 0 0] (w.alloc (.cells #[.int .i64 1, .int .i64 1, .int .i64 0, .int .i64 0, .string ⟨#[]⟩, .slice none 0 0] 26)) := ⟨VarB.new w _ _, (Below.refl _ _).alloc (Nat.le_refl _) _⟩
  have hS := hid0 hS
  go_enter Try.func10, Try.ntmps10
  go_wp2_with fail
  have hS := hS.out.drew
  have hz0 : w.heap.size < (w.alloc (.cells #[.int .i64 1, .int .i64 1, .int .i64 0, .int .i64 0, .string ⟨#[]⟩, .slice none 0 0] 26)).drew.heap.size := hS.a.lt
  go_cut [2, 3] from 5 (fun vv ev wr => ∃ T : Nat, vv = .pointer (some ⟨T, 0, none⟩) ∧ ev = .int .i64 0 ∧ VarB wr T [.int .i64 1, .int .i64 15, .string ⟨#[]⟩] ∧ BoxS w w.heap.size [.int .i64 1, .int .i64 1, .int .i64 0, .int .i64 0, .string ⟨#[]⟩, .slice none 0 0] wr)
  case first =>
    refine wp_region_held_drew (S := BoxS w w.heap.size [.int .i64 1, .int .i64 1, .int .i64 0, .int .i64 0, .string ⟨#[]⟩, .slice none 0 0]) (by kernel_rfl) hS (fun hHeld => ?_)
    generalize (w.alloc (.cells #[.int .i64 1, .int .i64 1, .int .i64 0, .int .i64 0, .string ⟨#[]⟩, .slice none 0 0] 26)).drew = W0 at hS hz0 hHeld ⊢
    refine wpAnyH_take (i := 0) (v := .agg [.int .i64 1, .int .i64 1, .int .i64 0, .int .i64 0, .string ⟨#[]⟩, .slice none 0 0].toArray) rfl (by kernel_rfl) (by kernel_rfl) (by kernel_rfl) (fun _ _ _ h => h) (yieldsIf_load_mid rfl 26 _ rfl w.heap.size (0) rfl [.int .i64 1, .int .i64 1, .int .i64 0, .int .i64 0, .string ⟨#[]⟩, .slice none 0 0] _ (fun w h => h.a.at_) Try.underlying26 rfl (sizeX)) (by assumption) ?_
    (try simp only [Act.put, List.setIfInBounds_toArray, List.set_cons_zero, List.set_cons_succ, List.getElem_toArray, List.getElem_cons_zero])
    refine wpAnyH_take (i := 5) (v := ?_) rfl (by kernel_rfl) (by kernel_rfl) (by kernel_rfl) (fun _ _ _ h => h) (Or.inl ⟨by rfl, ?_⟩) (by assumption) ?_
    rotate_left
    · (intro wx hSw; go_simp; (try with_reducible rfl); (try omega))
    (try simp only [Act.put, List.setIfInBounds_toArray, List.set_cons_zero, List.set_cons_succ, List.getElem_toArray, List.getElem_cons_zero, List.getElem_cons_succ])
    refine wpAnyH_ready (rs := [1, 12]) (by kernel_rfl) (by simp) ?_
    refine AllReadyH.cons rfl (fun K hK => ?_) ?_
    · (try simp only [Act.put, List.setIfInBounds_toArray, List.set_cons_zero, List.set_cons_succ, List.getElem_toArray, List.getElem_cons_zero, List.getElem_cons_succ])
      go_simp
      refine (num11_any 3 _).mono ?_
      rintro e W1 ⟨rfl, hb⟩
      have hS := hS.below hb
      have zW1 := hb.size
      clear hb
      refine hK.out _ _ hS (fun hHeld => ?_)
      clear hK K
      (try simp only [Act.put, List.setIfInBounds_toArray, List.set_cons_zero, List.set_cons_succ, List.getElem_toArray, List.getElem_cons_zero, List.getElem_cons_succ])
      refine wpAnyH_take (i := 2) (v := ?_) rfl (by kernel_rfl) (by kernel_rfl) (by kernel_rfl) (fun _ _ _ h => h) (Or.inl ⟨by rfl, ?_⟩) (by assumption) ?_
      rotate_left
      · (intro wx hSw; go_simp; (try with_reducible rfl); (try omega))
      (try simp only [Act.put, List.setIfInBounds_toArray, List.set_cons_zero, List.set_cons_succ, List.getElem_toArray, List.getElem_cons_zero, List.getElem_cons_succ])
      refine wpAnyH_ready (rs := [3, 6, 12]) (by kernel_rfl) (by simp) ?_
      refine AllReadyH.cons rfl (fun K hK => ?_) ?_
      · (try simp only [Act.put, List.setIfInBounds_toArray, List.set_cons_zero, List.set_cons_succ, List.getElem_toArray, List.getElem_cons_zero, List.getElem_cons_succ])
        go_simp
        obtain ⟨W2, hW2⟩ : ∃ W', W1.alloc (.cells #[.int .i64 1, .int .i64 1, .int .i64 0, .int .i64 0, .string ⟨#[]⟩, .slice none 0 0, .int .i64 2, .int .i64 0, .int .i64 1, .int .i64 3, .string ⟨#[]⟩, .slice none 0 0] 26) = W' := ⟨_, rfl⟩
        have X1 : VarB W2 W1.heap.size [.int .i64 1, .int .i64 1, .int .i64 0, .int .i64 0, .string ⟨#[]⟩, .slice none 0 0, .int .i64 2, .int .i64 0, .int .i64 1, .int .i64 3, .string ⟨#[]⟩, .slice none 0 0] := by rw [← hW2]; exact VarB.new _ _ _
        have hS := hS.alloc (.cells #[.int .i64 1, .int .i64 1, .int .i64 0, .int .i64 0, .string ⟨#[]⟩, .slice none 0 0, .int .i64 2, .int .i64 0, .int .i64 1, .int .i64 3, .string ⟨#[]⟩, .slice none 0 0] 26); rw [hW2] at hS
        rw [hW2]
        have zX1 : W1.heap.size < W2.heap.size := X1.lt
        refine hK.out _ _ hS (fun hHeld => ?_)
        clear hW2
        clear hK K
        (try simp only [Act.put, List.setIfInBounds_toArray, List.set_cons_zero, List.set_cons_succ, List.getElem_toArray, List.getElem_cons_zero, List.getElem_cons_succ])
        refine wpAnyH_take (i := 4) (v := ?_) rfl (by kernel_rfl) (by kernel_rfl) (by kernel_rfl) (fun _ _ _ h => h) (Or.inl ⟨by rfl, ?_⟩) (by assumption) ?_
        rotate_left
        · (intro wx hSw; go_simp; (try with_reducible rfl); (try omega))
        (try simp only [Act.put, List.setIfInBounds_toArray, List.set_cons_zero, List.set_cons_succ, List.getElem_toArray, List.getElem_cons_zero, List.getElem_cons_succ])
        refine wpAnyH_ready (rs := [6, 12]) (by kernel_rfl) (by simp) ?_
        refine AllReadyH.cons rfl (fun K hK => ?_) ?_
        · (try simp only [Act.put, List.setIfInBounds_toArray, List.set_cons_zero, List.set_cons_succ, List.getElem_toArray, List.getElem_cons_zero, List.getElem_cons_succ])
          go_simp
          refine (num11_any 5 _).mono ?_
          rintro e W3 ⟨rfl, hb⟩
          have hS := hS.below hb
          have X1 := X1.below hb
          have zW3 := hb.size
          clear hb
          refine hK.out _ _ hS (fun hHeld => ?_)
          clear hK K
          (try simp only [Act.put, List.setIfInBounds_toArray, List.set_cons_zero, List.set_cons_succ, List.getElem_toArray, List.getElem_cons_zero, List.getElem_cons_succ])
          refine wpAnyH_ready (rs := [7, 12]) (by kernel_rfl) (by simp) ?_
          refine AllReadyH.cons rfl (fun K hK => ?_) ?_
          · (try simp only [Act.put, List.setIfInBounds_toArray, List.set_cons_zero, List.set_cons_succ, List.getElem_toArray, List.getElem_cons_zero, List.getElem_cons_succ])
            go_simp
            obtain ⟨W4, hW4⟩ : ∃ W', W3.alloc (.cells #[.int .i64 0, .int .i64 0, .string ⟨#[]⟩, .int .i64 1, .int .i64 5, .string ⟨#[]⟩] 23) = W' := ⟨_, rfl⟩
            have X2 : VarB W4 W3.heap.size [.int .i64 0, .int .i64 0, .string ⟨#[]⟩, .int .i64 1, .int .i64 5, .string ⟨#[]⟩] := by rw [← hW4]; exact VarB.new _ _ _
            have hS := hS.alloc (.cells #[.int .i64 0, .int .i64 0, .string ⟨#[]⟩, .int .i64 1, .int .i64 5, .string ⟨#[]⟩] 23); rw [hW4] at hS
            have X1 := X1.alloc (.cells #[.int .i64 0, .int .i64 0, .string ⟨#[]⟩, .int .i64 1, .int .i64 5, .string ⟨#[]⟩] 23); rw [hW4] at X1
            rw [hW4]
            have zX2 : W3.heap.size < W4.heap.size := X2.lt
            refine hK.out _ _ hS (fun hHeld => ?_)
            clear hW4
            clear hK K
            (try simp only [Act.put, List.setIfInBounds_toArray, List.set_cons_zero, List.set_cons_succ, List.getElem_toArray, List.getElem_cons_zero, List.getElem_cons_succ])
            refine wpAnyH_ready (rs := [8, 12]) (by kernel_rfl) (by simp) ?_
            refine AllReadyH.cons rfl (fun K hK => ?_) ?_
            · (try simp only [Act.put, List.setIfInBounds_toArray, List.set_cons_zero, List.set_cons_succ, List.getElem_toArray, List.getElem_cons_zero, List.getElem_cons_succ])
              go_simp
              refine (evalEx X1 X2).mono ?_
              rintro e W5 ⟨rfl, hb⟩
              have hS := hS.below hb
              have X1 := X1.below hb
              have X2 := X2.below hb
              have zW5 := hb.size
              clear hb
              refine hK.out _ _ hS (fun hHeld => ?_)
              clear hK K
              (try simp only [Act.put, List.setIfInBounds_toArray, List.set_cons_zero, List.set_cons_succ, List.getElem_toArray, List.getElem_cons_zero, List.getElem_cons_succ])
              refine wpAnyH_take (i := 9) (v := ?_) rfl (by kernel_rfl) (by kernel_rfl) (by kernel_rfl) (fun _ _ _ h => h) (Or.inl ⟨by rfl, ?_⟩) (by assumption) ?_
              rotate_left
              · (intro wx hSw; go_simp; (try with_reducible rfl); (try omega))
              (try simp only [Act.put, List.setIfInBounds_toArray, List.set_cons_zero, List.set_cons_succ, List.getElem_toArray, List.getElem_cons_zero, List.getElem_cons_succ])
              refine wpAnyH_take (i := 10) (v := ?_) rfl (by kernel_rfl) (by kernel_rfl) (by kernel_rfl) (fun _ _ _ h => h) (Or.inl ⟨by rfl, ?_⟩) (by assumption) ?_
              rotate_left
              · (intro wx hSw; go_simp; (try with_reducible rfl); (try omega))
              (try simp only [Act.put, List.setIfInBounds_toArray, List.set_cons_zero, List.set_cons_succ, List.getElem_toArray, List.getElem_cons_zero, List.getElem_cons_succ])
              refine wpAnyH_take (i := 11) (v := ?_) rfl (by kernel_rfl) (by kernel_rfl) (by kernel_rfl) (fun _ _ _ h => h) (Or.inl ⟨by rfl, ?_⟩) (by assumption) ?_
              rotate_left
              · (intro wx hSw; go_simp; (try with_reducible rfl); (try omega))
              (try simp only [Act.put, List.setIfInBounds_toArray, List.set_cons_zero, List.set_cons_succ, List.getElem_toArray, List.getElem_cons_zero, List.getElem_cons_succ])
              refine wpAnyH_ready (rs := [12]) (by kernel_rfl) (by simp) ?_
              refine AllReadyH.cons rfl (fun K hK => ?_) ?_
              · (try simp only [Act.put, List.setIfInBounds_toArray, List.set_cons_zero, List.set_cons_succ, List.getElem_toArray, List.getElem_cons_zero, List.getElem_cons_succ])
                go_simp
                obtain ⟨W6, hW6⟩ : ∃ W', W5.alloc (.cells #[.int .i64 0, .int .i64 0, .string ⟨#[]⟩] 23) = W' := ⟨_, rfl⟩
                have X3 : VarB W6 W5.heap.size [.int .i64 0, .int .i64 0, .string ⟨#[]⟩] := by rw [← hW6]; exact VarB.new _ _ _
                have hS := hS.alloc (.cells #[.int .i64 0, .int .i64 0, .string ⟨#[]⟩] 23); rw [hW6] at hS
                have X1 := X1.alloc (.cells #[.int .i64 0, .int .i64 0, .string ⟨#[]⟩] 23); rw [hW6] at X1
                have X2 := X2.alloc (.cells #[.int .i64 0, .int .i64 0, .string ⟨#[]⟩] 23); rw [hW6] at X2
                rw [hW6]
                have zX3 : W5.heap.size < W6.heap.size := X3.lt
                refine hK.out _ _ hS (fun hHeld => ?_)
                clear hW6
                clear hK K
                (try simp only [Act.put, List.setIfInBounds_toArray, List.set_cons_zero, List.set_cons_succ, List.getElem_toArray, List.getElem_cons_zero, List.getElem_cons_succ])
                refine wpAnyH_ready (rs := [13]) (by kernel_rfl) (by simp) ?_
                refine AllReadyH.cons rfl (fun K hK => ?_) ?_
                · (try simp only [Act.put, List.getElem_toArray, List.getElem_cons_zero, List.getElem_cons_succ])
                  have r0 := X3.cell 0 rfl
                  have r1 := X3.cell 1 rfl
                  have r2 := X3.cell 2 rfl
                  have g0 := X3.frz 0 (by decide)
                  have g1 := X3.frz 1 (by decide)
                  have g2 := X3.frz 2 (by decide)
                  go_simp
                  clear r0 r1 r2 g0 g1 g2
                  have hS := hS.puts (T := W5.heap.size) [.int .i64 1, .int .i64 15, .string ⟨#[]⟩] (by have := hS.b.size; omega) (by omega)
                  have X3 := X3.puts [.int .i64 1, .int .i64 15, .string ⟨#[]⟩] rfl
                  refine hK.out _ _ hS (fun hHeld => ?_)
                  clear hK K
                  (try simp only [Act.put, List.setIfInBounds_toArray, List.set_cons_zero, List.set_cons_succ, List.getElem_toArray, List.getElem_cons_zero, List.getElem_cons_succ])
                  refine wpAnyH_take (i := 14) (v := ?_) rfl (by kernel_rfl) (by kernel_rfl) (by kernel_rfl) (fun _ _ _ h => h) (Or.inl ⟨by rfl, ?_⟩) (by assumption) ?_
                  rotate_left
                  · (intro wx hSw; go_simp; (try with_reducible rfl); (try omega))
                  (try simp only [Act.put, List.setIfInBounds_toArray, List.set_cons_zero, List.set_cons_succ, List.getElem_toArray, List.getElem_cons_zero, List.getElem_cons_succ])
                  refine wpAnyH_done (by kernel_rfl) ?_ _
                  go_wp2_with fail
                  go_meet
                  case rel => exact ⟨_, rfl, rfl, X3, hS⟩
                exact AllReadyH.nil
              exact AllReadyH.nil
            refine AllReadyH.cons rfl (fun K hK => ?_) ?_
            · (try simp only [Act.put, List.setIfInBounds_toArray, List.set_cons_zero, List.set_cons_succ, List.getElem_toArray, List.getElem_cons_zero, List.getElem_cons_succ])
              go_simp
              obtain ⟨W5, hW5⟩ : ∃ W', W4.alloc (.cells #[.int .i64 0, .int .i64 0, .string ⟨#[]⟩] 23) = W' := ⟨_, rfl⟩
              have X3 : VarB W5 W4.heap.size [.int .i64 0, .int .i64 0, .string ⟨#[]⟩] := by rw [← hW5]; exact VarB.new _ _ _
              have hS := hS.alloc (.cells #[.int .i64 0, .int .i64 0, .string ⟨#[]⟩] 23); rw [hW5] at hS
              have X1 := X1.alloc (.cells #[.int .i64 0, .int .i64 0, .string ⟨#[]⟩] 23); rw [hW5] at X1
              have X2 := X2.alloc (.cells #[.int .i64 0, .int .i64 0, .string ⟨#[]⟩] 23); rw [hW5] at X2
              rw [hW5]
              have zX3 : W4.heap.size < W5.heap.size := X3.lt
              refine hK.out _ _ hS (fun hHeld => ?_)
              clear hW5
              clear hK K
              (try simp only [Act.put, List.setIfInBounds_toArray, List.set_cons_zero, List.set_cons_succ, List.getElem_toArray, List.getElem_cons_zero, List.getElem_cons_succ])
              refine wpAnyH_ready (rs := [8]) (by kernel_rfl) (by simp) ?_
              refine AllReadyH.cons rfl (fun K hK => ?_) ?_
              · (try simp only [Act.put, List.setIfInBounds_toArray, List.set_cons_zero, List.set_cons_succ, List.getElem_toArray, List.getElem_cons_zero, List.getElem_cons_succ])
                go_simp
                refine (evalEx X1 X2).mono ?_
                rintro e W6 ⟨rfl, hb⟩
                have hS := hS.below hb
                have X1 := X1.below hb
                have X2 := X2.below hb
                have X3 := X3.below hb
                have zW6 := hb.size
                clear hb
                refine hK.out _ _ hS (fun hHeld => ?_)
                clear hK K
                (try simp only [Act.put, List.setIfInBounds_toArray, List.set_cons_zero, List.set_cons_succ, List.getElem_toArray, List.getElem_cons_zero, List.getElem_cons_succ])
                refine wpAnyH_take (i := 9) (v := ?_) rfl (by kernel_rfl) (by kernel_rfl) (by kernel_rfl) (fun _ _ _ h => h) (Or.inl ⟨by rfl, ?_⟩) (by assumption) ?_
                rotate_left
                · (intro wx hSw; go_simp; (try with_reducible rfl); (try omega))
                (try simp only [Act.put, List.setIfInBounds_toArray, List.set_cons_zero, List.set_cons_succ, List.getElem_toArray, List.getElem_cons_zero, List.getElem_cons_succ])
                refine wpAnyH_take (i := 10) (v := ?_) rfl (by kernel_rfl) (by kernel_rfl) (by kernel_rfl) (fun _ _ _ h => h) (Or.inl ⟨by rfl, ?_⟩) (by assumption) ?_
                rotate_left
                · (intro wx hSw; go_simp; (try with_reducible rfl); (try omega))
                (try simp only [Act.put, List.setIfInBounds_toArray, List.set_cons_zero, List.set_cons_succ, List.getElem_toArray, List.getElem_cons_zero, List.getElem_cons_succ])
                refine wpAnyH_take (i := 11) (v := ?_) rfl (by kernel_rfl) (by kernel_rfl) (by kernel_rfl) (fun _ _ _ h => h) (Or.inl ⟨by rfl, ?_⟩) (by assumption) ?_
                rotate_left
                · (intro wx hSw; go_simp; (try with_reducible rfl); (try omega))
                (try simp only [Act.put, List.setIfInBounds_toArray, List.set_cons_zero, List.set_cons_succ, List.getElem_toArray, List.getElem_cons_zero, List.getElem_cons_succ])
                refine wpAnyH_ready (rs := [13]) (by kernel_rfl) (by simp) ?_
                refine AllReadyH.cons rfl (fun K hK => ?_) ?_
                · (try simp only [Act.put, List.getElem_toArray, List.getElem_cons_zero, List.getElem_cons_succ])
                  have r0 := X3.cell 0 rfl
                  have r1 := X3.cell 1 rfl
                  have r2 := X3.cell 2 rfl
                  have g0 := X3.frz 0 (by decide)
                  have g1 := X3.frz 1 (by decide)
                  have g2 := X3.frz 2 (by decide)
                  go_simp
                  clear r0 r1 r2 g0 g1 g2
                  have hS := hS.puts (T := W4.heap.size) [.int .i64 1, .int .i64 15, .string ⟨#[]⟩] (by have := hS.b.size; omega) (by omega)
                  have X3 := X3.puts [.int .i64 1, .int .i64 15, .string ⟨#[]⟩] rfl
                  refine hK.out _ _ hS (fun hHeld => ?_)
                  clear hK K
                  (try simp only [Act.put, List.setIfInBounds_toArray, List.set_cons_zero, List.set_cons_succ, List.getElem_toArray, List.getElem_cons_zero, List.getElem_cons_succ])
                  refine wpAnyH_take (i := 14) (v := ?_) rfl (by kernel_rfl) (by kernel_rfl) (by kernel_rfl) (fun _ _ _ h => h) (Or.inl ⟨by rfl, ?_⟩) (by assumption) ?_
                  rotate_left
                  · (intro wx hSw; go_simp; (try with_reducible rfl); (try omega))
                  (try simp only [Act.put, List.setIfInBounds_toArray, List.set_cons_zero, List.set_cons_succ, List.getElem_toArray, List.getElem_cons_zero, List.getElem_cons_succ])
                  refine wpAnyH_done (by kernel_rfl) ?_ _
                  go_wp2_with fail
                  go_meet
                  case rel => exact ⟨_, rfl, rfl, X3, hS⟩
                exact AllReadyH.nil
              exact AllReadyH.nil
            exact AllReadyH.nil
          refine AllReadyH.cons rfl (fun K hK => ?_) ?_
          · (try simp only [Act.put, List.setIfInBounds_toArray, List.set_cons_zero, List.set_cons_succ, List.getElem_toArray, List.getElem_cons_zero, List.getElem_cons_succ])
            go_simp
            obtain ⟨W4, hW4⟩ : ∃ W', W3.alloc (.cells #[.int .i64 0, .int .i64 0, .string ⟨#[]⟩] 23) = W' := ⟨_, rfl⟩
            have X3 : VarB W4 W3.heap.size [.int .i64 0, .int .i64 0, .string ⟨#[]⟩] := by rw [← hW4]; exact VarB.new _ _ _
            have hS := hS.alloc (.cells #[.int .i64 0, .int .i64 0, .string ⟨#[]⟩] 23); rw [hW4] at hS
            have X1 := X1.alloc (.cells #[.int .i64 0, .int .i64 0, .string ⟨#[]⟩] 23); rw [hW4] at X1
            rw [hW4]
            have zX3 : W3.heap.size < W4.heap.size := X3.lt
            refine hK.out _ _ hS (fun hHeld => ?_)
            clear hW4
            clear hK K
            (try simp only [Act.put, List.setIfInBounds_toArray, List.set_cons_zero, List.set_cons_succ, List.getElem_toArray, List.getElem_cons_zero, List.getElem_cons_succ])
            refine wpAnyH_ready (rs := [7]) (by kernel_rfl) (by simp) ?_
            refine AllReadyH.cons rfl (fun K hK => ?_) ?_
            · (try simp only [Act.put, List.setIfInBounds_toArray, List.set_cons_zero, List.set_cons_succ, List.getElem_toArray, List.getElem_cons_zero, List.getElem_cons_succ])
              go_simp
              obtain ⟨W5, hW5⟩ : ∃ W', W4.alloc (.cells #[.int .i64 0, .int .i64 0, .string ⟨#[]⟩, .int .i64 1, .int .i64 5, .string ⟨#[]⟩] 23) = W' := ⟨_, rfl⟩
              have X2 : VarB W5 W4.heap.size [.int .i64 0, .int .i64 0, .string ⟨#[]⟩, .int .i64 1, .int .i64 5, .string ⟨#[]⟩] := by rw [← hW5]; exact VarB.new _ _ _
              have hS := hS.alloc (.cells #[.int .i64 0, .int .i64 0, .string ⟨#[]⟩, .int .i64 1, .int .i64 5, .string ⟨#[]⟩] 23); rw [hW5] at hS
              have X1 := X1.alloc (.cells #[.int .i64 0, .int .i64 0, .string ⟨#[]⟩, .int .i64 1, .int .i64 5, .string ⟨#[]⟩] 23); rw [hW5] at X1
              have X3 := X3.alloc (.cells #[.int .i64 0, .int .i64 0, .string ⟨#[]⟩, .int .i64 1, .int .i64 5, .string ⟨#[]⟩] 23); rw [hW5] at X3
              rw [hW5]
              have zX2 : W4.heap.size < W5.heap.size := X2.lt
              refine hK.out _ _ hS (fun hHeld => ?_)
              clear hW5
              clear hK K
              (try simp only [Act.put, List.setIfInBounds_toArray, List.set_cons_zero, List.set_cons_succ, List.getElem_toArray, List.getElem_cons_zero, List.getElem_cons_succ])
              refine wpAnyH_ready (rs := [8]) (by kernel_rfl) (by simp) ?_
              refine AllReadyH.cons rfl (fun K hK => ?_) ?_
              · (try simp only [Act.put, List.setIfInBounds_toArray, List.set_cons_zero, List.set_cons_succ, List.getElem_toArray, List.getElem_cons_zero, List.getElem_cons_succ])
                go_simp
                refine (evalEx X1 X2).mono ?_
                rintro e W6 ⟨rfl, hb⟩
                have hS := hS.below hb
                have X1 := X1.below hb
                have X3 := X3.below hb
                have X2 := X2.below hb
                have zW6 := hb.size
                clear hb
                refine hK.out _ _ hS (fun hHeld => ?_)
                clear hK K
                (try simp only [Act.put, List.setIfInBounds_toArray, List.set_cons_zero, List.set_cons_succ, List.getElem_toArray, List.getElem_cons_zero, List.getElem_cons_succ])
                refine wpAnyH_take (i := 9) (v := ?_) rfl (by kernel_rfl) (by kernel_rfl) (by kernel_rfl) (fun _ _ _ h => h) (Or.inl ⟨by rfl, ?_⟩) (by assumption) ?_
                rotate_left
                · (intro wx hSw; go_simp; (try with_reducible rfl); (try omega))
                (try simp only [Act.put, List.setIfInBounds_toArray, List.set_cons_zero, List.set_cons_succ, List.getElem_toArray, List.getElem_cons_zero, List.getElem_cons_succ])
                refine wpAnyH_take (i := 10) (v := ?_) rfl (by kernel_rfl) (by kernel_rfl) (by kernel_rfl) (fun _ _ _ h => h) (Or.inl ⟨by rfl, ?_⟩) (by assumption) ?_
                rotate_left
                · (intro wx hSw; go_simp; (try with_reducible rfl); (try omega))
                (try simp only [Act.put, List.setIfInBounds_toArray, List.set_cons_zero, List.set_cons_succ, List.getElem_toArray, List.getElem_cons_zero, List.getElem_cons_succ])
                refine wpAnyH_take (i := 11) (v := ?_) rfl (by kernel_rfl) (by kernel_rfl) (by kernel_rfl) (fun _ _ _ h => h) (Or.inl ⟨by rfl, ?_⟩) (by assumption) ?_
                rotate_left
                · (intro wx hSw; go_simp; (try with_reducible rfl); (try omega))
                (try simp only [Act.put, List.setIfInBounds_toArray, List.set_cons_zero, List.set_cons_succ, List.getElem_toArray, List.getElem_cons_zero, List.getElem_cons_succ])
                refine wpAnyH_ready (rs := [13]) (by kernel_rfl) (by simp) ?_
                refine AllReadyH.cons rfl (fun K hK => ?_) ?_
                · (try simp only [Act.put, List.getElem_toArray, List.getElem_cons_zero, List.getElem_cons_succ])
                  have r0 := X3.cell 0 rfl
                  have r1 := X3.cell 1 rfl
                  have r2 := X3.cell 2 rfl
                  have g0 := X3.frz 0 (by decide)
                  have g1 := X3.frz 1 (by decide)
                  have g2 := X3.frz 2 (by decide)
                  go_simp
                  clear r0 r1 r2 g0 g1 g2
                  have hS := hS.puts (T := W3.heap.size) [.int .i64 1, .int .i64 15, .string ⟨#[]⟩] (by have := hS.b.size; omega) (by omega)
                  have X3 := X3.puts [.int .i64 1, .int .i64 15, .string ⟨#[]⟩] rfl
                  refine hK.out _ _ hS (fun hHeld => ?_)
                  clear hK K
                  (try simp only [Act.put, List.setIfInBounds_toArray, List.set_cons_zero, List.set_cons_succ, List.getElem_toArray, List.getElem_cons_zero, List.getElem_cons_succ])
                  refine wpAnyH_take (i := 14) (v := ?_) rfl (by kernel_rfl) (by kernel_rfl) (by kernel_rfl) (fun _ _ _ h => h) (Or.inl ⟨by rfl, ?_⟩) (by assumption) ?_
                  rotate_left
                  · (intro wx hSw; go_simp; (try with_reducible rfl); (try omega))
                  (try simp only [Act.put, List.setIfInBounds_toArray, List.set_cons_zero, List.set_cons_succ, List.getElem_toArray, List.getElem_cons_zero, List.getElem_cons_succ])
                  refine wpAnyH_done (by kernel_rfl) ?_ _
                  go_wp2_with fail
                  go_meet
                  case rel => exact ⟨_, rfl, rfl, X3, hS⟩
                exact AllReadyH.nil
              exact AllReadyH.nil
            exact AllReadyH.nil
          exact AllReadyH.nil
        refine AllReadyH.cons rfl (fun K hK => ?_) ?_
        · (try simp only [Act.put, List.setIfInBounds_toArray, List.set_cons_zero, List.set_cons_succ, List.getElem_toArray, List.getElem_cons_zero, List.getElem_cons_succ])
          go_simp
          obtain ⟨W3, hW3⟩ : ∃ W', W2.alloc (.cells #[.int .i64 0, .int .i64 0, .string ⟨#[]⟩] 23) = W' := ⟨_, rfl⟩
          have X3 : VarB W3 W2.heap.size [.int .i64 0, .int .i64 0, .string ⟨#[]⟩] := by rw [← hW3]; exact VarB.new _ _ _
          have hS := hS.alloc (.cells #[.int .i64 0, .int .i64 0, .string ⟨#[]⟩] 23); rw [hW3] at hS
          have X1 := X1.alloc (.cells #[.int .i64 0, .int .i64 0, .string ⟨#[]⟩] 23); rw [hW3] at X1
          rw [hW3]
          have zX3 : W2.heap.size < W3.heap.size := X3.lt
          refine hK.out _ _ hS (fun hHeld => ?_)
          clear hW3
          clear hK K
          (try simp only [Act.put, List.setIfInBounds_toArray, List.set_cons_zero, List.set_cons_succ, List.getElem_toArray, List.getElem_cons_zero, List.getElem_cons_succ])
          refine wpAnyH_ready (rs := [6]) (by kernel_rfl) (by simp) ?_
          refine AllReadyH.cons rfl (fun K hK => ?_) ?_
          · (try simp only [Act.put, List.setIfInBounds_toArray, List.set_cons_zero, List.set_cons_succ, List.getElem_toArray, List.getElem_cons_zero, List.getElem_cons_succ])
            go_simp
            refine (num11_any 5 _).mono ?_
            rintro e W4 ⟨rfl, hb⟩
            have hS := hS.below hb
            have X1 := X1.below hb
            have X3 := X3.below hb
            have zW4 := hb.size
            clear hb
            refine hK.out _ _ hS (fun hHeld => ?_)
            clear hK K
            (try simp only [Act.put, List.setIfInBounds_toArray, List.set_cons_zero, List.set_cons_succ, List.getElem_toArray, List.getElem_cons_zero, List.getElem_cons_succ])
            refine wpAnyH_ready (rs := [7]) (by kernel_rfl) (by simp) ?_
            refine AllReadyH.cons rfl (fun K hK => ?_) ?_
            · (try simp only [Act.put, List.setIfInBounds_toArray, List.set_cons_zero, List.set_cons_succ, List.getElem_toArray, List.getElem_cons_zero, List.getElem_cons_succ])
              go_simp
              obtain ⟨W5, hW5⟩ : ∃ W', W4.alloc (.cells #[.int .i64 0, .int .i64 0, .string ⟨#[]⟩, .int .i64 1, .int .i64 5, .string ⟨#[]⟩] 23) = W' := ⟨_, rfl⟩
              have X2 : VarB W5 W4.heap.size [.int .i64 0, .int .i64 0, .string ⟨#[]⟩, .int .i64 1, .int .i64 5, .string ⟨#[]⟩] := by rw [← hW5]; exact VarB.new _ _ _
              have hS := hS.alloc (.cells #[.int .i64 0, .int .i64 0, .string ⟨#[]⟩, .int .i64 1, .int .i64 5, .string ⟨#[]⟩] 23); rw [hW5] at hS
              have X1 := X1.alloc (.cells #[.int .i64 0, .int .i64 0, .string ⟨#[]⟩, .int .i64 1, .int .i64 5, .string ⟨#[]⟩] 23); rw [hW5] at X1
              have X3 := X3.alloc (.cells #[.int .i64 0, .int .i64 0, .string ⟨#[]⟩, .int .i64 1, .int .i64 5, .string ⟨#[]⟩] 23); rw [hW5] at X3
              rw [hW5]
              have zX2 : W4.heap.size < W5.heap.size := X2.lt
              refine hK.out _ _ hS (fun hHeld => ?_)
              clear hW5
              clear hK K
              (try simp only [Act.put, List.setIfInBounds_toArray, List.set_cons_zero, List.set_cons_succ, List.getElem_toArray, List.getElem_cons_zero, List.getElem_cons_succ])
              refine wpAnyH_ready (rs := [8]) (by kernel_rfl) (by simp) ?_
              refine AllReadyH.cons rfl (fun K hK => ?_) ?_
              · (try simp only [Act.put, List.setIfInBounds_toArray, List.set_cons_zero, List.set_cons_succ, List.getElem_toArray, List.getElem_cons_zero, List.getElem_cons_succ])
                go_simp
                refine (evalEx X1 X2).mono ?_
                rintro e W6 ⟨rfl, hb⟩
                have hS := hS.below hb
                have X1 := X1.below hb
                have X3 := X3.below hb
                have X2 := X2.below hb
                have zW6 := hb.size
                clear hb
                refine hK.out _ _ hS (fun hHeld => ?_)
                clear hK K
                (try simp only [Act.put, List.setIfInBounds_toArray, List.set_cons_zero, List.set_cons_succ, List.getElem_toArray, List.getElem_cons_zero, List.getElem_cons_succ])
                refine wpAnyH_take (i := 9) (v := ?_) rfl (by kernel_rfl) (by kernel_rfl) (by kernel_rfl) (fun _ _ _ h => h) (Or.inl ⟨by rfl, ?_⟩) (by assumption) ?_
                rotate_left
                · (intro wx hSw; go_simp; (try with_reducible rfl); (try omega))
                (try simp only [Act.put, List.setIfInBounds_toArray, List.set_cons_zero, List.set_cons_succ, List.getElem_toArray, List.getElem_cons_zero, List.getElem_cons_succ])
                refine wpAnyH_take (i := 10) (v := ?_) rfl (by kernel_rfl) (by kernel_rfl) (by kernel_rfl) (fun _ _ _ h => h) (Or.inl ⟨by rfl, ?_⟩) (by assumption) ?_
                rotate_left
                · (intro wx hSw; go_simp; (try with_reducible rfl); (try omega))
                (try simp only [Act.put, List.setIfInBounds_toArray, List.set_cons_zero, List.set_cons_succ, List.getElem_toArray, List.getElem_cons_zero, List.getElem_cons_succ])
                refine wpAnyH_take (i := 11) (v := ?_) rfl (by kernel_rfl) (by kernel_rfl) (by kernel_rfl) (fun _ _ _ h => h) (Or.inl ⟨by rfl, ?_⟩) (by assumption) ?_
                rotate_left
                · (intro wx hSw; go_simp; (try with_reducible rfl); (try omega))
                (try simp only [Act.put, List.setIfInBounds_toArray, List.set_cons_zero, List.set_cons_succ, List.getElem_toArray, List.getElem_cons_zero, List.getElem_cons_succ])
                refine wpAnyH_ready (rs := [13]) (by kernel_rfl) (by simp) ?_
                refine AllReadyH.cons rfl (fun K hK => ?_) ?_
                · (try simp only [Act.put, List.getElem_toArray, List.getElem_cons_zero, List.getElem_cons_succ])
                  have r0 := X3.cell 0 rfl
                  have r1 := X3.cell 1 rfl
                  have r2 := X3.cell 2 rfl
                  have g0 := X3.frz 0 (by decide)
                  have g1 := X3.frz 1 (by decide)
                  have g2 := X3.frz 2 (by decide)
                  go_simp
                  clear r0 r1 r2 g0 g1 g2
                  have hS := hS.puts (T := W2.heap.size) [.int .i64 1, .int .i64 15, .string ⟨#[]⟩] (by have := hS.b.size; omega) (by omega)
                  have X3 := X3.puts [.int .i64 1, .int .i64 15, .string ⟨#[]⟩] rfl
                  refine hK.out _ _ hS (fun hHeld => ?_)
                  clear hK K
                  (try simp only [Act.put, List.setIfInBounds_toArray, List.set_cons_zero, List.set_cons_succ, List.getElem_toArray, List.getElem_cons_zero, List.getElem_cons_succ])
                  refine wpAnyH_take (i := 14) (v := ?_) rfl (by kernel_rfl) (by kernel_rfl) (by kernel_rfl) (fun _ _ _ h => h) (Or.inl ⟨by rfl, ?_⟩) (by assumption) ?_
                  rotate_left
                  · (intro wx hSw; go_simp; (try with_reducible rfl); (try omega))
                  (try simp only [Act.put, List.setIfInBounds_toArray, List.set_cons_zero, List.set_cons_succ, List.getElem_toArray, List.getElem_cons_zero, List.getElem_cons_succ])
                  refine wpAnyH_done (by kernel_rfl) ?_ _
                  go_wp2_with fail
                  go_meet
                  case rel => exact ⟨_, rfl, rfl, X3, hS⟩
                exact AllReadyH.nil
              exact AllReadyH.nil
            exact AllReadyH.nil
          exact AllReadyH.nil
        exact AllReadyH.nil
      refine AllReadyH.cons rfl (fun K hK => ?_) ?_
      · (try simp only [Act.put, List.setIfInBounds_toArray, List.set_cons_zero, List.set_cons_succ, List.getElem_toArray, List.getElem_cons_zero, List.getElem_cons_succ])
        go_simp
        refine (num11_any 5 _).mono ?_
        rintro e W2 ⟨rfl, hb⟩
        have hS := hS.below hb
        have zW2 := hb.size
        clear hb
        refine hK.out _ _ hS (fun hHeld => ?_)
        clear hK K
        (try simp only [Act.put, List.setIfInBounds_toArray, List.set_cons_zero, List.set_cons_succ, List.getElem_toArray, List.getElem_cons_zero, List.getElem_cons_succ])
        refine wpAnyH_ready (rs := [3, 7, 12]) (by kernel_rfl) (by simp) ?_
        refine AllReadyH.cons rfl (fun K hK => ?_) ?_
        · (try simp only [Act.put, List.setIfInBounds_toArray, List.set_cons_zero, List.set_cons_succ, List.getElem_toArray, List.getElem_cons_zero, List.getElem_cons_succ])
          go_simp
          obtain ⟨W3, hW3⟩ : ∃ W', W2.alloc (.cells #[.int .i64 1, .int .i64 1, .int .i64 0, .int .i64 0, .string ⟨#[]⟩, .slice none 0 0, .int .i64 2, .int .i64 0, .int .i64 1, .int .i64 3, .string ⟨#[]⟩, .slice none 0 0] 26) = W' := ⟨_, rfl⟩
          have X1 : VarB W3 W2.heap.size [.int .i64 1, .int .i64 1, .int .i64 0, .int .i64 0, .string ⟨#[]⟩, .slice none 0 0, .int .i64 2, .int .i64 0, .int .i64 1, .int .i64 3, .string ⟨#[]⟩, .slice none 0 0] := by rw [← hW3]; exact VarB.new _ _ _
          have hS := hS.alloc (.cells #[.int .i64 1, .int .i64 1, .int .i64 0, .int .i64 0, .string ⟨#[]⟩, .slice none 0 0, .int .i64 2, .int .i64 0, .int .i64 1, .int .i64 3, .string ⟨#[]⟩, .slice none 0 0] 26); rw [hW3] at hS
          rw [hW3]
          have zX1 : W2.heap.size < W3.heap.size := X1.lt
          refine hK.out _ _ hS (fun hHeld => ?_)
          clear hW3
          clear hK K
          (try simp only [Act.put, List.setIfInBounds_toArray, List.set_cons_zero, List.set_cons_succ, List.getElem_toArray, List.getElem_cons_zero, List.getElem_cons_succ])
          refine wpAnyH_take (i := 4) (v := ?_) rfl (by kernel_rfl) (by kernel_rfl) (by kernel_rfl) (fun _ _ _ h => h) (Or.inl ⟨by rfl, ?_⟩) (by assumption) ?_
          rotate_left
          · (intro wx hSw; go_simp; (try with_reducible rfl); (try omega))
          (try simp only [Act.put, List.setIfInBounds_toArray, List.set_cons_zero, List.set_cons_succ, List.getElem_toArray, List.getElem_cons_zero, List.getElem_cons_succ])
          refine wpAnyH_ready (rs := [7, 12]) (by kernel_rfl) (by simp) ?_
          refine AllReadyH.cons rfl (fun K hK => ?_) ?_
          · (try simp only [Act.put, List.setIfInBounds_toArray, List.set_cons_zero, List.set_cons_succ, List.getElem_toArray, List.getElem_cons_zero, List.getElem_cons_succ])
            go_simp
            obtain ⟨W4, hW4⟩ : ∃ W', W3.alloc (.cells #[.int .i64 0, .int .i64 0, .string ⟨#[]⟩, .int .i64 1, .int .i64 5, .string ⟨#[]⟩] 23) = W' := ⟨_, rfl⟩
            have X2 : VarB W4 W3.heap.size [.int .i64 0, .int .i64 0, .string ⟨#[]⟩, .int .i64 1, .int .i64 5, .string ⟨#[]⟩] := by rw [← hW4]; exact VarB.new _ _ _
            have hS := hS.alloc (.cells #[.int .i64 0, .int .i64 0, .string ⟨#[]⟩, .int .i64 1, .int .i64 5, .string ⟨#[]⟩] 23); rw [hW4] at hS
            have X1 := X1.alloc (.cells #[.int .i64 0, .int .i64 0, .string ⟨#[]⟩, .int .i64 1, .int .i64 5, .string ⟨#[]⟩] 23); rw [hW4] at X1
            rw [hW4]
            have zX2 : W3.heap.size < W4.heap.size := X2.lt
            refine hK.out _ _ hS (fun hHeld => ?_)
            clear hW4
            clear hK K
            (try simp only [Act.put, List.setIfInBounds_toArray, List.set_cons_zero, List.set_cons_succ, List.getElem_toArray, List.getElem_cons_zero, List.getElem_cons_succ])
            refine wpAnyH_ready (rs := [8, 12]) (by kernel_rfl) (by simp) ?_
            refine AllReadyH.cons rfl (fun K hK => ?_) ?_
            · (try simp only [Act.put, List.setIfInBounds_toArray, List.set_cons_zero, List.set_cons_succ, List.getElem_toArray, List.getElem_cons_zero, List.getElem_cons_succ])
              go_simp
              refine (evalEx X1 X2).mono ?_
              rintro e W5 ⟨rfl, hb⟩
              have hS := hS.below hb
              have X1 := X1.below hb
              have X2 := X2.below hb
              have zW5 := hb.size
              clear hb
              refine hK.out _ _ hS (fun hHeld => ?_)
              clear hK K
              (try simp only [Act.put, List.setIfInBounds_toArray, List.set_cons_zero, List.set_cons_succ, List.getElem_toArray, List.getElem_cons_zero, List.getElem_cons_succ])
              refine wpAnyH_take (i := 9) (v := ?_) rfl (by kernel_rfl) (by kernel_rfl) (by kernel_rfl) (fun _ _ _ h => h) (Or.inl ⟨by rfl, ?_⟩) (by assumption) ?_
              rotate_left
              · (intro wx hSw; go_simp; (try with_reducible rfl); (try omega))
              (try simp only [Act.put, List.setIfInBounds_toArray, List.set_cons_zero, List.set_cons_succ, List.getElem_toArray, List.getElem_cons_zero, List.getElem_cons_succ])
              refine wpAnyH_take (i := 10) (v := ?_) rfl (by kernel_rfl) (by kernel_rfl) (by kernel_rfl) (fun _ _ _ h => h) (Or.inl ⟨by rfl, ?_⟩) (by assumption) ?_
              rotate_left
              · (intro wx hSw; go_simp; (try with_reducible rfl); (try omega))
              (try simp only [Act.put, List.setIfInBounds_toArray, List.set_cons_zero, List.set_cons_succ, List.getElem_toArray, List.getElem_cons_zero, List.getElem_cons_succ])
              refine wpAnyH_take (i := 11) (v := ?_) rfl (by kernel_rfl) (by kernel_rfl) (by kernel_rfl) (fun _ _ _ h => h) (Or.inl ⟨by rfl, ?_⟩) (by assumption) ?_
              rotate_left
              · (intro wx hSw; go_simp; (try with_reducible rfl); (try omega))
              (try simp only [Act.put, List.setIfInBounds_toArray, List.set_cons_zero, List.set_cons_succ, List.getElem_toArray, List.getElem_cons_zero, List.getElem_cons_succ])
              refine wpAnyH_ready (rs := [12]) (by kernel_rfl) (by simp) ?_
              refine AllReadyH.cons rfl (fun K hK => ?_) ?_
              · (try simp only [Act.put, List.setIfInBounds_toArray, List.set_cons_zero, List.set_cons_succ, List.getElem_toArray, List.getElem_cons_zero, List.getElem_cons_succ])
                go_simp
                obtain ⟨W6, hW6⟩ : ∃ W', W5.alloc (.cells #[.int .i64 0, .int .i64 0, .string ⟨#[]⟩] 23) = W' := ⟨_, rfl⟩
                have X3 : VarB W6 W5.heap.size [.int .i64 0, .int .i64 0, .string ⟨#[]⟩] := by rw [← hW6]; exact VarB.new _ _ _
                have hS := hS.alloc (.cells #[.int .i64 0, .int .i64 0, .string ⟨#[]⟩] 23); rw [hW6] at hS
                have X1 := X1.alloc (.cells #[.int .i64 0, .int .i64 0, .string ⟨#[]⟩] 23); rw [hW6] at X1
                have X2 := X2.alloc (.cells #[.int .i64 0, .int .i64 0, .string ⟨#[]⟩] 23); rw [hW6] at X2
                rw [hW6]
                have zX3 : W5.heap.size < W6.heap.size := X3.lt
                refine hK.out _ _ hS (fun hHeld => ?_)
                clear hW6
                clear hK K
                (try simp only [Act.put, List.setIfInBounds_toArray, List.set_cons_zero, List.set_cons_succ, List.getElem_toArray, List.getElem_cons_zero, List.getElem_cons_succ])
                refine wpAnyH_ready (rs := [13]) (by kernel_rfl) (by simp) ?_
                refine AllReadyH.cons rfl (fun K hK => ?_) ?_
                · (try simp only [Act.put, List.getElem_toArray, List.getElem_cons_zero, List.getElem_cons_succ])
                  have r0 := X3.cell 0 rfl
                  have r1 := X3.cell 1 rfl
                  have r2 := X3.cell 2 rfl
                  have g0 := X3.frz 0 (by decide)
                  have g1 := X3.frz 1 (by decide)
                  have g2 := X3.frz 2 (by decide)
                  go_simp
                  clear r0 r1 r2 g0 g1 g2
                  have hS := hS.puts (T := W5.heap.size) [.int .i64 1, .int .i64 15, .string ⟨#[]⟩] (by have := hS.b.size; omega) (by omega)
                  have X3 := X3.puts [.int .i64 1, .int .i64 15, .string ⟨#[]⟩] rfl
                  refine hK.out _ _ hS (fun hHeld => ?_)
                  clear hK K
                  (try simp only [Act.put, List.setIfInBounds_toArray, List.set_cons_zero, List.set_cons_succ, List.getElem_toArray, List.getElem_cons_zero, List.getElem_cons_succ])
                  refine wpAnyH_take (i := 14) (v := ?_) rfl (by kernel_rfl) (by kernel_rfl) (by kernel_rfl) (fun _ _ _ h => h) (Or.inl ⟨by rfl, ?_⟩) (by assumption) ?_
                  rotate_left
                  · (intro wx hSw; go_simp; (try with_reducible rfl); (try omega))
                  (try simp only [Act.put, List.setIfInBounds_toArray, List.set_cons_zero, List.set_cons_succ, List.getElem_toArray, List.getElem_cons_zero, List.getElem_cons_succ])
                  refine wpAnyH_done (by kernel_rfl) ?_ _
                  go_wp2_with fail
                  go_meet
                  case rel => exact ⟨_, rfl, rfl, X3, hS⟩
                exact AllReadyH.nil
              exact AllReadyH.nil
            refine AllReadyH.cons rfl (fun K hK => ?_) ?_
            · (try simp only [Act.put, List.setIfInBounds_toArray, List.set_cons_zero, List.set_cons_succ, List.getElem_toArray, List.getElem_cons_zero, List.getElem_cons_succ])
              go_simp
              obtain ⟨W5, hW5⟩ : ∃ W', W4.alloc (.cells #[.int .i64 0, .int .i64 0, .string ⟨#[]⟩] 23) = W' := ⟨_, rfl⟩
              have X3 : VarB W5 W4.heap.size [.int .i64 0, .int .i64 0, .string ⟨#[]⟩] := by rw [← hW5]; exact VarB.new _ _ _
              have hS := hS.alloc (.cells #[.int .i64 0, .int .i64 0, .string ⟨#[]⟩] 23); rw [hW5] at hS
              have X1 := X1.alloc (.cells #[.int .i64 0, .int .i64 0, .string ⟨#[]⟩] 23); rw [hW5] at X1
              have X2 := X2.alloc (.cells #[.int .i64 0, .int .i64 0, .string ⟨#[]⟩] 23); rw [hW5] at X2
              rw [hW5]
              have zX3 : W4.heap.size < W5.heap.size := X3.lt
              refine hK.out _ _ hS (fun hHeld => ?_)
              clear hW5
              clear hK K
              (try simp only [Act.put, List.setIfInBounds_toArray, List.set_cons_zero, List.set_cons_succ, List.getElem_toArray, List.getElem_cons_zero, List.getElem_cons_succ])
              refine wpAnyH_ready (rs := [8]) (by kernel_rfl) (by simp) ?_
              refine AllReadyH.cons rfl (fun K hK => ?_) ?_
              · (try simp only [Act.put, List.setIfInBounds_toArray, List.set_cons_zero, List.set_cons_succ, List.getElem_toArray, List.getElem_cons_zero, List.getElem_cons_succ])
                go_simp
                refine (evalEx X1 X2).mono ?_
                rintro e W6 ⟨rfl, hb⟩
                have hS := hS.below hb
                have X1 := X1.below hb
                have X2 := X2.below hb
                have X3 := X3.below hb
                have zW6 := hb.size
                clear hb
                refine hK.out _ _ hS (fun hHeld => ?_)
                clear hK K
                (try simp only [Act.put, List.setIfInBounds_toArray, List.set_cons_zero, List.set_cons_succ, List.getElem_toArray, List.getElem_cons_zero, List.getElem_cons_succ])
                refine wpAnyH_take (i := 9) (v := ?_) rfl (by kernel_rfl) (by kernel_rfl) (by kernel_rfl) (fun _ _ _ h => h) (Or.inl ⟨by rfl, ?_⟩) (by assumption) ?_
                rotate_left
                · (intro wx hSw; go_simp; (try with_reducible rfl); (try omega))
                (try simp only [Act.put, List.setIfInBounds_toArray, List.set_cons_zero, List.set_cons_succ, List.getElem_toArray, List.getElem_cons_zero, List.getElem_cons_succ])
                refine wpAnyH_take (i := 10) (v := ?_) rfl (by kernel_rfl) (by kernel_rfl) (by kernel_rfl) (fun _ _ _ h => h) (Or.inl ⟨by rfl, ?_⟩) (by assumption) ?_
                rotate_left
                · (intro wx hSw; go_simp; (try with_reducible rfl); (try omega))
                (try simp only [Act.put, List.setIfInBounds_toArray, List.set_cons_zero, List.set_cons_succ, List.getElem_toArray, List.getElem_cons_zero, List.getElem_cons_succ])
                refine wpAnyH_take (i := 11) (v := ?_) rfl (by kernel_rfl) (by kernel_rfl) (by kernel_rfl) (fun _ _ _ h => h) (Or.inl ⟨by rfl, ?_⟩) (by assumption) ?_
                rotate_left
                · (intro wx hSw; go_simp; (try with_reducible rfl); (try omega))
                (try simp only [Act.put, List.setIfInBounds_toArray, List.set_cons_zero, List.set_cons_succ, List.getElem_toArray, List.getElem_cons_zero, List.getElem_cons_succ])
                refine wpAnyH_ready (rs := [13]) (by kernel_rfl) (by simp) ?_
                refine AllReadyH.cons rfl (fun K hK => ?_) ?_
                · (try simp only [Act.put, List.getElem_toArray, List.getElem_cons_zero, List.getElem_cons_succ])
                  have r0 := X3.cell 0 rfl
                  have r1 := X3.cell 1 rfl
                  have r2 := X3.cell 2 rfl
                  have g0 := X3.frz 0 (by decide)
                  have g1 := X3.frz 1 (by decide)
                  have g2 := X3.frz 2 (by decide)
                  go_simp
                  clear r0 r1 r2 g0 g1 g2
                  have hS := hS.puts (T := W4.heap.size) [.int .i64 1, .int .i64 15, .string ⟨#[]⟩] (by have := hS.b.size; omega) (by omega)
                  have X3 := X3.puts [.int .i64 1, .int .i64 15, .string ⟨#[]⟩] rfl
                  refine hK.out _ _ hS (fun hHeld => ?_)
                  clear hK K
                  (try simp only [Act.put, List.setIfInBounds_toArray, List.set_cons_zero, List.set_cons_succ, List.getElem_toArray, List.getElem_cons_zero, List.getElem_cons_succ])
                  refine wpAnyH_take (i := 14) (v := ?_) rfl (by kernel_rfl) (by kernel_rfl) (by kernel_rfl) (fun _ _ _ h => h) (Or.inl ⟨by rfl, ?_⟩) (by assumption) ?_
                  rotate_left
                  · (intro wx hSw; go_simp; (try with_reducible rfl); (try omega))
                  (try simp only [Act.put, List.setIfInBounds_toArray, List.set_cons_zero, List.set_cons_succ, List.getElem_toArray, List.getElem_cons_zero, List.getElem_cons_succ])
                  refine wpAnyH_done (by kernel_rfl) ?_ _
                  go_wp2_with fail
                  go_meet
                  case rel => exact ⟨_, rfl, rfl, X3, hS⟩
                exact AllReadyH.nil
              exact AllReadyH.nil
            exact AllReadyH.nil
          refine AllReadyH.cons rfl (fun K hK => ?_) ?_
          · (try simp only [Act.put, List.setIfInBounds_toArray, List.set_cons_zero, List.set_cons_succ, List.getElem_toArray, List.getElem_cons_zero, List.getElem_cons_succ])
            go_simp
            obtain ⟨W4, hW4⟩ : ∃ W', W3.alloc (.cells #[.int .i64 0, .int .i64 0, .string ⟨#[]⟩] 23) = W' := ⟨_, rfl⟩
            have X3 : VarB W4 W3.heap.size [.int .i64 0, .int .i64 0, .string ⟨#[]⟩] := by rw [← hW4]; exact VarB.new _ _ _
            have hS := hS.alloc (.cells #[.int .i64 0, .int .i64 0, .string ⟨#[]⟩] 23); rw [hW4] at hS
            have X1 := X1.alloc (.cells #[.int .i64 0, .int .i64 0, .string ⟨#[]⟩] 23); rw [hW4] at X1
            rw [hW4]
            have zX3 : W3.heap.size < W4.heap.size := X3.lt
            refine hK.out _ _ hS (fun hHeld => ?_)
            clear hW4
            clear hK K
            (try simp only [Act.put, List.setIfInBounds_toArray, List.set_cons_zero, List.set_cons_succ, List.getElem_toArray, List.getElem_cons_zero, List.getElem_cons_succ])
            refine wpAnyH_ready (rs := [7]) (by kernel_rfl) (by simp) ?_
            refine AllReadyH.cons rfl (fun K hK => ?_) ?_
            · (try simp only [Act.put, List.setIfInBounds_toArray, List.set_cons_zero, List.set_cons_succ, List.getElem_toArray, List.getElem_cons_zero, List.getElem_cons_succ])
              go_simp
              obtain ⟨W5, hW5⟩ : ∃ W', W4.alloc (.cells #[.int .i64 0, .int .i64 0, .string ⟨#[]⟩, .int .i64 1, .int .i64 5, .string ⟨#[]⟩] 23) = W' := ⟨_, rfl⟩
              have X2 : VarB W5 W4.heap.size [.int .i64 0, .int .i64 0, .string ⟨#[]⟩, .int .i64 1, .int .i64 5, .string ⟨#[]⟩] := by rw [← hW5]; exact VarB.new _ _ _
              have hS := hS.alloc (.cells #[.int .i64 0, .int .i64 0, .string ⟨#[]⟩, .int .i64 1, .int .i64 5, .string ⟨#[]⟩] 23); rw [hW5] at hS
              have X1 := X1.alloc (.cells #[.int .i64 0, .int .i64 0, .string ⟨#[]⟩, .int .i64 1, .int .i64 5, .string ⟨#[]⟩] 23); rw [hW5] at X1
              have X3 := X3.alloc (.cells #[.int .i64 0, .int .i64 0, .string ⟨#[]⟩, .int .i64 1, .int .i64 5, .string ⟨#[]⟩] 23); rw [hW5] at X3
              rw [hW5]
              have zX2 : W4.heap.size < W5.heap.size := X2.lt
              refine hK.out _ _ hS (fun hHeld => ?_)
              clear hW5
              clear hK K
              (try simp only [Act.put, List.setIfInBounds_toArray, List.set_cons_zero, List.set_cons_succ, List.getElem_toArray, List.getElem_cons_zero, List.getElem_cons_succ])
              refine wpAnyH_ready (rs := [8]) (by kernel_rfl) (by simp) ?_
              refine AllReadyH.cons rfl (fun K hK => ?_) ?_
              · (try simp only [Act.put, List.setIfInBounds_toArray, List.set_cons_zero, List.set_cons_succ, List.getElem_toArray, List.getElem_cons_zero, List.getElem_cons_succ])
                go_simp
                refine (evalEx X1 X2).mono ?_
                rintro e W6 ⟨rfl, hb⟩
                have hS := hS.below hb
                have X1 := X1.below hb
                have X3 := X3.below hb
                have X2 := X2.below hb
                have zW6 := hb.size
                clear hb
                refine hK.out _ _ hS (fun hHeld => ?_)
                clear hK K
                (try simp only [Act.put, List.setIfInBounds_toArray, List.set_cons_zero, List.set_cons_succ, List.getElem_toArray, List.getElem_cons_zero, List.getElem_cons_succ])
                refine wpAnyH_take (i := 9) (v := ?_) rfl (by kernel_rfl) (by kernel_rfl) (by kernel_rfl) (fun _ _ _ h => h) (Or.inl ⟨by rfl, ?_⟩) (by assumption) ?_
                rotate_left
                · (intro wx hSw; go_simp; (try with_reducible rfl); (try omega))
                (try simp only [Act.put, List.setIfInBounds_toArray, List.set_cons_zero, List.set_cons_succ, List.getElem_toArray, List.getElem_cons_zero, List.getElem_cons_succ])
                refine wpAnyH_take (i := 10) (v := ?_) rfl (by kernel_rfl) (by kernel_rfl) (by kernel_rfl) (fun _ _ _ h => h) (Or.inl ⟨by rfl, ?_⟩) (by assumption) ?_
                rotate_left
                · (intro wx hSw; go_simp; (try with_reducible rfl); (try omega))
                (try simp only [Act.put, List.setIfInBounds_toArray, List.set_cons_zero, List.set_cons_succ, List.getElem_toArray, List.getElem_cons_zero, List.getElem_cons_succ])
                refine wpAnyH_take (i := 11) (v := ?_) rfl (by kernel_rfl) (by kernel_rfl) (by kernel_rfl) (fun _ _ _ h => h) (Or.inl ⟨by rfl, ?_⟩) (by assumption) ?_
                rotate_left
                · (intro wx hSw; go_simp; (try with_reducible rfl); (try omega))
                (try simp only [Act.put, List.setIfInBounds_toArray, List.set_cons_zero, List.set_cons_succ, List.getElem_toArray, List.getElem_cons_zero, List.getElem_cons_succ])
                refine wpAnyH_ready (rs := [13]) (by kernel_rfl) (by simp) ?_
                refine AllReadyH.cons rfl (fun K hK => ?_) ?_
                · (try simp only [Act.put, List.getElem_toArray, List.getElem_cons_zero, List.getElem_cons_succ])
                  have r0 := X3.cell 0 rfl
                  have r1 := X3.cell 1 rfl
                  have r2 := X3.cell 2 rfl
                  have g0 := X3.frz 0 (by decide)
                  have g1 := X3.frz 1 (by decide)
                  have g2 := X3.frz 2 (by decide)
                  go_simp
                  clear r0 r1 r2 g0 g1 g2
                  have hS := hS.puts (T := W3.heap.size) [.int .i64 1, .int .i64 15, .string ⟨#[]⟩] (by have := hS.b.size; omega) (by omega)
                  have X3 := X3.puts [.int .i64 1, .int .i64 15, .string ⟨#[]⟩] rfl
                  refine hK.out _ _ hS (fun hHeld => ?_)
                  clear hK K
                  (try simp only [Act.put, List.setIfInBounds_toArray, List.set_cons_zero, List.set_cons_succ, List.getElem_toArray, List.getElem_cons_zero, List.getElem_cons_succ])
                  refine wpAnyH_take (i := 14) (v := ?_) rfl (by kernel_rfl) (by kernel_rfl) (by kernel_rfl) (fun _ _ _ h => h) (Or.inl ⟨by rfl, ?_⟩) (by assumption) ?_
                  rotate_left
                  · (intro wx hSw; go_simp; (try with_reducible rfl); (try omega))
                  (try simp only [Act.put, List.setIfInBounds_toArray, List.set_cons_zero, List.set_cons_succ, List.getElem_toArray, List.getElem_cons_zero, List.getElem_cons_succ])
                  refine wpAnyH_done (by kernel_rfl) ?_ _
                  go_wp2_with fail
                  go_meet
                  case rel => exact ⟨_, rfl, rfl, X3, hS⟩
                exact AllReadyH.nil
              exact AllReadyH.nil
            exact AllReadyH.nil
          exact AllReadyH.nil
        refine AllReadyH.cons rfl (fun K hK => ?_) ?_
        · (try simp only [Act.put, List.setIfInBounds_toArray, List.set_cons_zero, List.set_cons_succ, List.getElem_toArray, List.getElem_cons_zero, List.getElem_cons_succ])
          go_simp
          obtain ⟨W3, hW3⟩ : ∃ W', W2.alloc (.cells #[.int .i64 0, .int .i64 0, .string ⟨#[]⟩, .int .i64 1, .int .i64 5, .string ⟨#[]⟩] 23) = W' := ⟨_, rfl⟩
          have X2 : VarB W3 W2.heap.size [.int .i64 0, .int .i64 0, .string ⟨#[]⟩, .int .i64 1, .int .i64 5, .string ⟨#[]⟩] := by rw [← hW3]; exact VarB.new _ _ _
          have hS := hS.alloc (.cells #[.int .i64 0, .int .i64 0, .string ⟨#[]⟩, .int .i64 1, .int .i64 5, .string ⟨#[]⟩] 23); rw [hW3] at hS
          rw [hW3]
          have zX2 : W2.heap.size < W3.heap.size := X2.lt
          refine hK.out _ _ hS (fun hHeld => ?_)
          clear hW3
          clear hK K
          (try simp only [Act.put, List.setIfInBounds_toArray, List.set_cons_zero, List.set_cons_succ, List.getElem_toArray, List.getElem_cons_zero, List.getElem_cons_succ])
          refine wpAnyH_ready (rs := [3, 12]) (by kernel_rfl) (by simp) ?_
          refine AllReadyH.cons rfl (fun K hK => ?_) ?_
          · (try simp only [Act.put, List.setIfInBounds_toArray, List.set_cons_zero, List.set_cons_succ, List.getElem_toArray, List.getElem_cons_zero, List.getElem_cons_succ])
            go_simp
            obtain ⟨W4, hW4⟩ : ∃ W', W3.alloc (.cells #[.int .i64 1, .int .i64 1, .int .i64 0, .int .i64 0, .string ⟨#[]⟩, .slice none 0 0, .int .i64 2, .int .i64 0, .int .i64 1, .int .i64 3, .string ⟨#[]⟩, .slice none 0 0] 26) = W' := ⟨_, rfl⟩
            have X1 : VarB W4 W3.heap.size [.int .i64 1, .int .i64 1, .int .i64 0, .int .i64 0, .string ⟨#[]⟩, .slice none 0 0, .int .i64 2, .int .i64 0, .int .i64 1, .int .i64 3, .string ⟨#[]⟩, .slice none 0 0] := by rw [← hW4]; exact VarB.new _ _ _
            have hS := hS.alloc (.cells #[.int .i64 1, .int .i64 1, .int .i64 0, .int .i64 0, .string ⟨#[]⟩, .slice none 0 0, .int .i64 2, .int .i64 0, .int .i64 1, .int .i64 3, .string ⟨#[]⟩, .slice none 0 0] 26); rw [hW4] at hS
            have X2 := X2.alloc (.cells #[.int .i64 1, .int .i64 1, .int .i64 0, .int .i64 0, .string ⟨#[]⟩, .slice none 0 0, .int .i64 2, .int .i64 0, .int .i64 1, .int .i64 3, .string ⟨#[]⟩, .slice none 0 0] 26); rw [hW4] at X2
            rw [hW4]
            have zX1 : W3.heap.size < W4.heap.size := X1.lt
            refine hK.out _ _ hS (fun hHeld => ?_)
            clear hW4
            clear hK K
            (try simp only [Act.put, List.setIfInBounds_toArray, List.set_cons_zero, List.set_cons_succ, List.getElem_toArray, List.getElem_cons_zero, List.getElem_cons_succ])
            refine wpAnyH_take (i := 4) (v := ?_) rfl (by kernel_rfl) (by kernel_rfl) (by kernel_rfl) (fun _ _ _ h => h) (Or.inl ⟨by rfl, ?_⟩) (by assumption) ?_
            rotate_left
            · (intro wx hSw; go_simp; (try with_reducible rfl); (try omega))
            (try simp only [Act.put, List.setIfInBounds_toArray, List.set_cons_zero, List.set_cons_succ, List.getElem_toArray, List.getElem_cons_zero, List.getElem_cons_succ])
            refine wpAnyH_ready (rs := [8, 12]) (by kernel_rfl) (by simp) ?_
            refine AllReadyH.cons rfl (fun K hK => ?_) ?_
            · (try simp only [Act.put, List.setIfInBounds_toArray, List.set_cons_zero, List.set_cons_succ, List.getElem_toArray, List.getElem_cons_zero, List.getElem_cons_succ])
              go_simp
              refine (evalEx X1 X2).mono ?_
              rintro e W5 ⟨rfl, hb⟩
              have hS := hS.below hb
              have X2 := X2.below hb
              have X1 := X1.below hb
              have zW5 := hb.size
              clear hb
              refine hK.out _ _ hS (fun hHeld => ?_)
              clear hK K
              (try simp only [Act.put, List.setIfInBounds_toArray, List.set_cons_zero, List.set_cons_succ, List.getElem_toArray, List.getElem_cons_zero, List.getElem_cons_succ])
              refine wpAnyH_take (i := 9) (v := ?_) rfl (by kernel_rfl) (by kernel_rfl) (by kernel_rfl) (fun _ _ _ h => h) (Or.inl ⟨by rfl, ?_⟩) (by assumption) ?_
              rotate_left
              · (intro wx hSw; go_simp; (try with_reducible rfl); (try omega))
              (try simp only [Act.put, List.setIfInBounds_toArray, List.set_cons_zero, List.set_cons_succ, List.getElem_toArray, List.getElem_cons_zero, List.getElem_cons_succ])
              refine wpAnyH_take (i := 10) (v := ?_) rfl (by kernel_rfl) (by kernel_rfl) (by kernel_rfl) (fun _ _ _ h => h) (Or.inl ⟨by rfl, ?_⟩) (by assumption) ?_
              rotate_left
              · (intro wx hSw; go_simp; (try with_reducible rfl); (try omega))
              (try simp only [Act.put, List.setIfInBounds_toArray, List.set_cons_zero, List.set_cons_succ, List.getElem_toArray, List.getElem_cons_zero, List.getElem_cons_succ])
              refine wpAnyH_take (i := 11) (v := ?_) rfl (by kernel_rfl) (by kernel_rfl) (by kernel_rfl) (fun _ _ _ h => h) (Or.inl ⟨by rfl, ?_⟩) (by assumption) ?_
              rotate_left
              · (intro wx hSw; go_simp; (try with_reducible rfl); (try omega))
              (try simp only [Act.put, List.setIfInBounds_toArray, List.set_cons_zero, List.set_cons_succ, List.getElem_toArray, List.getElem_cons_zero, List.getElem_cons_succ])
              refine wpAnyH_ready (rs := [12]) (by kernel_rfl) (by simp) ?_
              refine AllReadyH.cons rfl (fun K hK => ?_) ?_
              · (try simp only [Act.put, List.setIfInBounds_toArray, List.set_cons_zero, List.set_cons_succ, List.getElem_toArray, List.getElem_cons_zero, List.getElem_cons_succ])
                go_simp
                obtain ⟨W6, hW6⟩ : ∃ W', W5.alloc (.cells #[.int .i64 0, .int .i64 0, .string ⟨#[]⟩] 23) = W' := ⟨_, rfl⟩
                have X3 : VarB W6 W5.heap.size [.int .i64 0, .int .i64 0, .string ⟨#[]⟩] := by rw [← hW6]; exact VarB.new _ _ _
                have hS := hS.alloc (.cells #[.int .i64 0, .int .i64 0, .string ⟨#[]⟩] 23); rw [hW6] at hS
                have X2 := X2.alloc (.cells #[.int .i64 0, .int .i64 0, .string ⟨#[]⟩] 23); rw [hW6] at X2
                have X1 := X1.alloc (.cells #[.int .i64 0, .int .i64 0, .string ⟨#[]⟩] 23); rw [hW6] at X1
                rw [hW6]
                have zX3 : W5.heap.size < W6.heap.size := X3.lt
                refine hK.out _ _ hS (fun hHeld => ?_)
                clear hW6
                clear hK K
                (try simp only [Act.put, List.setIfInBounds_toArray, List.set_cons_zero, List.set_cons_succ, List.getElem_toArray, List.getElem_cons_zero, List.getElem_cons_succ])
                refine wpAnyH_ready (rs := [13]) (by kernel_rfl) (by simp) ?_
                refine AllReadyH.cons rfl (fun K hK => ?_) ?_
                · (try simp only [Act.put, List.getElem_toArray, List.getElem_cons_zero, List.getElem_cons_succ])
                  have r0 := X3.cell 0 rfl
                  have r1 := X3.cell 1 rfl
                  have r2 := X3.cell 2 rfl
                  have g0 := X3.frz 0 (by decide)
                  have g1 := X3.frz 1 (by decide)
                  have g2 := X3.frz 2 (by decide)
                  go_simp
                  clear r0 r1 r2 g0 g1 g2
                  have hS := hS.puts (T := W5.heap.size) [.int .i64 1, .int .i64 15, .string ⟨#[]⟩] (by have := hS.b.size; omega) (by omega)
                  have X3 := X3.puts [.int .i64 1, .int .i64 15, .string ⟨#[]⟩] rfl
                  refine hK.out _ _ hS (fun hHeld => ?_)
                  clear hK K
                  (try simp only [Act.put, List.setIfInBounds_toArray, List.set_cons_zero, List.set_cons_succ, List.getElem_toArray, List.getElem_cons_zero, List.getElem_cons_succ])
                  refine wpAnyH_take (i := 14) (v := ?_) rfl (by kernel_rfl) (by kernel_rfl) (by kernel_rfl) (fun _ _ _ h => h) (Or.inl ⟨by rfl, ?_⟩) (by assumption) ?_
                  rotate_left
                  · (intro wx hSw; go_simp; (try with_reducible rfl); (try omega))
                  (try simp only [Act.put, List.setIfInBounds_toArray, List.set_cons_zero, List.set_cons_succ, List.getElem_toArray, List.getElem_cons_zero, List.getElem_cons_succ])
                  refine wpAnyH_done (by kernel_rfl) ?_ _
                  go_wp2_with fail
                  go_meet
                  case rel => exact ⟨_, rfl, rfl, X3, hS⟩
                exact AllReadyH.nil
              exact AllReadyH.nil
            refine AllReadyH.cons rfl (fun K hK => ?_) ?_
            · (try simp only [Act.put, List.setIfInBounds_toArray, List.set_cons_zero, List.set_cons_succ, List.getElem_toArray, List.getElem_cons_zero, List.getElem_cons_succ])
              go_simp
              obtain ⟨W5, hW5⟩ : ∃ W', W4.alloc (.cells #[.int .i64 0, .int .i64 0, .string ⟨#[]⟩] 23) = W' := ⟨_, rfl⟩
              have X3 : VarB W5 W4.heap.size [.int .i64 0, .int .i64 0, .string ⟨#[]⟩] := by rw [← hW5]; exact VarB.new _ _ _
              have hS := hS.alloc (.cells #[.int .i64 0, .int .i64 0, .string ⟨#[]⟩] 23); rw [hW5] at hS
              have X2 := X2.alloc (.cells #[.int .i64 0, .int .i64 0, .string ⟨#[]⟩] 23); rw [hW5] at X2
              have X1 := X1.alloc (.cells #[.int .i64 0, .int .i64 0, .string ⟨#[]⟩] 23); rw [hW5] at X1
              rw [hW5]
              have zX3 : W4.heap.size < W5.heap.size := X3.lt
              refine hK.out _ _ hS (fun hHeld => ?_)
              clear hW5
              clear hK K
              (try simp only [Act.put, List.setIfInBounds_toArray, List.set_cons_zero, List.set_cons_succ, List.getElem_toArray, List.getElem_cons_zero, List.getElem_cons_succ])
              refine wpAnyH_ready (rs := [8]) (by kernel_rfl) (by simp) ?_
              refine AllReadyH.cons rfl (fun K hK => ?_) ?_
              · (try simp only [Act.put, List.setIfInBounds_toArray, List.set_cons_zero, List.set_cons_succ, List.getElem_toArray, List.getElem_cons_zero, List.getElem_cons_succ])
                go_simp
                refine (evalEx X1 X2).mono ?_
                rintro e W6 ⟨rfl, hb⟩
                have hS := hS.below hb
                have X2 := X2.below hb
                have X1 := X1.below hb
                have X3 := X3.below hb
                have zW6 := hb.size
                clear hb
                refine hK.out _ _ hS (fun hHeld => ?_)
                clear hK K
                (try simp only [Act.put, List.setIfInBounds_toArray, List.set_cons_zero, List.set_cons_succ, List.getElem_toArray, List.getElem_cons_zero, List.getElem_cons_succ])
                refine wpAnyH_take (i := 9) (v := ?_) rfl (by kernel_rfl) (by kernel_rfl) (by kernel_rfl) (fun _ _ _ h => h) (Or.inl ⟨by rfl, ?_⟩) (by assumption) ?_
                rotate_left
                · (intro wx hSw; go_simp; (try with_reducible rfl); (try omega))
                (try simp only [Act.put, List.setIfInBounds_toArray, List.set_cons_zero, List.set_cons_succ, List.getElem_toArray, List.getElem_cons_zero, List.getElem_cons_succ])
                refine wpAnyH_take (i := 10) (v := ?_) rfl (by kernel_rfl) (by kernel_rfl) (by kernel_rfl) (fun _ _ _ h => h) (Or.inl ⟨by rfl, ?_⟩) (by assumption) ?_
                rotate_left
                · (intro wx hSw; go_simp; (try with_reducible rfl); (try omega))
                (try simp only [Act.put, List.setIfInBounds_toArray, List.set_cons_zero, List.set_cons_succ, List.getElem_toArray, List.getElem_cons_zero, List.getElem_cons_succ])
                refine wpAnyH_take (i := 11) (v := ?_) rfl (by kernel_rfl) (by kernel_rfl) (by kernel_rfl) (fun _ _ _ h => h) (Or.inl ⟨by rfl, ?_⟩) (by assumption) ?_
                rotate_left
                · (intro wx hSw; go_simp; (try with_reducible rfl); (try omega))
                (try simp only [Act.put, List.setIfInBounds_toArray, List.set_cons_zero, List.set_cons_succ, List.getElem_toArray, List.getElem_cons_zero, List.getElem_cons_succ])
                refine wpAnyH_ready (rs := [13]) (by kernel_rfl) (by simp) ?_
                refine AllReadyH.cons rfl (fun K hK => ?_) ?_
                · (try simp only [Act.put, List.getElem_toArray, List.getElem_cons_zero, List.getElem_cons_succ])
                  have r0 := X3.cell 0 rfl
                  have r1 := X3.cell 1 rfl
                  have r2 := X3.cell 2 rfl
                  have g0 := X3.frz 0 (by decide)
                  have g1 := X3.frz 1 (by decide)
                  have g2 := X3.frz 2 (by decide)
                  go_simp
                  clear r0 r1 r2 g0 g1 g2
                  have hS := hS.puts (T := W4.heap.size) [.int .i64 1, .int .i64 15, .string ⟨#[]⟩] (by have := hS.b.size; omega) (by omega)
                  have X3 := X3.puts [.int .i64 1, .int .i64 15, .string ⟨#[]⟩] rfl
                  refine hK.out _ _ hS (fun hHeld => ?_)
                  clear hK K
                  (try simp only [Act.put, List.setIfInBounds_toArray, List.set_cons_zero, List.set_cons_succ, List.getElem_toArray, List.getElem_cons_zero, List.getElem_cons_succ])
                  refine wpAnyH_take (i := 14) (v := ?_) rfl (by kernel_rfl) (by kernel_rfl) (by kernel_rfl) (fun _ _ _ h => h) (Or.inl ⟨by rfl, ?_⟩) (by assumption) ?_
                  rotate_left
                  · (intro wx hSw; go_simp; (try with_reducible rfl); (try omega))
                  (try simp only [Act.put, List.setIfInBounds_toArray, List.set_cons_zero, List.set_cons_succ, List.getElem_toArray, List.getElem_cons_zero, List.getElem_cons_succ])
                  refine wpAnyH_done (by kernel_rfl) ?_ _
                  go_wp2_with fail
                  go_meet
                  case rel => exact ⟨_, rfl, rfl, X3, hS⟩
                exact AllReadyH.nil
              exact AllReadyH.nil
            exact AllReadyH.nil
          refine AllReadyH.cons rfl (fun K hK => ?_) ?_
          · (try simp only [Act.put, List.setIfInBounds_toArray, List.set_cons_zero, List.set_cons_succ, List.getElem_toArray, List.getElem_cons_zero, List.getElem_cons_succ])
            go_simp
            obtain ⟨W4, hW4⟩ : ∃ W', W3.alloc (.cells #[.int .i64 0, .int .i64 0, .string ⟨#[]⟩] 23) = W' := ⟨_, rfl⟩
            have X3 : VarB W4 W3.heap.size [.int .i64 0, .int .i64 0, .string ⟨#[]⟩] := by rw [← hW4]; exact VarB.new _ _ _
            have hS := hS.alloc (.cells #[.int .i64 0, .int .i64 0, .string ⟨#[]⟩] 23); rw [hW4] at hS
            have X2 := X2.alloc (.cells #[.int .i64 0, .int .i64 0, .string ⟨#[]⟩] 23); rw [hW4] at X2
            rw [hW4]
            have zX3 : W3.heap.size < W4.heap.size := X3.lt
            refine hK.out _ _ hS (fun hHeld => ?_)
            clear hW4
            clear hK K
            (try simp only [Act.put, List.setIfInBounds_toArray, List.set_cons_zero, List.set_cons_succ, List.getElem_toArray, List.getElem_cons_zero, List.getElem_cons_succ])
            refine wpAnyH_ready (rs := [3]) (by kernel_rfl) (by simp) ?_
            refine AllReadyH.cons rfl (fun K hK => ?_) ?_
            · (try simp only [Act.put, List.setIfInBounds_toArray, List.set_cons_zero, List.set_cons_succ, List.getElem_toArray, List.getElem_cons_zero, List.getElem_cons_succ])
              go_simp
              obtain ⟨W5, hW5⟩ : ∃ W', W4.alloc (.cells #[.int .i64 1, .int .i64 1, .int .i64 0, .int .i64 0, .string ⟨#[]⟩, .slice none 0 0, .int .i64 2, .int .i64 0, .int .i64 1, .int .i64 3, .string ⟨#[]⟩, .slice none 0 0] 26) = W' := ⟨_, rfl⟩
              have X1 : VarB W5 W4.heap.size [.int .i64 1, .int .i64 1, .int .i64 0, .int .i64 0, .string ⟨#[]⟩, .slice none 0 0, .int .i64 2, .int .i64 0, .int .i64 1, .int .i64 3, .string ⟨#[]⟩, .slice none 0 0] := by rw [← hW5]; exact VarB.new _ _ _
              have hS := hS.alloc (.cells #[.int .i64 1, .int .i64 1, .int .i64 0, .int .i64 0, .string ⟨#[]⟩, .slice none 0 0, .int .i64 2, .int .i64 0, .int .i64 1, .int .i64 3, .string ⟨#[]⟩, .slice none 0 0] 26); rw [hW5] at hS
              have X2 := X2.alloc (.cells #[.int .i64 1, .int .i64 1, .int .i64 0, .int .i64 0, .string ⟨#[]⟩, .slice none 0 0, .int .i64 2, .int .i64 0, .int .i64 1, .int .i64 3, .string ⟨#[]⟩, .slice none 0 0] 26); rw [hW5] at X2
              have X3 := X3.alloc (.cells #[.int .i64 1, .int .i64 1, .int .i64 0, .int .i64 0, .string ⟨#[]⟩, .slice none 0 0, .int .i64 2, .int .i64 0, .int .i64 1, .int .i64 3, .string ⟨#[]⟩, .slice none 0 0] 26); rw [hW5] at X3
              rw [hW5]
              have zX1 : W4.heap.size < W5.heap.size := X1.lt
              refine hK.out _ _ hS (fun hHeld => ?_)
              clear hW5
              clear hK K
              (try simp only [Act.put, List.setIfInBounds_toArray, List.set_cons_zero, List.set_cons_succ, List.getElem_toArray, List.getElem_cons_zero, List.getElem_cons_succ])
              refine wpAnyH_take (i := 4) (v := ?_) rfl (by kernel_rfl) (by kernel_rfl) (by kernel_rfl) (fun _ _ _ h => h) (Or.inl ⟨by rfl, ?_⟩) (by assumption) ?_
              rotate_left
              · (intro wx hSw; go_simp; (try with_reducible rfl); (try omega))
              (try simp only [Act.put, List.setIfInBounds_toArray, List.set_cons_zero, List.set_cons_succ, List.getElem_toArray, List.getElem_cons_zero, List.getElem_cons_succ])
              refine wpAnyH_ready (rs := [8]) (by kernel_rfl) (by simp) ?_
              refine AllReadyH.cons rfl (fun K hK => ?_) ?_
              · (try simp only [Act.put, List.setIfInBounds_toArray, List.set_cons_zero, List.set_cons_succ, List.getElem_toArray, List.getElem_cons_zero, List.getElem_cons_succ])
                go_simp
                refine (evalEx X1 X2).mono ?_
                rintro e W6 ⟨rfl, hb⟩
                have hS := hS.below hb
                have X2 := X2.below hb
                have X3 := X3.below hb
                have X1 := X1.below hb
                have zW6 := hb.size
                clear hb
                refine hK.out _ _ hS (fun hHeld => ?_)
                clear hK K
                (try simp only [Act.put, List.setIfInBounds_toArray, List.set_cons_zero, List.set_cons_succ, List.getElem_toArray, List.getElem_cons_zero, List.getElem_cons_succ])
                refine wpAnyH_take (i := 9) (v := ?_) rfl (by kernel_rfl) (by kernel_rfl) (by kernel_rfl) (fun _ _ _ h => h) (Or.inl ⟨by rfl, ?_⟩) (by assumption) ?_
                rotate_left
                · (intro wx hSw; go_simp; (try with_reducible rfl); (try omega))
                (try simp only [Act.put, List.setIfInBounds_toArray, List.set_cons_zero, List.set_cons_succ, List.getElem_toArray, List.getElem_cons_zero, List.getElem_cons_succ])
                refine wpAnyH_take (i := 10) (v := ?_) rfl (by kernel_rfl) (by kernel_rfl) (by kernel_rfl) (fun _ _ _ h => h) (Or.inl ⟨by rfl, ?_⟩) (by assumption) ?_
                rotate_left
                · (intro wx hSw; go_simp; (try with_reducible rfl); (try omega))
                (try simp only [Act.put, List.setIfInBounds_toArray, List.set_cons_zero, List.set_cons_succ, List.getElem_toArray, List.getElem_cons_zero, List.getElem_cons_succ])
                refine wpAnyH_take (i := 11) (v := ?_) rfl (by kernel_rfl) (by kernel_rfl) (by kernel_rfl) (fun _ _ _ h => h) (Or.inl ⟨by rfl, ?_⟩) (by assumption) ?_
                rotate_left
                · (intro wx hSw; go_simp; (try with_reducible rfl); (try omega))
                (try simp only [Act.put, List.setIfInBounds_toArray, List.set_cons_zero, List.set_cons_succ, List.getElem_toArray, List.getElem_cons_zero, List.getElem_cons_succ])
                refine wpAnyH_ready (rs := [13]) (by kernel_rfl) (by simp) ?_
                refine AllReadyH.cons rfl (fun K hK => ?_) ?_
                · (try simp only [Act.put, List.getElem_toArray, List.getElem_cons_zero, List.getElem_cons_succ])
                  have r0 := X3.cell 0 rfl
                  have r1 := X3.cell 1 rfl
                  have r2 := X3.cell 2 rfl
                  have g0 := X3.frz 0 (by decide)
                  have g1 := X3.frz 1 (by decide)
                  have g2 := X3.frz 2 (by decide)
                  go_simp
                  clear r0 r1 r2 g0 g1 g2
                  have hS := hS.puts (T := W3.heap.size) [.int .i64 1, .int .i64 15, .string ⟨#[]⟩] (by have := hS.b.size; omega) (by omega)
                  have X3 := X3.puts [.int .i64 1, .int .i64 15, .string ⟨#[]⟩] rfl
                  refine hK.out _ _ hS (fun hHeld => ?_)
                  clear hK K
                  (try simp only [Act.put, List.setIfInBounds_toArray, List.set_cons_zero, List.set_cons_succ, List.getElem_toArray, List.getElem_cons_zero, List.getElem_cons_succ])
                  refine wpAnyH_take (i := 14) (v := ?_) rfl (by kernel_rfl) (by kernel_rfl) (by kernel_rfl) (fun _ _ _ h => h) (Or.inl ⟨by rfl, ?_⟩) (by assumption) ?_
                  rotate_left
                  · (intro wx hSw; go_simp; (try with_reducible rfl); (try omega))
                  (try simp only [Act.put, List.setIfInBounds_toArray, List.set_cons_zero, List.set_cons_succ, List.getElem_toArray, List.getElem_cons_zero, List.getElem_cons_succ])
                  refine wpAnyH_done (by kernel_rfl) ?_ _
                  go_wp2_with fail
                  go_meet
                  case rel => exact ⟨_, rfl, rfl, X3, hS⟩
                exact AllReadyH.nil
              exact AllReadyH.nil
            exact AllReadyH.nil
          exact AllReadyH.nil
        refine AllReadyH.cons rfl (fun K hK => ?_) ?_
        · (try simp only [Act.put, List.setIfInBounds_toArray, List.set_cons_zero, List.set_cons_succ, List.getElem_toArray, List.getElem_cons_zero, List.getElem_cons_succ])
          go_simp
          obtain ⟨W3, hW3⟩ : ∃ W', W2.alloc (.cells #[.int .i64 0, .int .i64 0, .string ⟨#[]⟩] 23) = W' := ⟨_, rfl⟩
          have X3 : VarB W3 W2.heap.size [.int .i64 0, .int .i64 0, .string ⟨#[]⟩] := by rw [← hW3]; exact VarB.new _ _ _
          have hS := hS.alloc (.cells #[.int .i64 0, .int .i64 0, .string ⟨#[]⟩] 23); rw [hW3] at hS
          rw [hW3]
          have zX3 : W2.heap.size < W3.heap.size := X3.lt
          refine hK.out _ _ hS (fun hHeld => ?_)
          clear hW3
          clear hK K
          (try simp only [Act.put, List.setIfInBounds_toArray, List.set_cons_zero, List.set_cons_succ, List.getElem_toArray, List.getElem_cons_zero, List.getElem_cons_succ])
          refine wpAnyH_ready (rs := [3, 7]) (by kernel_rfl) (by simp) ?_
          refine AllReadyH.cons rfl (fun K hK => ?_) ?_
          · (try simp only [Act.put, List.setIfInBounds_toArray, List.set_cons_zero, List.set_cons_succ, List.getElem_toArray, List.getElem_cons_zero, List.getElem_cons_succ])
            go_simp
            obtain ⟨W4, hW4⟩ : ∃ W', W3.alloc (.cells #[.int .i64 1, .int .i64 1, .int .i64 0, .int .i64 0, .string ⟨#[]⟩, .slice none 0 0, .int .i64 2, .int .i64 0, .int .i64 1, .int .i64 3, .string ⟨#[]⟩, .slice none 0 0] 26) = W' := ⟨_, rfl⟩
            have X1 : VarB W4 W3.heap.size [.int .i64 1, .int .i64 1, .int .i64 0, .int .i64 0, .string ⟨#[]⟩, .slice none 0 0, .int .i64 2, .int .i64 0, .int .i64 1, .int .i64 3, .string ⟨#[]⟩, .slice none 0 0] := by rw [← hW4]; exact VarB.new _ _ _
            have hS := hS.alloc (.cells #[.int .i64 1, .int .i64 1, .int .i64 0, .int .i64 0, .string ⟨#[]⟩, .slice none 0 0, .int .i64 2, .int .i64 0, .int .i64 1, .int .i64 3, .string ⟨#[]⟩, .slice none 0 0] 26); rw [hW4] at hS
            have X3 := X3.alloc (.cells #[.int .i64 1, .int .i64 1, .int .i64 0, .int .i64 0, .string ⟨#[]⟩, .slice none 0 0, .int .i64 2, .int .i64 0, .int .i64 1, .int .i64 3, .string ⟨#[]⟩, .slice none 0 0] 26); rw [hW4] at X3
            rw [hW4]
            have zX1 : W3.heap.size < W4.heap.size := X1.lt
            refine hK.out _ _ hS (fun hHeld => ?_)
            clear hW4
            clear hK K
            (try simp only [Act.put, List.setIfInBounds_toArray, List.set_cons_zero, List.set_cons_succ, List.getElem_toArray, List.getElem_cons_zero, List.getElem_cons_succ])
            refine wpAnyH_take (i := 4) (v := ?_) rfl (by kernel_rfl) (by kernel_rfl) (by kernel_rfl) (fun _ _ _ h => h) (Or.inl ⟨by rfl, ?_⟩) (by assumption) ?_
            rotate_left
            · (intro wx hSw; go_simp; (try with_reducible rfl); (try omega))
            (try simp only [Act.put, List.setIfInBounds_toArray, List.set_cons_zero, List.set_cons_succ, List.getElem_toArray, List.getElem_cons_zero, List.getElem_cons_succ])
            refine wpAnyH_ready (rs := [7]) (by kernel_rfl) (by simp) ?_
            refine AllReadyH.cons rfl (fun K hK => ?_) ?_
            · (try simp only [Act.put, List.setIfInBounds_toArray, List.set_cons_zero, List.set_cons_succ, List.getElem_toArray, List.getElem_cons_zero, List.getElem_cons_succ])
              go_simp
              obtain ⟨W5, hW5⟩ : ∃ W', W4.alloc (.cells #[.int .i64 0, .int .i64 0, .string ⟨#[]⟩, .int .i64 1, .int .i64 5, .string ⟨#[]⟩] 23) = W' := ⟨_, rfl⟩
              have X2 : VarB W5 W4.heap.size [.int .i64 0, .int .i64 0, .string ⟨#[]⟩, .int .i64 1, .int .i64 5, .string ⟨#[]⟩] := by rw [← hW5]; exact VarB.new _ _ _
              have hS := hS.alloc (.cells #[.int .i64 0, .int .i64 0, .string ⟨#[]⟩, .int .i64 1, .int .i64 5, .string ⟨#[]⟩] 23); rw [hW5] at hS
              have X3 := X3.alloc (.cells #[.int .i64 0, .int .i64 0, .string ⟨#[]⟩, .int .i64 1, .int .i64 5, .string ⟨#[]⟩] 23); rw [hW5] at X3
              have X1 := X1.alloc (.cells #[.int .i64 0, .int .i64 0, .string ⟨#[]⟩, .int .i64 1, .int .i64 5, .string ⟨#[]⟩] 23); rw [hW5] at X1
              rw [hW5]
              have zX2 : W4.heap.size < W5.heap.size := X2.lt
              refine hK.out _ _ hS (fun hHeld => ?_)
              clear hW5
              clear hK K
              (try simp only [Act.put, List.setIfInBounds_toArray, List.set_cons_zero, List.set_cons_succ, List.getElem_toArray, List.getElem_cons_zero, List.getElem_cons_succ])
              refine wpAnyH_ready (rs := [8]) (by kernel_rfl) (by simp) ?_
              refine AllReadyH.cons rfl (fun K hK => ?_) ?_
              · (try simp only [Act.put, List.setIfInBounds_toArray, List.set_cons_zero, List.set_cons_succ, List.getElem_toArray, List.getElem_cons_zero, List.getElem_cons_succ])
                go_simp
                refine (evalEx X1 X2).mono ?_
                rintro e W6 ⟨rfl, hb⟩
                have hS := hS.below hb
                have X3 := X3.below hb
                have X1 := X1.below hb
                have X2 := X2.below hb
                have zW6 := hb.size
                clear hb
                refine hK.out _ _ hS (fun hHeld => ?_)
                clear hK K
                (try simp only [Act.put, List.setIfInBounds_toArray, List.set_cons_zero, List.set_cons_succ, List.getElem_toArray, List.getElem_cons_zero, List.getElem_cons_succ])
                refine wpAnyH_take (i := 9) (v := ?_) rfl (by kernel_rfl) (by kernel_rfl) (by kernel_rfl) (fun _ _ _ h => h) (Or.inl ⟨by rfl, ?_⟩) (by assumption) ?_
                rotate_left
                · (intro wx hSw; go_simp; (try with_reducible rfl); (try omega))
                (try simp only [Act.put, List.setIfInBounds_toArray, List.set_cons_zero, List.set_cons_succ, List.getElem_toArray, List.getElem_cons_zero, List.getElem_cons_succ])
                refine wpAnyH_take (i := 10) (v := ?_) rfl (by kernel_rfl) (by kernel_rfl) (by kernel_rfl) (fun _ _ _ h => h) (Or.inl ⟨by rfl, ?_⟩) (by assumption) ?_
                rotate_left
                · (intro wx hSw; go_simp; (try with_reducible rfl); (try omega))
                (try simp only [Act.put, List.setIfInBounds_toArray, List.set_cons_zero, List.set_cons_succ, List.getElem_toArray, List.getElem_cons_zero, List.getElem_cons_succ])
                refine wpAnyH_take (i := 11) (v := ?_) rfl (by kernel_rfl) (by kernel_rfl) (by kernel_rfl) (fun _ _ _ h => h) (Or.inl ⟨by rfl, ?_⟩) (by assumption) ?_
                rotate_left
                · (intro wx hSw; go_simp; (try with_reducible rfl); (try omega))
                (try simp only [Act.put, List.setIfInBounds_toArray, List.set_cons_zero, List.set_cons_succ, List.getElem_toArray, List.getElem_cons_zero, List.getElem_cons_succ])
                refine wpAnyH_ready (rs := [13]) (by kernel_rfl) (by simp) ?_
                refine AllReadyH.cons rfl (fun K hK => ?_) ?_
                · (try simp only [Act.put, List.getElem_toArray, List.getElem_cons_zero, List.getElem_cons_succ])
                  have r0 := X3.cell 0 rfl
                  have r1 := X3.cell 1 rfl
                  have r2 := X3.cell 2 rfl
                  have g0 := X3.frz 0 (by decide)
                  have g1 := X3.frz 1 (by decide)
                  have g2 := X3.frz 2 (by decide)
                  go_simp
                  clear r0 r1 r2 g0 g1 g2
                  have hS := hS.puts (T := W2.heap.size) [.int .i64 1, .int .i64 15, .string ⟨#[]⟩] (by have := hS.b.size; omega) (by omega)
                  have X3 := X3.puts [.int .i64 1, .int .i64 15, .string ⟨#[]⟩] rfl
                  refine hK.out _ _ hS (fun hHeld => ?_)
                  clear hK K
                  (try simp only [Act.put, List.setIfInBounds_toArray, List.set_cons_zero, List.set_cons_succ, List.getElem_toArray, List.getElem_cons_zero, List.getElem_cons_succ])
                  refine wpAnyH_take (i := 14) (v := ?_) rfl (by kernel_rfl) (by kernel_rfl) (by kernel_rfl) (fun _ _ _ h => h) (Or.inl ⟨by rfl, ?_⟩) (by assumption) ?_
                  rotate_left
                  · (intro wx hSw; go_simp; (try with_reducible rfl); (try omega))
                  (try simp only [Act.put, List.setIfInBounds_toArray, List.set_cons_zero, List.set_cons_succ, List.getElem_toArray, List.getElem_cons_zero, List.getElem_cons_succ])
                  refine wpAnyH_done (by kernel_rfl) ?_ _
                  go_wp2_with fail
                  go_meet
                  case rel => exact ⟨_, rfl, rfl, X3, hS⟩
                exact AllReadyH.nil
              exact AllReadyH.nil
            exact AllReadyH.nil
          refine AllReadyH.cons rfl (fun K hK => ?_) ?_
          · (try simp only [Act.put, List.setIfInBounds_toArray, List.set_cons_zero, List.set_cons_succ, List.getElem_toArray, List.getElem_cons_zero, List.getElem_cons_succ])
            go_simp
            obtain ⟨W4, hW4⟩ : ∃ W', W3.alloc (.cells #[.int .i64 0, .int .i64 0, .string ⟨#[]⟩, .int .i64 1, .int .i64 5, .string ⟨#[]⟩] 23) = W' := ⟨_, rfl⟩
            have X2 : VarB W4 W3.heap.size [.int .i64 0, .int .i64 0, .string ⟨#[]⟩, .int .i64 1, .int .i64 5, .string ⟨#[]⟩] := by rw [← hW4]; exact VarB.new _ _ _
            have hS := hS.alloc (.cells #[.int .i64 0, .int .i64 0, .string ⟨#[]⟩, .int .i64 1, .int .i64 5, .string ⟨#[]⟩] 23); rw [hW4] at hS
            have X3 := X3.alloc (.cells #[.int .i64 0, .int .i64 0, .string ⟨#[]⟩, .int .i64 1, .int .i64 5, .string ⟨#[]⟩] 23); rw [hW4] at X3
            rw [hW4]
            have zX2 : W3.heap.size < W4.heap.size := X2.lt
            refine hK.out _ _ hS (fun hHeld => ?_)
            clear hW4
            clear hK K
            (try simp only [Act.put, List.setIfInBounds_toArray, List.set_cons_zero, List.set_cons_succ, List.getElem_toArray, List.getElem_cons_zero, List.getElem_cons_succ])
            refine wpAnyH_ready (rs := [3]) (by kernel_rfl) (by simp) ?_
            refine AllReadyH.cons rfl (fun K hK => ?_) ?_
            · (try simp only [Act.put, List.setIfInBounds_toArray, List.set_cons_zero, List.set_cons_succ, List.getElem_toArray, List.getElem_cons_zero, List.getElem_cons_succ])
              go_simp
              obtain ⟨W5, hW5⟩ : ∃ W', W4.alloc (.cells #[.int .i64 1, .int .i64 1, .int .i64 0, .int .i64 0, .string ⟨#[]⟩, .slice none 0 0, .int .i64 2, .int .i64 0, .int .i64 1, .int .i64 3, .string ⟨#[]⟩, .slice none 0 0] 26) = W' := ⟨_, rfl⟩
              have X1 : VarB W5 W4.heap.size [.int .i64 1, .int .i64 1, .int .i64 0, .int .i64 0, .string ⟨#[]⟩, .slice none 0 0, .int .i64 2, .int .i64 0, .int .i64 1, .int .i64 3, .string ⟨#[]⟩, .slice none 0 0] := by rw [← hW5]; exact VarB.new _ _ _
              have hS := hS.alloc (.cells #[.int .i64 1, .int .i64 1, .int .i64 0, .int .i64 0, .string ⟨#[]⟩, .slice none 0 0, .int .i64 2, .int .i64 0, .int .i64 1, .int .i64 3, .string ⟨#[]⟩, .slice none 0 0] 26); rw [hW5] at hS
              have X3 := X3.alloc (.cells #[.int .i64 1, .int .i64 1, .int .i64 0, .int .i64 0, .string ⟨#[]⟩, .slice none 0 0, .int .i64 2, .int .i64 0, .int .i64 1, .int .i64 3, .string ⟨#[]⟩, .slice none 0 0] 26); rw [hW5] at X3
              have X2 := X2.alloc (.cells #[.int .i64 1, .int .i64 1, .int .i64 0, .int .i64 0, .string ⟨#[]⟩, .slice none 0 0, .int .i64 2, .int .i64 0, .int .i64 1, .int .i64 3, .string ⟨#[]⟩, .slice none 0 0] 26); rw [hW5] at X2
              rw [hW5]
              have zX1 : W4.heap.size < W5.heap.size := X1.lt
              refine hK.out _ _ hS (fun hHeld => ?_)
              clear hW5
              clear hK K
              (try simp only [Act.put, List.setIfInBounds_toArray, List.set_cons_zero, List.set_cons_succ, List.getElem_toArray, List.getElem_cons_zero, List.getElem_cons_succ])
              refine wpAnyH_take (i := 4) (v := ?_) rfl (by kernel_rfl) (by kernel_rfl) (by kernel_rfl) (fun _ _ _ h => h) (Or.inl ⟨by rfl, ?_⟩) (by assumption) ?_
              rotate_left
              · (intro wx hSw; go_simp; (try with_reducible rfl); (try omega))
              (try simp only [Act.put, List.setIfInBounds_toArray, List.set_cons_zero, List.set_cons_succ, List.getElem_toArray, List.getElem_cons_zero, List.getElem_cons_succ])
              refine wpAnyH_ready (rs := [8]) (by kernel_rfl) (by simp) ?_
              refine AllReadyH.cons rfl (fun K hK => ?_) ?_
              · (try simp only [Act.put, List.setIfInBounds_toArray, List.set_cons_zero, List.set_cons_succ, List.getElem_toArray, List.getElem_cons_zero, List.getElem_cons_succ])
                go_simp
                refine (evalEx X1 X2).mono ?_
                rintro e W6 ⟨rfl, hb⟩
                have hS := hS.below hb
                have X3 := X3.below hb
                have X2 := X2.below hb
                have X1 := X1.below hb
                have zW6 := hb.size
                clear hb
                refine hK.out _ _ hS (fun hHeld => ?_)
                clear hK K
                (try simp only [Act.put, List.setIfInBounds_toArray, List.set_cons_zero, List.set_cons_succ, List.getElem_toArray, List.getElem_cons_zero, List.getElem_cons_succ])
                refine wpAnyH_take (i := 9) (v := ?_) rfl (by kernel_rfl) (by kernel_rfl) (by kernel_rfl) (fun _ _ _ h => h) (Or.inl ⟨by rfl, ?_⟩) (by assumption) ?_
                rotate_left
                · (intro wx hSw; go_simp; (try with_reducible rfl); (try omega))
                (try simp only [Act.put, List.setIfInBounds_toArray, List.set_cons_zero, List.set_cons_succ, List.getElem_toArray, List.getElem_cons_zero, List.getElem_cons_succ])
                refine wpAnyH_take (i := 10) (v := ?_) rfl (by kernel_rfl) (by kernel_rfl) (by kernel_rfl) (fun _ _ _ h => h) (Or.inl ⟨by rfl, ?_⟩) (by assumption) ?_
                rotate_left
                · (intro wx hSw; go_simp; (try with_reducible rfl); (try omega))
                (try simp only [Act.put, List.setIfInBounds_toArray, List.set_cons_zero, List.set_cons_succ, List.getElem_toArray, List.getElem_cons_zero, List.getElem_cons_succ])
                refine wpAnyH_take (i := 11) (v := ?_) rfl (by kernel_rfl) (by kernel_rfl) (by kernel_rfl) (fun _ _ _ h => h) (Or.inl ⟨by rfl, ?_⟩) (by assumption) ?_
                rotate_left
                · (intro wx hSw; go_simp; (try with_reducible rfl); (try omega))
                (try simp only [Act.put, List.setIfInBounds_toArray, List.set_cons_zero, List.set_cons_succ, List.getElem_toArray, List.getElem_cons_zero, List.getElem_cons_succ])
                refine wpAnyH_ready (rs := [13]) (by kernel_rfl) (by simp) ?_
                refine AllReadyH.cons rfl (fun K hK => ?_) ?_
                · (try simp only [Act.put, List.getElem_toArray, List.getElem_cons_zero, List.getElem_cons_succ])
                  have r0 := X3.cell 0 rfl
                  have r1 := X3.cell 1 rfl
                  have r2 := X3.cell 2 rfl
                  have g0 := X3.frz 0 (by decide)
                  have g1 := X3.frz 1 (by decide)
                  have g2 := X3.frz 2 (by decide)
                  go_simp
                  clear r0 r1 r2 g0 g1 g2
                  have hS := hS.puts (T := W2.heap.size) [.int .i64 1, .int .i64 15, .string ⟨#[]⟩] (by have := hS.b.size; omega) (by omega)
                  have X3 := X3.puts [.int .i64 1, .int .i64 15, .string ⟨#[]⟩] rfl
                  refine hK.out _ _ hS (fun hHeld => ?_)
                  clear hK K
                  (try simp only [Act.put, List.setIfInBounds_toArray, List.set_cons_zero, List.set_cons_succ, List.getElem_toArray, List.getElem_cons_zero, List.getElem_cons_succ])
                  refine wpAnyH_take (i := 14) (v := ?_) rfl (by kernel_rfl) (by kernel_rfl) (by kernel_rfl) (fun _ _ _ h => h) (Or.inl ⟨by rfl, ?_⟩) (by assumption) ?_
                  rotate_left
                  · (intro wx hSw; go_simp; (try with_reducible rfl); (try omega))
                  (try simp only [Act.put, List.setIfInBounds_toArray, List.set_cons_zero, List.set_cons_succ, List.getElem_toArray, List.getElem_cons_zero, List.getElem_cons_succ])
                  refine wpAnyH_done (by kernel_rfl) ?_ _
                  go_wp2_with fail
                  go_meet
                  case rel => exact ⟨_, rfl, rfl, X3, hS⟩
                exact AllReadyH.nil
              exact AllReadyH.nil
            exact AllReadyH.nil
          exact AllReadyH.nil
        exact AllReadyH.nil
      refine AllReadyH.cons rfl (fun K hK => ?_) ?_
      · (try simp only [Act.put, List.setIfInBounds_toArray, List.set_cons_zero, List.set_cons_succ, List.getElem_toArray, List.getElem_cons_zero, List.getElem_cons_succ])
        go_simp
        obtain ⟨W2, hW2⟩ : ∃ W', W1.alloc (.cells #[.int .i64 0, .int .i64 0, .string ⟨#[]⟩] 23) = W' := ⟨_, rfl⟩
        have X3 : VarB W2 W1.heap.size [.int .i64 0, .int .i64 0, .string ⟨#[]⟩] := by rw [← hW2]; exact VarB.new _ _ _
        have hS := hS.alloc (.cells #[.int .i64 0, .int .i64 0, .string ⟨#[]⟩] 23); rw [hW2] at hS
        rw [hW2]
        have zX3 : W1.heap.size < W2.heap.size := X3.lt
        refine hK.out _ _ hS (fun hHeld => ?_)
        clear hW2
        clear hK K
        (try simp only [Act.put, List.setIfInBounds_toArray, List.set_cons_zero, List.set_cons_succ, List.getElem_toArray, List.getElem_cons_zero, List.getElem_cons_succ])
        refine wpAnyH_ready (rs := [3, 6]) (by kernel_rfl) (by simp) ?_
        refine AllReadyH.cons rfl (fun K hK => ?_) ?_
        · (try simp only [Act.put, List.setIfInBounds_toArray, List.set_cons_zero, List.set_cons_succ, List.getElem_toArray, List.getElem_cons_zero, List.getElem_cons_succ])
          go_simp
          obtain ⟨W3, hW3⟩ : ∃ W', W2.alloc (.cells #[.int .i64 1, .int .i64 1, .int .i64 0, .int .i64 0, .string ⟨#[]⟩, .slice none 0 0, .int .i64 2, .int .i64 0, .int .i64 1, .int .i64 3, .string ⟨#[]⟩, .slice none 0 0] 26) = W' := ⟨_, rfl⟩
          have X1 : VarB W3 W2.heap.size [.int .i64 1, .int .i64 1, .int .i64 0, .int .i64 0, .string ⟨#[]⟩, .slice none 0 0, .int .i64 2, .int .i64 0, .int .i64 1, .int .i64 3, .string ⟨#[]⟩, .slice none 0 0] := by rw [← hW3]; exact VarB.new _ _ _
          have hS := hS.alloc (.cells #[.int .i64 1, .int .i64 1, .int .i64 0, .int .i64 0, .string ⟨#[]⟩, .slice none 0 0, .int .i64 2, .int .i64 0, .int .i64 1, .int .i64 3, .string ⟨#[]⟩, .slice none 0 0] 26); rw [hW3] at hS
          have X3 := X3.alloc (.cells #[.int .i64 1, .int .i64 1, .int .i64 0, .int .i64 0, .string ⟨#[]⟩, .slice none 0 0, .int .i64 2, .int .i64 0, .int .i64 1, .int .i64 3, .string ⟨#[]⟩, .slice none 0 0] 26); rw [hW3] at X3
          rw [hW3]
          have zX1 : W2.heap.size < W3.heap.size := X1.lt
          refine hK.out _ _ hS (fun hHeld => ?_)
          clear hW3
          clear hK K
          (try simp only [Act.put, List.setIfInBounds_toArray, List.set_cons_zero, List.set_cons_succ, List.getElem_toArray, List.getElem_cons_zero, List.getElem_cons_succ])
          refine wpAnyH_take (i := 4) (v := ?_) rfl (by kernel_rfl) (by kernel_rfl) (by kernel_rfl) (fun _ _ _ h => h) (Or.inl ⟨by rfl, ?_⟩) (by assumption) ?_
          rotate_left
          · (intro wx hSw; go_simp; (try with_reducible rfl); (try omega))
          (try simp only [Act.put, List.setIfInBounds_toArray, List.set_cons_zero, List.set_cons_succ, List.getElem_toArray, List.getElem_cons_zero, List.getElem_cons_succ])
          refine wpAnyH_ready (rs := [6]) (by kernel_rfl) (by simp) ?_
          refine AllReadyH.cons rfl (fun K hK => ?_) ?_
          · (try simp only [Act.put, List.setIfInBounds_toArray, List.set_cons_zero, List.set_cons_succ, List.getElem_toArray, List.getElem_cons_zero, List.getElem_cons_succ])
            go_simp
            refine (num11_any 5 _).mono ?_
            rintro e W4 ⟨rfl, hb⟩
            have hS := hS.below hb
            have X3 := X3.below hb
            have X1 := X1.below hb
            have zW4 := hb.size
            clear hb
            refine hK.out _ _ hS (fun hHeld => ?_)
            clear hK K
            (try simp only [Act.put, List.setIfInBounds_toArray, List.set_cons_zero, List.set_cons_succ, List.getElem_toArray, List.getElem_cons_zero, List.getElem_cons_succ])
            refine wpAnyH_ready (rs := [7]) (by kernel_rfl) (by simp) ?_
            refine AllReadyH.cons rfl (fun K hK => ?_) ?_
            · (try simp only [Act.put, List.setIfInBounds_toArray, List.set_cons_zero, List.set_cons_succ, List.getElem_toArray, List.getElem_cons_zero, List.getElem_cons_succ])
              go_simp
              obtain ⟨W5, hW5⟩ : ∃ W', W4.alloc (.cells #[.int .i64 0, .int .i64 0, .string ⟨#[]⟩, .int .i64 1, .int .i64 5, .string ⟨#[]⟩] 23) = W' := ⟨_, rfl⟩
              have X2 : VarB W5 W4.heap.size [.int .i64 0, .int .i64 0, .string ⟨#[]⟩, .int .i64 1, .int .i64 5, .string ⟨#[]⟩] := by rw [← hW5]; exact VarB.new _ _ _
              have hS := hS.alloc (.cells #[.int .i64 0, .int .i64 0, .string ⟨#[]⟩, .int .i64 1, .int .i64 5, .string ⟨#[]⟩] 23); rw [hW5] at hS
              have X3 := X3.alloc (.cells #[.int .i64 0, .int .i64 0, .string ⟨#[]⟩, .int .i64 1, .int .i64 5, .string ⟨#[]⟩] 23); rw [hW5] at X3
              have X1 := X1.alloc (.cells #[.int .i64 0, .int .i64 0, .string ⟨#[]⟩, .int .i64 1, .int .i64 5, .string ⟨#[]⟩] 23); rw [hW5] at X1
              rw [hW5]
              have zX2 : W4.heap.size < W5.heap.size := X2.lt
              refine hK.out _ _ hS (fun hHeld => ?_)
              clear hW5
              clear hK K
              (try simp only [Act.put, List.setIfInBounds_toArray, List.set_cons_zero, List.set_cons_succ, List.getElem_toArray, List.getElem_cons_zero, List.getElem_cons_succ])
              refine wpAnyH_ready (rs := [8]) (by kernel_rfl) (by simp) ?_
              refine AllReadyH.cons rfl (fun K hK => ?_) ?_
              · (try simp only [Act.put, List.setIfInBounds_toArray, List.set_cons_zero, List.set_cons_succ, List.getElem_toArray, List.getElem_cons_zero, List.getElem_cons_succ])
                go_simp
                refine (evalEx X1 X2).mono ?_
                rintro e W6 ⟨rfl, hb⟩
                have hS := hS.below hb
                have X3 := X3.below hb
                have X1 := X1.below hb
                have X2 := X2.below hb
                have zW6 := hb.size
                clear hb
                refine hK.out _ _ hS (fun hHeld => ?_)
                clear hK K
                (try simp only [Act.put, List.setIfInBounds_toArray, List.set_cons_zero, List.set_cons_succ, List.getElem_toArray, List.getElem_cons_zero, List.getElem_cons_succ])
                refine wpAnyH_take (i := 9) (v := ?_) rfl (by kernel_rfl) (by kernel_rfl) (by kernel_rfl) (fun _ _ _ h => h) (Or.inl ⟨by rfl, ?_⟩) (by assumption) ?_
                rotate_left
                · (intro wx hSw; go_simp; (try with_reducible rfl); (try omega))
                (try simp only [Act.put, List.setIfInBounds_toArray, List.set_cons_zero, List.set_cons_succ, List.getElem_toArray, List.getElem_cons_zero, List.getElem_cons_succ])
                refine wpAnyH_take (i := 10) (v := ?_) rfl (by kernel_rfl) (by kernel_rfl) (by kernel_rfl) (fun _ _ _ h => h) (Or.inl ⟨by rfl, ?_⟩) (by assumption) ?_
                rotate_left
                · (intro wx hSw; go_simp; (try with_reducible rfl); (try omega))
                (try simp only [Act.put, List.setIfInBounds_toArray, List.set_cons_zero, List.set_cons_succ, List.getElem_toArray, List.getElem_cons_zero, List.getElem_cons_succ])
                refine wpAnyH_take (i := 11) (v := ?_) rfl (by kernel_rfl) (by kernel_rfl) (by kernel_rfl) (fun _ _ _ h => h) (Or.inl ⟨by rfl, ?_⟩) (by assumption) ?_
                rotate_left
                · (intro wx hSw; go_simp; (try with_reducible rfl); (try omega))
                (try simp only [Act.put, List.setIfInBounds_toArray, List.set_cons_zero, List.set_cons_succ, List.getElem_toArray, List.getElem_cons_zero, List.getElem_cons_succ])
                refine wpAnyH_ready (rs := [13]) (by kernel_rfl) (by simp) ?_
                refine AllReadyH.cons rfl (fun K hK => ?_) ?_
                · (try simp only [Act.put, List.getElem_toArray, List.getElem_cons_zero, List.getElem_cons_succ])
                  have r0 := X3.cell 0 rfl
                  have r1 := X3.cell 1 rfl
                  have r2 := X3.cell 2 rfl
                  have g0 := X3.frz 0 (by decide)
                  have g1 := X3.frz 1 (by decide)
                  have g2 := X3.frz 2 (by decide)
                  go_simp
                  clear r0 r1 r2 g0 g1 g2
                  have hS := hS.puts (T := W1.heap.size) [.int .i64 1, .int .i64 15, .string ⟨#[]⟩] (by have := hS.b.size; omega) (by omega)
                  have X3 := X3.puts [.int .i64 1, .int .i64 15, .string ⟨#[]⟩] rfl
                  refine hK.out _ _ hS (fun hHeld => ?_)
                  clear hK K
                  (try simp only [Act.put, List.setIfInBounds_toArray, List.set_cons_zero, List.set_cons_succ, List.getElem_toArray, List.getElem_cons_zero, List.getElem_cons_succ])
                  refine wpAnyH_take (i := 14) (v := ?_) rfl (by kernel_rfl) (by kernel_rfl) (by kernel_rfl) (fun _ _ _ h => h) (Or.inl ⟨by rfl, ?_⟩) (by assumption) ?_
                  rotate_left
                  · (intro wx hSw; go_simp; (try with_reducible rfl); (try omega))
                  (try simp only [Act.put, List.setIfInBounds_toArray, List.set_cons_zero, List.set_cons_succ, List.getElem_toArray, List.getElem_cons_zero, List.getElem_cons_succ])
                  refine wpAnyH_done (by kernel_rfl) ?_ _
                  go_wp2_with fail
                  go_meet
                  case rel => exact ⟨_, rfl, rfl, X3, hS⟩
                exact AllReadyH.nil
              exact AllReadyH.nil
            exact AllReadyH.nil
          exact AllReadyH.nil
        refine AllReadyH.cons rfl (fun K hK => ?_) ?_
        · (try simp only [Act.put, List.setIfInBounds_toArray, List.set_cons_zero, List.set_cons_succ, List.getElem_toArray, List.getElem_cons_zero, List.getElem_cons_succ])
          go_simp
          refine (num11_any 5 _).mono ?_
          rintro e W3 ⟨rfl, hb⟩
          have hS := hS.below hb
          have X3 := X3.below hb
          have zW3 := hb.size
          clear hb
          refine hK.out _ _ hS (fun hHeld => ?_)
          clear hK K
          (try simp only [Act.put, List.setIfInBounds_toArray, List.set_cons_zero, List.set_cons_succ, List.getElem_toArray, List.getElem_cons_zero, List.getElem_cons_succ])
          refine wpAnyH_ready (rs := [3, 7]) (by kernel_rfl) (by simp) ?_
          refine AllReadyH.cons rfl (fun K hK => ?_) ?_
          · (try simp only [Act.put, List.setIfInBounds_toArray, List.set_cons_zero, List.set_cons_succ, List.getElem_toArray, List.getElem_cons_zero, List.getElem_cons_succ])
            go_simp
            obtain ⟨W4, hW4⟩ : ∃ W', W3.alloc (.cells #[.int .i64 1, .int .i64 1, .int .i64 0, .int .i64 0, .string ⟨#[]⟩, .slice none 0 0, .int .i64 2, .int .i64 0, .int .i64 1, .int .i64 3, .string ⟨#[]⟩, .slice none 0 0] 26) = W' := ⟨_, rfl⟩
            have X1 : VarB W4 W3.heap.size [.int .i64 1, .int .i64 1, .int .i64 0, .int .i64 0, .string ⟨#[]⟩, .slice none 0 0, .int .i64 2, .int .i64 0, .int .i64 1, .int .i64 3, .string ⟨#[]⟩, .slice none 0 0] := by rw [← hW4]; exact VarB.new _ _ _
            have hS := hS.alloc (.cells #[.int .i64 1, .int .i64 1, .int .i64 0, .int .i64 0, .string ⟨#[]⟩, .slice none 0 0, .int .i64 2, .int .i64 0, .int .i64 1, .int .i64 3, .string ⟨#[]⟩, .slice none 0 0] 26); rw [hW4] at hS
            have X3 := X3.alloc (.cells #[.int .i64 1, .int .i64 1, .int .i64 0, .int .i64 0, .string ⟨#[]⟩, .slice none 0 0, .int .i64 2, .int .i64 0, .int .i64 1, .int .i64 3, .string ⟨#[]⟩, .slice none 0 0] 26); rw [hW4] at X3
            rw [hW4]
            have zX1 : W3.heap.size < W4.heap.size := X1.lt
            refine hK.out _ _ hS (fun hHeld => ?_)
            clear hW4
            clear hK K
            (try simp only [Act.put, List.setIfInBounds_toArray, List.set_cons_zero, List.set_cons_succ, List.getElem_toArray, List.getElem_cons_zero, List.getElem_cons_succ])
            refine wpAnyH_take (i := 4) (v := ?_) rfl (by kernel_rfl) (by kernel_rfl) (by kernel_rfl) (fun _ _ _ h => h) (Or.inl ⟨by rfl, ?_⟩) (by assumption) ?_
            rotate_left
            · (intro wx hSw; go_simp; (try with_reducible rfl); (try omega))
            (try simp only [Act.put, List.setIfInBounds_toArray, List.set_cons_zero, List.set_cons_succ, List.getElem_toArray, List.getElem_cons_zero, List.getElem_cons_succ])
            refine wpAnyH_ready (rs := [7]) (by kernel_rfl) (by simp) ?_
            refine AllReadyH.cons rfl (fun K hK => ?_) ?_
            · (try simp only [Act.put, List.setIfInBounds_toArray, List.set_cons_zero, List.set_cons_succ, List.getElem_toArray, List.getElem_cons_zero, List.getElem_cons_succ])
              go_simp
              obtain ⟨W5, hW5⟩ : ∃ W', W4.alloc (.cells #[.int .i64 0, .int .i64 0, .string ⟨#[]⟩, .int .i64 1, .int .i64 5, .string ⟨#[]⟩] 23) = W' := ⟨_, rfl⟩
              have X2 : VarB W5 W4.heap.size [.int .i64 0, .int .i64 0, .string ⟨#[]⟩, .int .i64 1, .int .i64 5, .string ⟨#[]⟩] := by rw [← hW5]; exact VarB.new _ _ _
              have hS := hS.alloc (.cells #[.int .i64 0, .int .i64 0, .string ⟨#[]⟩, .int .i64 1, .int .i64 5, .string ⟨#[]⟩] 23); rw [hW5] at hS
              have X3 := X3.alloc (.cells #[.int .i64 0, .int .i64 0, .string ⟨#[]⟩, .int .i64 1, .int .i64 5, .string ⟨#[]⟩] 23); rw [hW5] at X3
              have X1 := X1.alloc (.cells #[.int .i64 0, .int .i64 0, .string ⟨#[]⟩, .int .i64 1, .int .i64 5, .string ⟨#[]⟩] 23); rw [hW5] at X1
              rw [hW5]
              have zX2 : W4.heap.size < W5.heap.size := X2.lt
              refine hK.out _ _ hS (fun hHeld => ?_)
              clear hW5
              clear hK K
              (try simp only [Act.put, List.setIfInBounds_toArray, List.set_cons_zero, List.set_cons_succ, List.getElem_toArray, List.getElem_cons_zero, List.getElem_cons_succ])
              refine wpAnyH_ready (rs := [8]) (by kernel_rfl) (by simp) ?_
              refine AllReadyH.cons rfl (fun K hK => ?_) ?_
              · (try simp only [Act.put, List.setIfInBounds_toArray, List.set_cons_zero, List.set_cons_succ, List.getElem_toArray, List.getElem_cons_zero, List.getElem_cons_succ])
                go_simp
                refine (evalEx X1 X2).mono ?_
                rintro e W6 ⟨rfl, hb⟩
                have hS := hS.below hb
                have X3 := X3.below hb
                have X1 := X1.below hb
                have X2 := X2.below hb
                have zW6 := hb.size
                clear hb
                refine hK.out _ _ hS (fun hHeld => ?_)
                clear hK K
                (try simp only [Act.put, List.setIfInBounds_toArray, List.set_cons_zero, List.set_cons_succ, List.getElem_toArray, List.getElem_cons_zero, List.getElem_cons_succ])
                refine wpAnyH_take (i := 9) (v := ?_) rfl (by kernel_rfl) (by kernel_rfl) (by kernel_rfl) (fun _ _ _ h => h) (Or.inl ⟨by rfl, ?_⟩) (by assumption) ?_
                rotate_left
                · (intro wx hSw; go_simp; (try with_reducible rfl); (try omega))
                (try simp only [Act.put, List.setIfInBounds_toArray, List.set_cons_zero, List.set_cons_succ, List.getElem_toArray, List.getElem_cons_zero, List.getElem_cons_succ])
                refine wpAnyH_take (i := 10) (v := ?_) rfl (by kernel_rfl) (by kernel_rfl) (by kernel_rfl) (fun _ _ _ h => h) (Or.inl ⟨by rfl, ?_⟩) (by assumption) ?_
                rotate_left
                · (intro wx hSw; go_simp; (try with_reducible rfl); (try omega))
                (try simp only [Act.put, List.setIfInBounds_toArray, List.set_cons_zero, List.set_cons_succ, List.getElem_toArray, List.getElem_cons_zero, List.getElem_cons_succ])
                refine wpAnyH_take (i := 11) (v := ?_) rfl (by kernel_rfl) (by kernel_rfl) (by kernel_rfl) (fun _ _ _ h => h) (Or.inl ⟨by rfl, ?_⟩) (by assumption) ?_
                rotate_left
                · (intro wx hSw; go_simp; (try with_reducible rfl); (try omega))
                (try simp only [Act.put, List.setIfInBounds_toArray, List.set_cons_zero, List.set_cons_succ, List.getElem_toArray, List.getElem_cons_zero, List.getElem_cons_succ])
                refine wpAnyH_ready (rs := [13]) (by kernel_rfl) (by simp) ?_
                refine AllReadyH.cons rfl (fun K hK => ?_) ?_
                · (try simp only [Act.put, List.getElem_toArray, List.getElem_cons_zero, List.getElem_cons_succ])
                  have r0 := X3.cell 0 rfl
                  have r1 := X3.cell 1 rfl
                  have r2 := X3.cell 2 rfl
                  have g0 := X3.frz 0 (by decide)
                  have g1 := X3.frz 1 (by decide)
                  have g2 := X3.frz 2 (by decide)
                  go_simp
                  clear r0 r1 r2 g0 g1 g2
                  have hS := hS.puts (T := W1.heap.size) [.int .i64 1, .int .i64 15, .string ⟨#[]⟩] (by have := hS.b.size; omega) (by omega)
                  have X3 := X3.puts [.int .i64 1, .int .i64 15, .string ⟨#[]⟩] rfl
                  refine hK.out _ _ hS (fun hHeld => ?_)
                  clear hK K
                  (try simp only [Act.put, List.setIfInBounds_toArray, List.set_cons_zero, List.set_cons_succ, List.getElem_toArray, List.getElem_cons_zero, List.getElem_cons_succ])
                  refine wpAnyH_take (i := 14) (v := ?_) rfl (by kernel_rfl) (by kernel_rfl) (by kernel_rfl) (fun _ _ _ h => h) (Or.inl ⟨by rfl, ?_⟩) (by assumption) ?_
                  rotate_left
                  · (intro wx hSw; go_simp; (try with_reducible rfl); (try omega))
                  (try simp only [Act.put, List.setIfInBounds_toArray, List.set_cons_zero, List.set_cons_succ, List.getElem_toArray, List.getElem_cons_zero, List.getElem_cons_succ])
                  refine wpAnyH_done (by kernel_rfl) ?_ _
                  go_wp2_with fail
                  go_meet
                  case rel => exact ⟨_, rfl, rfl, X3, hS⟩
                exact AllReadyH.nil
              exact AllReadyH.nil
            exact AllReadyH.nil
          refine AllReadyH.cons rfl (fun K hK => ?_) ?_
          · (try simp only [Act.put, List.setIfInBounds_toArray, List.set_cons_zero, List.set_cons_succ, List.getElem_toArray, List.getElem_cons_zero, List.getElem_cons_succ])
            go_simp
            obtain ⟨W4, hW4⟩ : ∃ W', W3.alloc (.cells #[.int .i64 0, .int .i64 0, .string ⟨#[]⟩, .int .i64 1, .int .i64 5, .string ⟨#[]⟩] 23) = W' := ⟨_, rfl⟩
            have X2 : VarB W4 W3.heap.size [.int .i64 0, .int .i64 0, .string ⟨#[]⟩, .int .i64 1, .int .i64 5, .string ⟨#[]⟩] := by rw [← hW4]; exact VarB.new _ _ _
            have hS := hS.alloc (.cells #[.int .i64 0, .int .i64 0, .string ⟨#[]⟩, .int .i64 1, .int .i64 5, .string ⟨#[]⟩] 23); rw [hW4] at hS
            have X3 := X3.alloc (.cells #[.int .i64 0, .int .i64 0, .string ⟨#[]⟩, .int .i64 1, .int .i64 5, .string ⟨#[]⟩] 23); rw [hW4] at X3
            rw [hW4]
            have zX2 : W3.heap.size < W4.heap.size := X2.lt
            refine hK.out _ _ hS (fun hHeld => ?_)
            clear hW4
            clear hK K
            (try simp only [Act.put, List.setIfInBounds_toArray, List.set_cons_zero, List.set_cons_succ, List.getElem_toArray, List.getElem_cons_zero, List.getElem_cons_succ])
            refine wpAnyH_ready (rs := [3]) (by kernel_rfl) (by simp) ?_
            refine AllReadyH.cons rfl (fun K hK => ?_) ?_
            · (try simp only [Act.put, List.setIfInBounds_toArray, List.set_cons_zero, List.set_cons_succ, List.getElem_toArray, List.getElem_cons_zero, List.getElem_cons_succ])
              go_simp
              obtain ⟨W5, hW5⟩ : ∃ W', W4.alloc (.cells #[.int .i64 1, .int .i64 1, .int .i64 0, .int .i64 0, .string ⟨#[]⟩, .slice none 0 0, .int .i64 2, .int .i64 0, .int .i64 1, .int .i64 3, .string ⟨#[]⟩, .slice none 0 0] 26) = W' := ⟨_, rfl⟩
              have X1 : VarB W5 W4.heap.size [.int .i64 1, .int .i64 1, .int .i64 0, .int .i64 0, .string ⟨#[]⟩, .slice none 0 0, .int .i64 2, .int .i64 0, .int .i64 1, .int .i64 3, .string ⟨#[]⟩, .slice none 0 0] := by rw [← hW5]; exact VarB.new _ _ _
              have hS := hS.alloc (.cells #[.int .i64 1, .int .i64 1, .int .i64 0, .int .i64 0, .string ⟨#[]⟩, .slice none 0 0, .int .i64 2, .int .i64 0, .int .i64 1, .int .i64 3, .string ⟨#[]⟩, .slice none 0 0] 26); rw [hW5] at hS
              have X3 := X3.alloc (.cells #[.int .i64 1, .int .i64 1, .int .i64 0, .int .i64 0, .string ⟨#[]⟩, .slice none 0 0, .int .i64 2, .int .i64 0, .int .i64 1, .int .i64 3, .string ⟨#[]⟩, .slice none 0 0] 26); rw [hW5] at X3
              have X2 := X2.alloc (.cells #[.int .i64 1, .int .i64 1, .int .i64 0, .int .i64 0, .string ⟨#[]⟩, .slice none 0 0, .int .i64 2, .int .i64 0, .int .i64 1, .int .i64 3, .string ⟨#[]⟩, .slice none 0 0] 26); rw [hW5] at X2
              rw [hW5]
              have zX1 : W4.heap.size < W5.heap.size := X1.lt
              refine hK.out _ _ hS (fun hHeld => ?_)
              clear hW5
              clear hK K
              (try simp only [Act.put, List.setIfInBounds_toArray, List.set_cons_zero, List.set_cons_succ, List.getElem_toArray, List.getElem_cons_zero, List.getElem_cons_succ])
              refine wpAnyH_take (i := 4) (v := ?_) rfl (by kernel_rfl) (by kernel_rfl) (by kernel_rfl) (fun _ _ _ h => h) (Or.inl ⟨by rfl, ?_⟩) (by assumption) ?_
              rotate_left
              · (intro wx hSw; go_simp; (try with_reducible rfl); (try omega))
              (try simp only [Act.put, List.setIfInBounds_toArray, List.set_cons_zero, List.set_cons_succ, List.getElem_toArray, List.getElem_cons_zero, List.getElem_cons_succ])
              refine wpAnyH_ready (rs := [8]) (by kernel_rfl) (by simp) ?_
              refine AllReadyH.cons rfl (fun K hK => ?_) ?_
              · (try simp only [Act.put, List.setIfInBounds_toArray, List.set_cons_zero, List.set_cons_succ, List.getElem_toArray, List.getElem_cons_zero, List.getElem_cons_succ])
                go_simp
                refine (evalEx X1 X2).mono ?_
                rintro e W6 ⟨rfl, hb⟩
                have hS := hS.below hb
                have X3 := X3.below hb
                have X2 := X2.below hb
                have X1 := X1.below hb
                have zW6 := hb.size
                clear hb
                refine hK.out _ _ hS (fun hHeld => ?_)
                clear hK K
                (try simp only [Act.put, List.setIfInBounds_toArray, List.set_cons_zero, List.set_cons_succ, List.getElem_toArray, List.getElem_cons_zero, List.getElem_cons_succ])
                refine wpAnyH_take (i := 9) (v := ?_) rfl (by kernel_rfl) (by kernel_rfl) (by kernel_rfl) (fun _ _ _ h => h) (Or.inl ⟨by rfl, ?_⟩) (by assumption) ?_
                rotate_left
                · (intro wx hSw; go_simp; (try with_reducible rfl); (try omega))
                (try simp only [Act.put, List.setIfInBounds_toArray, List.set_cons_zero, List.set_cons_succ, List.getElem_toArray, List.getElem_cons_zero, List.getElem_cons_succ])
                refine wpAnyH_take (i := 10) (v := ?_) rfl (by kernel_rfl) (by kernel_rfl) (by kernel_rfl) (fun _ _ _ h => h) (Or.inl ⟨by rfl, ?_⟩) (by assumption) ?_
                rotate_left
                · (intro wx hSw; go_simp; (try with_reducible rfl); (try omega))
                (try simp only [Act.put, List.setIfInBounds_toArray, List.set_cons_zero, List.set_cons_succ, List.getElem_toArray, List.getElem_cons_zero, List.getElem_cons_succ])
                refine wpAnyH_take (i := 11) (v := ?_) rfl (by kernel_rfl) (by kernel_rfl) (by kernel_rfl) (fun _ _ _ h => h) (Or.inl ⟨by rfl, ?_⟩) (by assumption) ?_
                rotate_left
                · (intro wx hSw; go_simp; (try with_reducible rfl); (try omega))
                (try simp only [Act.put, List.setIfInBounds_toArray, List.set_cons_zero, List.set_cons_succ, List.getElem_toArray, List.getElem_cons_zero, List.getElem_cons_succ])
                refine wpAnyH_ready (rs := [13]) (by kernel_rfl) (by simp) ?_
                refine AllReadyH.cons rfl (fun K hK => ?_) ?_
                · (try simp only [Act.put, List.getElem_toArray, List.getElem_cons_zero, List.getElem_cons_succ])
                  have r0 := X3.cell 0 rfl
                  have r1 := X3.cell 1 rfl
                  have r2 := X3.cell 2 rfl
                  have g0 := X3.frz 0 (by decide)
                  have g1 := X3.frz 1 (by decide)
                  have g2 := X3.frz 2 (by decide)
                  go_simp
                  clear r0 r1 r2 g0 g1 g2
                  have hS := hS.puts (T := W1.heap.size) [.int .i64 1, .int .i64 15, .string ⟨#[]⟩] (by have := hS.b.size; omega) (by omega)
                  have X3 := X3.puts [.int .i64 1, .int .i64 15, .string ⟨#[]⟩] rfl
                  refine hK.out _ _ hS (fun hHeld => ?_)
                  clear hK K
                  (try simp only [Act.put, List.setIfInBounds_toArray, List.set_cons_zero, List.set_cons_succ, List.getElem_toArray, List.getElem_cons_zero, List.getElem_cons_succ])
                  refine wpAnyH_take (i := 14) (v := ?_) rfl (by kernel_rfl) (by kernel_rfl) (by kernel_rfl) (fun _ _ _ h => h) (Or.inl ⟨by rfl, ?_⟩) (by assumption) ?_
                  rotate_left
                  · (intro wx hSw; go_simp; (try with_reducible rfl); (try omega))
                  (try simp only [Act.put, List.setIfInBounds_toArray, List.set_cons_zero, List.set_cons_succ, List.getElem_toArray, List.getElem_cons_zero, List.getElem_cons_succ])
                  refine wpAnyH_done (by kernel_rfl) ?_ _
                  go_wp2_with fail
                  go_meet
                  case rel => exact ⟨_, rfl, rfl, X3, hS⟩
                exact AllReadyH.nil
              exact AllReadyH.nil
            exact AllReadyH.nil
          exact AllReadyH.nil
        exact AllReadyH.nil
      exact AllReadyH.nil
    refine AllReadyH.cons rfl (fun K hK => ?_) ?_
    · (try simp only [Act.put, List.setIfInBounds_toArray, List.set_cons_zero, List.set_cons_succ, List.getElem_toArray, List.getElem_cons_zero, List.getElem_cons_succ])
      go_simp
      obtain ⟨W1, hW1⟩ : ∃ W', W0.alloc (.cells #[.int .i64 0, .int .i64 0, .string ⟨#[]⟩] 23) = W' := ⟨_, rfl⟩
      have X3 : VarB W1 W0.heap.size [.int .i64 0, .int .i64 0, .string ⟨#[]⟩] := by rw [← hW1]; exact VarB.new _ _ _
      have hS := hS.alloc (.cells #[.int .i64 0, .int .i64 0, .string ⟨#[]⟩] 23); rw [hW1] at hS
      rw [hW1]
      have zX3 : W0.heap.size < W1.heap.size := X3.lt
      refine hK.out _ _ hS (fun hHeld => ?_)
      clear hW1
      clear hK K
      (try simp only [Act.put, List.setIfInBounds_toArray, List.set_cons_zero, List.set_cons_succ, List.getElem_toArray, List.getElem_cons_zero, List.getElem_cons_succ])
      refine wpAnyH_ready (rs := [1]) (by kernel_rfl) (by simp) ?_
      refine AllReadyH.cons rfl (fun K hK => ?_) ?_
      · (try simp only [Act.put, List.setIfInBounds_toArray, List.set_cons_zero, List.set_cons_succ, List.getElem_toArray, List.getElem_cons_zero, List.getElem_cons_succ])
        go_simp
        refine (num11_any 3 _).mono ?_
        rintro e W2 ⟨rfl, hb⟩
        have hS := hS.below hb
        have X3 := X3.below hb
        have zW2 := hb.size
        clear hb
        refine hK.out _ _ hS (fun hHeld => ?_)
        clear hK K
        (try simp only [Act.put, List.setIfInBounds_toArray, List.set_cons_zero, List.set_cons_succ, List.getElem_toArray, List.getElem_cons_zero, List.getElem_cons_succ])
        refine wpAnyH_take (i := 2) (v := ?_) rfl (by kernel_rfl) (by kernel_rfl) (by kernel_rfl) (fun _ _ _ h => h) (Or.inl ⟨by rfl, ?_⟩) (by assumption) ?_
        rotate_left
        · (intro wx hSw; go_simp; (try with_reducible rfl); (try omega))
        (try simp only [Act.put, List.setIfInBounds_toArray, List.set_cons_zero, List.set_cons_succ, List.getElem_toArray, List.getElem_cons_zero, List.getElem_cons_succ])
        refine wpAnyH_ready (rs := [3, 6]) (by kernel_rfl) (by simp) ?_
        refine AllReadyH.cons rfl (fun K hK => ?_) ?_
        · (try simp only [Act.put, List.setIfInBounds_toArray, List.set_cons_zero, List.set_cons_succ, List.getElem_toArray, List.getElem_cons_zero, List.getElem_cons_succ])
          go_simp
          obtain ⟨W3, hW3⟩ : ∃ W', W2.alloc (.cells #[.int .i64 1, .int .i64 1, .int .i64 0, .int .i64 0, .string ⟨#[]⟩, .slice none 0 0, .int .i64 2, .int .i64 0, .int .i64 1, .int .i64 3, .string ⟨#[]⟩, .slice none 0 0] 26) = W' := ⟨_, rfl⟩
          have X1 : VarB W3 W2.heap.size [.int .i64 1, .int .i64 1, .int .i64 0, .int .i64 0, .string ⟨#[]⟩, .slice none 0 0, .int .i64 2, .int .i64 0, .int .i64 1, .int .i64 3, .string ⟨#[]⟩, .slice none 0 0] := by rw [← hW3]; exact VarB.new _ _ _
          have hS := hS.alloc (.cells #[.int .i64 1, .int .i64 1, .int .i64 0, .int .i64 0, .string ⟨#[]⟩, .slice none 0 0, .int .i64 2, .int .i64 0, .int .i64 1, .int .i64 3, .string ⟨#[]⟩, .slice none 0 0] 26); rw [hW3] at hS
          have X3 := X3.alloc (.cells #[.int .i64 1, .int .i64 1, .int .i64 0, .int .i64 0, .string ⟨#[]⟩, .slice none 0 0, .int .i64 2, .int .i64 0, .int .i64 1, .int .i64 3, .string ⟨#[]⟩, .slice none 0 0] 26); rw [hW3] at X3
          rw [hW3]
          have zX1 : W2.heap.size < W3.heap.size := X1.lt
          refine hK.out _ _ hS (fun hHeld => ?_)
          clear hW3
          clear hK K
          (try simp only [Act.put, List.setIfInBounds_toArray, List.set_cons_zero, List.set_cons_succ, List.getElem_toArray, List.getElem_cons_zero, List.getElem_cons_succ])
          refine wpAnyH_take (i := 4) (v := ?_) rfl (by kernel_rfl) (by kernel_rfl) (by kernel_rfl) (fun _ _ _ h => h) (Or.inl ⟨by rfl, ?_⟩) (by assumption) ?_
          rotate_left
          · (intro wx hSw; go_simp; (try with_reducible rfl); (try omega))
          (try simp only [Act.put, List.setIfInBounds_toArray, List.set_cons_zero, List.set_cons_succ, List.getElem_toArray, List.getElem_cons_zero, List.getElem_cons_succ])
          refine wpAnyH_ready (rs := [6]) (by kernel_rfl) (by simp) ?_
          refine AllReadyH.cons rfl (fun K hK => ?_) ?_
          · (try simp only [Act.put, List.setIfInBounds_toArray, List.set_cons_zero, List.set_cons_succ, List.getElem_toArray, List.getElem_cons_zero, List.getElem_cons_succ])
            go_simp
            refine (num11_any 5 _).mono ?_
            rintro e W4 ⟨rfl, hb⟩
            have hS := hS.below hb
            have X3 := X3.below hb
            have X1 := X1.below hb
            have zW4 := hb.size
            clear hb
            refine hK.out _ _ hS (fun hHeld => ?_)
            clear hK K
            (try simp only [Act.put, List.setIfInBounds_toArray, List.set_cons_zero, List.set_cons_succ, List.getElem_toArray, List.getElem_cons_zero, List.getElem_cons_succ])
            refine wpAnyH_ready (rs := [7]) (by kernel_rfl) (by simp) ?_
            refine AllReadyH.cons rfl (fun K hK => ?_) ?_
            · (try simp only [Act.put, List.setIfInBounds_toArray, List.set_cons_zero, List.set_cons_succ, List.getElem_toArray, List.getElem_cons_zero, List.getElem_cons_succ])
              go_simp
              obtain ⟨W5, hW5⟩ : ∃ W', W4.alloc (.cells #[.int .i64 0, .int .i64 0, .string ⟨#[]⟩, .int .i64 1, .int .i64 5, .string ⟨#[]⟩] 23) = W' := ⟨_, rfl⟩
              have X2 : VarB W5 W4.heap.size [.int .i64 0, .int .i64 0, .string ⟨#[]⟩, .int .i64 1, .int .i64 5, .string ⟨#[]⟩] := by rw [← hW5]; exact VarB.new _ _ _
              have hS := hS.alloc (.cells #[.int .i64 0, .int .i64 0, .string ⟨#[]⟩, .int .i64 1, .int .i64 5, .string ⟨#[]⟩] 23); rw [hW5] at hS
              have X3 := X3.alloc (.cells #[.int .i64 0, .int .i64 0, .string ⟨#[]⟩, .int .i64 1, .int .i64 5, .string ⟨#[]⟩] 23); rw [hW5] at X3
              have X1 := X1.alloc (.cells #[.int .i64 0, .int .i64 0, .string ⟨#[]⟩, .int .i64 1, .int .i64 5, .string ⟨#[]⟩] 23); rw [hW5] at X1
              rw [hW5]
              have zX2 : W4.heap.size < W5.heap.size := X2.lt
              refine hK.out _ _ hS (fun hHeld => ?_)
              clear hW5
              clear hK K
              (try simp only [Act.put, List.setIfInBounds_toArray, List.set_cons_zero, List.set_cons_succ, List.getElem_toArray, List.getElem_cons_zero, List.getElem_cons_succ])
              refine wpAnyH_ready (rs := [8]) (by kernel_rfl) (by simp) ?_
              refine AllReadyH.cons rfl (fun K hK => ?_) ?_
              · (try simp only [Act.put, List.setIfInBounds_toArray, List.set_cons_zero, List.set_cons_succ, List.getElem_toArray, List.getElem_cons_zero, List.getElem_cons_succ])
                go_simp
                refine (evalEx X1 X2).mono ?_
                rintro e W6 ⟨rfl, hb⟩
                have hS := hS.below hb
                have X3 := X3.below hb
                have X1 := X1.below hb
                have X2 := X2.below hb
                have zW6 := hb.size
                clear hb
                refine hK.out _ _ hS (fun hHeld => ?_)
                clear hK K
                (try simp only [Act.put, List.setIfInBounds_toArray, List.set_cons_zero, List.set_cons_succ, List.getElem_toArray, List.getElem_cons_zero, List.getElem_cons_succ])
                refine wpAnyH_take (i := 9) (v := ?_) rfl (by kernel_rfl) (by kernel_rfl) (by kernel_rfl) (fun _ _ _ h => h) (Or.inl ⟨by rfl, ?_⟩) (by assumption) ?_
                rotate_left
                · (intro wx hSw; go_simp; (try with_reducible rfl); (try omega))
                (try simp only [Act.put, List.setIfInBounds_toArray, List.set_cons_zero, List.set_cons_succ, List.getElem_toArray, List.getElem_cons_zero, List.getElem_cons_succ])
                refine wpAnyH_take (i := 10) (v := ?_) rfl (by kernel_rfl) (by kernel_rfl) (by kernel_rfl) (fun _ _ _ h => h) (Or.inl ⟨by rfl, ?_⟩) (by assumption) ?_
                rotate_left
                · (intro wx hSw; go_simp; (try with_reducible rfl); (try omega))
                (try simp only [Act.put, List.setIfInBounds_toArray, List.set_cons_zero, List.set_cons_succ, List.getElem_toArray, List.getElem_cons_zero, List.getElem_cons_succ])
                refine wpAnyH_take (i := 11) (v := ?_) rfl (by kernel_rfl) (by kernel_rfl) (by kernel_rfl) (fun _ _ _ h => h) (Or.inl ⟨by rfl, ?_⟩) (by assumption) ?_
                rotate_left
                · (intro wx hSw; go_simp; (try with_reducible rfl); (try omega))
                (try simp only [Act.put, List.setIfInBounds_toArray, List.set_cons_zero, List.set_cons_succ, List.getElem_toArray, List.getElem_cons_zero, List.getElem_cons_succ])
                refine wpAnyH_ready (rs := [13]) (by kernel_rfl) (by simp) ?_
                refine AllReadyH.cons rfl (fun K hK => ?_) ?_
                · (try simp only [Act.put, List.getElem_toArray, List.getElem_cons_zero, List.getElem_cons_succ])
                  have r0 := X3.cell 0 rfl
                  have r1 := X3.cell 1 rfl
                  have r2 := X3.cell 2 rfl
                  have g0 := X3.frz 0 (by decide)
                  have g1 := X3.frz 1 (by decide)
                  have g2 := X3.frz 2 (by decide)
                  go_simp
                  clear r0 r1 r2 g0 g1 g2
                  have hS := hS.puts (T := W0.heap.size) [.int .i64 1, .int .i64 15, .string ⟨#[]⟩] (by have := hS.b.size; omega) (by omega)
                  have X3 := X3.puts [.int .i64 1, .int .i64 15, .string ⟨#[]⟩] rfl
                  refine hK.out _ _ hS (fun hHeld => ?_)
                  clear hK K
                  (try simp only [Act.put, List.setIfInBounds_toArray, List.set_cons_zero, List.set_cons_succ, List.getElem_toArray, List.getElem_cons_zero, List.getElem_cons_succ])
                  refine wpAnyH_take (i := 14) (v := ?_) rfl (by kernel_rfl) (by kernel_rfl) (by kernel_rfl) (fun _ _ _ h => h) (Or.inl ⟨by rfl, ?_⟩) (by assumption) ?_
                  rotate_left
                  · (intro wx hSw; go_simp; (try with_reducible rfl); (try omega))
                  (try simp only [Act.put, List.setIfInBounds_toArray, List.set_cons_zero, List.set_cons_succ, List.getElem_toArray, List.getElem_cons_zero, List.getElem_cons_succ])
                  refine wpAnyH_done (by kernel_rfl) ?_ _
                  go_wp2_with fail
                  go_meet
                  case rel => exact ⟨_, rfl, rfl, X3, hS⟩
                exact AllReadyH.nil
              exact AllReadyH.nil
            exact AllReadyH.nil
          exact AllReadyH.nil
        refine AllReadyH.cons rfl (fun K hK => ?_) ?_
        · (try simp only [Act.put, List.setIfInBounds_toArray, List.set_cons_zero, List.set_cons_succ, List.getElem_toArray, List.getElem_cons_zero, List.getElem_cons_succ])
          go_simp
          refine (num11_any 5 _).mono ?_
          rintro e W3 ⟨rfl, hb⟩
          have hS := hS.below hb
          have X3 := X3.below hb
          have zW3 := hb.size
          clear hb
          refine hK.out _ _ hS (fun hHeld => ?_)
          clear hK K
          (try simp only [Act.put, List.setIfInBounds_toArray, List.set_cons_zero, List.set_cons_succ, List.getElem_toArray, List.getElem_cons_zero, List.getElem_cons_succ])
          refine wpAnyH_ready (rs := [3, 7]) (by kernel_rfl) (by simp) ?_
          refine AllReadyH.cons rfl (fun K hK => ?_) ?_
          · (try simp only [Act.put, List.setIfInBounds_toArray, List.set_cons_zero, List.set_cons_succ, List.getElem_toArray, List.getElem_cons_zero, List.getElem_cons_succ])
            go_simp
            obtain ⟨W4, hW4⟩ : ∃ W', W3.alloc (.cells #[.int .i64 1, .int .i64 1, .int .i64 0, .int .i64 0, .string ⟨#[]⟩, .slice none 0 0, .int .i64 2, .int .i64 0, .int .i64 1, .int .i64 3, .string ⟨#[]⟩, .slice none 0 0] 26) = W' := ⟨_, rfl⟩
            have X1 : VarB W4 W3.heap.size [.int .i64 1, .int .i64 1, .int .i64 0, .int .i64 0, .string ⟨#[]⟩, .slice none 0 0, .int .i64 2, .int .i64 0, .int .i64 1, .int .i64 3, .string ⟨#[]⟩, .slice none 0 0] := by rw [← hW4]; exact VarB.new _ _ _
            have hS := hS.alloc (.cells #[.int .i64 1, .int .i64 1, .int .i64 0, .int .i64 0, .string ⟨#[]⟩, .slice none 0 0, .int .i64 2, .int .i64 0, .int .i64 1, .int .i64 3, .string ⟨#[]⟩, .slice none 0 0] 26); rw [hW4] at hS
            have X3 := X3.alloc (.cells #[.int .i64 1, .int .i64 1, .int .i64 0, .int .i64 0, .string ⟨#[]⟩, .slice none 0 0, .int .i64 2, .int .i64 0, .int .i64 1, .int .i64 3, .string ⟨#[]⟩, .slice none 0 0] 26); rw [hW4] at X3
            rw [hW4]
            have zX1 : W3.heap.size < W4.heap.size := X1.lt
            refine hK.out _ _ hS (fun hHeld => ?_)
            clear hW4
            clear hK K
            (try simp only [Act.put, List.setIfInBounds_toArray, List.set_cons_zero, List.set_cons_succ, List.getElem_toArray, List.getElem_cons_zero, List.getElem_cons_succ])
            refine wpAnyH_take (i := 4) (v := ?_) rfl (by kernel_rfl) (by kernel_rfl) (by kernel_rfl) (fun _ _ _ h => h) (Or.inl ⟨by rfl, ?_⟩) (by assumption) ?_
            rotate_left
            · (intro wx hSw; go_simp; (try with_reducible rfl); (try omega))
            (try simp only [Act.put, List.setIfInBounds_toArray, List.set_cons_zero, List.set_cons_succ, List.getElem_toArray, List.getElem_cons_zero, List.getElem_cons_succ])
            refine wpAnyH_ready (rs := [7]) (by kernel_rfl) (by simp) ?_
            refine AllReadyH.cons rfl (fun K hK => ?_) ?_
            · (try simp only [Act.put, List.setIfInBounds_toArray, List.set_cons_zero, List.set_cons_succ, List.getElem_toArray, List.getElem_cons_zero, List.getElem_cons_succ])
              go_simp
              obtain ⟨W5, hW5⟩ : ∃ W', W4.alloc (.cells #[.int .i64 0, .int .i64 0, .string ⟨#[]⟩, .int .i64 1, .int .i64 5, .string ⟨#[]⟩] 23) = W' := ⟨_, rfl⟩
              have X2 : VarB W5 W4.heap.size [.int .i64 0, .int .i64 0, .string ⟨#[]⟩, .int .i64 1, .int .i64 5, .string ⟨#[]⟩] := by rw [← hW5]; exact VarB.new _ _ _
              have hS := hS.alloc (.cells #[.int .i64 0, .int .i64 0, .string ⟨#[]⟩, .int .i64 1, .int .i64 5, .string ⟨#[]⟩] 23); rw [hW5] at hS
              have X3 := X3.alloc (.cells #[.int .i64 0, .int .i64 0, .string ⟨#[]⟩, .int .i64 1, .int .i64 5, .string ⟨#[]⟩] 23); rw [hW5] at X3
              have X1 := X1.alloc (.cells #[.int .i64 0, .int .i64 0, .string ⟨#[]⟩, .int .i64 1, .int .i64 5, .string ⟨#[]⟩] 23); rw [hW5] at X1
              rw [hW5]
              have zX2 : W4.heap.size < W5.heap.size := X2.lt
              refine hK.out _ _ hS (fun hHeld => ?_)
              clear hW5
              clear hK K
              (try simp only [Act.put, List.setIfInBounds_toArray, List.set_cons_zero, List.set_cons_succ, List.getElem_toArray, List.getElem_cons_zero, List.getElem_cons_succ])
              refine wpAnyH_ready (rs := [8]) (by kernel_rfl) (by simp) ?_
              refine AllReadyH.cons rfl (fun K hK => ?_) ?_
              · (try simp only [Act.put, List.setIfInBounds_toArray, List.set_cons_zero, List.set_cons_succ, List.getElem_toArray, List.getElem_cons_zero, List.getElem_cons_succ])
                go_simp
                refine (evalEx X1 X2).mono ?_
                rintro e W6 ⟨rfl, hb⟩
                have hS := hS.below hb
                have X3 := X3.below hb
                have X1 := X1.below hb
                have X2 := X2.below hb
                have zW6 := hb.size
                clear hb
                refine hK.out _ _ hS (fun hHeld => ?_)
                clear hK K
                (try simp only [Act.put, List.setIfInBounds_toArray, List.set_cons_zero, List.set_cons_succ, List.getElem_toArray, List.getElem_cons_zero, List.getElem_cons_succ])
                refine wpAnyH_take (i := 9) (v := ?_) rfl (by kernel_rfl) (by kernel_rfl) (by kernel_rfl) (fun _ _ _ h => h) (Or.inl ⟨by rfl, ?_⟩) (by assumption) ?_
                rotate_left
                · (intro wx hSw; go_simp; (try with_reducible rfl); (try omega))
                (try simp only [Act.put, List.setIfInBounds_toArray, List.set_cons_zero, List.set_cons_succ, List.getElem_toArray, List.getElem_cons_zero, List.getElem_cons_succ])
                refine wpAnyH_take (i := 10) (v := ?_) rfl (by kernel_rfl) (by kernel_rfl) (by kernel_rfl) (fun _ _ _ h => h) (Or.inl ⟨by rfl, ?_⟩) (by assumption) ?_
                rotate_left
                · (intro wx hSw; go_simp; (try with_reducible rfl); (try omega))
                (try simp only [Act.put, List.setIfInBounds_toArray, List.set_cons_zero, List.set_cons_succ, List.getElem_toArray, List.getElem_cons_zero, List.getElem_cons_succ])
                refine wpAnyH_take (i := 11) (v := ?_) rfl (by kernel_rfl) (by kernel_rfl) (by kernel_rfl) (fun _ _ _ h => h) (Or.inl ⟨by rfl, ?_⟩) (by assumption) ?_
                rotate_left
                · (intro wx hSw; go_simp; (try with_reducible rfl); (try omega))
                (try simp only [Act.put, List.setIfInBounds_toArray, List.set_cons_zero, List.set_cons_succ, List.getElem_toArray, List.getElem_cons_zero, List.getElem_cons_succ])
                refine wpAnyH_ready (rs := [13]) (by kernel_rfl) (by simp) ?_
                refine AllReadyH.cons rfl (fun K hK => ?_) ?_
                · (try simp only [Act.put, List.getElem_toArray, List.getElem_cons_zero, List.getElem_cons_succ])
                  have r0 := X3.cell 0 rfl
                  have r1 := X3.cell 1 rfl
                  have r2 := X3.cell 2 rfl
                  have g0 := X3.frz 0 (by decide)
                  have g1 := X3.frz 1 (by decide)
                  have g2 := X3.frz 2 (by decide)
                  go_simp
                  clear r0 r1 r2 g0 g1 g2
                  have hS := hS.puts (T := W0.heap.size) [.int .i64 1, .int .i64 15, .string ⟨#[]⟩] (by have := hS.b.size; omega) (by omega)
                  have X3 := X3.puts [.int .i64 1, .int .i64 15, .string ⟨#[]⟩] rfl
                  refine hK.out _ _ hS (fun hHeld => ?_)
                  clear hK K
                  (try simp only [Act.put, List.setIfInBounds_toArray, List.set_cons_zero, List.set_cons_succ, List.getElem_toArray, List.getElem_cons_zero, List.getElem_cons_succ])
                  refine wpAnyH_take (i := 14) (v := ?_) rfl (by kernel_rfl) (by kernel_rfl) (by kernel_rfl) (fun _ _ _ h => h) (Or.inl ⟨by rfl, ?_⟩) (by assumption) ?_
                  rotate_left
                  · (intro wx hSw; go_simp; (try with_reducible rfl); (try omega))
                  (try simp only [Act.put, List.setIfInBounds_toArray, List.set_cons_zero, List.set_cons_succ, List.getElem_toArray, List.getElem_cons_zero, List.getElem_cons_succ])
                  refine wpAnyH_done (by kernel_rfl) ?_ _
                  go_wp2_with fail
                  go_meet
                  case rel => exact ⟨_, rfl, rfl, X3, hS⟩
                exact AllReadyH.nil
              exact AllReadyH.nil
            exact AllReadyH.nil
          refine AllReadyH.cons rfl (fun K hK => ?_) ?_
          · (try simp only [Act.put, List.setIfInBounds_toArray, List.set_cons_zero, List.set_cons_succ, List.getElem_toArray, List.getElem_cons_zero, List.getElem_cons_succ])
            go_simp
            obtain ⟨W4, hW4⟩ : ∃ W', W3.alloc (.cells #[.int .i64 0, .int .i64 0, .string ⟨#[]⟩, .int .i64 1, .int .i64 5, .string ⟨#[]⟩] 23) = W' := ⟨_, rfl⟩
            have X2 : VarB W4 W3.heap.size [.int .i64 0, .int .i64 0, .string ⟨#[]⟩, .int .i64 1, .int .i64 5, .string ⟨#[]⟩] := by rw [← hW4]; exact VarB.new _ _ _
            have hS := hS.alloc (.cells #[.int .i64 0, .int .i64 0, .string ⟨#[]⟩, .int .i64 1, .int .i64 5, .string ⟨#[]⟩] 23); rw [hW4] at hS
            have X3 := X3.alloc (.cells #[.int .i64 0, .int .i64 0, .string ⟨#[]⟩, .int .i64 1, .int .i64 5, .string ⟨#[]⟩] 23); rw [hW4] at X3
            rw [hW4]
            have zX2 : W3.heap.size < W4.heap.size := X2.lt
            refine hK.out _ _ hS (fun hHeld => ?_)
            clear hW4
            clear hK K
            (try simp only [Act.put, List.setIfInBounds_toArray, List.set_cons_zero, List.set_cons_succ, List.getElem_toArray, List.getElem_cons_zero, List.getElem_cons_succ])
            refine wpAnyH_ready (rs := [3]) (by kernel_rfl) (by simp) ?_
            refine AllReadyH.cons rfl (fun K hK => ?_) ?_
            · (try simp only [Act.put, List.setIfInBounds_toArray, List.set_cons_zero, List.set_cons_succ, List.getElem_toArray, List.getElem_cons_zero, List.getElem_cons_succ])
              go_simp
              obtain ⟨W5, hW5⟩ : ∃ W', W4.alloc (.cells #[.int .i64 1, .int .i64 1, .int .i64 0, .int .i64 0, .string ⟨#[]⟩, .slice none 0 0, .int .i64 2, .int .i64 0, .int .i64 1, .int .i64 3, .string ⟨#[]⟩, .slice none 0 0] 26) = W' := ⟨_, rfl⟩
              have X1 : VarB W5 W4.heap.size [.int .i64 1, .int .i64 1, .int .i64 0, .int .i64 0, .string ⟨#[]⟩, .slice none 0 0, .int .i64 2, .int .i64 0, .int .i64 1, .int .i64 3, .string ⟨#[]⟩, .slice none 0 0] := by rw [← hW5]; exact VarB.new _ _ _
              have hS := hS.alloc (.cells #[.int .i64 1, .int .i64 1, .int .i64 0, .int .i64 0, .string ⟨#[]⟩, .slice none 0 0, .int .i64 2, .int .i64 0, .int .i64 1, .int .i64 3, .string ⟨#[]⟩, .slice none 0 0] 26); rw [hW5] at hS
              have X3 := X3.alloc (.cells #[.int .i64 1, .int .i64 1, .int .i64 0, .int .i64 0, .string ⟨#[]⟩, .slice none 0 0, .int .i64 2, .int .i64 0, .int .i64 1, .int .i64 3, .string ⟨#[]⟩, .slice none 0 0] 26); rw [hW5] at X3
              have X2 := X2.alloc (.cells #[.int .i64 1, .int .i64 1, .int .i64 0, .int .i64 0, .string ⟨#[]⟩, .slice none 0 0, .int .i64 2, .int .i64 0, .int .i64 1, .int .i64 3, .string ⟨#[]⟩, .slice none 0 0] 26); rw [hW5] at X2
              rw [hW5]
              have zX1 : W4.heap.size < W5.heap.size := X1.lt
              refine hK.out _ _ hS (fun hHeld => ?_)
              clear hW5
              clear hK K
              (try simp only [Act.put, List.setIfInBounds_toArray, List.set_cons_zero, List.set_cons_succ, List.getElem_toArray, List.getElem_cons_zero, List.getElem_cons_succ])
              refine wpAnyH_take (i := 4) (v := ?_) rfl (by kernel_rfl) (by kernel_rfl) (by kernel_rfl) (fun _ _ _ h => h) (Or.inl ⟨by rfl, ?_⟩) (by assumption) ?_
              rotate_left
              · (intro wx hSw; go_simp; (try with_reducible rfl); (try omega))
              (try simp only [Act.put, List.setIfInBounds_toArray, List.set_cons_zero, List.set_cons_succ, List.getElem_toArray, List.getElem_cons_zero, List.getElem_cons_succ])
              refine wpAnyH_ready (rs := [8]) (by kernel_rfl) (by simp) ?_
              refine AllReadyH.cons rfl (fun K hK => ?_) ?_
              · (try simp only [Act.put, List.setIfInBounds_toArray, List.set_cons_zero, List.set_cons_succ, List.getElem_toArray, List.getElem_cons_zero, List.getElem_cons_succ])
                go_simp
                refine (evalEx X1 X2).mono ?_
                rintro e W6 ⟨rfl, hb⟩
                have hS := hS.below hb
                have X3 := X3.below hb
                have X2 := X2.below hb
                have X1 := X1.below hb
                have zW6 := hb.size
                clear hb
                refine hK.out _ _ hS (fun hHeld => ?_)
                clear hK K
                (try simp only [Act.put, List.setIfInBounds_toArray, List.set_cons_zero, List.set_cons_succ, List.getElem_toArray, List.getElem_cons_zero, List.getElem_cons_succ])
                refine wpAnyH_take (i := 9) (v := ?_) rfl (by kernel_rfl) (by kernel_rfl) (by kernel_rfl) (fun _ _ _ h => h) (Or.inl ⟨by rfl, ?_⟩) (by assumption) ?_
                rotate_left
                · (intro wx hSw; go_simp; (try with_reducible rfl); (try omega))
                (try simp only [Act.put, List.setIfInBounds_toArray, List.set_cons_zero, List.set_cons_succ, List.getElem_toArray, List.getElem_cons_zero, List.getElem_cons_succ])
                refine wpAnyH_take (i := 10) (v := ?_) rfl (by kernel_rfl) (by kernel_rfl) (by kernel_rfl) (fun _ _ _ h => h) (Or.inl ⟨by rfl, ?_⟩) (by assumption) ?_
                rotate_left
                · (intro wx hSw; go_simp; (try with_reducible rfl); (try omega))
                (try simp only [Act.put, List.setIfInBounds_toArray, List.set_cons_zero, List.set_cons_succ, List.getElem_toArray, List.getElem_cons_zero, List.getElem_cons_succ])
                refine wpAnyH_take (i := 11) (v := ?_) rfl (by kernel_rfl) (by kernel_rfl) (by kernel_rfl) (fun _ _ _ h => h) (Or.inl ⟨by rfl, ?_⟩) (by assumption) ?_
                rotate_left
                · (intro wx hSw; go_simp; (try with_reducible rfl); (try omega))
                (try simp only [Act.put, List.setIfInBounds_toArray, List.set_cons_zero, List.set_cons_succ, List.getElem_toArray, List.getElem_cons_zero, List.getElem_cons_succ])
                refine wpAnyH_ready (rs := [13]) (by kernel_rfl) (by simp) ?_
                refine AllReadyH.cons rfl (fun K hK => ?_) ?_
                · (try simp only [Act.put, List.getElem_toArray, List.getElem_cons_zero, List.getElem_cons_succ])
                  have r0 := X3.cell 0 rfl
                  have r1 := X3.cell 1 rfl
                  have r2 := X3.cell 2 rfl
                  have g0 := X3.frz 0 (by decide)
                  have g1 := X3.frz 1 (by decide)
                  have g2 := X3.frz 2 (by decide)
                  go_simp
                  clear r0 r1 r2 g0 g1 g2
                  have hS := hS.puts (T := W0.heap.size) [.int .i64 1, .int .i64 15, .string ⟨#[]⟩] (by have := hS.b.size; omega) (by omega)
                  have X3 := X3.puts [.int .i64 1, .int .i64 15, .string ⟨#[]⟩] rfl
                  refine hK.out _ _ hS (fun hHeld => ?_)
                  clear hK K
                  (try simp only [Act.put, List.setIfInBounds_toArray, List.set_cons_zero, List.set_cons_succ, List.getElem_toArray, List.getElem_cons_zero, List.getElem_cons_succ])
                  refine wpAnyH_take (i := 14) (v := ?_) rfl (by kernel_rfl) (by kernel_rfl) (by kernel_rfl) (fun _ _ _ h => h) (Or.inl ⟨by rfl, ?_⟩) (by assumption) ?_
                  rotate_left
                  · (intro wx hSw; go_simp; (try with_reducible rfl); (try omega))
                  (try simp only [Act.put, List.setIfInBounds_toArray, List.set_cons_zero, List.set_cons_succ, List.getElem_toArray, List.getElem_cons_zero, List.getElem_cons_succ])
                  refine wpAnyH_done (by kernel_rfl) ?_ _
                  go_wp2_with fail
                  go_meet
                  case rel => exact ⟨_, rfl, rfl, X3, hS⟩
                exact AllReadyH.nil
              exact AllReadyH.nil
            exact AllReadyH.nil
          exact AllReadyH.nil
        exact AllReadyH.nil
      exact AllReadyH.nil
    exact AllReadyH.nil
  case rest =>
    obtain ⟨T, rfl, rfl, hT, hS⟩ := hcut
    generalize wc = wd at hT hS ⊢
    go_wp2_with fail
    have hS := hS.drew
    have hT := hT.drew
    have hz0 : w.heap.size < wd.drew.heap.size := hS.a.lt
    go_cut [4] from 18 (fun cv wr => ∃ U : Nat, cv = .pointer (some ⟨U, 0, none⟩) ∧ AwS w T U [.int .i64 1, .int .i64 15, .string ⟨#[]⟩] [.int .i64 1, .int .i64 3, .int .i64 1, .int .i64 1, .int .i64 0, .int .i64 0, .string ⟨#[]⟩, .slice none 0 0, .int .i64 2, .int .i64 0, .int .i64 1, .int .i64 9, .string ⟨#[]⟩, .slice none 0 0, .slice none 0 0] wr)
    case first =>
      refine wp_region_held_drew (S := BoxS w w.heap.size [.int .i64 1, .int .i64 1, .int .i64 0, .int .i64 0, .string ⟨#[]⟩, .slice none 0 0]) (by kernel_rfl) hS (fun hHeld => ?_)
      generalize wd.drew = W0 at hS hT hz0 hHeld ⊢
      refine wpAnyH_take (i := 0) (v := .agg [.int .i64 1, .int .i64 1, .int .i64 0, .int .i64 0, .string ⟨#[]⟩, .slice none 0 0].toArray) rfl (by kernel_rfl) (by kernel_rfl) (by kernel_rfl) (fun _ _ _ h => h) (yieldsIf_load_mid rfl 26 _ rfl w.heap.size (0) rfl [.int .i64 1, .int .i64 1, .int .i64 0, .int .i64 0, .string ⟨#[]⟩, .slice none 0 0] _ (fun w h => h.a.at_) Try.underlying26 rfl (sizeX)) (by assumption) ?_
      (try simp only [Act.put, List.setIfInBounds_toArray, List.set_cons_zero, List.set_cons_succ, List.getElem_toArray, List.getElem_cons_zero])
      refine wpAnyH_ready (rs := [1, 4]) (by kernel_rfl) (by simp) ?_
      refine AllReadyH.cons rfl (fun K hK => ?_) ?_
      · (try simp only [Act.put, List.setIfInBounds_toArray, List.set_cons_zero, List.set_cons_succ, List.getElem_toArray, List.getElem_cons_zero, List.getElem_cons_succ])
        go_simp
        refine (num11_any 9 _).mono ?_
        rintro e W1 ⟨rfl, hb⟩
        have hS := hS.below hb
        have hT := hT.below hb
        have zW1 := hb.size
        clear hb
        refine hK.out _ _ hS (fun hHeld => ?_)
        clear hK K
        (try simp only [Act.put, List.setIfInBounds_toArray, List.set_cons_zero, List.set_cons_succ, List.getElem_toArray, List.getElem_cons_zero, List.getElem_cons_succ])
        refine wpAnyH_take (i := 2) (v := ?_) rfl (by kernel_rfl) (by kernel_rfl) (by kernel_rfl) (fun _ _ _ h => h) (Or.inl ⟨by rfl, ?_⟩) (by assumption) ?_
        rotate_left
        · (intro wx hSw; go_simp; (try with_reducible rfl); (try omega))
        (try simp only [Act.put, List.setIfInBounds_toArray, List.set_cons_zero, List.set_cons_succ, List.getElem_toArray, List.getElem_cons_zero, List.getElem_cons_succ])
        refine wpAnyH_take (i := 3) (v := ?_) rfl (by kernel_rfl) (by kernel_rfl) (by kernel_rfl) (fun _ _ _ h => h) (Or.inl ⟨by rfl, ?_⟩) (by assumption) ?_
        rotate_left
        · (intro wx hSw; go_simp; (try with_reducible rfl); (try omega))
        (try simp only [Act.put, List.setIfInBounds_toArray, List.set_cons_zero, List.set_cons_succ, List.getElem_toArray, List.getElem_cons_zero, List.getElem_cons_succ])
        refine wpAnyH_ready (rs := [4]) (by kernel_rfl) (by simp) ?_
        refine AllReadyH.cons rfl (fun K hK => ?_) ?_
        · (try simp only [Act.put, List.setIfInBounds_toArray, List.set_cons_zero, List.set_cons_succ, List.getElem_toArray, List.getElem_cons_zero, List.getElem_cons_succ])
          go_simp
          obtain ⟨W2, hW2⟩ : ∃ W', W1.alloc (.cells #[.int .i64 0, .int .i64 0, .int .i64 0, .int .i64 0, .int .i64 0, .int .i64 0, .string ⟨#[]⟩, .slice none 0 0, .int .i64 0, .int .i64 0, .int .i64 0, .int .i64 0, .string ⟨#[]⟩, .slice none 0 0, .slice none 0 0] 38) = W' := ⟨_, rfl⟩
          have hU : VarB W2 W1.heap.size [.int .i64 0, .int .i64 0, .int .i64 0, .int .i64 0, .int .i64 0, .int .i64 0, .string ⟨#[]⟩, .slice none 0 0, .int .i64 0, .int .i64 0, .int .i64 0, .int .i64 0, .string ⟨#[]⟩, .slice none 0 0, .slice none 0 0] := by rw [← hW2]; exact VarB.new _ _ _
          have hUl : W1.heap.size < W2.heap.size := hU.lt
          have hTl : T < W1.heap.size := hT.lt
          have hS := hS.alloc (.cells #[.int .i64 0, .int .i64 0, .int .i64 0, .int .i64 0, .int .i64 0, .int .i64 0, .string ⟨#[]⟩, .slice none 0 0, .int .i64 0, .int .i64 0, .int .i64 0, .int .i64 0, .string ⟨#[]⟩, .slice none 0 0, .slice none 0 0] 38); rw [hW2] at hS
          have hT := hT.alloc (.cells #[.int .i64 0, .int .i64 0, .int .i64 0, .int .i64 0, .int .i64 0, .int .i64 0, .string ⟨#[]⟩, .slice none 0 0, .int .i64 0, .int .i64 0, .int .i64 0, .int .i64 0, .string ⟨#[]⟩, .slice none 0 0, .slice none 0 0] 38); rw [hW2] at hT
          rw [hW2]
          refine hK.out _ _ hS (fun hHeld => ?_)
          clear hW2
          clear hK K
          (try simp only [Act.put, List.setIfInBounds_toArray, List.set_cons_zero, List.set_cons_succ, List.getElem_toArray, List.getElem_cons_zero, List.getElem_cons_succ])
          refine wpAnyH_ready (rs := [5]) (by kernel_rfl) (by simp) ?_
          refine AllReadyH.cons rfl (fun K hK => ?_) ?_
          · (try simp only [Act.put, List.getElem_toArray, List.getElem_cons_zero, List.getElem_cons_succ])
            have r0 := hU.cell 0 rfl; have g0 := hU.frz 0 (by decide); have r1 := hU.cell 1 rfl; have g1 := hU.frz 1 (by decide); have r2 := hU.cell 2 rfl; have g2 := hU.frz 2 (by decide); have r3 := hU.cell 3 rfl; have g3 := hU.frz 3 (by decide); have r4 := hU.cell 4 rfl; have g4 := hU.frz 4 (by decide); have r5 := hU.cell 5 rfl; have g5 := hU.frz 5 (by decide); have r6 := hU.cell 6 rfl; have g6 := hU.frz 6 (by decide); have r7 := hU.cell 7 rfl; have g7 := hU.frz 7 (by decide); have r8 := hU.cell 8 rfl; have g8 := hU.frz 8 (by decide); have r9 := hU.cell 9 rfl; have g9 := hU.frz 9 (by decide); have r10 := hU.cell 10 rfl; have g10 := hU.frz 10 (by decide); have r11 := hU.cell 11 rfl; have g11 := hU.frz 11 (by decide); have r12 := hU.cell 12 rfl; have g12 := hU.frz 12 (by decide); have r13 := hU.cell 13 rfl; have g13 := hU.frz 13 (by decide); have r14 := hU.cell 14 rfl; have g14 := hU.frz 14 (by decide); go_simp
            clear r0 g0 r1 g1 r2 g2 r3 g3 r4 g4 r5 g5 r6 g6 r7 g7 r8 g8 r9 g9 r10 g10 r11 g11 r12 g12 r13 g13 r14 g14
            have hS := hS.puts (T := W1.heap.size) [.int .i64 1, .int .i64 3, .int .i64 1, .int .i64 1, .int .i64 0, .int .i64 0, .string ⟨#[]⟩, .slice none 0 0, .int .i64 2, .int .i64 0, .int .i64 1, .int .i64 9, .string ⟨#[]⟩, .slice none 0 0, .slice none 0 0] (by have := hS.b.size; omega) (by have := hS.b.size; omega)
            have hU := hU.puts [.int .i64 1, .int .i64 3, .int .i64 1, .int .i64 1, .int .i64 0, .int .i64 0, .string ⟨#[]⟩, .slice none 0 0, .int .i64 2, .int .i64 0, .int .i64 1, .int .i64 9, .string ⟨#[]⟩, .slice none 0 0, .slice none 0 0] rfl
            have hT := hT.other (b := W1.heap.size) (o := 0) [.int .i64 1, .int .i64 3, .int .i64 1, .int .i64 1, .int .i64 0, .int .i64 0, .string ⟨#[]⟩, .slice none 0 0, .int .i64 2, .int .i64 0, .int .i64 1, .int .i64 9, .string ⟨#[]⟩, .slice none 0 0, .slice none 0 0] (by omega)
            refine hK.out _ _ hS (fun hHeld => ?_)
            clear hK K
            (try simp only [Act.put, List.setIfInBounds_toArray, List.set_cons_zero, List.set_cons_succ, List.getElem_toArray, List.getElem_cons_zero, List.getElem_cons_succ])
            refine wpAnyH_done (by kernel_rfl) ?_ _
            go_wp2_with fail
            go_meet
            case rel => exact ⟨_, rfl, hT, hU, hS.b⟩
          exact AllReadyH.nil
        exact AllReadyH.nil
      refine AllReadyH.cons rfl (fun K hK => ?_) ?_
      · (try simp only [Act.put, List.setIfInBounds_toArray, List.set_cons_zero, List.set_cons_succ, List.getElem_toArray, List.getElem_cons_zero, List.getElem_cons_succ])
        go_simp
        obtain ⟨W1, hW1⟩ : ∃ W', W0.alloc (.cells #[.int .i64 0, .int .i64 0, .int .i64 0, .int .i64 0, .int .i64 0, .int .i64 0, .string ⟨#[]⟩, .slice none 0 0, .int .i64 0, .int .i64 0, .int .i64 0, .int .i64 0, .string ⟨#[]⟩, .slice none 0 0, .slice none 0 0] 38) = W' := ⟨_, rfl⟩
        have hU : VarB W1 W0.heap.size [.int .i64 0, .int .i64 0, .int .i64 0, .int .i64 0, .int .i64 0, .int .i64 0, .string ⟨#[]⟩, .slice none 0 0, .int .i64 0, .int .i64 0, .int .i64 0, .int .i64 0, .string ⟨#[]⟩, .slice none 0 0, .slice none 0 0] := by rw [← hW1]; exact VarB.new _ _ _
        have hUl : W0.heap.size < W1.heap.size := hU.lt
        have hTl : T < W0.heap.size := hT.lt
        have hS := hS.alloc (.cells #[.int .i64 0, .int .i64 0, .int .i64 0, .int .i64 0, .int .i64 0, .int .i64 0, .string ⟨#[]⟩, .slice none 0 0, .int .i64 0, .int .i64 0, .int .i64 0, .int .i64 0, .string ⟨#[]⟩, .slice none 0 0, .slice none 0 0] 38); rw [hW1] at hS
        have hT := hT.alloc (.cells #[.int .i64 0, .int .i64 0, .int .i64 0, .int .i64 0, .int .i64 0, .int .i64 0, .string ⟨#[]⟩, .slice none 0 0, .int .i64 0, .int .i64 0, .int .i64 0, .int .i64 0, .string ⟨#[]⟩, .slice none 0 0, .slice none 0 0] 38); rw [hW1] at hT
        rw [hW1]
        refine hK.out _ _ hS (fun hHeld => ?_)
        clear hW1
        clear hK K
        (try simp only [Act.put, List.setIfInBounds_toArray, List.set_cons_zero, List.set_cons_succ, List.getElem_toArray, List.getElem_cons_zero, List.getElem_cons_succ])
        refine wpAnyH_ready (rs := [1]) (by kernel_rfl) (by simp) ?_
        refine AllReadyH.cons rfl (fun K hK => ?_) ?_
        · (try simp only [Act.put, List.setIfInBounds_toArray, List.set_cons_zero, List.set_cons_succ, List.getElem_toArray, List.getElem_cons_zero, List.getElem_cons_succ])
          go_simp
          refine (num11_any 9 _).mono ?_
          rintro e W2 ⟨rfl, hb⟩
          have hS := hS.below hb
          have hT := hT.below hb
          have hU := hU.below hb
          have zW2 := hb.size
          clear hb
          refine hK.out _ _ hS (fun hHeld => ?_)
          clear hK K
          (try simp only [Act.put, List.setIfInBounds_toArray, List.set_cons_zero, List.set_cons_succ, List.getElem_toArray, List.getElem_cons_zero, List.getElem_cons_succ])
          refine wpAnyH_take (i := 2) (v := ?_) rfl (by kernel_rfl) (by kernel_rfl) (by kernel_rfl) (fun _ _ _ h => h) (Or.inl ⟨by rfl, ?_⟩) (by assumption) ?_
          rotate_left
          · (intro wx hSw; go_simp; (try with_reducible rfl); (try omega))
          (try simp only [Act.put, List.setIfInBounds_toArray, List.set_cons_zero, List.set_cons_succ, List.getElem_toArray, List.getElem_cons_zero, List.getElem_cons_succ])
          refine wpAnyH_take (i := 3) (v := ?_) rfl (by kernel_rfl) (by kernel_rfl) (by kernel_rfl) (fun _ _ _ h => h) (Or.inl ⟨by rfl, ?_⟩) (by assumption) ?_
          rotate_left
          · (intro wx hSw; go_simp; (try with_reducible rfl); (try omega))
          (try simp only [Act.put, List.setIfInBounds_toArray, List.set_cons_zero, List.set_cons_succ, List.getElem_toArray, List.getElem_cons_zero, List.getElem_cons_succ])
          refine wpAnyH_ready (rs := [5]) (by kernel_rfl) (by simp) ?_
          refine AllReadyH.cons rfl (fun K hK => ?_) ?_
          · (try simp only [Act.put, List.getElem_toArray, List.getElem_cons_zero, List.getElem_cons_succ])
            have r0 := hU.cell 0 rfl; have g0 := hU.frz 0 (by decide); have r1 := hU.cell 1 rfl; have g1 := hU.frz 1 (by decide); have r2 := hU.cell 2 rfl; have g2 := hU.frz 2 (by decide); have r3 := hU.cell 3 rfl; have g3 := hU.frz 3 (by decide); have r4 := hU.cell 4 rfl; have g4 := hU.frz 4 (by decide); have r5 := hU.cell 5 rfl; have g5 := hU.frz 5 (by decide); have r6 := hU.cell 6 rfl; have g6 := hU.frz 6 (by decide); have r7 := hU.cell 7 rfl; have g7 := hU.frz 7 (by decide); have r8 := hU.cell 8 rfl; have g8 := hU.frz 8 (by decide); have r9 := hU.cell 9 rfl; have g9 := hU.frz 9 (by decide); have r10 := hU.cell 10 rfl; have g10 := hU.frz 10 (by decide); have r11 := hU.cell 11 rfl; have g11 := hU.frz 11 (by decide); have r12 := hU.cell 12 rfl; have g12 := hU.frz 12 (by decide); have r13 := hU.cell 13 rfl; have g13 := hU.frz 13 (by decide); have r14 := hU.cell 14 rfl; have g14 := hU.frz 14 (by decide); go_simp
            clear r0 g0 r1 g1 r2 g2 r3 g3 r4 g4 r5 g5 r6 g6 r7 g7 r8 g8 r9 g9 r10 g10 r11 g11 r12 g12 r13 g13 r14 g14
            have hS := hS.puts (T := W0.heap.size) [.int .i64 1, .int .i64 3, .int .i64 1, .int .i64 1, .int .i64 0, .int .i64 0, .string ⟨#[]⟩, .slice none 0 0, .int .i64 2, .int .i64 0, .int .i64 1, .int .i64 9, .string ⟨#[]⟩, .slice none 0 0, .slice none 0 0] (by have := hS.b.size; omega) (by have := hS.b.size; omega)
            have hU := hU.puts [.int .i64 1, .int .i64 3, .int .i64 1, .int .i64 1, .int .i64 0, .int .i64 0, .string ⟨#[]⟩, .slice none 0 0, .int .i64 2, .int .i64 0, .int .i64 1, .int .i64 9, .string ⟨#[]⟩, .slice none 0 0, .slice none 0 0] rfl
            have hT := hT.other (b := W0.heap.size) (o := 0) [.int .i64 1, .int .i64 3, .int .i64 1, .int .i64 1, .int .i64 0, .int .i64 0, .string ⟨#[]⟩, .slice none 0 0, .int .i64 2, .int .i64 0, .int .i64 1, .int .i64 9, .string ⟨#[]⟩, .slice none 0 0, .slice none 0 0] (by omega)
            refine hK.out _ _ hS (fun hHeld => ?_)
            clear hK K
            (try simp only [Act.put, List.setIfInBounds_toArray, List.set_cons_zero, List.set_cons_succ, List.getElem_toArray, List.getElem_cons_zero, List.getElem_cons_succ])
            refine wpAnyH_done (by kernel_rfl) ?_ _
            go_wp2_with fail
            go_meet
            case rel => exact ⟨_, rfl, hT, hU, hS.b⟩
          exact AllReadyH.nil
        exact AllReadyH.nil
      exact AllReadyH.nil
    case rest =>
      obtain ⟨U, rfl, hS⟩ := hcut
      generalize wc = wd2 at hS ⊢
      go_wp2_with fail
      have hS := hS.drew
      refine wp_region_held_drew (S := AwS w T U [.int .i64 1, .int .i64 15, .string ⟨#[]⟩] [.int .i64 1, .int .i64 3, .int .i64 1, .int .i64 1, .int .i64 0, .int .i64 0, .string ⟨#[]⟩, .slice none 0 0, .int .i64 2, .int .i64 0, .int .i64 1, .int .i64 9, .string ⟨#[]⟩, .slice none 0 0, .slice none 0 0]) (by kernel_rfl) hS (fun hHeld => ?_)
      generalize wd2.drew = W0 at hS hHeld ⊢
      refine wpAnyH_take (i := 0) (v := ?_) rfl (by kernel_rfl) (by kernel_rfl) (by kernel_rfl) (fun _ _ _ h => h) (Or.inl ⟨by rfl, ?_⟩) (by assumption) ?_
      rotate_left
      · (intro wx hSw; go_simp; (try with_reducible rfl); (try omega))
      (try simp only [Act.put, List.setIfInBounds_toArray, List.set_cons_zero, List.set_cons_succ, List.getElem_toArray, List.getElem_cons_zero])
      refine wpAnyH_take (i := 1) (v := ?_) rfl (by kernel_rfl) (by kernel_rfl) (by kernel_rfl) (fun _ _ _ h => h) (Or.inl ⟨by rfl, ?_⟩) (by assumption) ?_
      rotate_left
      · (intro wx hSw; go_simp; (try with_reducible rfl); (try omega))
      (try simp only [Act.put, List.setIfInBounds_toArray, List.set_cons_zero, List.set_cons_succ, List.getElem_toArray, List.getElem_cons_zero, List.getElem_cons_succ])
      refine wpAnyH_take (i := 2) (v := ?_) rfl (by kernel_rfl) (by kernel_rfl) (by kernel_rfl) (fun _ _ _ h => h) (Or.inl ⟨by rfl, ?_⟩) (by assumption) ?_
      rotate_left
      · (intro wx hSw; go_simp; (try with_reducible rfl); (try omega))
      (try simp only [Act.put, List.setIfInBounds_toArray, List.set_cons_zero, List.set_cons_succ, List.getElem_toArray, List.getElem_cons_zero, List.getElem_cons_succ])
      refine wpAnyH_take (i := 3) (v := .agg [.int .i64 1, .int .i64 15, .string ⟨#[]⟩].toArray) rfl (by kernel_rfl) (by kernel_rfl) (by kernel_rfl) (fun _ _ _ h => h) (yieldsIf_load_mid rfl 23 _ rfl T (0) rfl [.int .i64 1, .int .i64 15, .string ⟨#[]⟩] _ (fun w h => h.t.at_) Try.underlying23 rfl (infoV)) (by assumption) ?_
      (try simp only [Act.put, List.setIfInBounds_toArray, List.set_cons_zero, List.set_cons_succ, List.getElem_toArray, List.getElem_cons_zero, List.getElem_cons_succ])
      refine wpAnyH_ready (rs := [4]) (by kernel_rfl) (by simp) ?_
      refine AllReadyH.cons rfl (fun K hK => ?_) ?_
      · (try simp only [Act.put, List.setIfInBounds_toArray, List.set_cons_zero, List.set_cons_succ, List.getElem_toArray, List.getElem_cons_zero, List.getElem_cons_succ])
        go_simp
        refine (num11_any 15 _).mono ?_
        rintro e W1 ⟨rfl, hb⟩
        have hS := hS.below hb
        clear hb
        refine hK.out _ _ hS (fun hHeld => ?_)
        clear hK K
        (try simp only [Act.put, List.setIfInBounds_toArray, List.set_cons_zero, List.set_cons_succ, List.getElem_toArray, List.getElem_cons_zero, List.getElem_cons_succ])
        refine wpAnyH_take (i := 5) (v := ?_) rfl (by kernel_rfl) (by kernel_rfl) (by kernel_rfl) (fun _ _ _ h => h) (Or.inl ⟨by rfl, ?_⟩) (by assumption) ?_
        rotate_left
        · (intro wx hSw; have q9 : (binOp .eql 23 (.agg #[.int .i64 1, .int .i64 15, .string ⟨#[]⟩]) (.agg #[.int .i64 1, .int .i64 15, .string ⟨#[]⟩])).run Try.prog wx = .ok (.bool true) wx := eqEx wx; go_simp; (try with_reducible rfl); (try omega))
        (try simp only [Act.put, List.setIfInBounds_toArray, List.set_cons_zero, List.set_cons_succ, List.getElem_toArray, List.getElem_cons_zero, List.getElem_cons_succ])
        refine wpAnyH_take (i := 6) (v := ?_) rfl (by kernel_rfl) (by kernel_rfl) (by kernel_rfl) (fun _ _ _ h => h) (Or.inl ⟨by rfl, ?_⟩) (by assumption) ?_
        rotate_left
        · (intro wx hSw; go_simp; (try with_reducible rfl); (try omega))
        (try simp only [Act.put, List.setIfInBounds_toArray, List.set_cons_zero, List.set_cons_succ, List.getElem_toArray, List.getElem_cons_zero, List.getElem_cons_succ])
        refine wpAnyH_take (i := 7) (v := ?_) rfl (by kernel_rfl) (by kernel_rfl) (by kernel_rfl) (fun _ _ _ h => h) (Or.inl ⟨by rfl, ?_⟩) (by assumption) ?_
        rotate_left
        · (intro wx hSw; go_simp; (try with_reducible rfl); (try omega))
        (try simp only [Act.put, List.setIfInBounds_toArray, List.set_cons_zero, List.set_cons_succ, List.getElem_toArray, List.getElem_cons_zero, List.getElem_cons_succ])
        refine wpAnyH_take (i := 8) (v := .agg [.int .i64 1, .int .i64 3, .int .i64 1, .int .i64 1, .int .i64 0, .int .i64 0, .string ⟨#[]⟩, .slice none 0 0, .int .i64 2, .int .i64 0, .int .i64 1, .int .i64 9, .string ⟨#[]⟩, .slice none 0 0, .slice none 0 0].toArray) rfl (by kernel_rfl) (by kernel_rfl) (by kernel_rfl) (fun _ _ _ h => h) (yieldsIf_load_mid rfl 38 _ rfl U (0) rfl [.int .i64 1, .int .i64 3, .int .i64 1, .int .i64 1, .int .i64 0, .int .i64 0, .string ⟨#[]⟩, .slice none 0 0, .int .i64 2, .int .i64 0, .int .i64 1, .int .i64 9, .string ⟨#[]⟩, .slice none 0 0, .slice none 0 0] _ (fun w h => h.u.at_) Try.underlying38 rfl (sizeTT)) (by assumption) ?_
        (try simp only [Act.put, List.setIfInBounds_toArray, List.set_cons_zero, List.set_cons_succ, List.getElem_toArray, List.getElem_cons_zero, List.getElem_cons_succ])
        refine wpAnyH_take (i := 9) (v := ?_) rfl (by kernel_rfl) (by kernel_rfl) (by kernel_rfl) (fun _ _ _ h => h) (Or.inl ⟨by rfl, ?_⟩) (by assumption) ?_
        rotate_left
        · (intro wx hSw; go_simp; (try with_reducible rfl); (try omega))
        (try simp only [Act.put, List.setIfInBounds_toArray, List.set_cons_zero, List.set_cons_succ, List.getElem_toArray, List.getElem_cons_zero, List.getElem_cons_succ])
        refine wpAnyH_ready (rs := [10]) (by kernel_rfl) (by simp) ?_
        refine AllReadyH.cons rfl (fun K hK => ?_) ?_
        · (try simp only [Act.put, List.setIfInBounds_toArray, List.set_cons_zero, List.set_cons_succ, List.getElem_toArray, List.getElem_cons_zero, List.getElem_cons_succ])
          go_simp
          refine (num11_any 5 _).mono ?_
          rintro e W2 ⟨rfl, hb⟩
          have hS := hS.below hb
          clear hb
          refine hK.out _ _ hS (fun hHeld => ?_)
          clear hK K
          (try simp only [Act.put, List.setIfInBounds_toArray, List.set_cons_zero, List.set_cons_succ, List.getElem_toArray, List.getElem_cons_zero, List.getElem_cons_succ])
          refine wpAnyH_ready (rs := [11]) (by kernel_rfl) (by simp) ?_
          refine AllReadyH.cons rfl (fun K hK => ?_) ?_
          · (try simp only [Act.put, List.setIfInBounds_toArray, List.set_cons_zero, List.set_cons_succ, List.getElem_toArray, List.getElem_cons_zero, List.getElem_cons_succ])
            go_simp
            obtain ⟨W3, hW3⟩ : ∃ W', W2.alloc (.cells #[.int .i64 0, .int .i64 0, .string ⟨#[]⟩, .int .i64 1, .int .i64 5, .string ⟨#[]⟩] 23) = W' := ⟨_, rfl⟩
            have X1 : VarB W3 W2.heap.size [.int .i64 0, .int .i64 0, .string ⟨#[]⟩, .int .i64 1, .int .i64 5, .string ⟨#[]⟩] := by rw [← hW3]; exact VarB.new _ _ _
            have hS := hS.alloc (.cells #[.int .i64 0, .int .i64 0, .string ⟨#[]⟩, .int .i64 1, .int .i64 5, .string ⟨#[]⟩] 23); rw [hW3] at hS
            rw [hW3]
            refine hK.out _ _ hS (fun hHeld => ?_)
            clear hW3
            clear hK K
            (try simp only [Act.put, List.setIfInBounds_toArray, List.set_cons_zero, List.set_cons_succ, List.getElem_toArray, List.getElem_cons_zero, List.getElem_cons_succ])
            refine wpAnyH_ready (rs := [12]) (by kernel_rfl) (by simp) ?_
            refine AllReadyH.cons rfl (fun K hK => ?_) ?_
            · (try simp only [Act.put, List.setIfInBounds_toArray, List.set_cons_zero, List.set_cons_succ, List.getElem_toArray, List.getElem_cons_zero, List.getElem_cons_succ])
              go_simp
              refine (holdsEx1 X1).mono ?_
              rintro e W4 ⟨rfl, hb⟩
              have hS := hS.below hb
              have X1 := X1.below hb
              clear hb
              refine hK.out _ _ hS (fun hHeld => ?_)
              clear hK K
              (try simp only [Act.put, List.setIfInBounds_toArray, List.set_cons_zero, List.set_cons_succ, List.getElem_toArray, List.getElem_cons_zero, List.getElem_cons_succ])
              refine wpAnyH_take (i := 13) (v := ?_) rfl (by kernel_rfl) (by kernel_rfl) (by kernel_rfl) (fun _ _ _ h => h) (Or.inl ⟨by rfl, ?_⟩) (by assumption) ?_
              rotate_left
              · (intro wx hSw; go_simp; (try with_reducible rfl); (try omega))
              (try simp only [Act.put, List.setIfInBounds_toArray, List.set_cons_zero, List.set_cons_succ, List.getElem_toArray, List.getElem_cons_zero, List.getElem_cons_succ])
              refine wpAnyH_take (i := 14) (v := ?_) rfl (by kernel_rfl) (by kernel_rfl) (by kernel_rfl) (fun _ _ _ h => h) (Or.inl ⟨by rfl, ?_⟩) (by assumption) ?_
              rotate_left
              · (intro wx hSw; go_simp; (try with_reducible rfl); (try omega))
              (try simp only [Act.put, List.setIfInBounds_toArray, List.set_cons_zero, List.set_cons_succ, List.getElem_toArray, List.getElem_cons_zero, List.getElem_cons_succ])
              refine wpAnyH_take (i := 15) (v := ?_) rfl (by kernel_rfl) (by kernel_rfl) (by kernel_rfl) (fun _ _ _ h => h) (Or.inl ⟨by rfl, ?_⟩) (by assumption) ?_
              rotate_left
              · (intro wx hSw; go_simp; (try with_reducible rfl); (try omega))
              (try simp only [Act.put, List.setIfInBounds_toArray, List.set_cons_zero, List.set_cons_succ, List.getElem_toArray, List.getElem_cons_zero, List.getElem_cons_succ])
              refine wpAnyH_take (i := 16) (v := .agg [.int .i64 1, .int .i64 3, .int .i64 1, .int .i64 1, .int .i64 0, .int .i64 0, .string ⟨#[]⟩, .slice none 0 0, .int .i64 2, .int .i64 0, .int .i64 1, .int .i64 9, .string ⟨#[]⟩, .slice none 0 0, .slice none 0 0].toArray) rfl (by kernel_rfl) (by kernel_rfl) (by kernel_rfl) (fun _ _ _ h => h) (yieldsIf_load_mid rfl 38 _ rfl U (0) rfl [.int .i64 1, .int .i64 3, .int .i64 1, .int .i64 1, .int .i64 0, .int .i64 0, .string ⟨#[]⟩, .slice none 0 0, .int .i64 2, .int .i64 0, .int .i64 1, .int .i64 9, .string ⟨#[]⟩, .slice none 0 0, .slice none 0 0] _ (fun w h => h.u.at_) Try.underlying38 rfl (sizeTT)) (by assumption) ?_
              (try simp only [Act.put, List.setIfInBounds_toArray, List.set_cons_zero, List.set_cons_succ, List.getElem_toArray, List.getElem_cons_zero, List.getElem_cons_succ])
              refine wpAnyH_take (i := 17) (v := ?_) rfl (by kernel_rfl) (by kernel_rfl) (by kernel_rfl) (fun _ _ _ h => h) (Or.inl ⟨by rfl, ?_⟩) (by assumption) ?_
              rotate_left
              · (intro wx hSw; go_simp; (try with_reducible rfl); (try omega))
              (try simp only [Act.put, List.setIfInBounds_toArray, List.set_cons_zero, List.set_cons_succ, List.getElem_toArray, List.getElem_cons_zero, List.getElem_cons_succ])
              refine wpAnyH_take (i := 18) (v := ?_) rfl (by kernel_rfl) (by kernel_rfl) (by kernel_rfl) (fun _ _ _ h => h) (Or.inl ⟨by rfl, ?_⟩) (by assumption) ?_
              rotate_left
              · (intro wx hSw; go_simp; (try with_reducible rfl); (try omega))
              (try simp only [Act.put, List.setIfInBounds_toArray, List.set_cons_zero, List.set_cons_succ, List.getElem_toArray, List.getElem_cons_zero, List.getElem_cons_succ])
              refine wpAnyH_ready (rs := [19]) (by kernel_rfl) (by simp) ?_
              refine AllReadyH.cons rfl (fun K hK => ?_) ?_
              · (try simp only [Act.put, List.setIfInBounds_toArray, List.set_cons_zero, List.set_cons_succ, List.getElem_toArray, List.getElem_cons_zero, List.getElem_cons_succ])
                go_simp
                obtain ⟨W5, hW5⟩ : ∃ W', W4.alloc (.cells #[.int .i64 0, .int .i64 0, .string ⟨#[]⟩, .int .i64 0, .int .i64 0, .string ⟨#[]⟩] 23) = W' := ⟨_, rfl⟩
                have X2 : VarB W5 W4.heap.size [.int .i64 0, .int .i64 0, .string ⟨#[]⟩, .int .i64 0, .int .i64 0, .string ⟨#[]⟩] := by rw [← hW5]; exact VarB.new _ _ _
                have hS := hS.alloc (.cells #[.int .i64 0, .int .i64 0, .string ⟨#[]⟩, .int .i64 0, .int .i64 0, .string ⟨#[]⟩] 23); rw [hW5] at hS
                have X1 := X1.alloc (.cells #[.int .i64 0, .int .i64 0, .string ⟨#[]⟩, .int .i64 0, .int .i64 0, .string ⟨#[]⟩] 23); rw [hW5] at X1
                rw [hW5]
                refine hK.out _ _ hS (fun hHeld => ?_)
                clear hW5
                clear hK K
                (try simp only [Act.put, List.setIfInBounds_toArray, List.set_cons_zero, List.set_cons_succ, List.getElem_toArray, List.getElem_cons_zero, List.getElem_cons_succ])
                refine wpAnyH_ready (rs := [20]) (by kernel_rfl) (by simp) ?_
                refine AllReadyH.cons rfl (fun K hK => ?_) ?_
                · (try simp only [Act.put, List.setIfInBounds_toArray, List.set_cons_zero, List.set_cons_succ, List.getElem_toArray, List.getElem_cons_zero, List.getElem_cons_succ])
                  go_simp
                  refine (holdsEx2 X2).mono ?_
                  rintro e W6 ⟨rfl, hb⟩
                  have hS := hS.below hb
                  have X1 := X1.below hb
                  have X2 := X2.below hb
                  clear hb
                  refine hK.out _ _ hS (fun hHeld => ?_)
                  clear hK K
                  (try simp only [Act.put, List.setIfInBounds_toArray, List.set_cons_zero, List.set_cons_succ, List.getElem_toArray, List.getElem_cons_zero, List.getElem_cons_succ])
                  refine wpAnyH_take (i := 21) (v := ?_) rfl (by kernel_rfl) (by kernel_rfl) (by kernel_rfl) (fun _ _ _ h => h) (Or.inl ⟨by rfl, ?_⟩) (by assumption) ?_
                  rotate_left
                  · (intro wx hSw; go_simp; (try with_reducible rfl); (try omega))
                  (try simp only [Act.put, List.setIfInBounds_toArray, List.set_cons_zero, List.set_cons_succ, List.getElem_toArray, List.getElem_cons_zero, List.getElem_cons_succ])
                  refine wpAnyH_take (i := 22) (v := ?_) rfl (by kernel_rfl) (by kernel_rfl) (by kernel_rfl) (fun _ _ _ h => h) (Or.inl ⟨by rfl, ?_⟩) (by assumption) ?_
                  rotate_left
                  · (intro wx hSw; go_simp; (try with_reducible rfl); (try omega))
                  (try simp only [Act.put, List.setIfInBounds_toArray, List.set_cons_zero, List.set_cons_succ, List.getElem_toArray, List.getElem_cons_zero, List.getElem_cons_succ])
                  refine wpAnyH_take (i := 23) (v := ?_) rfl (by kernel_rfl) (by kernel_rfl) (by kernel_rfl) (fun _ _ _ h => h) (Or.inl ⟨by rfl, ?_⟩) (by assumption) ?_
                  rotate_left
                  · (intro wx hSw; go_simp; (try with_reducible rfl); (try omega))
                  (try simp only [Act.put, List.setIfInBounds_toArray, List.set_cons_zero, List.set_cons_succ, List.getElem_toArray, List.getElem_cons_zero, List.getElem_cons_succ])
                  refine wpAnyH_take (i := 24) (v := .agg [.int .i64 1, .int .i64 3, .int .i64 1, .int .i64 1, .int .i64 0, .int .i64 0, .string ⟨#[]⟩, .slice none 0 0, .int .i64 2, .int .i64 0, .int .i64 1, .int .i64 9, .string ⟨#[]⟩, .slice none 0 0, .slice none 0 0].toArray) rfl (by kernel_rfl) (by kernel_rfl) (by kernel_rfl) (fun _ _ _ h => h) (yieldsIf_load_mid rfl 38 _ rfl U (0) rfl [.int .i64 1, .int .i64 3, .int .i64 1, .int .i64 1, .int .i64 0, .int .i64 0, .string ⟨#[]⟩, .slice none 0 0, .int .i64 2, .int .i64 0, .int .i64 1, .int .i64 9, .string ⟨#[]⟩, .slice none 0 0, .slice none 0 0] _ (fun w h => h.u.at_) Try.underlying38 rfl (sizeTT)) (by assumption) ?_
                  (try simp only [Act.put, List.setIfInBounds_toArray, List.set_cons_zero, List.set_cons_succ, List.getElem_toArray, List.getElem_cons_zero, List.getElem_cons_succ])
                  refine wpAnyH_ready (rs := [25]) (by kernel_rfl) (by simp) ?_
                  refine AllReadyH.cons rfl (fun K hK => ?_) ?_
                  · (try simp only [Act.put, List.setIfInBounds_toArray, List.set_cons_zero, List.set_cons_succ, List.getElem_toArray, List.getElem_cons_zero, List.getElem_cons_succ])
                    go_simp
                    refine (asksEx _).mono ?_
                    rintro e W7 ⟨⟨aa, cc, rfl⟩, hb⟩
                    have hS := hS.below hb
                    have X1 := X1.below hb
                    have X2 := X2.below hb
                    clear hb
                    refine hK.out _ _ hS (fun hHeld => ?_)
                    clear hK K
                    (try simp only [Act.put, List.setIfInBounds_toArray, List.set_cons_zero, List.set_cons_succ, List.getElem_toArray, List.getElem_cons_zero, List.getElem_cons_succ])
                    refine wpAnyH_take (i := 26) (v := ?_) rfl (by kernel_rfl) (by kernel_rfl) (by kernel_rfl) (fun _ _ _ h => h) (Or.inl ⟨by rfl, ?_⟩) (by assumption) ?_
                    rotate_left
                    · (intro wx hSw; go_simp; (try with_reducible rfl); (try omega))
                    (try simp only [Act.put, List.setIfInBounds_toArray, List.set_cons_zero, List.set_cons_succ, List.getElem_toArray, List.getElem_cons_zero, List.getElem_cons_succ])
                    refine wpAnyH_take (i := 27) (v := ?_) rfl (by kernel_rfl) (by kernel_rfl) (by kernel_rfl) (fun _ _ _ h => h) (Or.inl ⟨by rfl, ?_⟩) (by assumption) ?_
                    rotate_left
                    · (intro wx hSw; go_simp; (try with_reducible rfl); (try omega))
                    (try simp only [Act.put, List.setIfInBounds_toArray, List.set_cons_zero, List.set_cons_succ, List.getElem_toArray, List.getElem_cons_zero, List.getElem_cons_succ])
                    refine wpAnyH_take (i := 28) (v := ?_) rfl (by kernel_rfl) (by kernel_rfl) (by kernel_rfl) (fun _ _ _ h => h) (Or.inl ⟨by rfl, ?_⟩) (by assumption) ?_
                    rotate_left
                    · (intro wx hSw; go_simp; (try with_reducible rfl); (try omega))
                    (try simp only [Act.put, List.setIfInBounds_toArray, List.set_cons_zero, List.set_cons_succ, List.getElem_toArray, List.getElem_cons_zero, List.getElem_cons_succ])
                    refine wpAnyH_take (i := 29) (v := ?_) rfl (by kernel_rfl) (by kernel_rfl) (by kernel_rfl) (fun _ _ _ h => h) (Or.inl ⟨by rfl, ?_⟩) (by assumption) ?_
                    rotate_left
                    · (intro wx hSw; go_simp; (try with_reducible rfl); (try omega))
                    (try simp only [Act.put, List.setIfInBounds_toArray, List.set_cons_zero, List.getElem_toArray, List.getElem_cons_zero, List.getElem_cons_succ])
                    refine wpAnyH_done (by kernel_rfl) ?_ _
                    go_wp2_with fail
                    go_ret
                    exact ⟨rfl, hS.b⟩
                  exact AllReadyH.nil
                exact AllReadyH.nil
              exact AllReadyH.nil
            exact AllReadyH.nil
          exact AllReadyH.nil
        exact AllReadyH.nil
      exact AllReadyH.nil
end Go.Proofs.Ytolcebbpbihnoaa
