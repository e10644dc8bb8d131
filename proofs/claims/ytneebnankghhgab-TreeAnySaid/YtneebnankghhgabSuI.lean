/- Several of my texts laid together, each as it was: SuI. Conditions: each names its own. -/
import Derived.Test.YtneebnankghhgabSrI
/- The project's tree over int: how many keys, how deep: contracts of the calls, in whatever memory. Conditions: the tree's memory is known. -/
namespace Go.Proofs.Ytneebnankghhgab
open Go.RowKit

theorem lenI_any (P : Nat → Prop) (B order : Nat) (L : List (Key × (Int))) (w : World) (h : TAI P w B order L) : Calls Try.prog 26 #[.pointer (some ⟨B, 0, none⟩)] w fun e w' => e = .returned (.int .i64 (L.length : Int)) ∧ w = w' := by
  obtain ⟨n, b, t, q2, -⟩ := h.root
  have q1 := h.c1
  clear h
  go_enter Try.func26, Try.ntmps26
  go_wp2_with fail
  refine (missingI_no B _ w q2).mono ?_
  rintro e w' ⟨rfl, rfl⟩
  go_wp2_with fail
  go_ret
  exact ⟨rfl, rfl⟩

/-! ### How deep -/
set_option maxRecDepth 100000 in
set_option maxHeartbeats 4000000 in
theorem depthI_any (P : Nat → Prop) (B order : Nat) (L : List (Key × (Int))) (w : World) (h : TAI P w B order L) :
    ∃ n t, Wf (order / 2) order n (min n 1) order none none t ∧ flat n t = L ∧ (n ≤ 1000 → Calls Try.prog 28 #[.pointer (some ⟨B, 0, none⟩)] w fun e w' => e = .returned (.int .i64 ((n : Int) + 1)) ∧ w = w') := by
  obtain ⟨n0, b0, t0, q2, hw0, hN0, hf0⟩ := h.root
  refine ⟨n0, t0, hw0, hf0, fun hn0 => ?_⟩
  have hW0 : ∃ a lo hi t, Wf (order / 2) order n0 a order lo hi t ∧ NAI P w n0 b0 t := ⟨_, _, _, t0, hw0, hN0⟩
  have HW0 := hid0 hW0
  clear h hw0 hN0 hf0 hW0
  go_enter Try.func28, Try.ntmps28
  go_wp2_with fail
  refine (missingI_no B _ w q2).mono ?_
  rintro e w' ⟨rfl, rfl⟩
  go_wp2_with fail
  go_loopg [3, 4] n0 (fun kx dv nv wr => ∃ n b d : Nat, nv = .pointer (some ⟨b, 0, none⟩) ∧ dv = .int .i64 ((d : Int) + 1) ∧ n ≤ kx ∧ d + n = n0 ∧ Hid (∃ a lo hi t, Wf (order / 2) order n a order lo hi t ∧ NAI P w n b t) ∧ w = wr)
  case atStart => exact ⟨n0, b0, 0, rfl, by simp, Nat.le_refl _, by omega, HW0, rfl⟩
  case round =>
    obtain ⟨n, b, d, rfl, rfl, hnk, hdn, hW, rfl⟩ := hrel
    obtain ⟨a, lo, hi, t, hw, hN⟩ := hW.out
    cases n with
    | zero =>
      obtain ⟨l, rfl⟩ : ∃ l : List (Key × (Int)), l = t := ⟨t, rfl⟩
      obtain ⟨_, _, _, _, _, _, q3, _, _⟩ := hN.open_leaf
      have hL := leafI_yes b w q3
      obtain rfl : d = n0 := by omega
      clear hW hw hN
      go_wp2_with fail
      refine hL.mono ?_
      rintro e w' ⟨rfl, rfl⟩
      go_wp2_with fail
      go_ret
      exact ⟨rfl, rfl⟩
    | succ n =>
      obtain ⟨ak, ck, ac, cc, bs, q0, q1, hk, hc, hlb, hkd⟩ := hN.open_node
      have hlen := ch_len hw.2.2.2
      have hL := leafI_no b _ t.2.length cc w q1 (by omega)
      obtain ⟨c, hce⟩ : ∃ c, t.2[0]? = some c := ⟨t.2[0]'(by omega), List.getElem?_eq_getElem _⟩
      obtain ⟨bi, hbi, hNi⟩ := hkd.get hce
      obtain ⟨kb, ko, rfl, _, qi⟩ := hc.one hbi
      rw [Nat.add_zero] at qi
      obtain ⟨m, m', hcw⟩ : ∃ m m', Wf (order / 2) order n (order / 2) order m m' c := by
        obtain ⟨m, m', hcw⟩ := ch_all (R := fun c => ∃ m m', Wf (order / 2) order n (order / 2) order m m' c) (fun m m' c h => ⟨m, m', h⟩) hw.2.2.2 c (List.mem_of_getElem? hce)
        exact ⟨m, m', hcw⟩
      have hnext := hid0 (⟨_, m, m', c, hcw, hNi⟩ : ∃ a lo hi t, Wf (order / 2) order n a order lo hi t ∧ NAI P w n bi t)
      obtain ⟨M, hM⟩ : ∃ M, t.2.length = M := ⟨_, rfl⟩
      rw [hM] at q1 hlen
      have hM0 : 0 < M := by omega
      have hM1 : (0 : Int) < (M : Int) := by omega
      have hd64 : (d : Int) ≤ 1000 := by omega
      clear hW hw hN hk hc hlb hkd hce hbi hNi hcw hM hlen
      go_wp2_with fail
      refine hL.mono ?_
      rintro e w' ⟨rfl, rfl⟩
      go_wp2_with fail
      go_roundg n
      case measure => omega
      case rel => exact ⟨n, bi, d + 1, rfl, by go_num, Nat.le_refl _, by omega, hnext, rfl⟩
end Go.Proofs.Ytneebnankghhgab
