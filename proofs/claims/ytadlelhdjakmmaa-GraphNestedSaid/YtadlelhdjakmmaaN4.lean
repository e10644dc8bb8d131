/- The project's join: the contract of the call. Conditions: the first list is a call's own, the second lies in older memory, both are few. -/
import Derived.Test.YtadlelhdjakmmaaN3
namespace Go.Proofs.Ytadlelhdjakmmaa
open Go.RowKit

theorem addJ_len (a : List ByteArray) (s : ByteArray) : (addJ a s).length ≤ a.length + 1 := by
  unfold addJ
  split
  · omega
  · simp
theorem joinG_len : ∀ (m a : List ByteArray), (joinG a m).length ≤ a.length + m.length
  | [], a => by simp [joinG]
  | s :: m, a => by
    have h1 := joinG_len m (addJ a s)
    have h2 := addJ_len a s
    show (joinG (addJ a s) m).length ≤ _
    rw [List.length_cons]
    omega
set_option maxHeartbeats 4000000 in
set_option maxRecDepth 100000 in
theorem join_any (v : Value) (F : List ByteArray) (a : Option Addr) (c : Nat) (m : List ByteArray) (w0 w : World) (hF : SRow w0 w v F) (hs : ∀ s ∈ F, s.size ≤ maxLen) (hm : StrsA w0 a m) (hl : m.length ≤ 8796093022208) (hb : ∀ i, (joinG F (m.take i)).length ≤ 90000000) :
    Calls Try.prog 34 #[v, .slice a m.length c] w fun e w' => (∃ v', e = .returned v' ∧ SRow w0 w' v' (joinG F m)) ∧ Below w0.heap.size w0 w' := by
  have A := hid0 hm
  have hsm := hm.small
  have HSM := hid0 (fun (i : Nat) (s : ByteArray) (h : s ∈ joinG F (m.take i)) => show s.size ≤ maxLen from (joinG_mem.1 h).elim (hs s) fun h => hsm s (List.mem_of_mem_take h))
  have HLE := hid0 hb
  have HST := hid0 (joinG_take F m)
  have HE := hid0 (show joinG F (m.take m.length) = joinG F m by rw [List.take_length])
  have hF0 := hid0 (show SRow w0 w v (joinG F (m.take 0)) from hF)
  obtain ⟨n, hn⟩ : ∃ n, m.length = n := ⟨_, rfl⟩
  have HN := hid0 hn
  rw [hn] at hl HE ⊢
  clear hm hn hF hsm hs hb
  go_enter Try.func34, Try.ntmps34
  go_wp2
  go_loopw [0, 9] (fun ov iv wr => ∃ i : Nat, i ≤ n ∧ iv = .int .i64 i ∧ SRow w0 wr ov (joinG F (m.take i))) (fun _ iv _ => n - (intOf iv).toNat)
  case atStart => exact ⟨0, Nat.zero_le _, rfl, hF0.out⟩
  case round =>
    clear hF0
    obtain ⟨i, hi, rfl, hS⟩ := hrel
    have hB := hS.b
    by_cases hlt : i < n
    · have g1 : i < m.length := by rw [HN.out]; exact hlt
      obtain ⟨b, o, rfl, hc⟩ := (A.out.later hB).out (fun e => by rw [e] at g1; exact absurd g1 (by simp))
      have q0 := hc i g1
      have hst := HST.out i g1
      have hsm := HSM.out i
      have hle := HLE.out i
      have hys := hid0 (A.out.small _ (List.getElem_mem g1))
      generalize m[i] = y at q0 hst hys
      generalize joinG F (m.take i) = G at hS hst hsm hle
      have hst := hid0 hst
      obtain ⟨av, cv, rfl, hcv, hSA⟩ := (hS.sl hsm).out
      have CC := containsS_any av cv G y wr hSA (by omega)
      have HS := hid0 hS
      generalize hG : G.length = M at CC hle hcv HS ⊢
      have HG := hid0 hG
      clear hc hS hSA hB hsm hG
      by_cases hy : y ∈ G
      · rw [decide_eq_true hy] at CC
        have HE2 := hid0 (show joinG F (m.take (i + 1)) = G by rw [hst.out]; unfold addJ; rw [if_pos hy])
        clear hy
        go_wp2_with (first | (go_at_call 24; ((with_reducible refine CC.mono ?_); rintro e w1 ⟨rfl, rfl⟩)) | fail)
        exact ⟨⟨i + 1, by omega, by go_num, by rw [HE2.out]; exact HS.out⟩, by simp [intOf]; omega⟩
      · rw [decide_eq_false hy] at CC
        have HE2 := hid0 (show joinG F (m.take (i + 1)) = G ++ [y] by rw [hst.out]; unfold addJ; rw [if_neg hy])
        clear hy
        go_wp2_with (first | (go_at_call 24; ((with_reducible refine CC.mono ?_); rintro e w1 ⟨rfl, rfl⟩)) | (at_builtin; refine app_strL rfl _ _ rfl rfl (HS.out.alloc _) _ 1 1 rfl [y] rfl (one_new _ y _ hys.out) (by rw [HG.out]; omega) ?_; intro v6 w6 hS6; (have HS6 := hid0 hS6); clear hS6) | fail)
        exact ⟨⟨i + 1, by omega, by go_num, by rw [HE2.out]; exact HS6.out⟩, by simp [intOf]; omega⟩
    · have hie : ¬ (i : Int) < n := by omega
      obtain rfl : i = n := by omega
      rw [HE.out] at hS
      have HS := hid0 hS
      clear hS hB
      go_wp2
      go_ret
      exact ⟨⟨_, rfl, HS.out⟩, HS.out.b⟩
end Go.Proofs.Ytadlelhdjakmmaa
