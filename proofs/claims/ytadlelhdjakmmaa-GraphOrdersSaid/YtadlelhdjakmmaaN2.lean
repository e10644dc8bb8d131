/- The project's within and namesOf: contracts of the calls. Conditions: the lists' cells are known. -/
import Derived.Test.YtadlelhdjakmmaaN1
namespace Go.Proofs.Ytadlelhdjakmmaa
open Go.RowKit

theorem ret_b {a b : Bool} (h : a = b) : Ending.returned (.bool b) = .returned (.bool a) := by rw [h]
theorem ret_i {a b : Int} (h : a = b) : Ending.returned (.int .i64 b) = .returned (.int .i64 a) := by rw [h]
set_option maxHeartbeats 1000000 in
set_option maxRecDepth 100000 in
theorem within_any (a b : Option Addr) (c d : Nat) (l N : List ByteArray) (w : World) (h : StrsA w a l) (hN : StrsA w b N) (hl : l.length ≤ 8796093022208) (hl2 : N.length ≤ 8796093022208) :
    Calls Try.prog 33 #[.slice a l.length c, .slice b N.length d] w fun e w' => e = .returned (.bool (decide (∀ r ∈ l, r ∈ N))) ∧ w' = w := by
  have A := hid0 h
  have CC := hid0 (fun s => containsS_any b d N s w hN hl2)
  obtain ⟨n, hn⟩ : ∃ n, l.length = n := ⟨_, rfl⟩
  have HN := hid0 hn
  obtain ⟨R, hR⟩ : ∃ R, decide (∀ r ∈ l, r ∈ N) = R := ⟨_, rfl⟩
  have HF := hid0 (fun (k : Nat) (hk : k < l.length) (e : l[k] ∉ N) => hR.symm.trans (decide_eq_false fun H => e (H _ (List.getElem_mem hk))))
  have HZ := hid0 (fun (H : ∀ k (hk : k < l.length), l[k] ∈ N) => hR.symm.trans (decide_eq_true fun r hr => by obtain ⟨k, hk, rfl⟩ := List.mem_iff_getElem.1 hr; exact H k hk))
  generalize N.length = M at CC hl2 ⊢
  rw [hn] at hl ⊢
  rw [hR]
  clear h hn hR hN
  go_enter Try.func33, Try.ntmps33
  go_wp2
  go_loopw [9] (fun iv wr => ∃ i : Nat, i ≤ n ∧ iv = .int .i64 i ∧ Hid (∀ j (hj : j < l.length), j < i → l[j] ∈ N) ∧ wr = w) (fun iv _ => n - (intOf iv).toNat)
  case atStart => exact ⟨0, Nat.zero_le _, rfl, hid0 (fun j _ h => absurd h (by omega)), rfl⟩
  case round =>
    obtain ⟨i, hi, rfl, hO, rfl⟩ := hrel
    by_cases hlt : i < n
    · have g1 : i < l.length := by rw [HN.out]; exact hlt
      obtain ⟨b1, o1, rfl, hc⟩ := A.out.out (fun e => by rw [e] at g1; exact absurd g1 (by simp))
      have q0 := hc i g1
      have HO' := hid0 (fun (h : l[i] ∈ N) (j : Nat) (hj : j < l.length) (hji : j < i + 1) => show l[j] ∈ N by
        rcases Nat.lt_or_ge j i with h1 | h1
        · exact hO.out j hj h1
        · obtain rfl : j = i := by omega
          exact h)
      have HF1 := hid0 (HF.out i g1)
      generalize l[i] = y at q0 HO' HF1
      have CY := CC.out y
      clear hc hO
      by_cases hs : y ∈ N
      · rw [decide_eq_true hs] at CY
        have HE := hid0 (HO'.out hs)
        clear hs HO'
        go_wp2_with (first | (go_at_call 24; ((with_reducible refine CY.mono ?_); rintro e w1 ⟨rfl, rfl⟩)) | fail)
        exact ⟨⟨i + 1, by omega, by go_num, HE, trivial⟩, by simp [intOf]; omega⟩
      · rw [decide_eq_false hs] at CY
        have HE := hid0 (HF1.out hs)
        clear hs HO'
        go_wp2_with (first | (go_at_call 24; ((with_reducible refine CY.mono ?_); rintro e w1 ⟨rfl, rfl⟩)) | fail)
        go_ret
        exact ⟨ret_b HE.out, rfl⟩
    · have hie : ¬ (i : Int) < n := by omega
      go_wp2
      go_ret
      exact ⟨ret_b (HZ.out (fun j hj => hO.out j hj (by rw [HN.out] at hj; omega))), rfl⟩
theorem names_take (l : List Nn) (i : Nat) (h : i < l.length) : (l.take (i + 1)).map Nn.s = (l.take i).map Nn.s ++ [l[i].s] := by
  rw [List.take_succ_eq_append_getElem h, List.map_append]
  rfl
set_option maxHeartbeats 4000000 in
set_option maxRecDepth 100000 in
theorem namesOf_any (a : Option Addr) (c : Nat) (l : List Nn) (w : World) (h : NodesAt w a c l) :
    Calls Try.prog 32 #[.slice a l.length c] w fun e w' => (∃ v, e = .returned v ∧ SRow w w' v (l.map Nn.s)) ∧ Below w.heap.size w w' := by
  have A := hid0 h
  have hfew := h.few
  have hNN := hid0 (names_take l)
  have HE := hid0 (show (l.take l.length).map Nn.s = l.map Nn.s by rw [List.take_length])
  obtain ⟨n, hn⟩ : ∃ n, l.length = n := ⟨_, rfl⟩
  have HN := hid0 hn
  rw [hn] at hfew HE ⊢
  have hS0 : SRow w w (.slice none 0 0) ((l.take 0).map Nn.s) := SRow.nil (Below.refl _ _)
  have hS0 := hid0 hS0
  clear h hn
  go_enter Try.func32, Try.ntmps32
  go_wp2
  go_loopw [3, 8] (fun ov iv wr => ∃ i : Nat, i ≤ n ∧ iv = .int .i64 i ∧ SRow w wr ov ((l.take i).map Nn.s)) (fun _ iv _ => n - (intOf iv).toNat)
  case atStart => exact ⟨0, Nat.zero_le _, rfl, hS0.out⟩
  case round =>
    clear hS0
    obtain ⟨i, hi, rfl, hS⟩ := hrel
    have hB := hS.b
    have hsz := hB.size
    by_cases hlt : i < n
    · have g1 : i < l.length := by rw [HN.out]; exact hlt
      obtain ⟨b1, o1, rfl, hb1, hR⟩ := (A.out.later hB).node i g1
      have hok := A.out.ok _ (List.getElem_mem g1)
      have hst := hNN.out i g1
      have hlen : ((l.take i).map Nn.s).length ≤ n := by simp; omega
      generalize l[i] = p at hR hok hst
      generalize (l.take i).map Nn.s = F at hS hst hlen
      have HST := hid0 hst
      have V0 : VarB (wr.alloc (Obj.cells #[.string ⟨#[]⟩, .slice none 0 0] 35)) wr.heap.size zNn := VarB.new wr zNn 35
      have hl := p.cells_len
      have h1' := p.one
      have hf0 := p.cells0
      have hSm : ∀ W, Below wr.heap.size wr W → Below w.heap.size w W := fun W hW => below_through hW hsz hB
      have HSm := hid0 hSm
      have HS := hid0 hS
      have hxs := hid0 hok.small
      clear hst hB hok hS hSm
      generalize p.cells = us at hR hl h1' hf0
      generalize p.s = x at hf0 HST hxs
      go_wp2_with (first | ((with_reducible refine wp_getB hR Try.underlying35 ?_ ?_ ?_ ?_); (rfl); (rw [hl]; exact infoNode); (rfl); simp only [Act.put]) | ((with_reducible refine wp_putB V0 h1' ?_ ?_ ?_ ?_ ?_); (exact hl); (exact infoNode); (rfl); (rfl); intro w5 hV5 hw5; (have hb5 : Below wr.heap.size wr w5 := by rw [hw5.out]; exact below_setCells _ 0 ((Below.refl _ _).alloc (Nat.le_refl _) _) (Nat.le_refl _)); (have c5 := hV5.cell 0 hf0); clear hw5 V0; simp only [Act.put]) | (at_builtin; refine app_strL rfl _ _ rfl rfl ((HS.out.below hb5).alloc _) _ 1 1 rfl [x] rfl (one_new _ x _ hxs.out) (by omega) ?_; intro v6 w6 hS6; (have HS6 := hid0 hS6); clear hS6) | fail)
      exact ⟨⟨i + 1, by omega, by go_num, by rw [HST.out]; exact HS6.out⟩, by simp [intOf]; omega⟩
    · have hie : ¬ (i : Int) < n := by omega
      obtain rfl : i = n := by omega
      rw [HE.out] at hS
      have HS := hid0 hS
      clear hS
      go_wp2
      go_ret
      exact ⟨⟨_, rfl, HS.out⟩, HS.out.b⟩
end Go.Proofs.Ytadlelhdjakmmaa
