/- The project's ready: the contract of the call. Conditions: the names' cells are known. -/
import Derived.Test.YtadlelhdjakmmaaN6
namespace Go.Proofs.Ytadlelhdjakmmaa
open Go.RowKit

theorem ready_dat (l : List Nn) (O : List ByteArray) (i : Nat) (h : i < l.length) : readyG (dat (l.take (i + 1))) O = if okG O (l[i].s, l[i].rs) then readyG (dat (l.take i)) O ++ [l[i].s] else readyG (dat (l.take i)) O := by
  have h' : i < (dat l).length := by rw [dat_len]; exact h
  have e1 : ∀ k, dat (l.take k) = (dat l).take k := fun k => by unfold dat; rw [List.map_take]
  have e2 : (dat l)[i] = (l[i].s, l[i].rs) := by simp [dat, Nn.dat]
  have := ready_take (dat l) O i h'
  rw [e1, e1, this, e2]
set_option maxHeartbeats 4000000 in
set_option maxRecDepth 100000 in
theorem ready_any (a b : Option Addr) (c d : Nat) (l : List Nn) (O : List ByteArray) (w : World) (h : NodesAt w a c l) (hO : StrsA w b O) (hO2 : O.length ≤ 100000000) :
    Calls Try.prog 21 #[.slice a l.length c, .slice b O.length d] w fun e w' => (∃ v, e = .returned v ∧ SRow w w' v (readyG (dat l) O)) ∧ Below w.heap.size w w' := by
  have A := hid0 h
  have HOO := hid0 hO
  have hfew := h.few
  have HST := hid0 (ready_dat l O)
  have HLE := hid0 (fun i => ready_len (dat (l.take i)) O)
  have HE := hid0 (show readyG (dat (l.take l.length)) O = readyG (dat l) O by rw [List.take_length])
  obtain ⟨n, hn⟩ : ∃ n, l.length = n := ⟨_, rfl⟩
  have HN := hid0 hn
  rw [hn] at hfew HE ⊢
  have hS0 : SRow w w (.slice none 0 0) (readyG (dat (l.take 0)) O) := SRow.nil (Below.refl _ _)
  have hS0 := hid0 hS0
  obtain ⟨M, hM⟩ : ∃ M, O.length = M := ⟨_, rfl⟩
  have HM := hid0 hM
  rw [hM] at hO2 ⊢
  clear h hn hO hM
  go_enter Try.func21, Try.ntmps21
  go_wp2
  go_loopw [5, 10] (fun ov iv wr => ∃ i : Nat, i ≤ n ∧ iv = .int .i64 i ∧ SRow w wr ov (readyG (dat (l.take i)) O)) (fun _ iv _ => n - (intOf iv).toNat)
  case atStart => exact ⟨0, Nat.zero_le _, rfl, hS0.out⟩
  case round =>
    clear hS0
    obtain ⟨i, hi, rfl, hS⟩ := hrel
    have hB := hS.b
    have hsz := hB.size
    by_cases hlt : i < n
    · have g1 : i < l.length := by rw [HN.out]; exact hlt
      obtain ⟨b1, o1, rfl, hb1, hR⟩ := (A.out.later hB).node i g1
      have hok := (A.out.ok _ (List.getElem_mem g1))
      have hst := HST.out i g1
      have hle : (readyG (dat (l.take i)) O).length ≤ n := by
        have := HLE.out i
        rw [dat_len, List.length_take] at this
        omega
      generalize l[i] = p at hR hok hst
      generalize readyG (dat (l.take i)) O = F at hS hst hle
      have V0 : VarB (wr.alloc (Obj.cells #[.string ⟨#[]⟩, .slice none 0 0] 35)) wr.heap.size zNn := VarB.new wr zNn 35
      have hl := p.cells_len
      have h1' := p.one
      have hf0 := p.cells0
      have hf1 := p.cells1
      have hfw := hok.few
      have HRS := hid0 hok.rs
      have hxs := hid0 hok.small
      have HSm := hid0 (fun W (hW : Below wr.heap.size wr W) => show Below w.heap.size w W from below_through hW hsz hB)
      have CW := hid0 (fun (W : World) (hW : Below w.heap.size w W) => within_any p.a b p.c d p.rs O W (HRS.out.later hW) (HOO.out.later hW) (by omega) (by rw [HM.out]; omega))
      have CX := hid0 (fun (W : World) (hW : Below w.heap.size w W) => containsS_any b d O p.s W (HOO.out.later hW) (by rw [HM.out]; omega))
      rw [HM.out] at CW CX
      have HS := hid0 hS
      have hst := hid0 hst
      clear hok HRS hS hB hsz
      generalize p.cells = us at hR hl h1' hf0 hf1
      generalize p.a = pa at hf1 CW
      generalize p.c = pc at hf1 CW
      generalize p.rs = rs at hf1 CW hst hfw
      generalize p.s = s at hf0 CX hst hxs
      by_cases h1 : ∀ r ∈ rs, r ∈ O
      · rw [decide_eq_true h1] at CW
        by_cases h2 : s ∈ O
        · rw [decide_eq_true h2] at CX
          have HE2 := hid0 (hst.out.trans (if_neg (fun (h : okG O (s, rs)) => h.1 h2)))
          clear h1 h2 hst
          go_wp2_with (first | ((with_reducible refine wp_getB hR Try.underlying35 ?_ ?_ ?_ ?_); (rfl); (rw [hl]; exact infoNode); (rfl); simp only [Act.put]) | ((with_reducible refine wp_putB V0 h1' ?_ ?_ ?_ ?_ ?_); (exact hl); (exact infoNode); (rfl); (rfl); intro w5 hV5 hw5; (have hb5 : Below wr.heap.size wr w5 := by rw [hw5.out]; exact below_setCells _ 0 ((Below.refl _ _).alloc (Nat.le_refl _) _) (Nat.le_refl _)); (have c5 := hV5.cell 0 hf0); (have d5 := hV5.cell 1 hf1); clear hw5 V0; simp only [Act.put]) | (go_at_call 33; ((with_reducible refine (CW.out _ (HSm.out _ hb5)).mono ?_); rintro e w6 ⟨rfl, rfl⟩)) | (go_at_call 24; go_must ((with_reducible refine (CX.out _ (HSm.out _ hb5)).mono ?_); rintro e w6 ⟨rfl, hw6⟩; rw [hw6]; clear hw6)) | fail)
          exact ⟨⟨i + 1, by omega, by go_num, by rw [HE2.out]; exact HS.out.below hb5⟩, by simp [intOf]; omega⟩
        · rw [decide_eq_false h2] at CX
          have HE2 := hid0 (hst.out.trans (if_pos (show okG O (s, rs) from ⟨h2, h1⟩)))
          clear h1 h2 hst
          go_wp2_with (first | ((with_reducible refine wp_getB hR Try.underlying35 ?_ ?_ ?_ ?_); (rfl); (rw [hl]; exact infoNode); (rfl); simp only [Act.put]) | ((with_reducible refine wp_putB V0 h1' ?_ ?_ ?_ ?_ ?_); (exact hl); (exact infoNode); (rfl); (rfl); intro w5 hV5 hw5; (have hb5 : Below wr.heap.size wr w5 := by rw [hw5.out]; exact below_setCells _ 0 ((Below.refl _ _).alloc (Nat.le_refl _) _) (Nat.le_refl _)); (have c5 := hV5.cell 0 hf0); (have d5 := hV5.cell 1 hf1); clear hw5 V0; simp only [Act.put]) | (go_at_call 33; ((with_reducible refine (CW.out _ (HSm.out _ hb5)).mono ?_); rintro e w6 ⟨rfl, rfl⟩)) | (go_at_call 24; go_must ((with_reducible refine (CX.out _ (HSm.out _ hb5)).mono ?_); rintro e w6 ⟨rfl, hw6⟩; rw [hw6]; clear hw6)) | (at_builtin; refine app_strL rfl _ _ rfl rfl ((HS.out.below hb5).alloc _) _ 1 1 rfl [s] rfl (one_new _ s _ hxs.out) (by omega) ?_; intro v6 w6 hS6; (have HS6 := hid0 hS6); clear hS6) | fail)
          exact ⟨⟨i + 1, by omega, by go_num, by rw [HE2.out]; exact HS6.out⟩, by simp [intOf]; omega⟩
      · rw [decide_eq_false h1] at CW
        have HE2 := hid0 (hst.out.trans (if_neg (fun (h : okG O (s, rs)) => h1 h.2)))
        clear h1 hst
        go_wp2_with (first | ((with_reducible refine wp_getB hR Try.underlying35 ?_ ?_ ?_ ?_); (rfl); (rw [hl]; exact infoNode); (rfl); simp only [Act.put]) | ((with_reducible refine wp_putB V0 h1' ?_ ?_ ?_ ?_ ?_); (exact hl); (exact infoNode); (rfl); (rfl); intro w5 hV5 hw5; (have hb5 : Below wr.heap.size wr w5 := by rw [hw5.out]; exact below_setCells _ 0 ((Below.refl _ _).alloc (Nat.le_refl _) _) (Nat.le_refl _)); (have c5 := hV5.cell 0 hf0); (have d5 := hV5.cell 1 hf1); clear hw5 V0; simp only [Act.put]) | (go_at_call 33; ((with_reducible refine (CW.out _ (HSm.out _ hb5)).mono ?_); rintro e w6 ⟨rfl, rfl⟩)) | fail)
        exact ⟨⟨i + 1, by omega, by go_num, by rw [HE2.out]; exact HS.out.below hb5⟩, by simp [intOf]; omega⟩
    · have hie : ¬ (i : Int) < n := by omega
      obtain rfl : i = n := by omega
      rw [HE.out] at hS
      have HS := hid0 hS
      clear hS
      go_wp2
      go_ret
      exact ⟨⟨_, rfl, HS.out⟩, HS.out.b⟩
end Go.Proofs.Ytadlelhdjakmmaa
