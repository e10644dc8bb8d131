/- The project's reached: the contract of the call. Conditions: the names' cells are known, what is gone over stays few. -/
import Derived.Test.YtadlelhdjakmmaaN8
namespace Go.Proofs.Ytadlelhdjakmmaa
open Go.RowKit

theorem own_one (w : World) (x : ByteArray) {B : Nat} (hb : B ≤ w.heap.size) : (w.alloc (.cells #[.string x] 9)).ownsRow B 9 1 (.slice (some ⟨w.heap.size, 0, none⟩) 1 1) 1 (strs [x]) :=
  ⟨by simp [strs], .inr ⟨w.heap.size, 1, #[.string x], rfl, hb, heap_alloc_new w _, Nat.le_refl _, by decide, by simp, by simp [strs]⟩⟩
theorem pass_dat (l : List Nn) (nm : List ByteArray) (i : Nat) (h : i < l.length) : passG (dat (l.take (i + 1))) nm = if l[i].s ∈ passG (dat (l.take i)) nm then joinG (passG (dat (l.take i)) nm) l[i].rs else passG (dat (l.take i)) nm := by
  have h' : i < (dat l).length := by rw [dat_len]; exact h
  have e1 : ∀ k, dat (l.take k) = (dat l).take k := fun k => by unfold dat; rw [List.map_take]
  have e2 : (dat l)[i] = (l[i].s, l[i].rs) := by simp [dat, Nn.dat]
  have := passG_take (dat l) nm i h'
  rw [e1, e1, this, e2]
  rfl
set_option maxHeartbeats 4000000 in
set_option maxRecDepth 100000 in
theorem reached_any (a : Option Addr) (c : Nat) (l : List Nn) (name : ByteArray) (w : World) (h : NodesAt w a c l)
    (hrl : ∀ x ∈ l, x.rs.length ≤ 1000) (hlen : ∀ i k, (passG (dat (l.take k)) (rounds (dat l) name i)).length ≤ 1000000) (hsmall : ∀ i k, ∀ s ∈ passG (dat (l.take k)) (rounds (dat l) name i), s.size ≤ maxLen) :
    Calls Try.prog 25 #[.slice a l.length c, .string name] w fun e w' => (∃ v, e = .returned v ∧ SRow w w' v (rounds (dat l) name l.length)) ∧ Below w.heap.size w w' := by
  have A := hid0 h
  have hfew := h.few
  have HST := hid0 (fun i k => pass_dat l (rounds (dat l) name i) k)
  have HLE := hid0 hlen
  have HRL := hid0 hrl
  have HSM := hid0 hsmall
  have HE := hid0 (fun i => show passG (dat (l.take l.length)) (rounds (dat l) name i) = rounds (dat l) name (i + 1) by rw [List.take_length]; rfl)
  have HZ := hid0 (fun i => show passG (dat (l.take 0)) (rounds (dat l) name i) = rounds (dat l) name i from rfl)
  have hS0 := hid0 (show SRow w (w.alloc (.cells #[.string name] 9)) (.slice (some ⟨w.heap.size, 0, none⟩) 1 1) (rounds (dat l) name 0) from ⟨own_one w name (Nat.le_refl _), (Below.refl _ _).alloc (Nat.le_refl _) _⟩)
  obtain ⟨n, hn⟩ : ∃ n, l.length = n := ⟨_, rfl⟩
  have HN := hid0 hn
  rw [hn] at hfew HE ⊢
  clear h hn hlen hsmall hrl
  generalize rounds (dat l) name = RD at *
  go_enter Try.func25, Try.ntmps25
  go_wp2
  go_loopw [5, 12] (fun ov iv wr => ∃ i : Nat, i ≤ n ∧ iv = .int .i64 i ∧ SRow w wr ov (RD i)) (fun _ iv _ => n - (intOf iv).toNat)
  case atStart => exact ⟨0, Nat.zero_le _, rfl, hS0.out⟩
  case round =>
    clear hS0
    obtain ⟨i, hi, rfl, hS⟩ := hrel
    by_cases hlt : i < n
    · rw [← HZ.out i] at hS
      have hS := hid0 hS
      go_wp2
      go_loopw [5, 16] (fun ov kv wr => ∃ k : Nat, k ≤ n ∧ kv = .int .i64 k ∧ SRow w wr ov (passG (dat (l.take k)) (RD i))) (fun _ kv _ => n - (intOf kv).toNat)
      case atStart => exact ⟨0, Nat.zero_le _, rfl, hS.out⟩
      case round =>
        clear hS
        obtain ⟨k, hk, rfl, hS⟩ := hrel
        have hB := hS.b
        have hsz := hB.size
        by_cases hltk : k < n
        · have g1 : k < l.length := by rw [HN.out]; exact hltk
          obtain ⟨b1, o1, rfl, hb1, hR⟩ := (A.out.later hB).node k g1
          have hok := (A.out.ok _ (List.getElem_mem g1))
          have hrl := HRL.out _ (List.getElem_mem g1)
          have hst := HST.out i k g1
          have hle := HLE.out i k
          have hsm := HSM.out i k
          generalize l[k] = p at hR hok hst hrl
          generalize passG (dat (l.take k)) (RD i) = F at hS hst hle hsm
          have V0 : VarB (wr.alloc (Obj.cells #[.string ⟨#[]⟩, .slice none 0 0] 35)) wr.heap.size zNn := VarB.new wr zNn 35
          have hl := p.cells_len
          have h1' := p.one
          have hf0 := p.cells0
          have hf1 := p.cells1
          have hfw := hok.few
          have HRS := hid0 hok.rs
          obtain ⟨ao, co, rfl, hco, hSA⟩ := (hS.sl hsm).out
          have HSA := hid0 hSA
          have CX := hid0 (fun (W : World) (hW : Below wr.heap.size wr W) => containsS_any ao co F p.s W (HSA.out.later hW) (by omega))
          have HS := hid0 hS
          have CJ := hid0 (fun (W : World) (hW : Below wr.heap.size wr W) => join_any (.slice ao F.length co) F p.a p.c p.rs w W (HS.out.below hW) hsm HRS.out (by omega) (fun i => by
            have h1 := joinG_len (p.rs.take i) F
            rw [List.length_take] at h1
            omega))
          have hst := hid0 hst
          have HSm := hid0 (fun W (hW : Below wr.heap.size wr W) => show Below w.heap.size w W from below_through hW hsz hB)
          clear hok HRS hS hB hsz hSA hsm hle HSA
          generalize p.cells = us at hR hl h1' hf0 hf1
          generalize p.a = pa at hf1 CJ
          generalize p.c = pc at hf1 CJ
          clear hrl
          generalize p.rs = rs at hf1 CJ hst hfw
          generalize p.s = s at hf0 CX hst
          by_cases h1 : s ∈ F
          · rw [decide_eq_true h1] at CX
            have HE2 := hid0 (hst.out.trans (if_pos h1))
            clear h1 hst
            go_wp2_with (first | ((with_reducible refine wp_getB hR Try.underlying35 ?_ ?_ ?_ ?_); (rfl); (rw [hl]; exact infoNode); (rfl); simp only [Act.put]) | ((with_reducible refine wp_putB V0 h1' ?_ ?_ ?_ ?_ ?_); (exact hl); (exact infoNode); (rfl); (rfl); intro w5 hV5 hw5; (have hb5 : Below wr.heap.size wr w5 := by rw [hw5.out]; exact below_setCells _ 0 ((Below.refl _ _).alloc (Nat.le_refl _) _) (Nat.le_refl _)); (have c5 := hV5.cell 0 hf0); (have d5 := hV5.cell 1 hf1); clear hw5 V0; simp only [Act.put]) | (go_at_call 24; ((with_reducible refine (CX.out _ hb5).mono ?_); rintro e w6 ⟨rfl, rfl⟩)) | (go_at_call 34; ((with_reducible refine (CJ.out _ hb5).mono ?_); rintro e w6 ⟨⟨v6, rfl, hS6⟩, hb6⟩; (have HS6 := hid0 hS6); clear hS6 hb6)) | fail)
            exact ⟨⟨k + 1, by omega, by go_num, by rw [HE2.out]; exact HS6.out⟩, by simp [intOf]; omega⟩
          · rw [decide_eq_false h1] at CX
            have HE2 := hid0 (hst.out.trans (if_neg h1))
            clear h1 hst
            go_wp2_with (first | ((with_reducible refine wp_getB hR Try.underlying35 ?_ ?_ ?_ ?_); (rfl); (rw [hl]; exact infoNode); (rfl); simp only [Act.put]) | ((with_reducible refine wp_putB V0 h1' ?_ ?_ ?_ ?_ ?_); (exact hl); (exact infoNode); (rfl); (rfl); intro w5 hV5 hw5; (have hb5 : Below wr.heap.size wr w5 := by rw [hw5.out]; exact below_setCells _ 0 ((Below.refl _ _).alloc (Nat.le_refl _) _) (Nat.le_refl _)); (have c5 := hV5.cell 0 hf0); (have d5 := hV5.cell 1 hf1); clear hw5 V0; simp only [Act.put]) | (go_at_call 24; ((with_reducible refine (CX.out _ hb5).mono ?_); rintro e w6 ⟨rfl, rfl⟩)) | fail)
            exact ⟨⟨k + 1, by omega, by go_num, by rw [HE2.out]; exact HS.out.below hb5⟩, by simp [intOf]; omega⟩
        · have hie : ¬ (k : Int) < n := by omega
          obtain rfl : k = n := by omega
          rw [HE.out] at hS
          have hS := hid0 hS
          go_wp2
          exact ⟨⟨i + 1, by omega, by go_num, hS.out⟩, by simp [intOf]; omega⟩
    · have hie : ¬ (i : Int) < n := by omega
      obtain rfl : i = n := by omega
      have HS := hid0 hS
      clear hS
      go_wp2
      go_ret
      exact ⟨⟨_, rfl, HS.out⟩, HS.out.b⟩
end Go.Proofs.Ytadlelhdjakmmaa
