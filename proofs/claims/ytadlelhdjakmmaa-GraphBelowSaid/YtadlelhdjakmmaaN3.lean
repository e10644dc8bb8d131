/- The project's named: which error names have, if any: the contract of the call. Conditions: the names' cells are known. -/
import Derived.Test.YtadlelhdjakmmaaN2
namespace Go.Proofs.Ytadlelhdjakmmaa
open Go.RowKit

theorem nod_step {L : List ByteArray} {i : Nat} (hi : i < L.length) (h : (L.take i).Nodup) (hn : L[i] ∉ L.take i) : (L.take (i + 1)).Nodup := by
  rw [List.take_succ_eq_append_getElem hi]
  exact List.nodup_append.2 ⟨h, by simp, fun a ha b hb => by rw [List.mem_singleton.1 hb]; exact fun e => hn (e ▸ ha)⟩
theorem nod_bad {L : List ByteArray} {i : Nat} (hi : i < L.length) (hn : L[i] ∈ L.take i) : ¬ L.Nodup := fun h => by
  obtain ⟨j, hj, e⟩ := List.mem_iff_getElem.1 hn
  rw [List.length_take] at hj
  rw [List.getElem_take] at e
  have := pairwise_inj h (by omega) hi e
  omega
theorem named_long {l : List Nn} (h : 16 < l.length) : namedG (dat l) = 3 := by
  unfold namedG
  rw [if_pos (by rw [dat_len]; exact h)]
theorem named_twice {l : List Nn} (h : l.length ≤ 16) (h2 : ¬ (l.map Nn.s).Nodup) : namedG (dat l) = 6 := by
  unfold namedG
  rw [if_neg (by rw [dat_len]; omega), if_pos (by rw [dat_names]; exact h2)]
theorem known_of {l : List Nn} : knownG (dat l) ↔ ∀ i (hi : i < l.length), ∀ r ∈ l[i].rs, r ∈ l.map Nn.s := by
  unfold knownG
  rw [dat_names]
  constructor
  · intro h i hi r hr
    exact h (l[i]).dat (List.mem_map_of_mem (List.getElem_mem hi)) r hr
  · intro h x hx r hr
    obtain ⟨y, hy, rfl⟩ := List.mem_map.1 hx
    obtain ⟨i, hi, rfl⟩ := List.mem_iff_getElem.1 hy
    exact h i hi r hr
theorem named_lost {l : List Nn} (h : l.length ≤ 16) (h2 : (l.map Nn.s).Nodup) {i : Nat} (hi : i < l.length) (h3 : ¬ ∀ r ∈ l[i].rs, r ∈ l.map Nn.s) : namedG (dat l) = 5 := by
  unfold namedG
  rw [if_neg (by rw [dat_len]; omega), if_neg (by rw [dat_names]; simpa using h2), if_pos (fun hk => h3 (known_of.1 hk i hi))]
theorem named_good {l : List Nn} (h : l.length ≤ 16) (h2 : (l.map Nn.s).Nodup) (h3 : ∀ i (hi : i < l.length), ∀ r ∈ l[i].rs, r ∈ l.map Nn.s) : namedG (dat l) = 0 := by
  unfold namedG
  rw [if_neg (by rw [dat_len]; omega), if_neg (by rw [dat_names]; simpa using h2), if_neg (by rw [Decidable.not_not]; exact known_of.2 h3)]
set_option maxHeartbeats 4000000 in
set_option maxRecDepth 100000 in
theorem named_any (a : Option Addr) (c : Nat) (l : List Nn) (w : World) (h : NodesAt w a c l) :
    Calls Try.prog 19 #[.slice a l.length c] w fun e w' => e = .returned (.int .i64 (namedG (dat l))) ∧ Below w.heap.size w w' := by
  have CN := namesOf_any a c l w h
  have hfew := h.few
  have A := hid0 h
  obtain ⟨R, hR⟩ : ∃ R, namedG (dat l) = R := ⟨_, rfl⟩
  obtain ⟨n, hn⟩ : ∃ n, l.length = n := ⟨_, rfl⟩
  have HN := hid0 hn
  by_cases hlong : 16 < n
  · have HR := hid0 (hR.symm.trans (named_long (by omega)))
    rw [hn, hR]
    have g0 : ((n : Int) > 16) := by omega
    clear CN h hR hn A
    go_enter Try.func19, Try.ntmps19
    go_wp2
    go_ret
    exact ⟨ret_i HR.out, Below.refl _ _⟩
  have g0 : ¬ ((n : Int) > 16) := by omega
  have HT := hid0 (fun h2 => hR.symm.trans (named_twice (l := l) (by omega) h2))
  have HL := hid0 (fun h2 (i : Nat) (hi : i < l.length) h3 => hR.symm.trans (named_lost (l := l) (by omega) h2 hi h3))
  have HG := hid0 (fun h2 h3 => hR.symm.trans (named_good (l := l) (by omega) h2 h3))
  have hsm : ∀ s ∈ l.map Nn.s, s.size ≤ maxLen := fun s hs => by obtain ⟨x, hx, rfl⟩ := List.mem_map.1 hs; exact (h.ok x hx).small
  have hln : (l.map Nn.s).length = n := by rw [List.length_map]; exact hn
  rw [hn] at CN
  rw [hn, hR]
  clear h hR hn
  generalize l.map Nn.s = L at *
  have HSM := hid0 hsm
  have HLN := hid0 hln
  clear hsm hln
  go_enter Try.func19, Try.ntmps19
  go_wp2_with (first | (go_at_call 32; ((with_reducible refine CN.mono ?_); rintro e w1 ⟨⟨v, rfl, hS⟩, hB⟩; (obtain ⟨av, cv, rfl, hcv, hSA⟩ := (hS.sl HSM.out).out); rw [HLN.out] at hcv ⊢; (have HSA := hid0 hSA); (have HB := hid0 hB); clear hSA hB hS CN)) | fail)
  go_loopw [15] (fun iv wr => ∃ i : Nat, i ≤ n ∧ iv = .int .i64 i ∧ Hid ((L.take i).Nodup) ∧ wr = w1) (fun iv _ => n - (intOf iv).toNat)
  case atStart => exact ⟨0, Nat.zero_le _, rfl, hid0 (by simp), rfl⟩
  case round =>
    obtain ⟨i, hi, rfl, hO, hw⟩ := hrel
    have hw := hw.symm
    subst hw
    by_cases hlt : i < n
    · have g1 : i < L.length := by rw [HLN.out]; exact hlt
      obtain ⟨b, o, rfl, hc⟩ := HSA.out.out (fun e => by rw [e] at g1; exact absurd g1 (by simp))
      have q0 := hc i g1
      have hsl := strs_lo (some ⟨b, o, none⟩) n cv i (by omega) hcv (by omega)
      have CC := containsS_any (some ⟨b, o, none⟩) cv (L.take i) L[i] w1 (HSA.out.head i) (by simp; omega)
      rw [show (L.take i).length = i by simp; omega] at CC
      by_cases hs : L[i] ∈ L.take i
      · have HE := hid0 (HT.out (nod_bad g1 hs))
        rw [decide_eq_true hs] at CC
        generalize L[i] = x at q0 CC
        clear hs hc hO
        go_wp2_with (first | (go_at_call 24; ((with_reducible refine CC.mono ?_); rintro e w3 ⟨rfl, rfl⟩)) | fail)
        go_ret
        exact ⟨ret_i HE.out, HB.out⟩
      · have HE := hid0 (nod_step g1 hO.out hs)
        rw [decide_eq_false hs] at CC
        generalize L[i] = x at q0 CC
        clear hs hc hO
        go_wp2_with (first | (go_at_call 24; ((with_reducible refine CC.mono ?_); rintro e w3 ⟨rfl, rfl⟩)) | fail)
        exact ⟨⟨i + 1, by omega, by go_num, HE, trivial⟩, by simp [intOf]; omega⟩
    · have hie : ¬ (i : Int) < n := by omega
      have HND := hid0 (show L.Nodup by have := hO.out; rwa [List.take_of_length_le (by rw [HLN.out]; omega)] at this)
      clear hO
      go_wp2
      go_loopw [28] (fun kv wr2 => ∃ k : Nat, k ≤ n ∧ kv = .int .i64 k ∧ Hid (∀ j (hj : j < l.length), j < k → ∀ r ∈ l[j].rs, r ∈ L) ∧ Below w1.heap.size w1 wr2) (fun kv _ => n - (intOf kv).toNat)
      case atStart => exact ⟨0, Nat.zero_le _, rfl, hid0 (fun j _ h => absurd h (by omega)), Below.refl _ _⟩
      case round =>
        obtain ⟨k, hk, rfl, hO, hB2⟩ := hrel
        have hBB := below_through hB2 HB.out.size HB.out
        by_cases hlt2 : k < n
        · have g1 : k < l.length := by rw [HN.out]; exact hlt2
          obtain ⟨b1, o1, rfl, hb1, hR⟩ := (A.out.later hBB).node k g1
          have hok := (A.out.ok _ (List.getElem_mem g1)).later hBB
          have HO' := hid0 (fun (h : ∀ r ∈ l[k].rs, r ∈ L) (j : Nat) (hj : j < l.length) (hji : j < k + 1) => show ∀ r ∈ l[j].rs, r ∈ L by
            rcases Nat.lt_or_ge j k with h1 | h1
            · exact hO.out j hj h1
            · obtain rfl : j = k := by omega
              exact h)
          have HF1 := hid0 (HL.out HND.out k g1)
          generalize l[k] = p at hR hok HO' HF1
          have V0 : VarB (wr.alloc (Obj.cells #[.string ⟨#[]⟩, .slice none 0 0] 35)) wr.heap.size zNn := VarB.new wr zNn 35
          have hl := p.cells_len
          have h1' := p.one
          have hf0 := p.cells1
          have hfw := hok.few
          have HRS := hid0 hok.rs
          have HSB := hid0 (HSA.out.later hB2)
          have CW := hid0 (fun (W : World) (hW : Below wr.heap.size wr W) => within_any p.a av p.c cv p.rs L W (HRS.out.later hW) (HSB.out.later hW) (by omega) (by rw [HLN.out]; omega))
          rw [show L.length = n from HLN.out] at CW
          have HBB := hid0 hBB
          have HB2 := hid0 hB2
          clear hok hO hBB hB2 HRS HSB
          generalize p.cells = us at hR hl h1' hf0
          generalize p.a = pa at hf0 CW
          generalize p.c = pc at hf0 CW
          generalize p.rs = rs at hf0 CW HO' HF1 hfw
          by_cases hs : ∀ r ∈ rs, r ∈ L
          · have HE := hid0 (HO'.out hs)
            rw [decide_eq_true hs] at CW
            clear hs HO' HF1
            go_wp2_with (first | ((with_reducible refine wp_getB hR Try.underlying35 ?_ ?_ ?_ ?_); (rfl); (rw [hl]; exact infoNode); (rfl); simp only [Act.put]) | ((with_reducible refine wp_putB V0 h1' ?_ ?_ ?_ ?_ ?_); (exact hl); (exact infoNode); (rfl); (rfl); intro w5 hV5 hw5; (have hb5 : Below wr.heap.size wr w5 := by rw [hw5.out]; exact below_setCells _ 0 ((Below.refl _ _).alloc (Nat.le_refl _) _) (Nat.le_refl _)); (have c5 := hV5.cell 1 hf0); clear hw5 V0; simp only [Act.put]) | (go_at_call 33; ((with_reducible refine (CW.out _ hb5).mono ?_); rintro e w6 ⟨rfl, rfl⟩)) | fail)
            exact ⟨⟨k + 1, by omega, by go_num, HE, below_through hb5 HB2.out.size HB2.out⟩, by simp [intOf]; omega⟩
          · have HE := hid0 (HF1.out hs)
            rw [decide_eq_false hs] at CW
            clear hs HO' HF1
            go_wp2_with (first | ((with_reducible refine wp_getB hR Try.underlying35 ?_ ?_ ?_ ?_); (rfl); (rw [hl]; exact infoNode); (rfl); simp only [Act.put]) | ((with_reducible refine wp_putB V0 h1' ?_ ?_ ?_ ?_ ?_); (exact hl); (exact infoNode); (rfl); (rfl); intro w5 hV5 hw5; (have hb5 : Below wr.heap.size wr w5 := by rw [hw5.out]; exact below_setCells _ 0 ((Below.refl _ _).alloc (Nat.le_refl _) _) (Nat.le_refl _)); (have c5 := hV5.cell 1 hf0); clear hw5 V0; simp only [Act.put]) | (go_at_call 33; ((with_reducible refine (CW.out _ hb5).mono ?_); rintro e w6 ⟨rfl, rfl⟩)) | fail)
            go_ret
            exact ⟨ret_i HE.out, below_through hb5 HBB.out.size HBB.out⟩
        · have hie2 : ¬ (k : Int) < n := by omega
          have HE := hid0 (HG.out HND.out (fun j hj => hO.out j hj (by rw [HN.out] at hj; omega)))
          clear hO
          have HBB := hid0 hBB
          clear hBB hB2
          go_wp2
          go_ret
          exact ⟨ret_i HE.out, HBB.out⟩
end Go.Proofs.Ytadlelhdjakmmaa
