/- The project's Order and Check: the contracts of the calls. Conditions: the names' cells are known. -/
import Derived.Test.YtadlelhdjakmmaaN7
namespace Go.Proofs.Ytadlelhdjakmmaa
open Go.RowKit

theorem own_lowerN {w : World} {B B' n k : Nat} {ty : TypeId} {v : Value} {X : List Value} (h : w.ownsRow B ty k v n X) (hb : B' ≤ B) : w.ownsRow B' ty k v n X := by
  refine ⟨h.1, ?_⟩
  rcases h.2 with h | ⟨g, cap, cur, rfl, hg, hr⟩
  · exact .inl h
  · exact .inr ⟨g, cap, cur, rfl, Nat.le_trans hb hg, hr⟩
theorem SRow.lower {w w1 W : World} {v : Value} {F : List ByteArray} (h : SRow w1 W v F) (hb : Below w.heap.size w w1) : SRow w W v F := ⟨own_lowerN h.own hb.size, below_through h.b hb.size hb⟩
theorem ret_p {R : List ByteArray × Int} {F : List ByteArray} {k : Int} {v : Value} (h : R = (F, k)) : Ending.returned (.tuple #[v, .int .i64 k]) = .returned (.tuple #[v, .int .i64 R.2]) := by rw [h]
theorem join_take {l : List Gn} (hk : knownG l) {x : Gn} (hx : x ∈ l) (i : Nat) : (joinG [] (x.2.take i)).length ≤ l.length := by
  have := nodup_few (joinG [] (x.2.take i)) (l.map (·.1)) (joinG_nodup List.nodup_nil) (fun r hr => hk x hx r (List.mem_of_mem_take (by simpa using joinG_mem.1 hr)))
  rwa [List.length_map] at this
theorem once_few {l : List Nn} (h0 : namedG (dat l) = 0) : ∀ x ∈ l, ∀ i, (joinG [] (x.rs.take i)).length ≤ 1048576 := fun x hx i => by
  have h1 := join_take (named_known h0) (x := x.dat) (List.mem_map_of_mem hx) i
  have h2 := named_few h0
  exact Nat.le_trans h1 (by omega)
theorem once_rs {D : List Gn} (hk : knownG D) {L : List Nn} (hd : dat L = onceG D) : ∀ x ∈ L, x.rs.length ≤ D.length := fun x hx => by
  have h1 : x.dat ∈ dat L := List.mem_map_of_mem hx
  rw [hd] at h1
  obtain ⟨y, hy, e⟩ := List.mem_map.1 h1
  have h2 : x.rs = joinG [] y.2 := (congrArg Prod.snd e).symm
  rw [h2]
  exact join_few hk hy
theorem order_err {l : List Gn} (h : namedG l ≠ 0) : orderM l = ([], namedG l) := by
  have e : checkG l = namedG l := by rw [named_check, if_pos h]
  unfold orderM
  rw [e, if_neg h]
theorem order_cyc {l : List Gn} {i : Nat} {O : List ByteArray} (h : namedG l = 0) (ho : orderG l i [] = O) (hl : O.length = i) (hi : i < l.length) (hr : readyG l O = []) : orderM l = ([], 20) := by
  have e1 : nextAll l = O := order_stop ho (Nat.le_of_lt hi) hr
  have e : checkG l = 20 := by rw [named_check, if_neg (fun h' => h' h), e1, if_pos (by omega)]
  unfold orderM
  rw [e, if_neg (by decide)]
theorem order_all {l : List Gn} {O : List ByteArray} (h : namedG l = 0) (ho : orderG l l.length [] = O) (hl : O.length = l.length) : orderM l = (O, 0) := by
  have e1 : nextAll l = O := ho
  have e : checkG l = 0 := by rw [named_check, if_neg (fun h' => h' h), e1, if_neg (by omega)]
  unfold orderM
  rw [e, if_pos rfl, e1]
theorem order_names {l : List Nn} {i : Nat} {O : List ByteArray} (ho : orderG (dat l) i [] = O) : ∀ s ∈ O, s ∈ l.map Nn.s := by
  intro s hs
  subst ho
  have := (orderG_good (l := dat l) i (GoodG.nil _)).names s hs
  rwa [dat_names] at this
theorem orderM_checkG (l : List Gn) : (orderM l).2 = checkG l := by
  unfold orderM
  split
  · rename_i h; rw [h]
  · rfl
set_option maxHeartbeats 4000000 in
set_option maxRecDepth 100000 in
theorem order_any (a : Option Addr) (c : Nat) (l : List Nn) (w : World) (h : NodesAt w a c l) :
    Calls Try.prog 10 #[.slice a l.length c] w fun e w' => (∃ v, e = .returned (.tuple #[v, .int .i64 (orderM (dat l)).2]) ∧ SRow w w' v (orderM (dat l)).1) ∧ Below w.heap.size w w' := by
  have CN := named_any a c l w h
  have A := hid0 h
  have hfew := h.few
  have hsm : ∀ s ∈ l.map Nn.s, s.size ≤ maxLen := fun s hs => by obtain ⟨x, hx, rfl⟩ := List.mem_map.1 hs; exact (h.ok x hx).small
  have HSM := hid0 hsm
  obtain ⟨R, hR⟩ : ∃ R, orderM (dat l) = R := ⟨_, rfl⟩
  rw [hR]
  have HDL := dat_len l
  obtain ⟨n, hn⟩ : ∃ n, l.length = n := ⟨_, rfl⟩
  have HN := hid0 hn
  rw [hn] at CN HDL hfew ⊢
  by_cases h0 : namedG (dat l) = 0
  · have CO := hid0 (fun (W : World) (hW : Below w.heap.size w W) => once_any a c l W (h.later hW) (once_few h0))
    rw [hn] at CO
    rw [h0] at CN
    have hn16 : n ≤ 16 := by have := named_few h0; omega
    have HCY := hid0 (fun (i : Nat) (O : List ByteArray) (ho : orderG (dat l) i [] = O) (hl : O.length = i) (hi : i < n) (hr : readyG (dat l) O = []) => hR.symm.trans (order_cyc h0 ho hl (by omega) hr))
    have HAL := hid0 (fun (O : List ByteArray) (ho : orderG (dat l) n [] = O) (hl : O.length = n) => hR.symm.trans (order_all (O := O) h0 (by rw [HDL]; exact ho) (by rw [HDL]; exact hl)))
    have HRO := hid0 (ready_once (dat l))
    have HON := hid0 (fun i O => order_names (l := l) (i := i) (O := O))
    have HNM := hid0 (show ∀ x ∈ dat l, x.1 ∈ l.map Nn.s from fun x hx => by rw [← dat_names]; exact List.mem_map_of_mem hx)
    have HST := hid0 (fun (O : List ByteArray) (i : Nat) (m : ByteArray) (ho : orderG (dat l) i [] = O) (hm : LeastS (readyG (dat l) O) m) => order_step ho hm.mem hm.least)
    clear h hR h0 hsm hn
    generalize l.map Nn.s = names at HSM HON HNM
    generalize dat l = D at *
    go_enter Try.func10, Try.ntmps10
    go_wp2_with (first | (go_at_call 19; ((with_reducible refine CN.mono ?_); rintro e w1 ⟨rfl, hb1⟩; clear CN)) | (go_at_call 20; go_must ((with_reducible refine (CO.out _ hb1).mono ?_); rintro e w2 ⟨⟨a', c', L, rfl, hL, hdL⟩, hb2⟩; (have HL := hid0 hL); (have HDL2 := hid0 hdL); (have HB2 := hid0 (below_through hb2 hb1.size hb1)); clear hL hdL hb2 hb1 CO)) | fail)
    have hLn : L.length = n := by
      have := congrArg List.length HDL2.out
      unfold onceG at this
      rw [List.length_map, dat_len, HDL] at this
      exact this
    rw [hLn]
    have HLN := hid0 hLn
    clear hLn
    have hS0 := hid0 (SRow.nil (Below.refl w2.heap.size w2))
    go_loopw [5, 16] (fun ov iv wr => ∃ (i : Nat) (O : List ByteArray), i ≤ n ∧ iv = .int .i64 i ∧ SRow w2 wr ov O ∧ Hid (orderG D i [] = O) ∧ O.length = i) (fun _ iv _ => n - (intOf iv).toNat)
    case atStart => exact ⟨0, [], Nat.zero_le _, rfl, hS0.out, hid0 rfl, rfl⟩
    case round =>
      clear hS0
      obtain ⟨i, O, hi, rfl, hS, hT, hol⟩ := hrel
      have hOS : ∀ s ∈ O, s.size ≤ maxLen := fun s hs => HSM.out s (HON.out i O hT.out s hs)
      by_cases hlt : i < n
      · obtain ⟨ao, co, rfl, hco, hSA⟩ := (hS.sl hOS).out
        have CR := ready_any a' ao c' co L O wr (HL.out.later hS.b) hSA (by omega)
        rw [HDL2.out, HRO.out, HLN.out, hol] at CR
        rw [hol] at hco hS ⊢
        have hrl := ready_len D O
        have hCY := hid0 (HCY.out i O hT.out hol hlt)
        have hSM2 := hid0 (show ∀ s ∈ readyG D O, s.size ≤ maxLen from fun s hs => by
          obtain ⟨x, hx, ho, rfl⟩ := ready_mem.1 hs
          exact HSM.out _ (HNM.out x hx))
        have hST := hid0 (fun m => HST.out O i m hT.out)
        obtain ⟨X, hX⟩ : ∃ X, readyG D O = X := ⟨_, rfl⟩
        rw [hX] at CR hrl hCY hSM2 hST
        have HS := hid0 hS
        have HOL := hid0 hol
        clear hSA hX hT hol hS
        by_cases hne : X = []
        · subst hne
          have HR := hid0 (hCY.out rfl)
          clear hCY hrl hST
          go_wp2_with (first | (go_at_call 21; ((with_reducible refine CR.mono ?_); rintro e w3 ⟨⟨v3, rfl, hS3⟩, hb3⟩; (obtain ⟨a3, c3, rfl, hc3, hA3⟩ := (hS3.sl hSM2.out).out); (have HB3 := hid0 (below_through (below_through hb3 HS.out.b.size HS.out.b) HB2.out.size HB2.out)); clear hS3 hb3 hA3 CR)) | fail)
          go_ret2
          exact ⟨⟨_, ret_p HR.out, by rw [HR.out]; exact SRow.nil HB3.out⟩, HB3.out⟩
        · have hp : 0 < X.length := List.length_pos_iff.2 hne
          have hX16 : X.length ≤ 16 := by omega
          obtain ⟨N, hN⟩ : ∃ N, X.length = N := ⟨_, rfl⟩
          have HXN := hid0 hN
          have HP := hid0 hp
          have hN0 : (N : Int) ≠ 0 := by omega
          rw [hN] at hX16
          clear hCY hne hrl hN hp
          go_wp2_with (first | (go_at_call 21; ((with_reducible refine CR.mono ?_); rintro e w3 ⟨⟨v3, rfl, hS3⟩, hb3⟩; (obtain ⟨a3, c3, rfl, hc3, hA3⟩ := (hS3.sl hSM2.out).out); (have CM := minS_any a3 c3 X w3 hA3 (by rw [HXN.out]; omega) HP.out); rw [HXN.out] at hc3 CM ⊢; (have HS3 := hid0 (HS.out.below hb3)); clear hS3 hb3 hA3 CR)) | (go_at_call 22; ((with_reducible refine CM.mono ?_); rintro e w4 ⟨⟨m, rfl, hm⟩, rfl⟩; (have HM := hid0 hm); clear hm CM)) | (at_builtin; refine app_strL rfl _ _ rfl rfl (HS3.out.alloc _) _ 1 1 rfl [m] rfl (one_new _ m _ (hSM2.out m HM.out.mem)) (by rw [HOL.out]; omega) ?_; intro v6 w6 hS6; (have HS6 := hid0 hS6); clear hS6) | fail)
          exact ⟨⟨i + 1, O ++ [m], by omega, by go_num, HS6.out, hid0 (hST.out m HM.out), by rw [List.length_append, HOL.out]; rfl⟩, by simp [intOf]; omega⟩
      · have hie : ¬ (i : Int) < n := by omega
        obtain rfl : i = n := by omega
        have HR := hid0 (HAL.out O hT.out hol)
        have HS := hid0 hS
        clear hT hol hS hOS
        go_wp2
        go_ret2
        exact ⟨⟨_, ret_p HR.out, by rw [HR.out]; exact HS.out.lower HB2.out⟩, below_through HS.out.b HB2.out.size HB2.out⟩
  · have HR := hid0 (hR.symm.trans (order_err h0))
    obtain ⟨k, hk⟩ : ∃ k, namedG (dat l) = k := ⟨_, rfl⟩
    rw [hk] at h0 HR CN
    clear h hR hsm hn hk HN HSM A
    go_enter Try.func10, Try.ntmps10
    go_wp2_with (first | (go_at_call 19; ((with_reducible refine CN.mono ?_); rintro e w1 ⟨rfl, hb1⟩; clear CN)) | fail)
    go_ret2
    exact ⟨⟨_, ret_p HR.out, by rw [HR.out]; exact SRow.nil hb1⟩, hb1⟩
set_option maxHeartbeats 1000000 in
set_option maxRecDepth 100000 in
theorem check_any (a : Option Addr) (c : Nat) (l : List Nn) (w : World) (h : NodesAt w a c l) :
    Calls Try.prog 9 #[.slice a l.length c] w fun e w' => e = .returned (.int .i64 (checkG (dat l))) ∧ Below w.heap.size w w' := by
  have CO := order_any a c l w h
  rw [orderM_checkG] at CO
  generalize (orderM (dat l)).1 = F at CO
  generalize checkG (dat l) = k at CO ⊢
  generalize l.length = n at *
  clear h
  go_enter Try.func9, Try.ntmps9
  go_wp2_with (first | (go_at_call 10; ((with_reducible refine CO.mono ?_); rintro e w1 ⟨⟨v, rfl, hS⟩, hb1⟩; clear CO hS)) | fail)
  go_ret
  exact ⟨rfl, hb1⟩
end Go.Proofs.Ytadlelhdjakmmaa
