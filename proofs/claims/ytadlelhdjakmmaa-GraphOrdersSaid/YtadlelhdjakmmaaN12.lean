/- The project's Above: the contract of the call; names rising, each once. Conditions: the names' cells are known. -/
import Derived.Test.YtadlelhdjakmmaaN11
import Derived.Test.YtadlelhdjakmmaaShelf
import Derived.Sort.OwnSorted
namespace Go.Proofs.Ytadlelhdjakmmaa
open Go.RowKit

theorem strs_enc (F : List ByteArray) : strs F = (F.map bl).map Go.Proofs.encStr := by
  unfold strs
  rw [List.map_map]
  rfl
theorem enc_strs (l : List (List UInt8)) : l.map Go.Proofs.encStr = strs (l.map bs) := by
  unfold strs
  rw [List.map_map]
  rfl
/-- Texts rising, each once. -/
def riseB (F : List ByteArray) : List ByteArray := (Lib.compact ((F.map bl).mergeSort fun x y => decide (x ≤ y))).map bs
theorem compactB_len (zs : List (List UInt8)) : (Lib.compact zs).length ≤ zs.length := by
  unfold Lib.compact Lib.compactUpTo
  rw [List.length_map]
  exact Nat.le_trans (List.length_filter_le _ _) (by simp)
theorem compactB_at (zs : List (List UInt8)) (x : List UInt8) : x ∈ Lib.compact zs ↔ ∃ i, ∃ h : i < zs.length, zs[i] = x ∧ (i = 0 ∨ ∃ h' : i - 1 < zs.length, zs[i - 1] ≠ zs[i]) := by
  unfold Lib.compact Lib.compactUpTo
  simp only [List.mem_map, List.mem_filter, List.mem_range]
  constructor
  · rintro ⟨i, ⟨hi, hk⟩, rfl⟩
    refine ⟨i, hi, by simp [hi], ?_⟩
    rcases Nat.eq_zero_or_pos i with h0 | h0
    · exact .inl h0
    · refine .inr ⟨by omega, fun e => ?_⟩
      simp [Lib.keeps, show i ≠ 0 by omega, hi, show i - 1 < zs.length by omega] at hk
      exact hk e.symm
  · rintro ⟨i, hi, rfl, hk⟩
    refine ⟨i, ⟨hi, ?_⟩, by simp [hi]⟩
    rcases Nat.eq_zero_or_pos i with h0 | h0
    · simp [Lib.keeps, h0]
    · rcases hk with h | ⟨h1, h2⟩
      · omega
      · simp [Lib.keeps, show i ≠ 0 by omega, hi, show i - 1 < zs.length by omega]
        exact fun e => h2 e.symm
theorem mem_compactB (zs : List (List UInt8)) (x : List UInt8) : x ∈ Lib.compact zs ↔ x ∈ zs := by
  rw [compactB_at]
  constructor
  · rintro ⟨i, hi, rfl, _⟩; exact List.getElem_mem hi
  · intro hx
    obtain ⟨i, hi, rfl⟩ := List.mem_iff_getElem.1 hx
    clear hx
    induction i with
    | zero => exact ⟨0, hi, rfl, .inl rfl⟩
    | succ i ih =>
      by_cases h : zs[i] = zs[i + 1]
      · rw [← h]; exact ih (by omega)
      · exact ⟨i + 1, hi, rfl, .inr ⟨by omega, h⟩⟩
theorem mem_riseB (F : List ByteArray) (x : ByteArray) : x ∈ riseB F ↔ x ∈ F := by
  unfold riseB
  rw [List.mem_map]
  constructor
  · rintro ⟨y, hy, rfl⟩
    rw [mem_compactB, List.mem_mergeSort, List.mem_map] at hy
    obtain ⟨z, hz, rfl⟩ := hy
    exact hz
  · intro hx
    exact ⟨bl x, by rw [mem_compactB, List.mem_mergeSort, List.mem_map]; exact ⟨x, hx, rfl⟩, rfl⟩
theorem riseB_len (F : List ByteArray) : (riseB F).length ≤ F.length := by
  have := compactB_len ((F.map bl).mergeSort fun x y => decide (x ≤ y))
  rw [List.length_mergeSort, List.length_map] at this
  unfold riseB
  rw [List.length_map]
  exact this
open Go.Sort
def sortB (F : List ByteArray) : List ByteArray := ((F.map bl).mergeSort fun x y => decide (x ≤ y)).map bs
theorem sortB_len (F : List ByteArray) : (sortB F).length = F.length := by simp [sortB]
theorem sortB_bl (F : List ByteArray) : (sortB F).map bl = (F.map bl).mergeSort fun x y => decide (x ≤ y) := by
  unfold sortB
  rw [List.map_map]
  exact List.map_id _
theorem mem_sortB {F : List ByteArray} {s : ByteArray} (h : s ∈ sortB F) : s ∈ F := by
  unfold sortB at h
  rw [List.mem_map] at h
  obtain ⟨y, hy, rfl⟩ := h
  rw [List.mem_mergeSort, List.mem_map] at hy
  obtain ⟨z, hz, rfl⟩ := hy
  exact hz
theorem sortB_any {w0 w : World} {v : Value} {F : List ByteArray} (hF : SRow w0 w v F) (hs : F.length ≤ 8000000) :
    Calls Try.prog 30 #[v] w fun e w' => e = .returned (.tuple #[]) ∧ SRow w0 w' v (sortB F) := by
  rcases hF.own.2 with ⟨rfl, hn⟩ | ⟨g, cap, cur, rfl, hg, hh, hnc, hcm, hsz, htake⟩
  · obtain rfl : F = [] := List.length_eq_zero_iff.1 hn
    refine (Try.slices_Sort_string_none none 0 w).mono ?_
    rintro e w1 ⟨rfl, rfl⟩
    exact ⟨rfl, by simpa [sortB] using hF⟩
  · have hgs := (hF.own.lt g rfl).2
    have htk : cur.toList.take (F.map bl).length = (F.map bl).map encStr := by rw [List.length_map, ← strs_enc]; simpa using htake
    have hH := holds_of_block hh htk
    have C1 := Try.slices_Sort_string g 0 cap (F.map bl) w hH hgs (by rw [List.length_map]; omega)
    rw [List.length_map] at C1
    refine C1.mono ?_
    rintro e w' ⟨rfl, n, os, rfl⟩
    refine ⟨rfl, ?_, hF.b.grown (grownBy_sorted _) hF.b.size (fun k hk => by cases hk; exact hg)⟩
    have := ownsRow_sorted (n := n) (os := os) (ts := (F.map bl).mergeSort fun x y => decide (x ≤ y)) (ss := F.map bl) (by simp) hg hh (by rw [List.length_map]; exact hnc) hcm (by simpa using hsz)
    rw [List.length_map, enc_strs] at this
    rw [sortB_len]
    exact this
theorem compactB_any {w0 w : World} {v : Value} {F : List ByteArray} (hF : SRow w0 w v F) (hs : F.length ≤ 8000000) (hz : ∀ s ∈ F, s.size ≤ maxLen) :
    Calls Try.prog 31 #[v] w fun e w' => (∃ a c, (Lib.compact (F.map bl)).length ≤ c ∧ e = .returned (.slice a (Lib.compact (F.map bl)).length c) ∧ StrsA w' a ((Lib.compact (F.map bl)).map bs)) ∧ Below w0.heap.size w0 w' := by
  have hzm : ∀ s ∈ (Lib.compact (F.map bl)).map bs, s.size ≤ maxLen := fun s h => by
    obtain ⟨y, hy, rfl⟩ := List.mem_map.1 h
    rw [mem_compactB] at hy
    obtain ⟨z, hz', rfl⟩ := List.mem_map.1 hy
    exact hz _ hz'
  rcases hF.own.2 with ⟨rfl, hn⟩ | ⟨g, cap, cur, rfl, hg, hh, hnc, hcm, hsz, htake⟩
  · obtain rfl : F = [] := List.length_eq_zero_iff.1 hn
    refine (Try.slices_Compact_string_empty none 0 w).mono ?_
    rintro e w1 ⟨rfl, rfl⟩
    exact ⟨⟨none, 0, compactB_len [], rfl, ⟨fun h => absurd rfl h, hzm⟩⟩, hF.b⟩
  · have htk : cur.toList.take (F.map bl).length = (F.map bl).map encStr := by rw [List.length_map, ← strs_enc]; simpa using htake
    have hH := holds_of_block hh htk
    have hlz : (F.map bl).length = F.length := List.length_map ..
    generalize F.map bl = zs at hH hlz hzm ⊢
    have hcl := compactB_len zs
    have C2 := Try.slices_Compact_string g 0 cap zs w hH (by omega) (by omega)
    rw [hlz] at C2
    refine C2.mono ?_
    rintro e w' ⟨rfl, q, hw⟩
    have hgrow0 : ∀ W : World, grow W #[] = W := fun W => by simp [grow]
    have hw' : w' = grow (putRow encStr (Sort.ahead w q) g 0 (Lib.compact zs ++ List.replicate (zs.length - (Lib.compact zs).length) []).toArray) #[] := by rw [hgrow0, hlz]; exact hw
    clear hw
    have hl2 : (Lib.compact zs ++ List.replicate (zs.length - (Lib.compact zs).length) []).length = zs.length := by simp; omega
    have O2 := ownsRow_sorted (n := q) (os := #[]) hl2 hg hh (by omega) hcm (by simpa using hsz)
    rw [← hw', enc_strs, List.map_append] at O2
    obtain ⟨a, c, ev, _, hS⟩ := strs_owned O2 (by rw [← List.map_append, List.length_map, hl2]) (fun s h => by
      rcases List.mem_append.1 h with h | h
      · exact hzm s h
      · obtain ⟨y, hy, rfl⟩ := List.mem_map.1 h
        rw [List.eq_of_mem_replicate hy]
        exact Nat.zero_le _)
    obtain rfl : a = some ⟨g, 0, none⟩ := (Value.slice.inj ev).1.symm
    refine ⟨⟨some ⟨g, 0, none⟩, cap, by omega, rfl, ⟨fun hne => ?_, hzm⟩⟩, ?_⟩
    · obtain ⟨b, o, e, hc⟩ := hS.out (fun e => hne (List.append_eq_nil_iff.1 e).1)
      refine ⟨b, o, e, fun i hi => ?_⟩
      rw [hc i (by rw [List.length_append]; omega), List.getElem_append_left hi]
    · rw [hw']
      exact hF.b.grown (grownBy_sorted _) hF.b.size (fun k hk => by cases hk; exact hg)
theorem bl_inj {x y : ByteArray} (h : bl x = bl y) : x = y := by
  have := congrArg bs h
  rwa [bs_bl, bs_bl] at this
theorem ltL_of {a b c : List UInt8} (h1 : a ≤ b) (h2 : b ≤ c) (h3 : b ≠ c) : a < c := by
  by_cases h : a < c
  · exact h
  · have h4 : c ≤ a := List.not_lt.1 h
    exact absurd (List.le_antisymm h2 (List.le_trans h4 h1)) h3
theorem compactB_lt (zs : List (List UInt8)) (hs : zs.Pairwise (· ≤ ·)) : (Lib.compact zs).Pairwise (· < ·) := by
  unfold Lib.compact Lib.compactUpTo
  rw [List.pairwise_map]
  have h0 := (List.pairwise_lt_range (n := zs.length)).filter (Lib.keeps zs.toArray)
  refine List.Pairwise.imp_of_mem ?_ h0
  intro i j hi hj hij
  simp only [List.mem_filter, List.mem_range] at hi hj
  have hk := hj.2
  simp [Lib.keeps, show j ≠ 0 by omega, hj.1, show j - 1 < zs.length by omega] at hk
  have h1 : zs[i]'hi.1 ≤ zs[j - 1]'(by omega) := by
    rcases Nat.lt_or_ge i (j - 1) with h | h
    · exact List.pairwise_iff_getElem.1 hs i (j - 1) hi.1 (by omega) h
    · obtain rfl : i = j - 1 := by omega
      exact List.le_refl _
  have h2 : zs[j - 1]'(by omega) ≤ zs[j]'hj.1 := List.pairwise_iff_getElem.1 hs (j - 1) j (by omega) hj.1 (by omega)
  simp only [List.size_toArray, hi.1, hj.1, getElem!_pos]
  exact ltL_of h1 h2 (fun e => hk e.symm)
theorem sortB_pair (F : List (List UInt8)) : (F.mergeSort fun x y => decide (x ≤ y)).Pairwise (· ≤ ·) := by
  have h := List.pairwise_mergeSort (le := fun x y : List UInt8 => decide (x ≤ y)) (fun a b c h1 h2 => by
    simp only [decide_eq_true_eq] at *
    exact List.le_trans h1 h2) (fun a b => by
    have := List.le_total a b
    simpa using this) F
  exact h.imp (fun h => by simpa using h)
theorem riseB_lt (F : List ByteArray) : (riseB F).Pairwise (fun x y => bl x < bl y) := by
  unfold riseB
  rw [List.pairwise_map]
  exact compactB_lt _ (sortB_pair _)
def readsG (l : List Gn) (name : ByteArray) : List ByteArray := (l.filter fun x => decide (name ∈ x.2)).map (·.1)
theorem above_rise (l : List Gn) (name : ByteArray) : riseB (readsG l name) = aboveG l name := above_is (riseB_lt _) (fun s => by
  rw [mem_riseB]
  unfold readsG
  simp only [List.mem_map, List.mem_filter, decide_eq_true_eq]
  constructor
  · rintro ⟨x, ⟨h1, h2⟩, rfl⟩; exact ⟨x, h1, rfl, h2⟩
  · rintro ⟨x, h1, rfl, h2⟩; exact ⟨x, ⟨h1, h2⟩, rfl⟩)
theorem reads_dat (l : List Nn) (name : ByteArray) (i : Nat) (h : i < l.length) : readsG (dat (l.take (i + 1))) name = if name ∈ l[i].rs then readsG (dat (l.take i)) name ++ [l[i].s] else readsG (dat (l.take i)) name := by
  unfold readsG dat
  rw [List.take_succ_eq_append_getElem h, List.map_append, List.filter_append, List.map_append]
  by_cases hc : name ∈ l[i].rs
  · rw [if_pos hc]
    simp [Nn.dat, hc]
  · rw [if_neg hc]
    simp [Nn.dat, hc]
theorem reads_len (l : List Gn) (name : ByteArray) : (readsG l name).length ≤ l.length := by
  unfold readsG
  rw [List.length_map]
  exact List.length_filter_le _ _
theorem reads_names {l : List Nn} {name : ByteArray} : ∀ s ∈ readsG (dat l) name, s ∈ l.map Nn.s := fun s hs => by
  rw [← dat_names]
  unfold readsG at hs
  obtain ⟨x, hx, rfl⟩ := List.mem_map.1 hs
  exact List.mem_map_of_mem (List.mem_filter.1 hx).1
theorem SL.mk' {w : World} {a : Option Addr} {c : Nat} {L : List (List UInt8)} (hc : L.length ≤ c) (h : StrsA w a (L.map bs)) : SL w (.slice a L.length c) (L.map bs) := by
  refine ⟨⟨a, c, ?_, ?_, h⟩⟩
  · rw [List.length_map]
  · rw [List.length_map]; exact hc
set_option maxHeartbeats 4000000 in
set_option maxRecDepth 100000 in
theorem above_any (a : Option Addr) (c : Nat) (l : List Nn) (name : ByteArray) (w : World) (h : NodesAt w a c l) (hl8 : l.length ≤ 8000000) :
    Calls Try.prog 16 #[.slice a l.length c, .string name] w fun e w' => (∃ v, e = .returned v ∧ SL w' v (aboveG (dat l) name)) ∧ Below w.heap.size w w' := by
  have A := hid0 h
  have hfew := h.few
  have hsm0 : ∀ s ∈ readsG (dat l) name, s.size ≤ maxLen := fun s hs => by obtain ⟨x, hx, rfl⟩ := List.mem_map.1 (reads_names s hs); exact (h.ok x hx).small
  have HSM := hid0 hsm0
  have HST := hid0 (reads_dat l name)
  have HLE := hid0 (fun i => reads_len (dat (l.take i)) name)
  have HE := hid0 (show readsG (dat (l.take l.length)) name = readsG (dat l) name by rw [List.take_length])
  have HR := hid0 (above_rise (dat l) name)
  have hnx : riseB (readsG (dat l) name) = (Lib.compact ((sortB (readsG (dat l) name)).map bl)).map bs := by rw [sortB_bl]; rfl
  have HNX := hid0 hnx
  obtain ⟨n, hn⟩ : ∃ n, l.length = n := ⟨_, rfl⟩
  have HN := hid0 hn
  rw [hn] at hfew HE hl8 ⊢
  have hS0 : SRow w w (.slice none 0 0) (readsG (dat (l.take 0)) name) := SRow.nil (Below.refl _ _)
  have hS0 := hid0 hS0
  clear h hn hsm0 hnx
  go_enter Try.func16, Try.ntmps16
  go_wp2
  go_loopw [5, 10] (fun ov iv wr => ∃ i : Nat, i ≤ n ∧ iv = .int .i64 i ∧ SRow w wr ov (readsG (dat (l.take i)) name)) (fun _ iv _ => n - (intOf iv).toNat)
  case atStart => exact ⟨0, Nat.zero_le _, rfl, hS0.out⟩
  case round =>
    clear hS0
    obtain ⟨i, hi, rfl, hS⟩ := hrel
    have hB := hS.b
    have hsz := hB.size
    have hle : (readsG (dat (l.take i)) name).length ≤ n := by
      have := HLE.out i
      rw [dat_len, List.length_take] at this
      omega
    by_cases hlt : i < n
    · have g1 : i < l.length := by rw [HN.out]; exact hlt
      obtain ⟨b1, o1, rfl, hb1, hR⟩ := (A.out.later hB).node i g1
      have hok := (A.out.ok _ (List.getElem_mem g1))
      have hst := HST.out i g1
      generalize l[i] = p at hR hok hst
      generalize readsG (dat (l.take i)) name = F at hS hst hle
      have V0 : VarB (wr.alloc (Obj.cells #[.string ⟨#[]⟩, .slice none 0 0] 35)) wr.heap.size zNn := VarB.new wr zNn 35
      have hl := p.cells_len
      have h1' := p.one
      have hf0 := p.cells0
      have hf1 := p.cells1
      have hfw := hok.few
      have HRS := hid0 hok.rs
      have hxs := hid0 hok.small
      have HSm := hid0 (fun W (hW : Below wr.heap.size wr W) => show Below w.heap.size w W from below_through hW hsz hB)
      have CX := hid0 (fun (W : World) (hW : Below w.heap.size w W) => containsS_any p.a p.c p.rs name W (HRS.out.later hW) (by omega))
      have HS := hid0 hS
      have hst := hid0 hst
      clear hok HRS hS hB hsz
      generalize p.cells = us at hR hl h1' hf0 hf1
      generalize p.a = pa at hf1 CX
      generalize p.c = pc at hf1 CX
      generalize p.rs = rs at hf1 CX hst hfw
      generalize p.s = s at hf0 hst hxs
      by_cases h1 : name ∈ rs
      · rw [decide_eq_true h1] at CX
        have HE2 := hid0 (hst.out.trans (if_pos h1))
        clear h1 hst
        go_wp2_with (first | ((with_reducible refine wp_getB hR Try.underlying35 ?_ ?_ ?_ ?_); (rfl); (rw [hl]; exact infoNode); (rfl); simp only [Act.put]) | ((with_reducible refine wp_putB V0 h1' ?_ ?_ ?_ ?_ ?_); (exact hl); (exact infoNode); (rfl); (rfl); intro w5 hV5 hw5; (have hb5 : Below wr.heap.size wr w5 := by rw [hw5.out]; exact below_setCells _ 0 ((Below.refl _ _).alloc (Nat.le_refl _) _) (Nat.le_refl _)); (have c5 := hV5.cell 0 hf0); (have d5 := hV5.cell 1 hf1); clear hw5 V0; simp only [Act.put]) | (go_at_call 24; ((with_reducible refine (CX.out _ (HSm.out _ hb5)).mono ?_); rintro e w6 ⟨rfl, rfl⟩)) | (at_builtin; refine app_strL rfl _ _ rfl rfl ((HS.out.below hb5).alloc _) _ 1 1 rfl [s] rfl (one_new _ s _ hxs.out) (by omega) ?_; intro v6 w6 hS6; (have HS6 := hid0 hS6); clear hS6) | fail)
        exact ⟨⟨i + 1, by omega, by go_num, by rw [HE2.out]; exact HS6.out⟩, by simp [intOf]; omega⟩
      · rw [decide_eq_false h1] at CX
        have HE2 := hid0 (hst.out.trans (if_neg h1))
        clear h1 hst
        go_wp2_with (first | ((with_reducible refine wp_getB hR Try.underlying35 ?_ ?_ ?_ ?_); (rfl); (rw [hl]; exact infoNode); (rfl); simp only [Act.put]) | ((with_reducible refine wp_putB V0 h1' ?_ ?_ ?_ ?_ ?_); (exact hl); (exact infoNode); (rfl); (rfl); intro w5 hV5 hw5; (have hb5 : Below wr.heap.size wr w5 := by rw [hw5.out]; exact below_setCells _ 0 ((Below.refl _ _).alloc (Nat.le_refl _) _) (Nat.le_refl _)); (have c5 := hV5.cell 0 hf0); (have d5 := hV5.cell 1 hf1); clear hw5 V0; simp only [Act.put]) | (go_at_call 24; ((with_reducible refine (CX.out _ (HSm.out _ hb5)).mono ?_); rintro e w6 ⟨rfl, rfl⟩)) | fail)
        exact ⟨⟨i + 1, by omega, by go_num, by rw [HE2.out]; exact HS.out.below hb5⟩, by simp [intOf]; omega⟩
    · have hie : ¬ (i : Int) < n := by omega
      obtain rfl : i = n := by omega
      rw [HE.out] at hS hle
      have HS := hid0 hS
      clear hS hB hsz
      go_wp2_with fail
      go_at_call 30
      refine (sortB_any HS.out (by omega)).mono ?_
      rintro e w2 ⟨rfl, hS2⟩
      go_wp2_with fail
      go_at_call 31
      refine (compactB_any hS2 (by rw [sortB_len]; omega) (fun s hs => HSM.out s (mem_sortB hs))).mono ?_
      rintro e w3 ⟨⟨a2, c2, hc2, rfl, hA⟩, hB3⟩
      have HA := hid0 hA
      clear hA
      go_wp2_with fail
      go_ret
      exact ⟨⟨_, rfl, by rw [← HR.out, HNX.out]; exact SL.mk' hc2 HA.out⟩, hB3⟩
end Go.Proofs.Ytadlelhdjakmmaa
