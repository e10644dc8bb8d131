/- Several of my texts laid together, each as it was: Ud. Conditions: each names its own. -/
import Derived.Test.YtneebnankghhgabUc
import Derived.Deep.RegionLaw
/- The document's own tree: a key is cut: a contract of the call, in whatever memory. Conditions: the tree's memory is known; its keys rise; 1000 keys at most. -/
namespace Go.Proofs.Ytneebnankghhgab
open Go.RowKit

theorem del_here {L : List (Key × Int)} {k : Key} {i : Nat} {y : Key × Int} (hs : Asc L) (hp : pl k (L.map (·.1)) = i) (hy : L[i]? = some y) (hk : y.1 = k) : delA k L = L.take i ++ L.drop (i + 1) := by
  have hh : hasK k (L.map (·.1)) = true := by unfold hasK; rw [hp, List.getElem?_map, hy]; simp [hk]
  have h := del_at hs hh
  rw [hp] at h
  exact h
set_option maxRecDepth 100000 in
set_option maxHeartbeats 8000000 in
theorem refCut_any (B : Nat) (vk vv : Value) (L : List (Key × Int)) (k : Key) (w : World) (h : RefAt w B vk vv L) (hl : L.length ≤ 1000) (hs : Asc L) :
    Calls Try.prog 24 #[.pointer (some ⟨B, 0, none⟩), .string (txt k)] w fun e w' => e = .returned (.tuple #[ovI (getA k L), .bool (hasO (getA k L))]) ∧ ∃ vk' vv', RefAt w' B vk' vv' (delA k L) ∧ TurnR B vv vv' w w' := by
  have CG := refGet_any B vk vv L k w h hl hs
  have CP := refPlace_any B vk vv L k w h hl
  obtain ⟨i, hi⟩ : ∃ i, pl k (L.map (·.1)) = i := ⟨_, rfl⟩
  have hh := ref_here hs hi
  rw [hi] at CP
  have hh' : getA k L = none ∨ ∃ y, L[i]? = some y ∧ y.1 = k ∧ getA k L = some y.2 := by
    rcases hh with ⟨_, hq⟩ | ⟨y, hy, ⟨hk, hq⟩ | ⟨_, hq⟩⟩
    · exact .inl hq
    · exact .inr ⟨y, hy, hk, hq⟩
    · exact .inl hq
  rcases hh' with hq | ⟨y, hy, hk, hq⟩
  · rw [hq] at CG ⊢
    have HF := hid0 (show RefAt w B vk vv (delA k L) ∧ TurnR B vv vv w w by rw [delI_same hq]; exact ⟨h, ⟨Nat.le_refl _, fun _ _ _ _ => rfl, .inl rfl, ⟨rfl, rfl, rfl⟩⟩⟩)
    clear h hs hi hh CP
    go_enter Try.func24, Try.ntmps24
    go_wp2_with fail
    refine CG.mono ?_
    rintro e w' ⟨rfl, rfl⟩
    go_wp2_with fail
    go_ret2
    exact ⟨rfl, _, _, HF.out.1, HF.out.2⟩
  · rw [hq] at CG ⊢
    have hdel := del_here hs hi hy hk
    have hin : i < L.length := (List.getElem?_eq_some_iff.1 hy).1
    obtain ⟨n, hn⟩ : ∃ n, L.length = n := ⟨_, rfl⟩
    rw [hn] at hl hin
    obtain ⟨iS, hiS, _, hiS1, _⟩ := info_parts infoS
    obtain ⟨iI, hiI, _, hiI1, _⟩ := info_parts infoVI
    obtain ⟨a, c, a', c', rfl, rfl⟩ := h.shape
    obtain ⟨a1, c1, run1, part1⟩ := part_lo (P := Try.prog) (T := 46) (by rfl) (by rfl) hiS h.rk (i := i) (by omega) (by omega)
    obtain ⟨a2, c2, run2', part2⟩ := part_hi (P := Try.prog) (T := 46) (by rfl) (by rfl) hiS hiS1 h.rk (i := i + 1) (by omega) (by omega)
    have z0 := h.c0
    rw [hn] at run1 run2' z0
    have run2 : ∀ W : World, (Instr.slice 46 (.slice a n c) (some (.int .i64 ((i : Int) + 1))) none none).run Try.prog W = .ok (.slice a2 (n - (i + 1)) c2) W := run2'
    have hwi : IntKind.i64.wrap ((i : Int) + 1) = (i : Int) + 1 := IntWalk.i64_in _ (by omega)
    have hf0 := h.f 0
    have hBl := h.lt
    have HH := hid0 h
    have hm : i + (n - (i + 1)) = (delA k L).length := by rw [hdel]; simp; omega
    have hxk : rkC (delA k L) = (rkC L).take i ++ (rkC L).drop (i + 1) := by rw [hdel]; simp [rkC, List.map_take, List.map_drop]
    have hxv : rvC (delA k L) = (rvC L).take i ++ (rvC L).drop (i + 1) := by rw [hdel]; simp [rvC, List.map_take, List.map_drop]
    have HM := hid0 (And.intro hm (And.intro hxk hxv))
    have HN := hid0 hn
    have HLK := hid0 (show ((rkC L).take i).length = i by unfold rkC; rw [List.length_take, List.length_map]; omega)
    have HLD := hid0 (show ((rkC L).drop (i + 1)).length = n - (i + 1) by unfold rkC; rw [List.length_drop, List.length_map]; omega)
    have HVK := hid0 (show ((rvC L).take i).length = i by unfold rvC; rw [List.length_take, List.length_map]; omega)
    have HVD := hid0 (show ((rvC L).drop (i + 1)).length = n - (i + 1) by unfold rvC; rw [List.length_drop, List.length_map]; omega)
    have hone : ∀ u ∈ rkC L, u.oneCell' = true := by intro u hu; unfold rkC at hu; obtain ⟨y, _, rfl⟩ := List.mem_map.1 hu; rfl
    have hvne : ∀ u ∈ rvC L, u.oneCell' = true := by intro u hu; unfold rvC at hu; obtain ⟨y, _, rfl⟩ := List.mem_map.1 hu; rfl
    have h1k : ∀ u ∈ (rkC L).take i, u.oneCell' = true := fun u hu => hone u (List.mem_of_mem_take hu)
    have h1d : ∀ u ∈ (rkC L).drop (i + 1), u.oneCell' = true := fun u hu => hone u (List.mem_of_mem_drop hu)
    have hvk : ∀ u ∈ (rvC L).take i, u.oneCell' = true := fun u hu => hvne u (List.mem_of_mem_take hu)
    have hvd : ∀ u ∈ (rvC L).drop (i + 1), u.oneCell' = true := fun u hu => hvne u (List.mem_of_mem_drop hu)
    have hSa : ∀ W, Below w.heap.size w W → W.cell? ⟨B, 0, none⟩ = w.cell? ⟨B, 0, none⟩ ∧ Below w.heap.size w W := fun W hb => ⟨(cell_later hb h.c0).trans h.c0.symm, hb⟩
    clear hdel hm hxk hxv h hs hi hh hn hone hvne hq hy hk run2'
    go_enter Try.func24, Try.ntmps24
    go_wp2_with fail
    refine CG.mono ?_
    rintro e w' ⟨rfl, rfl⟩
    go_wp2_with fail
    refine CP.mono ?_
    rintro e w' ⟨rfl, rfl⟩
    go_wp2_with fail
    go_cut [] from 9 (fun wr => ∃ v, MidR B w wr v (.slice a' L.length c') (delA k L) L)
    case first =>
      go_region_law
      (first
        | (refine step_row7 (v := .slice (some ⟨_, 0, none⟩) 0 0) (by rfl) _ _ 46 9 _ _ infoS (by rfl) (by rfl) (by decide) (by rfl) (by rfl) w.heap.size 0 [] (by repeat (first | exact made7 _ _ _ (by simp) | exact made7b _ _ _ _ (by simp) | with_reducible refine World.ownsRow.drew ?_ | with_reducible refine World.ownsRow.alloc ?_ _)) a1 i c1 (by rfl) ((rkC L).take i) HLK.out (part1 _ (by repeat (first | with_reducible assumption | exact Below.refl _ _ | refine Below.drew ?_ | refine below_al ?_ _))) h1k (by omega) (by simp <;> omega) ?_; intro v1 w1 hown1 hgrow1 hb1; rw [Nat.zero_add, List.nil_append] at hown1; have hB1 : Below w.heap.size w w1 := Below.trans (by repeat (first | with_reducible assumption | exact Below.refl _ _ | refine Below.drew ?_ | refine below_al ?_ _)) hb1; clear hb1; have hc1 := cell_later hB1 z0; have ha1 := fun o => cell_later (below_al hB1 o) z0)
        | (refine step_row7 (by rfl) _ _ 46 9 _ _ infoS (by rfl) (by rfl) (by decide) (by rfl) (by rfl) w.heap.size i ((rkC L).take i) (by repeat (first | exact hown1 | with_reducible refine World.ownsRow.drew ?_ | with_reducible refine World.ownsRow.alloc ?_ _)) a2 (n - (i + 1)) c2 (by rfl) ((rkC L).drop (i + 1)) HLD.out (part2 _ (by repeat (first | with_reducible assumption | exact Below.refl _ _ | refine Below.drew ?_ | refine below_al ?_ _))) h1d (by omega) (by exact hB1.size) ?_; intro v3 w3 hown3 hgrow3 hb3; obtain ⟨a3, c3', rfl, -⟩ := own_shape hown3; have hB3 : Below w.heap.size w w3 := Below.trans (by repeat (first | with_reducible assumption | exact Below.refl _ _ | refine Below.drew ?_ | refine below_al ?_ _)) hb3; clear hb3; have hf3 := (hB3.frozen (p := ⟨B, 0, none⟩) hBl).trans hf0; have hc3 := cell_later hB3 z0)
        | fail)
      all_goals
        go_wp2_with fail
        go_meet
        case rel => exact ⟨_, mid_of HH.out hB3 hown3 HM.out.1 HM.out.2.1.symm⟩
    case rest =>
      obtain ⟨vk', hMid⟩ := hcut
      clear part1 part2 run1 run2 z0 hf0 hSa
      obtain ⟨b1, d1, run1, part1⟩ := part_lo (P := Try.prog) (T := 37) (by rfl) (by rfl) hiI hMid.rv (i := i) (by have := HN.out; omega) (by have := HN.out; omega)
      obtain ⟨b2, d2, run2', part2⟩ := part_hi (P := Try.prog) (T := 37) (by rfl) (by rfl) hiI hiI1 hMid.rv (i := i + 1) (by have := HN.out; omega) (by have := HN.out; omega)
      have z0 := hMid.c1
      rw [HN.out] at run1 run2' z0
      have run2 : ∀ W : World, (Instr.slice 37 (.slice a' n c') (some (.int .i64 ((i : Int) + 1))) none none).run Try.prog W = .ok (.slice b2 (n - (i + 1)) d2) W := run2'
      clear run2'
      have hf0 := hMid.f 1
      have hBl2 : B < wc.heap.size := Nat.lt_of_lt_of_le hBl hMid.size
      have hSa : ∀ W, Below wc.heap.size wc W → W.cell? ⟨B, 1, none⟩ = wc.cell? ⟨B, 1, none⟩ ∧ Below wc.heap.size wc W := fun W hb => ⟨(cell_later hb z0).trans z0.symm, hb⟩
      have HMID := hid0 hMid
      clear hMid
      go_wp2_with fail
      go_region_law
      (first
        | (refine step_row7 (v := .slice (some ⟨_, 0, none⟩) 0 0) (by rfl) _ _ 37 3 _ _ infoVI (by rfl) (by rfl) (by decide) (by rfl) (by rfl) wc.heap.size 0 [] (by repeat (first | exact made7 _ _ _ (by simp) | exact made7b _ _ _ _ (by simp) | with_reducible refine World.ownsRow.drew ?_ | with_reducible refine World.ownsRow.alloc ?_ _)) b1 i d1 (by rfl) ((rvC L).take i) HVK.out (part1 _ (by repeat (first | with_reducible assumption | exact Below.refl _ _ | refine Below.drew ?_ | refine below_al ?_ _))) hvk (by omega) (by simp <;> omega) ?_; intro v1 w1 hown1 hgrow1 hb1; rw [Nat.zero_add, List.nil_append] at hown1; have hB1 : Below wc.heap.size wc w1 := Below.trans (by repeat (first | with_reducible assumption | exact Below.refl _ _ | refine Below.drew ?_ | refine below_al ?_ _)) hb1; clear hb1; have hc1 := cell_later hB1 z0; have ha1 := fun o => cell_later (below_al hB1 o) z0)
        | (refine step_row7 (by rfl) _ _ 37 3 _ _ infoVI (by rfl) (by rfl) (by decide) (by rfl) (by rfl) wc.heap.size i ((rvC L).take i) (by repeat (first | exact hown1 | with_reducible refine World.ownsRow.drew ?_ | with_reducible refine World.ownsRow.alloc ?_ _)) b2 (n - (i + 1)) d2 (by rfl) ((rvC L).drop (i + 1)) HVD.out (part2 _ (by repeat (first | with_reducible assumption | exact Below.refl _ _ | refine Below.drew ?_ | refine below_al ?_ _))) hvd (by omega) (by exact hB1.size) ?_; intro v3 w3 hown3 hgrow3 hb3; obtain ⟨a3, c3', rfl, -⟩ := own_shape hown3; have hB3 : Below wc.heap.size wc w3 := Below.trans (by repeat (first | with_reducible assumption | exact Below.refl _ _ | refine Below.drew ?_ | refine below_al ?_ _)) hb3; clear hb3; have hf3 := (hB3.frozen (p := ⟨B, 1, none⟩) hBl2).trans hf0; have hc3 := cell_later hB3 z0)
        | fail)
      all_goals
        go_wp2_with fail
        go_ret2
        have hF := fin_of HMID.out hBl hB3 hown3 HM.out.1 HM.out.2.2.symm
        exact ⟨rfl, _, _, hF.1, hF.2⟩
end Go.Proofs.Ytneebnankghhgab
