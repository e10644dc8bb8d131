/- Several of my texts laid together, each as it was: SxL. Conditions: each names its own. -/
import Derived.Test.YtneebnankghhgabSeL
import Derived.Test.YtneebnankghhgabSz
import Derived.Stop.RegionWithIn
/- The project's tree over []int: the keys of a leaf, with what they have, one after the other: a contract of the call, in whatever memory, for every loop's body that keeps the blocks in which the tree lies. Conditions: the leaf's memory is known; its keys rise. -/
namespace Go.Proofs.Ytneebnankghhgab
open Go.RowKit Go.Shelf

attribute [local go_sem] Oper.semAt_some

/-- What one who goes through keys answers: all have come, to go on; all have come, and one was too high; or a round said to stop. -/
def ToldL (T : Nat → Prop) (J Jx : List (Key × (Nat)) → World → Prop) (frm to : Key) (l : List (Key × (Nat))) (pre : List (Key × (Nat))) (W : World) (e : Ending) (W' : World) : Prop :=
  ∃ bb : Bool, e = .returned (.bool bb) ∧
    ((J (pre ++ flt frm to l) W' ∧ KeepB T W W' ∧ (bb = true ∨ (to ≠ [] ∧ ∃ x ∈ l, ¬ x.1 < to))) ∨ (bb = false ∧ ∃ q, q <+: flt frm to l ∧ Jx (pre ++ q) W'))
/-- A round of the loop's body. -/
def RoundL (T : Nat → Prop) (J Jx : List (Key × (Nat)) → World → Prop) (pre : List (Key × (Nat))) (x : Key × (Nat)) (W1 : World) (e : Ending) (W' : World) : Prop :=
  ∃ bb : Bool, e = .returned (.bool bb) ∧ ((bb = true ∧ J (pre ++ [x]) W' ∧ KeepB T W1 W') ∨ (bb = false ∧ Jx (pre ++ [x]) W'))
set_option maxRecDepth 100000 in
set_option maxHeartbeats 8000000 in
theorem tellL_in (n y N B0 : Nat) (T P : Nat → Prop) (hPT : ∀ b, P b → T b) (J Jx : List (Key × (Nat)) → World → Prop) (hJ : AbidesFrom B0 J)
    (hY : ∀ m pre x W1, J pre W1 → pre.length < N → YieldAt Fence.wide m Try.prog y #[.string (txt x.1), vL x.2] W1 (RoundL T J Jx pre x W1))
    (frm to : Key) (l : List (Key × (Nat))) (b : Nat) (pre : List (Key × (Nat))) (W : World) (hN : NAL P W 0 b l) (hs : Asc l) (hl : l.length ≤ 1000) (h0 : J pre W) (hlen : pre.length + (flt frm to l).length ≤ N) :
    CallsIn Fence.wide n Try.prog 85 #[.pointer (some ⟨b, 0, none⟩), .string (txt frm), .string (txt to), .func (.yield y) #[] #[]] W (ToldL T J Jx frm to l pre W) := by
  obtain ⟨ak, ck, av, cv, q0, q1, _, hk, hv⟩ := hN.open_leaf
  have hPb : P b := (NodeAt.leaf.1 hN).1
  have C := search_any P ak l.length ck (l.map (·.1)) frm W hk (asc_keys hs) hl
  have hfirst := flt_first (frm := frm) (to := to) (l := l)
  have hpl := pl_le frm (l.map (·.1))
  rw [List.length_map] at hpl
  have hge := fun i h1 h2 => pl_ge frm (asc_keys hs) i h1 h2
  obtain ⟨p, hp⟩ : ∃ p, pl frm (l.map (·.1)) = p := ⟨_, rfl⟩
  unfold HasI at C
  rw [hp] at C hfirst hpl hge
  obtain ⟨M, hM⟩ : ∃ M, l.length = M := ⟨_, rfl⟩
  rw [hM] at C q0 q1 hpl hl hk hv
  have HM := hid0 hM
  have HS := hid0 hs
  have HF := hid0 hfirst
  have HG := hid0 hge
  have HKV := hid0 (And.intro hk (And.intro hv (And.intro q0 q1)))
  have HY := hid0 hY
  clear hM hs hfirst hge hk hv hN hp hY
  refine callsIn_of_wp Try.func85 rfl trivial ?_ rfl
  simp only [Try.ntmps85, List.size_toArray, List.length_cons, List.length_nil, Nat.reduceAdd, Nat.reduceSub, Array.replicate_succ, Array.replicate_zero, List.push_toArray, List.append_toArray, List.nil_append, List.cons_append]
  gi_wp2
  refine ⟨trivial, fun h => (by cases h), (callsIn_wide.2 C).mono ?_⟩
  rintro e w' ⟨rfl, rfl⟩
  gi_wp2
  gi_loopw [11] (fun iv wr => ∃ i : Nat, p ≤ i ∧ i ≤ M ∧ iv = .int .i64 i ∧ J (pre ++ flt frm to (l.take i)) wr ∧ KeepB T W wr) (fun iv _ => M - (intOf iv).toNat)
  case atStart => exact ⟨p, Nat.le_refl _, hpl, rfl, by rw [HF.out, List.append_nil]; exact h0, KeepB.refl _ _⟩
  case round =>
    obtain ⟨i, hpi, hi, rfl, hJs, hK⟩ := hrel
    have z0 := hK.cell (hPT b hPb) HKV.out.2.2.1
    have z1 := hK.cell (hPT b hPb) HKV.out.2.2.2
    clear q0 q1
    by_cases hlt : i < M
    · have hil : i < l.length := by have := HM.out; omega
      have hiM : (i : Int) < (M : Int) := by omega
      obtain ⟨x, hx⟩ : ∃ x, l[i] = x := ⟨_, rfl⟩
      have hnf : ¬ x.1 < frm := by
        have := HG.out i (by simpa using hil) hpi
        rw [List.getElem_map, hx] at this
        exact this
      have hkx : (l.map (·.1))[i]? = some x.1 := by rw [List.getElem?_map, List.getElem?_eq_getElem hil, hx]; rfl
      have hvx : (l.map (·.2))[i]? = some x.2 := by rw [List.getElem?_map, List.getElem?_eq_getElem hil, hx]; rfl
      obtain ⟨kb, ko, rfl, hPk, y0⟩ := HKV.out.1.one hkx
      obtain ⟨vb, vo, rfl, hPv, y1⟩ := Sl.one (e1 := vL) HKV.out.2.1 hvx
      replace y0 := hK.cell (hPT _ hPk) y0
      replace y1 := hK.cell (hPT _ hPv) y1
      by_cases hstop : to ≠ [] ∧ ¬ x.1 < to
      · obtain ⟨ht, hxt⟩ := hstop
        have hfs := flt_stop (frm := frm) HS.out hil ht (by rw [hx]; exact hxt)
        have hmem : x ∈ l := by rw [← hx]; exact List.getElem_mem hil
        have htl : ((txt to).toList == []) = false := by
          rw [ByteArray.toList_eq]
          cases to with
          | nil => exact absurd rfl ht
          | cons a r => rfl
        have hbl : Op.bytesLess (txt x.1).toList (txt to).toList = false := by rw [less_key]; simpa using hxt
        have HFIN := hid0 (show J (pre ++ flt frm to l) wr by rw [hfs]; exact hJs)
        have HX := hid0 (show to ≠ [] ∧ ∃ x ∈ l, ¬ x.1 < to from ⟨ht, x, hmem, hxt⟩)
        clear hJs hfs hmem hx hkx hvx hnf hxt ht
        gi_wp2
        go_ret
        exact ⟨false, rfl, .inl ⟨HFIN.out, hK, .inr HX.out⟩⟩
      · have h2 : to = [] ∨ x.1 < to := by
          by_cases ht : to = []
          · exact .inl ht
          · right
            by_cases hxt : x.1 < to
            · exact hxt
            · exact absurd ⟨ht, hxt⟩ hstop
        have hnx := flt_next (frm := frm) (to := to) hil (by rw [hx]; exact hnf) (by rw [hx]; exact h2)
        rw [hx] at hnx
        have hpre := flt_pre (frm := frm) (to := to) (l := l) (i + 1)
        have hlen2 : (pre ++ flt frm to (l.take i)).length < N := by
          have := hpre.length_le
          rw [hnx, List.length_append, List.length_singleton] at this
          rw [List.length_append]; omega
        obtain ⟨fn, tmps, assign, body, hy, hR⟩ := HY.out (n - 1) (pre ++ flt frm to (l.take i)) x wr.drew (abides_drew hJ hJs) hlen2
        unfold vL at hy y1
        have HNX := hid0 hnx
        have HPR := hid0 hpre
        have HK := hid0 hK
        have d0 : wr.drew.cell? ⟨b, 0, none⟩ = some (.slice (some ⟨kb, ko, none⟩) M ck) := z0
        have d1 : wr.drew.cell? ⟨b, 1, none⟩ = some (.slice (some ⟨vb, vo, none⟩) M cv) := z1
        have d2 : wr.drew.cell? ⟨kb, ko + i, none⟩ = some (.string (txt x.1)) := y0
        have d3 := y1
        have htest : to = [] ∨ (((txt to).toList == []) = false ∧ Op.bytesLess (txt x.1).toList (txt to).toList = true) := by
          rcases h2 with h2 | h2
          · exact .inl h2
          · right
            refine ⟨?_, by rw [less_key]; simpa using h2⟩
            rw [ByteArray.toList_eq]
            cases to with
            | nil => exact absurd h2 (List.not_lt_nil _)
            | cons a r => rfl
        clear hJs hx hkx hvx hnf hstop h2 hnx hpre hK
        have fin : ∀ bb W', (bb = true ∧ J (pre ++ flt frm to (l.take i) ++ [x]) W' ∧ KeepB T wr.drew W') ∨ (bb = false ∧ Jx (pre ++ flt frm to (l.take i) ++ [x]) W') →
            (bb = true → J (pre ++ flt frm to (l.take (i + 1))) W' ∧ KeepB T W W') ∧ (bb = false → ∃ q, q <+: flt frm to l ∧ Jx (pre ++ q) W') := fun bb W' h => by
          rcases h with ⟨hb, h1, h2⟩ | ⟨hb, h1⟩
          · refine ⟨fun _ => ⟨by rw [HNX.out, ← List.append_assoc]; exact h1, HK.out.trans ⟨h2.size, h2.block⟩⟩, fun h => (by rw [hb] at h; cases h)⟩
          · refine ⟨fun h => (by rw [hb] at h; cases h), fun _ => ⟨_, HPR.out, by rw [HNX.out, ← List.append_assoc]; exact h1⟩⟩
        have FIN := hid0 fin
        clear fin
        have ht0 : ((txt ([] : Key)).toList == []) = true := by rw [ByteArray.toList_eq]; rfl
        rcases htest with rfl | ⟨ht1, ht2⟩
        all_goals
          gi_wp2
          gi_region_with ((try refine ⟨fun h => (by cases h), ?_⟩); refine hR.mono ?_; rintro e W' ⟨bb, rfl, hres⟩)
          all_goals
            have hfin := hid0 (FIN.out bb W' hres)
            clear hres
            cases bb with
            | true =>
              gi_wp2
              go_roundw
              case rel => exact ⟨i + 1, by omega, by omega, by go_num, (hfin.out.1 (by simp)).1, (hfin.out.1 (by simp)).2⟩
              case measure => simp [intOf]; omega
            | false =>
              gi_wp2
              go_ret
              exact ⟨false, rfl, .inr ⟨rfl, hfin.out.2 (by simp)⟩⟩
    · obtain rfl : i = M := by omega
      have hii : ¬ (i : Int) < (i : Int) := by omega
      have hall : l.take i = l := List.take_of_length_le (by have := HM.out; omega)
      rw [hall] at hJs
      have HJ := hid0 hJs
      clear hJs hall
      gi_wp2
      go_ret
      exact ⟨true, rfl, .inl ⟨HJ.out, hK, .inl rfl⟩⟩
end Go.Proofs.Ytneebnankghhgab
