/- TreePlays: behind any steps each answer, and the keys at last, are the document's. Conditions: the steps' cells are known. -/
import Derived.Test.YtabpfibncipfjaaUg
import Derived.Test.YtabpfibncipfjaaUh
import Derived.Test.YtabpfibncipfjaaUj
import Derived.Test.YtabpfibncipfjaaUk
namespace Go.Proofs.Ytabpfibncipfjaa
open Go.RowKit

/-- Both trees tell the same keys. -/
theorem bothKeys_any {w0 w : World} {tb ub o : Nat} {L : List (Key × Int)} (frm to : Key) (h : Both w0 w tb ub o L) (hl : L.length ≤ 400) :
    Calls Try.prog 12 #[.pointer (some ⟨tb, 0, none⟩), .string (txt frm), .string (txt to)] w fun e w1 => (∃ a c, e = .returned (.slice a ((flt frm to L).map (·.1)).length c) ∧ Sl 1 sk (fun b => w.heap.size ≤ b) w1 (.slice a ((flt frm to L).map (·.1)).length c) ((flt frm to L).map (·.1))) ∧ Below w.heap.size w w1 := by
  obtain ⟨vk, vv, hT, hR⟩ := h.out
  refine (keysI_any _ tb o L frm to w hT (by omega)).mono ?_
  rintro e w1 ⟨⟨v, rfl, hS⟩, hb⟩
  obtain ⟨a, n, c, rfl⟩ := hS.shape
  obtain ⟨rfl, _⟩ := hS.len
  exact ⟨⟨a, c, rfl, hS⟩, hb⟩
theorem bothKeysR_any {w0 w : World} {tb ub o : Nat} {L : List (Key × Int)} (frm to : Key) (h : Both w0 w tb ub o L) (hl : L.length ≤ 400) :
    Calls Try.prog 13 #[.pointer (some ⟨ub, 0, none⟩), .string (txt frm), .string (txt to)] w fun e w1 => (∃ a c, e = .returned (.slice a ((flt frm to L).map (·.1)).length c) ∧ Sl 1 sk (fun b => w.heap.size ≤ b) w1 (.slice a ((flt frm to L).map (·.1)).length c) ((flt frm to L).map (·.1))) ∧ Below w.heap.size w w1 := by
  obtain ⟨vk, vv, hT, hR⟩ := h.out
  refine (refKeys_any ub vk vv L frm to w hR (by omega)).mono ?_
  rintro e w1 ⟨⟨v, rfl, hS⟩, hb⟩
  obtain ⟨a, n, c, rfl⟩ := hS.shape
  obtain ⟨rfl, _⟩ := hS.len
  exact ⟨⟨a, c, rfl, hS⟩, hb⟩

set_option maxRecDepth 100000 in
set_option maxHeartbeats 4000000 in
theorem lawTreePlays (o : Int) (a : Option Addr) (c : Nat) (ops : List OpR) (w : World) (hops : OpsAt7 w a ops) :
    Calls Try.prog 3 #[.int .i64 o, .slice a ops.length c] w fun e w' => e = .returned (.bool true) ∧ Below w.heap.size w w' := by
  have hlen := hops.len
  by_cases ho : o < 3 ∨ 64 < o
  · have CG := grown_no o a ops.length c w (by unfold maxLen; omega) ho
    clear hops
    go_enter Try.func3, Try.ntmps3
    go_wp2_with fail
    refine CG.mono ?_
    rintro e w' ⟨rfl, rfl⟩
    go_wp2_with (first
      | (go_at_call 10; refine (awakeT_any _).mono ?_; rintro e w2 ⟨rfl, hb⟩)
      | fail)
    go_ret
    exact ⟨rfl, hb⟩
  · obtain ⟨m, rfl⟩ : ∃ m : Nat, o = m := ⟨o.toNat, by omega⟩
    have CG := grown_yes m a c ops w (by omega) (by omega) hops
    clear hops
    obtain ⟨L, hL⟩ : ∃ L, playA (·.n) (ops.take 400) = L := ⟨_, rfl⟩
    rw [hL] at CG
    clear hL ho
    go_enter Try.func3, Try.ntmps3
    go_wp2_with fail
    refine CG.mono ?_
    rintro e w1 ⟨tb, ub, rfl, hB, hl⟩
    have HB := hid0 hB
    clear CG hB
    go_wp2_with fail
    go_at_call 10
    refine (awakeT_any _).mono ?_
    rintro e w2 ⟨rfl, hb2⟩
    have HB2 := hid0 (HB.out.later hb2)
    go_wp2_with fail
    go_at_call 12
    refine (bothKeys_any [] [] HB2.out hl).mono ?_
    rintro e w3 ⟨⟨a3, c3, rfl, S3⟩, hb3⟩
    have HB3 := hid0 (HB2.out.later hb3)
    have hks : ((flt [] [] L).map (·.1)).length ≤ 1000 := by rw [List.length_map]; exact Nat.le_trans (List.length_filter_le _ _) (by omega)
    obtain ⟨ks, hk⟩ : ∃ ks, (flt [] [] L).map (·.1) = ks := ⟨_, rfl⟩
    have CR := bothKeysR_any [] [] HB3.out hl
    rw [hk] at S3 hks CR
    rw [hk]
    clear hk
    obtain ⟨n, hn⟩ : ∃ n, ks.length = n := ⟨_, rfl⟩
    rw [hn] at S3 hks CR
    rw [hn]
    go_wp2_with fail
    go_at_call 13
    refine CR.mono ?_
    rintro e w4 ⟨⟨a4, c4, rfl, S4⟩, hb4⟩
    have CS := same_yes _ _ a3 a4 n c3 c4 ks w4 (S3.later hb4) S4 hks
    have HB4 := hid0 (HB3.out.later hb4)
    clear CR S3 S4 hn hks
    go_wp2_with fail
    refine CS.mono ?_
    rintro e w5 ⟨rfl, hb5⟩
    go_wp2_with fail
    go_ret
    exact ⟨rfl, (HB4.out.later hb5).keep⟩
end Go.Proofs.Ytabpfibncipfjaa
