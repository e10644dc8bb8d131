/- Several of my texts laid together, each as it was: SeP. Conditions: each names its own. -/
import Derived.Test.YtneebnankghhgabG2
import Derived.Deep.RegionHeld3
import Derived.Lib.MinMax
import Derived.Deep.Cut
/- The project's tree over belvedere/belvederelaw07.Pair: a leaf, the way to a key, a leaf with a key more or less, a node with other kids, a node apart and together: contracts of the calls, in whatever memory. Conditions: the node's memory is known; what is new may lie where it lies. -/
namespace Go.Proofs.Ytneebnankghhgab
open Go.RowKit

abbrev NAP (P : Nat → Prop) (w : World) (n b : Nat) (t : Tr (Int × Key) n) : Prop := NodeAt 2 eP P w n b t
/-- A new node is told. -/
def ResP (P : Nat → Prop) (w : World) (n : Nat) (T : Tr (Int × Key) n) (e : Ending) (w' : World) : Prop :=
  (∃ b', e = .returned (.pointer (some ⟨b', 0, none⟩)) ∧ NAP P w' n b' T) ∧ Below w.heap.size w w'

theorem leafP_yes (b : Nat) (w : World) (h : w.cell? ⟨b, 2, none⟩ = some (.slice none 0 0)) : Calls Try.prog 42 #[.pointer (some ⟨b, 0, none⟩)] w fun e w' => e = .returned (.bool true) ∧ w = w' := by
  go_enter Try.func42, Try.ntmps42
  go_wp2
  go_ret
  exact ⟨rfl, rfl⟩
theorem leafP_no (b : Nat) (a : Option Addr) (n c : Nat) (w : World) (h : w.cell? ⟨b, 2, none⟩ = some (.slice a n c)) (hn : 0 < n) : Calls Try.prog 42 #[.pointer (some ⟨b, 0, none⟩)] w fun e w' => e = .returned (.bool false) ∧ w = w' := by
  have hd : decide ((n : Int) = 0) = false := by simp; omega
  have hd2 : ((n : Int) == 0) = false := by simp; omega
  go_enter Try.func42, Try.ntmps42
  go_wp2
  go_ret
  exact ⟨ret_bool (by first | (simp; done) | (simp; omega)), rfl⟩
/-- A node that isn't a leaf. -/
theorem naP_kids {P : Nat → Prop} {w : World} {n b : Nat} {t : Tr (Int × Key) (n + 1)} (h : NAP P w (n + 1) b t) : ∃ a c bs, w.cell? ⟨b, 2, none⟩ = some (.slice a t.2.length c) ∧ Sl 1 pk P w (.slice a t.2.length c) bs ∧ bs.length = t.2.length ∧ Kids (fun b' c' => NAP P w n b' c') bs t.2 := by
  obtain ⟨_, vk, vc, bs, _, h2, _, h4, h5⟩ := h
  obtain ⟨a, c, e, _⟩ := h4.out
  subst e
  have hl := h5.len
  rw [hl] at h2 h4
  exact ⟨a, c, bs, h2, h4, hl, h5⟩
set_option maxHeartbeats 400000 in
theorem towardP_any (P : Nat → Prop) (n b : Nat) (t : Tr (Int × Key) n) (k : Key) (w : World) (h : NAP P w n b t) (hs : (keysT n t).Pairwise (· < ·)) (hn : nk n t ≤ 1000) :
    Calls Try.prog 43 #[.pointer (some ⟨b, 0, none⟩), .string (txt k)] w fun e w' => e = .returned (.int .i64 (tw k (keysT n t) : Nat)) ∧ w = w' := by
  obtain ⟨a, c, q0, hsl⟩ := h.keys
  have C := search_any P a (nk n t) c (keysT n t) k w hsl hs hn
  have HT := hid0 (tw_eq k hs)
  have hp := pl_le k (keysT n t)
  change pl k (keysT n t) ≤ nk n t at hp
  obtain ⟨N, hN⟩ : ∃ N, nk n t = N := ⟨_, rfl⟩
  rw [hN] at C q0 hn hp
  obtain ⟨p, hpp⟩ : ∃ p, pl k (keysT n t) = p := ⟨_, rfl⟩
  unfold HasI at C
  rw [hpp] at C hp
  have HP := hid0 hpp
  clear h hs hsl hN hpp
  cases hh : hasK k (keysT n t) with
  | true =>
    rw [hh] at C
    have HH := hid0 hh
    clear hh
    go_enter Try.func43, Try.ntmps43
    go_wp2_with (go_at_call 41; refine C.mono ?_; rintro e w' ⟨rfl, rfl⟩)
    go_ret
    exact ⟨ret_i64 (by rw [HT.out, if_pos HH.out, HP.out]; omega), rfl⟩
  | false =>
    rw [hh] at C
    have HH := hid0 hh
    clear hh
    go_enter Try.func43, Try.ntmps43
    go_wp2_with (go_at_call 41; refine C.mono ?_; rintro e w' ⟨rfl, rfl⟩)
    go_ret
    exact ⟨ret_i64 (by rw [HT.out, HH.out, HP.out]; rfl), rfl⟩
end Go.Proofs.Ytneebnankghhgab
