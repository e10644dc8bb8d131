/- The walk of the law TruthDual: it returns true, and below the heap's end memory is as it was. Conditions: the list's cells are known, and it takes at most 2^47 - 4096 bytes (what came in does so). -/
import Derived.Test.YtchifcjjojiohaaTg
namespace Go.Proofs.Ytchifcjjojiohaa
open Go.RowKit

set_option maxHeartbeats 4000000 in
theorem lawDual (a : Option Addr) (c : Nat) (l : List Int) (n : Int) (w : World) (h1 : IntsAt w a l) (m1 : l.length ≤ c) (hreach : l.length * 8 ≤ 140737488351232) (n0 : 0 ≤ n) (n1 : n ≤ 255) :
    Calls Try.prog 6 #[.slice a l.length c, .int .u8 n] w fun e w' => e = .returned (.bool true) ∧ Below w.heap.size w w' := by
  obtain ⟨i0, hi, hz0, hz1, hz2⟩ := info_parts info3
  have R1 := hid0 h1
  clear h1
  go_enter Try.func6, Try.ntmps6
  go_wp2
  go_loopw [5, 6] (fun v i wr => ∃ k : Nat, k ≤ l.length ∧ i = .int .i64 k ∧ wr.ownsRow w.heap.size 3 1 v k (nots l k) ∧ Below w.heap.size w wr) (fun _ i _ => l.length - (intOf i).toNat)
  case atStart => exact ⟨0, Nat.zero_le _, rfl, World.ownsRow_nil _ _ _ _, Below.refl _ _⟩
  case round =>
    obtain ⟨k, hk, rfl, hown, hnx⟩ := hrel
    have hsz := hnx.size
    by_cases hlt : k < l.length
    · obtain ⟨b1, o1, rfl, hc1⟩ := (R1.out.later hnx) (by intro e; rw [e] at hlt; exact absurd hlt (by simp))
      have hcx := hc1 k hlt
      clear hc1
      go_wp2_with (first
        | (go_at_call 15; refine (not_any _ _).mono ?_; rintro e w3 ⟨rfl, rfl⟩)
        | (at_builtin; refine wpList_append_own _ rfl _ _ 28 rfl w.heap.size 3 i0 (.int .i64 0) 1 8 Try.underlying28 hi hz0 hz1 hz2 rfl (by decide) _ _ _ rfl (hown.alloc _) ⟨wr.heap.size, 0, none⟩ 1 1 [.int .i64 (notV l[k])] rfl rfl ?c1 ?c2 ?c3 ?c4 ?c5 ?_))
      case c1 =>
        intro j u hj
        match j, hj with
        | 0, hj => simp at hj; subst hj; simp [Addr.add]
      case c2 => intro u hu; simp at hu; subst hu; rfl
      case c3 => unfold maxLen; omega
      case c4 => omega
      case c5 => simp; omega
      intro v' w1 hown' hgrow _
      have R := rel_next hlt hown hnx hown' hgrow
      clear hown' hgrow hown hnx hcx
      go_wp2
      exact ⟨⟨k + 1, by omega, by go_num, R.1, R.2⟩, by simp [intOf]; omega⟩
    · obtain rfl : k = l.length := by omega
      obtain ⟨a2, c2, rfl, hr2⟩ := owned_at hown
      have R2 := hid0 hr2
      clear hown hr2
      have R1' := hid0 (R1.out.later hnx)
      go_wp2_with fail
      obtain ⟨kk, hkk⟩ : ∃ kk : Nat, n % ((l.length : Int) + 1) = kk := ⟨(n % ((l.length : Int) + 1)).toNat, by have := Int.emod_nonneg n (show (l.length : Int) + 1 ≠ 0 by omega); omega⟩
      have hkl : kk ≤ l.length := by have := Int.emod_lt_of_pos n (show (0 : Int) < l.length + 1 by omega); omega
      simp only [hkk]
      obtain ⟨b1, k1, L1, S1, A1⟩ := slice_head a l c kk hkl m1
      obtain ⟨b2, d2, k2, L2, S2, A2⟩ := slice_tail a l c kk hkl m1
      have mh : (l.take kk).length ≤ maxLen := by rw [List.length_take]; unfold maxLen; omega
      have mt : (l.drop kk).length ≤ maxLen := by rw [List.length_drop]; unfold maxLen; omega
      have A1 := hid0 A1
      have L1 := hid0 L1
      have L2 := hid0 L2
      have mh := hid0 mh
      have mt := hid0 mt
      have A2 := hid0 A2
      have P1 := and_parts l kk
      have P2 := or_parts l kk
      clear hkk hkl R1 hk hlt
      go_region_held3 (fun w' => Hid (IntsAt w' a l) ∧ Hid (IntsAt w' a2 (l.map notV)) ∧ Below w.heap.size w w')
        ((go_split_ands; (try dsimp only); (repeat' apply And.intro); all_goals (first
          | assumption
          | exact hid0 (IntsAt.later (Hid.out ‹Hid (IntsAt _ a l)›) ((Below.refl _ _).alloc (Nat.le_refl _) _))
          | exact hid0 (IntsAt.later (Hid.out ‹Hid (IntsAt _ a2 _)›) ((Below.refl _ _).alloc (Nat.le_refl _) _))
          | exact hid0 (IntsAt.later (Hid.out ‹Hid (IntsAt _ a l)›) (Below.drew (Below.refl _ _)))
          | exact hid0 (IntsAt.later (Hid.out ‹Hid (IntsAt _ a2 _)›) (Below.drew (Below.refl _ _)))
          | exact Below.alloc ‹Below w.heap.size w _› (Below.size ‹Below w.heap.size w _›) _
          | exact Below.drew ‹Below w.heap.size w _›
          | go_keep)))
        (first
          | (go_at_call 16; (try go_split_ands); refine (and_part _ _ _ _ _ (by first | exact A1.out _ (Hid.out ‹Hid (IntsAt _ a l)›) | exact A2.out _ (Hid.out ‹Hid (IntsAt _ a l)›) | exact pair_at _ (andV (l.take kk)) (andV (l.drop kk)) _ (by go_cell) (by go_cell)) (by first | exact L1.out | exact L2.out | rfl) (by first | exact mh.out | exact mt.out | (unfold maxLen; simp))).mono ?_; rintro e wn ⟨rfl, rfl⟩))
      have HH := ‹Hid (IntsAt (World.drew (World.alloc wr _)) a l) ∧ _›
      generalize (World.drew (World.alloc wr (Obj.cells #[Value.int IntKind.i64 (andV (List.take kk l)), Value.int IntKind.i64 (andV (List.drop kk l))] 3))) = W1 at HH ⊢
      clear R1' R2 hnx
      obtain ⟨HA, HO, HB⟩ := HH
      go_wp2_with fail
      go_region_held3 (fun w' => Hid (IntsAt w' a l) ∧ Hid (IntsAt w' a2 (l.map notV)) ∧ Below w.heap.size w w')
        ((go_split_ands; (try dsimp only); (repeat' apply And.intro); all_goals (first
          | assumption
          | exact hid0 (IntsAt.later (Hid.out ‹Hid (IntsAt _ a l)›) ((Below.refl _ _).alloc (Nat.le_refl _) _))
          | exact hid0 (IntsAt.later (Hid.out ‹Hid (IntsAt _ a2 _)›) ((Below.refl _ _).alloc (Nat.le_refl _) _))
          | exact hid0 (IntsAt.later (Hid.out ‹Hid (IntsAt _ a l)›) (Below.drew (Below.refl _ _)))
          | exact hid0 (IntsAt.later (Hid.out ‹Hid (IntsAt _ a2 _)›) (Below.drew (Below.refl _ _)))
          | exact Below.alloc ‹Below w.heap.size w _› (Below.size ‹Below w.heap.size w _›) _
          | exact Below.drew ‹Below w.heap.size w _›
          | go_keep)))
        (first
          | (go_at_call 18; (try go_split_ands); refine (or_part _ _ _ _ _ (by first | exact A1.out _ (Hid.out ‹Hid (IntsAt _ a l)›) | exact A2.out _ (Hid.out ‹Hid (IntsAt _ a l)›) | exact pair_at _ (orV (l.take kk)) (orV (l.drop kk)) _ (by go_cell) (by go_cell)) (by first | exact L1.out | exact L2.out | rfl) (by first | exact mh.out | exact mt.out | (unfold maxLen; simp))).mono ?_; rintro e wn ⟨rfl, rfl⟩))
      have HH := ‹Hid (IntsAt (World.drew (World.alloc W1 _)) a l) ∧ _›
      generalize (World.drew (World.alloc W1 (Obj.cells #[Value.int IntKind.i64 (orV (List.take kk l)), Value.int IntKind.i64 (orV (List.drop kk l))] 3))) = W2 at HH ⊢
      clear HA HO HB
      obtain ⟨HA, HO, HB⟩ := HH
      go_wp2_with fail
      refine (awake_any _).mono ?_
      rintro e w3 ⟨rfl, hb3⟩
      have HB3 := below_through hb3 (Below.size HB) HB
      have HA3 := hid0 (HA.out.later hb3)
      have HO3 := hid0 (HO.out.later hb3)
      have N1 := not_and l
      have N2 := not_or l
      have ml : l.length ≤ maxLen := by unfold maxLen; omega
      have ML := hid0 ml
      clear hb3 HA HO HB ml
      go_wp2_with (first
        | (go_at_call 16; refine (and_part _ _ _ _ _ (by first | exact HA3.out | exact HO3.out) (by simp) (by first | exact ML.out | (rw [List.length_map]; exact ML.out))).mono ?_; rintro e wn ⟨rfl, rfl⟩)
        | (go_at_call 18; refine (or_part _ _ _ _ _ (by first | exact HA3.out | exact HO3.out) (by simp) (by first | exact ML.out | (rw [List.length_map]; exact ML.out))).mono ?_; rintro e wn ⟨rfl, rfl⟩)
        | (go_at_call 15; refine (not_any _ _).mono ?_; rintro e wn ⟨rfl, rfl⟩))
      go_ret
      exact ⟨ret_bool (by simp), HB3⟩
end Go.Proofs.Ytchifcjjojiohaa
