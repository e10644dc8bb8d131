/- Go's binary search over a list of texts that rises: the first place that isn't below, and whether the text is there: a contract of the call, in whatever memory. Conditions: the list's cells are known; it rises. -/
import Derived.Test.YtabpfibncipfjaaSb
import Derived.BigQuiet
import Derived.Deep.QuietTactic
namespace Go.Proofs.Ytabpfibncipfjaa
open Go.RowKit

theorem bl_eq : ∀ (x y : List UInt8), Op.bytesLess x y = decide (x < y)
  | [], [] => by simp [Op.bytesLess]
  | _ :: _, [] => by simp [Op.bytesLess]
  | [], _ :: _ => by simp [Op.bytesLess]
  | a :: x, b :: y => by
    rw [Op.bytesLess, bl_eq x y]
    simp only [List.cons_lt_cons_iff]
    by_cases h1 : a < b <;> by_cases h2 : a = b <;> by_cases h3 : x < y <;> simp [h1, h2, h3]
theorem less_key (x y : Key) : Op.bytesLess (txt x).toList (txt y).toList = decide (x < y) := by
  rw [bl_eq, ByteArray.toList_eq, ByteArray.toList_eq]; rfl
theorem txt_inj {x y : Key} (h : txt x = txt y) : x = y := by
  have := congrArg (fun s : ByteArray => s.data.toList) h
  exact this

theorem isNaN_any (s : ByteArray) (w : World) : Calls Try.prog 90 #[.string s] w fun e w' => e = .returned (.bool false) ∧ w = w' := by
  go_enter Try.func90, Try.ntmps90
  go_wp2
  go_ret
  exact ⟨rfl, rfl⟩
theorem isNaN2_any (s : ByteArray) (w : World) : Calls Try.prog 72 #[.string s] w fun e w' => e = .returned (.bool false) ∧ w = w' := by
  go_enter Try.func72, Try.ntmps72
  go_wp2
  go_ret
  exact ⟨rfl, rfl⟩
set_option maxHeartbeats 400000 in
theorem less_any (x y : Key) (w : World) : Calls Try.prog 71 #[.string (txt x), .string (txt y)] w fun e w' => e = .returned (.bool (decide (x < y))) ∧ w = w' := by
  have hl := hid0 (less_key x y)
  go_enter Try.func71, Try.ntmps71
  go_wp2_with (go_at_call 90; refine (isNaN_any _ _).mono ?_; rintro e w' ⟨rfl, rfl⟩)
  go_ret
  exact ⟨ret_bool hl.out, rfl⟩

def HasI (ks : List Key) (k : Key) (e : Ending) : Prop := e = .returned (.tuple #[.int .i64 (pl k ks : Nat), .bool (hasK k ks)])
set_option maxHeartbeats 2000000 in
theorem search_any (P : Nat → Prop) (a : Option Addr) (n c : Nat) (ks : List Key) (k : Key) (w : World) (h : Sl 1 sk P w (.slice a n c) ks) (hs : ks.Pairwise (· < ·)) (hn : n ≤ 1000) :
    Calls Try.prog 52 #[.slice a n c, .string (txt k)] w fun e w' => HasI ks k e ∧ w = w' := by
  have A := hid0 h
  have HS := hid0 hs
  have HN := hid0 h.len.1
  clear h hs
  go_enter Try.func52, Try.ntmps52
  go_wp2
  go_loopw [7, 8] (fun iv jv wr => ∃ i j : Nat, i ≤ j ∧ j ≤ n ∧ iv = .int .i64 i ∧ jv = .int .i64 j ∧ Hid ((∀ q (h : q < ks.length), q < i → ks[q] < k) ∧ (∀ q (h : q < ks.length), j ≤ q → ¬ ks[q] < k)) ∧ w = wr) (fun iv jv _ => (intOf jv).toNat - (intOf iv).toNat)
  case atStart => exact ⟨0, n, Nat.zero_le _, Nat.le_refl _, rfl, rfl, hid0 ⟨fun q h hq => absurd hq (Nat.not_lt_zero _), fun q h hq => by have := HN.out; omega⟩, rfl⟩
  case round =>
    obtain ⟨i, j, hij, hj, rfl, rfl, I, rfl⟩ := hrel
    by_cases hlt : i < j
    · have hm : (i + j) / 2 < ks.length := by have := HN.out; omega
      obtain ⟨m, hmm⟩ : ∃ m, (i + j) / 2 = m := ⟨_, rfl⟩
      rw [hmm] at hm
      have hmi : i ≤ m := by omega
      have hmj : m < j := by omega
      obtain ⟨b, o, rfl, _, q0⟩ := A.out.one (List.getElem?_eq_getElem hm)
      have hmn : (m : Int) < (n : Int) := by have := HN.out; omega
      have hsum : ((i : Int) + (j : Int)) / 2 = (m : Int) := by omega
      obtain ⟨x, hx⟩ : ∃ x, ks[m] = x := ⟨_, rfl⟩
      rw [hx] at q0
      have CL := less_any x k w
      have hii : (i : Int) < (j : Int) := by omega
      have HM := hid0 hmm
      have HX := hid0 hx
      by_cases hk : x < k
      · have hd : decide (x < k) = true := by simpa using hk
        rw [hd] at CL
        have I2 : Hid ((∀ q (h : q < ks.length), q < m + 1 → ks[q] < k) ∧ (∀ q (h : q < ks.length), j ≤ q → ¬ ks[q] < k)) := hid0 ⟨fun q h hq => by
          rcases Nat.lt_or_ge q m with g | g
          · exact k_trans (List.pairwise_iff_getElem.1 HS.out _ _ h hm g) (by rw [hx]; exact hk)
          · obtain rfl : q = m := by omega
            rw [hx]; exact hk, I.out.2⟩
        clear hk hd hx hmm I
        go_wp2_with (go_at_call 71; refine CL.mono ?_; rintro e w' ⟨rfl, rfl⟩)
        exact ⟨⟨m + 1, j, by omega, hj, by go_num, rfl, I2, trivial⟩, by simp [intOf]; omega⟩
      · have hd : decide (x < k) = false := by simpa using hk
        rw [hd] at CL
        have I2 : Hid ((∀ q (h : q < ks.length), q < i → ks[q] < k) ∧ (∀ q (h : q < ks.length), m ≤ q → ¬ ks[q] < k)) := hid0 ⟨I.out.1, fun q h hq => by
          rcases Nat.lt_or_ge m q with g | g
          · intro hqk
            exact hk (by rw [← hx]; exact k_trans (List.pairwise_iff_getElem.1 HS.out _ _ hm h g) hqk)
          · obtain rfl : q = m := by omega
            rw [hx]; exact hk⟩
        clear hk hd hx hmm I
        go_wp2_with (go_at_call 71; refine CL.mono ?_; rintro e w' ⟨rfl, rfl⟩)
        exact ⟨⟨i, m, hmi, by omega, rfl, rfl, I2, trivial⟩, by simp [intOf]; omega⟩
    · obtain rfl : i = j := by omega
      have hil : i ≤ ks.length := by have := HN.out; omega
      have hp : pl k ks = i := pl_of hil I.out.1 (fun h => I.out.2 i h (Nat.le_refl _))
      have hii : ¬ (i : Int) < (i : Int) := by omega
      by_cases hin : i < ks.length
      · obtain ⟨b, o, rfl, _, q0⟩ := A.out.one (List.getElem?_eq_getElem hin)
        obtain ⟨x, hx⟩ : ∃ x, ks[i] = x := ⟨_, rfl⟩
        rw [hx] at q0
        have hin2 : (i : Int) < (n : Int) := by have := HN.out; omega
        have dn : decide ((i : Int) < (n : Int)) = true := by simpa using hin2
        by_cases hxk : x = k
        · have hh : hasK k ks = true := by unfold hasK; rw [hp, List.getElem?_eq_getElem hin, hx, hxk]; simp
          have HR := hid0 (And.intro hp hh)
          subst hxk
          clear hx hp hh I hin hil
          go_wp2_with fail
          go_ret2
          exact ⟨by unfold HasI; rw [HR.out.1, HR.out.2]; rfl, rfl⟩
        · have hh : hasK k ks = false := by unfold hasK; rw [hp, List.getElem?_eq_getElem hin, hx]; simpa using hxk
          have HR := hid0 (And.intro hp hh)
          have hne : ¬ (txt x).toList = (txt k).toList := fun e => hxk (by rw [ByteArray.toList_eq, ByteArray.toList_eq] at e; exact e)
          have hbe : ((txt x).toList == (txt k).toList) = false := by simpa using hne
          clear hx hp hh I hin hil hne
          go_wp2_with (go_at_call 72; refine (isNaN2_any _ _).mono ?_; rintro e w' ⟨rfl, rfl⟩)
          go_ret2
          exact ⟨by unfold HasI; rw [HR.out.1, HR.out.2]; rfl, rfl⟩
      · have hin2 : ¬ (i : Int) < (n : Int) := by have := HN.out; omega
        have dn : decide ((i : Int) < (n : Int)) = false := by simpa using hin2
        have hh : hasK k ks = false := by unfold hasK; rw [hp, List.getElem?_eq_none (by omega)]; simp
        have HR := hid0 (And.intro hp hh)
        clear hp hh I hin hil
        go_wp2_with fail
        go_ret2
        exact ⟨by unfold HasI; rw [HR.out.1, HR.out.2]; rfl, rfl⟩
end Go.Proofs.Ytabpfibncipfjaa
