/- The walk of the law PageKeeps, whole: it returns true, and below the heap's end memory is as it was. Conditions: the slots' cells are known (what came in reads so). -/
import Derived.Test.YtpcjfhoppcmenaaQr
import Derived.Test.YtpcjfhoppcmenaaQu
import Derived.Test.YtpcjfhoppcmenaaQv
import Derived.Test.YtpcjfhoppcmenaaQw
import Derived.Test.YtpcjfhoppcmenaaQx
namespace Go.Proofs.Ytpcjfhoppcmenaa
open Go.RowKit

theorem set_cases (p : Pg) (i : Int) (d : List UInt8) : (setE p i d = 0 ∧ ∃ k : Nat, i = k ∧ k < p.length ∧ setP p i d = p.set k (true, d) ∧ rightB (p.set k (true, d)) = true) ∨ (setE p i d ≠ 0 ∧ setP p i d = p) := by
  by_cases h0 : getE p i = 0
  · cases hr : roomB p i d with
    | true =>
      left
      obtain ⟨e1, e2⟩ := set_done h0 hr
      have hR := setP_right h0 hr
      rcases getE_cases p i with ⟨h, _⟩ | ⟨_, k, rfl, hk, _, _⟩
      · exact absurd h0 h
      · rw [Int.toNat_natCast] at e1 hR
        exact ⟨e2, k, rfl, hk, e1, (rightB_iff _).2 hR⟩
    | false =>
      right
      obtain ⟨e1, e2⟩ := set_full h0 hr
      exact ⟨by rw [e2]; decide, e1⟩
  · right
    obtain ⟨e1, e2⟩ := set_not d h0
    exact ⟨by rw [e2]; exact h0, e1⟩
theorem get_as {p q : Pg} (hp : rightB p = true) (hq : rightB q = true) {i j : Int} (h : gotP p i = gotP q j) : getD p i = getD q j ∧ getE p i = getE q j := by
  unfold getD getE
  rw [hp, hq, h]; exact ⟨rfl, rfl⟩

set_option maxHeartbeats 1000000 in
set_option maxRecDepth 1000000 in
theorem lawPageKeeps (a : Option Addr) (c : Nat) (p : Pg) (d : List UInt8) (i : Int) (w : World) (hP : PgAt w a c p) (hi1 : -9223372036854775808 ≤ i) (hi2 : i ≤ 9223372036854775807) (hd : d.length ≤ 140737488351232) (hdn : (d.length : Int) ≤ 9223372036854775807) :
    Calls Try.prog 5 #[.agg #[.slice a p.length c], .string (txt d), .int .i64 i] w fun e w' => e = .returned (.bool true) ∧ Below w.heap.size w w' := by
  cases hr : rightB p with
  | false =>
    have v0 := (VarAt.new w (.slice a p.length c) 24).cell
    have hP0 := hP.alloc (Obj.cells #[.slice a p.length c] 24)
    have hB : Below w.heap.size w (w.alloc (Obj.cells #[.slice a p.length c] 24)) := (Below.refl _ _).alloc (Nat.le_refl _) _
    have C1 := pgRight_any a c p _ hP0.out hP0.cap hP0.len hP0.small
    rw [hr] at C1
    clear hr hP hP0
    go_enter Try.func5, Try.ntmps5
    go_wp2_with fail
    refine C1.mono ?_
    rintro e w1 ⟨rfl, hb1⟩
    replace hB := below_through hb1 hB.size hB
    clear C1 v0 hb1
    go_wp2_with fail
    refine (awake_any _).mono ?_
    rintro e w2 ⟨rfl, hb2⟩
    replace hB := below_through hb2 hB.size hB
    clear hb2
    go_wp2
    go_ret
    exact ⟨rfl, hB⟩
  | true =>
    have hz : (txt d).size = d.length := txt_size d
    have hfp := put_fine ⟨hP.len, hP.small⟩ d
    have hfs := set_fine ⟨hP.len, hP.small⟩ i d
    have hpl := place_small hr
    rcases put_cases p d hr with ⟨e1, e2, e3, e4, e5⟩ | ⟨e1, e2, e3, e4⟩
    · rw [e2] at hfp
      obtain ⟨g1, g2⟩ := get_put e5
      obtain ⟨g3, g4⟩ := get_none hr (gotP_place p)
      have HPUT : Hid (∀ j : Nat, j < p.length → j ≠ placeP p → getD p (j : Int) = getD (putR p d) (j : Int) ∧ getE p (j : Int) = getE (putR p d) (j : Int)) :=
        hid0 (fun j hj hne => get_as hr e5 (gotP_put_other d hj hne).symm)
      rcases set_cases p i d with ⟨f1, k, rfl, hk, f2, f3⟩ | ⟨f1, f2⟩
      · rw [f2] at hfs
        obtain ⟨h1, h2⟩ := get_some f3 (gotP_set d hk)
        exact keeps_11 a c p d k w (putR p d) (p.set k (true, d)) (placeP p) d.length [] hP hi1 hi2 hd hdn hz hfp hfs hr e2 e3 e1 f2 f1 g1 g2 h1 h2 g3 g4 (by omega) e5 e4 HPUT f3
          (hid0 (fun j hj hne => get_as hr f3 (gotP_set_other d (fun e => hne (by rw [e]))).symm))
      · rw [f2] at hfs
        exact keeps_10 a c p d i w (putR p d) p (placeP p) d.length (setE p i d) (getD p i) (getE p i) [] hP hi1 hi2 hd hdn hz hfp hfs hr e2 e3 e1 f2 rfl f1 (by simpa using f1) g1 g2 rfl rfl g3 g4 (by omega) e5 e4 HPUT (hid0 rfl)
    · rw [e2] at hfp
      rcases set_cases p i d with ⟨f1, k, rfl, hk, f2, f3⟩ | ⟨f1, f2⟩
      · rw [f2] at hfs
        obtain ⟨h1, h2⟩ := get_some f3 (gotP_set d hk)
        exact keeps_01 a c p d k w p (p.set k (true, d)) 0 d.length (getD p ((0 : Nat) : Int)) (getE p ((0 : Nat) : Int)) (getE p ((0 : Nat) : Int)) (getD p ((0 : Nat) : Int)) hP hi1 hi2 hd hdn hz hfp hfs hr e2 e3 e1 f2 f1 rfl rfl h1 h2 rfl rfl (by omega) e4 (hid0 rfl) f3
          (hid0 (fun j hj hne => get_as hr f3 (gotP_set_other d (fun e => hne (by rw [e]))).symm))
      · rw [f2] at hfs
        exact keeps_00 a c p d i w p p 0 d.length (setE p i d) (getD p ((0 : Nat) : Int)) (getE p ((0 : Nat) : Int)) (getE p ((0 : Nat) : Int)) (getD p i) (getE p i) (getD p ((0 : Nat) : Int)) hP hi1 hi2 hd hdn hz hfp hfs hr e2 e3 e1 f2 rfl f1 (by simpa using f1) rfl rfl rfl rfl rfl rfl (by omega) e4 (hid0 rfl) (hid0 rfl)
end Go.Proofs.Ytpcjfhoppcmenaa
