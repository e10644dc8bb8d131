/- The walks of the laws PageFits, PageCuts, PageBytes, PageReads: each returns true, and below the heap's end memory is as it was. Conditions: the slots' cells are known (what came in reads so). -/
import Derived.Test.YtpcjfhoppcmenaaQq
namespace Go.Proofs.Ytpcjfhoppcmenaa
open Go.RowKit

set_option maxHeartbeats 2000000 in
theorem lawPageFits (a : Option Addr) (c : Nat) (p : Pg) (n : Int) (w : World) (h : PgAt w a c p) (hn1 : -9223372036854775808 ≤ n) (hn2 : n ≤ 9223372036854775807) :
    Calls Try.prog 4 #[.agg #[.slice a p.length c], .int .i64 n] w fun e w' => e = .returned (.bool true) ∧ Below w.heap.size w w' := by
  have hlm : p.length ≤ maxLen := by have := h.len; unfold maxLen; omega
  have C1 := fun W (hp : PgAt W a c p) => pgFits_any a c p n W hp.out hp.cap hp.len hp.small hn1 hn2
  have C2 := fun W (hp : PgAt W a c p) => refFits_any a c p n W hp.out hlm hp.small
  have v0 := VarAt.new w (.slice a p.length c) 24
  have hP0 := h.alloc (Obj.cells #[.slice a p.length c] 24)
  have hB0 : Below w.heap.size w (w.alloc (Obj.cells #[.slice a p.length c] 24)) := (Below.refl _ _).alloc (Nat.le_refl _) _
  clear h hn1 hn2 hlm
  obtain ⟨b, hb⟩ : ∃ b, fitsB p n = b := ⟨_, rfl⟩
  rw [hb] at C1 C2
  go_enter Try.func4, Try.ntmps4
  go_wp2_with fail
  obtain ⟨q0, _⟩ := v0
  go_region_held3 (fun w' => w'.cell? ⟨w.heap.size, 0, none⟩ = some (.slice a p.length c) ∧ PgAt w' a c p ∧ Below w.heap.size w w')
    ((go_split_ands; (try dsimp only); (repeat' apply And.intro); all_goals (first
      | assumption
      | exact cell_later hbn ‹_›
      | exact PgAt.later ‹_› hbn
      | exact below_through hbn (Below.size ‹Below w.heap.size w _›) ‹_›
      | exact hP0.drew
      | exact Below.drew hB0
      | go_keep)))
    (first
      | (go_at_call 15; (try go_split_ands); refine (awake_any _).mono ?_; rintro e wn ⟨rfl, hbn⟩)
      | (go_at_call 25; (try go_split_ands); refine (C1 _ (by assumption)).mono ?_; rintro e wn ⟨rfl, hbn⟩)
      | (go_at_call 26; (try go_split_ands); refine (C2 _ (by assumption)).mono ?_; rintro e wn ⟨rfl, hbn⟩))
  have HH := ‹wn.cell? ⟨w.heap.size, 0, none⟩ = some (.slice a p.length c) ∧ _›
  go_wp2
  go_ret
  exact ⟨rfl, HH.2.2⟩

theorem put_cases (p : Pg) (d : List UInt8) (h : rightB p = true) : (putE p d = 0 ∧ putP p d = putR p d ∧ putI p d = placeP p ∧ fitsB p d.length = true ∧ rightB (putR p d) = true) ∨ (putE p d = 17 ∧ putP p d = p ∧ putI p d = 0 ∧ fitsB p d.length = false) := by
  cases hf : fitsB p d.length with
  | true =>
    left
    obtain ⟨h1, h2, h3⟩ := put_done hf
    have hf' := (fitsB_iff p _).1 hf
    exact ⟨h3, h1, h2, rfl, (rightB_iff _).2 (putR_right hf'.1 hf')⟩
  | false =>
    right
    obtain ⟨h1, h2, h3⟩ := put_full h hf
    exact ⟨h3, h1, h2, rfl⟩
theorem get_put {p : Pg} {d : List UInt8} (h : rightB (putR p d) = true) : getD (putR p d) (placeP p : Nat) = d ∧ getE (putR p d) (placeP p : Nat) = 0 := get_some h (gotP_put d)
theorem cut_put_is {p : Pg} {d : List UInt8} (h : rightB p = true) (h' : rightB (putR p d) = true) : cutP (putR p d) (placeP p : Nat) = p := by
  unfold cutP
  rw [if_pos (get_put h').2, Int.toNat_natCast]
  exact cut_put ((rightB_iff p).1 h)
theorem place_small {p : Pg} (h : rightB p = true) : (placeP p : Int) ≤ 256 := by
  have h1 := placeP_le p
  have h2 := ((rightB_iff p).1 h).len
  omega

set_option maxHeartbeats 4000000 in
theorem lawPageCuts (a : Option Addr) (c : Nat) (p : Pg) (d : List UInt8) (w : World) (h : PgAt w a c p) (hd : d.length ≤ maxLen) :
    Calls Try.prog 6 #[.agg #[.slice a p.length c], .string (txt d)] w fun e w' => e = .returned (.bool true) ∧ Below w.heap.size w w' := by
  have hlm : p.length ≤ maxLen := by have := h.len; unfold maxLen; omega
  have v0 := VarAt.new w (.slice a p.length c) 24
  have hP0 := h.alloc (Obj.cells #[.slice a p.length c] 24)
  have hB0 : Below w.heap.size w (w.alloc (Obj.cells #[.slice a p.length c] 24)) := (Below.refl _ _).alloc (Nat.le_refl _) _
  have C1 := pgRight_any a c p _ hP0.out hP0.cap hP0.len hP0.small
  have HD := hid0 hd
  clear hd
  cases hr : rightB p with
  | false =>
    rw [hr] at C1
    clear hr
    obtain ⟨q0, _⟩ := v0
    go_enter Try.func6, Try.ntmps6
    go_wp2_with fail
    refine C1.mono ?_
    rintro e w1 ⟨rfl, hb1⟩
    have hB1 := below_through hb1 hB0.size hB0
    clear C1 hP0 q0 hb1 h
    go_wp2_with fail
    refine (awake_any _).mono ?_
    rintro e w2 ⟨rfl, hb2⟩
    have hB2 := below_through hb2 hB1.size hB1
    clear hb2 hB1
    go_wp2
    go_ret
    exact ⟨rfl, hB2⟩
  | true =>
    rw [hr] at C1
    have HR := hid0 hr
    clear hr
    obtain ⟨q0, f0⟩ := v0
    go_enter Try.func6, Try.ntmps6
    go_wp2_with fail
    refine C1.mono ?_
    rintro e w1 ⟨rfl, hb1⟩
    have hB1 := below_through hb1 hB0.size hB0
    have hP1 := hP0.later hb1
    have q1 := cell_later hb1 q0
    have hz1 := hb1.size
    rw [World.size_alloc] at hz1
    clear C1 hP0 q0 f0 hb1 h hB0
    have C2 := pgPut_any a c p d _ hP1.out hP1.cap hP1.len hP1.small HD.out
    rcases put_cases p d HR.out with ⟨e1, e2, e3, e4, e5⟩ | ⟨e1, e2, e3, e4⟩
    · unfold PutAns at C2
      rw [e1, e2, e3] at C2
      have E5 := hid0 e5
      clear e1 e2 e3 e4 e5
      go_wp2_with fail
      refine C2.mono ?_
      rintro e w2 ⟨⟨a2, c2, qq, rfl, hc2, hq2, hqe, hA2⟩, hb2⟩
      have HQ := hid0 hqe
      have hB2 := below_through hb2 hB1.size hB1
      have hP2 := hP1.later hb2
      have q2 := cell_later hb2 q1
      have hz2 := hB2.size
      have hf2 : fineP qq := by rw [HQ.out]; exact right_fine ((rightB_iff _).1 E5.out)
      have hQ2 : PgAt w2 a2 c2 qq := ⟨hq2, hc2, hf2.1, hf2.2⟩
      clear hP1 hB1 q1 hb2 C2 hqe hq2 hf2
      have hB3 := hB2.alloc hz2 (Obj.cells #[.slice a2 qq.length c2] 24)
      have hP3 := hP2.alloc (Obj.cells #[.slice a2 qq.length c2] 24)
      have hQ3 := hQ2.alloc (Obj.cells #[.slice a2 qq.length c2] 24)
      have v3 := VarAt.new w2 (.slice a2 qq.length c2) 24
      have q3 := fun o => cell_later ((Below.refl w2.heap.size w2).alloc (Nat.le_refl _) o) q2
      have hpl := place_small HR.out
      obtain ⟨k, hk⟩ : ∃ k : Nat, placeP p = k := ⟨_, rfl⟩
      have C3 := pgCut_any a2 c2 qq k _ hQ3.out hQ3.cap hQ3.len hQ3.small (by omega) (by omega)
      have e1 : cutP qq (k : Int) = p := by rw [← hk, HQ.out]; exact cut_put_is HR.out E5.out
      have e2 : getE qq (k : Int) = 0 := by rw [← hk, HQ.out]; exact (get_put E5.out).2
      unfold PgAns at C3
      rw [e1, e2] at C3
      rw [hk]
      clear hP2 hB2 q2 hA2 hQ2 hz2 e1 e2 hpl hk
      go_wp2_with fail
      refine C3.mono ?_
      rintro e w4 ⟨⟨a4, c4, q4, rfl, hc4, hq4, hqe4, _⟩, hb4⟩
      obtain rfl := hqe4.symm
      have hB4 := below_through hb4 hB3.size hB3
      have hP4 := hP3.later hb4
      have u4 := cell_later hb4 (q3 (Obj.cells #[.slice a2 qq.length c2] 24))
      have hz4 := hB4.size
      have hQ4 : PgAt w4 a4 c4 p := ⟨hq4, hc4, hP4.len, hP4.small⟩
      clear C3 hB3 hP3 hQ3 v3 q3 hb4 hq4 hc4
      have hB5 := hB4.alloc hz4 (Obj.cells #[.slice a4 p.length c4] 24)
      have hP5 := hP4.alloc (Obj.cells #[.slice a4 p.length c4] 24)
      have hQ5 := hQ4.alloc (Obj.cells #[.slice a4 p.length c4] 24)
      have v5 := (VarAt.new w4 (.slice a4 p.length c4) 24).cell
      have u5 := cell_later ((Below.refl w4.heap.size w4).alloc (Nat.le_refl _) (Obj.cells #[.slice a4 p.length c4] 24)) u4
      clear hB4 hP4 hQ4 u4
      go_wp2_with fail
      refine (awake_any _).mono ?_
      rintro e w6 ⟨rfl, hb6⟩
      have hB6 := below_through hb6 hB5.size hB5
      have hP6 := hP5.later hb6
      have hQ6 := hQ5.later hb6
      have v6 := cell_later hb6 v5
      have u6 := cell_later hb6 u5
      clear hB5 hP5 hQ5 v5 u5 hb6
      have C6 := refSame_any a4 a c4 c p w6 hQ6.out hP6.out hlm
      go_wp2_with fail
      refine C6.mono ?_
      rintro e w7 ⟨rfl, hb7⟩
      have hB7 := below_through hb7 hB6.size hB6
      clear hB6 hP6 hQ6 v6 u6 hb7 C6
      go_wp2
      go_ret
      exact ⟨rfl, hB7⟩
    · unfold PutAns at C2
      rw [e1, e2, e3] at C2
      clear e1 e2 e3 e4
      go_wp2_with fail
      refine C2.mono ?_
      rintro e w2 ⟨⟨a2, c2, qq, rfl, hc2, hq2, hqe, hA2⟩, hb2⟩
      have hB2 := below_through hb2 hB1.size hB1
      have hz2 := hB2.size
      have hB3 := hB2.alloc hz2 (Obj.cells #[.slice a2 qq.length c2] 24)
      clear hP1 hB1 q1 hb2 C2 hqe hq2 hB2 hA2
      go_wp2_with fail
      refine (awake_any _).mono ?_
      rintro e w4 ⟨rfl, hb4⟩
      have hB4 := below_through hb4 hB3.size hB3
      clear hb4 hB3
      go_wp2
      go_ret
      exact ⟨rfl, hB4⟩
end Go.Proofs.Ytpcjfhoppcmenaa
