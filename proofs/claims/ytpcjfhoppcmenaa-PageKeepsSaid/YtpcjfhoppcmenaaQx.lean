/- The walk of the law PageKeeps, in one of its four cases: it returns true, and below the heap's end memory is as it was. Conditions: the slots' cells are known (what came in reads so); which case. -/
import Derived.Test.YtpcjfhoppcmenaaQq
namespace Go.Proofs.Ytpcjfhoppcmenaa
open Go.RowKit

set_option maxHeartbeats 8000000 in
set_option maxRecDepth 1000000 in
theorem keeps_00 (a : Option Addr) (c : Nat) (p : Pg) (d : List UInt8) (i : Int) (w : World) (PP SS : Pg) (k dn : Nat) (er : Int) (gs : List UInt8) (ge : Int) (de : Int) (hs : List UInt8) (he : Int) (ds : List UInt8) 
    (hP : PgAt w a c p) (hi1 : -9223372036854775808 ≤ i) (hi2 : i ≤ 9223372036854775807) (hd : d.length ≤ 140737488351232) (hdn : (dn : Int) ≤ 9223372036854775807) (hzd : (txt d).size = dn) (hfp : fineP PP) (hfs : fineP SS) (hr : rightB p = true)
    (hpp : putP p d = PP) (hpi : putI p d = k) (hpe : putE p d = 17) (hsp : setP p i d = SS) (hse : setE p i d = er) (her : er ≠ 0) (her2 : (er == 0) = false) (hg1 : getD PP (k : Int) = gs) (hg2 : getE PP (k : Int) = ge) (hh1 : getD SS i = hs) (hh2 : getE SS i = he) (hd1 : getD p (k : Int) = ds) (hd2 : getE p (k : Int) = de) (hk2 : (k : Int) ≤ 9223372036854775807) (hfb : fitsB p (dn : Int) = false) (hpp0 : Hid (p = PP)) (hsp0 : Hid (p = SS)) :
    Calls Try.prog 5 #[.agg #[.slice a p.length c], .string (txt d), .int .i64 i] w fun e w' => e = .returned (.bool true) ∧ Below w.heap.size w w' := by
  have hlm : p.length ≤ maxLen := fine_len ⟨hP.len, hP.small⟩
  have td := txt_toList d
  have qv3 := (VarAt.new w (.slice a p.length c) 24).cell
  replace hP := hP.alloc (Obj.cells #[.slice a p.length c] 24)
  have hB : Below w.heap.size w (w.alloc (Obj.cells #[.slice a p.length c] 24)) := (Below.refl _ _).alloc (Nat.le_refl _) _
  go_enter Try.func5, Try.ntmps5
  have C := pgRight_any a c p _ hP.out hP.cap hP.len hP.small
  rw [hr] at C
  go_wp2_with fail
  refine C.mono ?_
  rintro e w1 ⟨rfl, hbw1⟩
  clear C
  replace hB := below_through hbw1 hB.size hB
  replace hP := hP.later hbw1
  replace qv3 := cell_later hbw1 qv3
  have hl256 : p.length ≤ 256 := (right_sizeW hr).2.2
  clear hbw1 hr
  have C := pgPut_any a c p d _ hP.out hP.cap hP.len hP.small (le47 hd)
  unfold PutAns at C
  rw [hpi, hpe] at C
  go_wp2_with fail
  refine C.mono ?_
  rintro e w2 ⟨⟨a7, c7, Q, rfl, hc7, hq7, hqe, _⟩, hbw2⟩
  clear C
  rw [hpp] at hqe
  obtain rfl := hqe.symm
  replace hB := below_through hbw2 hB.size hB
  replace hP := hP.later hbw2
  replace qv3 := cell_later hbw2 qv3
  clear hbw2
  have hA : PgAt w2 a7 c7 PP := ⟨hq7, hc7, hfp.1, hfp.2⟩
  clear hq7 hc7
  have hzv7 := hB.size
  replace hB := hB.alloc hzv7 (Obj.cells #[.slice a7 PP.length c7] 24)
  replace hP := hP.alloc (Obj.cells #[.slice a7 PP.length c7] 24)
  replace hA := hA.alloc (Obj.cells #[.slice a7 PP.length c7] 24)
  replace qv3 := cell_later ((Below.refl w2.heap.size w2).alloc (Nat.le_refl _) (Obj.cells #[.slice a7 PP.length c7] 24)) qv3
  have qv7 := (VarAt.new w2 (.slice a7 PP.length c7) 24).cell
  clear hzv7
  have C := pgSet_any a c p i d _ hP.out hP.cap hP.len hP.small hi1 hi2 hd
  unfold PgAns at C
  rw [hse] at C
  go_wp2_with fail
  refine C.mono ?_
  rintro e w3 ⟨⟨a10, c10, Q, rfl, hc10, hq10, hqe, _⟩, hbw3⟩
  clear C
  rw [hsp] at hqe
  obtain rfl := hqe.symm
  replace hB := below_through hbw3 hB.size hB
  replace hP := hP.later hbw3
  replace hA := hA.later hbw3
  replace qv3 := cell_later hbw3 qv3
  replace qv7 := cell_later hbw3 qv7
  clear hbw3
  have hS : PgAt w3 a10 c10 SS := ⟨hq10, hc10, hfs.1, hfs.2⟩
  clear hq10 hc10
  have hzv10 := hB.size
  replace hB := hB.alloc hzv10 (Obj.cells #[.slice a10 SS.length c10] 24)
  replace hP := hP.alloc (Obj.cells #[.slice a10 SS.length c10] 24)
  replace hA := hA.alloc (Obj.cells #[.slice a10 SS.length c10] 24)
  replace hS := hS.alloc (Obj.cells #[.slice a10 SS.length c10] 24)
  replace qv3 := cell_later ((Below.refl w3.heap.size w3).alloc (Nat.le_refl _) (Obj.cells #[.slice a10 SS.length c10] 24)) qv3
  replace qv7 := cell_later ((Below.refl w3.heap.size w3).alloc (Nat.le_refl _) (Obj.cells #[.slice a10 SS.length c10] 24)) qv7
  have qv10 := (VarAt.new w3 (.slice a10 SS.length c10) 24).cell
  clear hzv10
  have C := pgGet_any a7 c7 PP (k : Int) _ hA.out hA.cap hA.len hA.small (by omega) hk2
  rw [hg1, hg2] at C
  go_wp2_with fail
  refine C.mono ?_
  rintro e w4 ⟨rfl, hbw4⟩
  clear C
  replace hB := below_through hbw4 hB.size hB
  replace hP := hP.later hbw4
  replace hA := hA.later hbw4
  replace hS := hS.later hbw4
  replace qv3 := cell_later hbw4 qv3
  replace qv7 := cell_later hbw4 qv7
  replace qv10 := cell_later hbw4 qv10
  clear hbw4
  have C := pgGet_any a10 c10 SS i _ hS.out hS.cap hS.len hS.small hi1 hi2
  rw [hh1, hh2] at C
  go_wp2_with fail
  refine C.mono ?_
  rintro e w5 ⟨rfl, hbw5⟩
  clear C
  replace hB := below_through hbw5 hB.size hB
  replace hP := hP.later hbw5
  replace hA := hA.later hbw5
  replace hS := hS.later hbw5
  replace qv3 := cell_later hbw5 qv3
  replace qv7 := cell_later hbw5 qv7
  replace qv10 := cell_later hbw5 qv10
  clear hbw5
  have C := pgGet_any a c p (k : Int) _ hP.out hP.cap hP.len hP.small (by omega) hk2
  rw [hd1, hd2] at C
  go_wp2_with fail
  refine C.mono ?_
  rintro e w6 ⟨rfl, hbw6⟩
  clear C
  replace hB := below_through hbw6 hB.size hB
  replace hP := hP.later hbw6
  replace hA := hA.later hbw6
  replace hS := hS.later hbw6
  replace qv3 := cell_later hbw6 qv3
  replace qv7 := cell_later hbw6 qv7
  replace qv10 := cell_later hbw6 qv10
  clear hbw6
  obtain rfl : p = PP   := hpp0.out
  have C := refSame_any a7 a c7 c p _ hA.out hP.out hlm
  go_wp2_with fail
  refine C.mono ?_
  rintro e w7 ⟨rfl, hbw7⟩
  clear C
  replace hB := below_through hbw7 hB.size hB
  replace hP := hP.later hbw7
  replace hA := hA.later hbw7
  replace hS := hS.later hbw7
  replace qv3 := cell_later hbw7 qv3
  replace qv7 := cell_later hbw7 qv7
  replace qv10 := cell_later hbw7 qv10
  clear hbw7
  have C := pgFits_any a c p (dn : Int) _ hP.out hP.cap hP.len hP.small (by omega) hdn
  rw [hfb] at C
  go_wp2_with fail
  refine C.mono ?_
  rintro e w8 ⟨rfl, hbw8⟩
  clear C
  replace hB := below_through hbw8 hB.size hB
  replace hP := hP.later hbw8
  replace hA := hA.later hbw8
  replace hS := hS.later hbw8
  replace qv3 := cell_later hbw8 qv3
  replace qv7 := cell_later hbw8 qv7
  replace qv10 := cell_later hbw8 qv10
  clear hbw8
  obtain rfl : p = SS := hsp0.out
  have C := refSame_any a10 a c10 c p _ hS.out hP.out hlm
  go_wp2_with fail
  refine C.mono ?_
  rintro e w9 ⟨rfl, hbw9⟩
  clear C
  replace hB := below_through hbw9 hB.size hB
  replace hP := hP.later hbw9
  replace hA := hA.later hbw9
  replace hS := hS.later hbw9
  replace qv3 := cell_later hbw9 qv3
  replace qv7 := cell_later hbw9 qv7
  replace qv10 := cell_later hbw9 qv10
  clear hbw9
  have hPB := hB
  go_wp2_with fail
  go_loopw [18] (fun jv wr => ∃ j : Nat, j ≤ p.length ∧ jv = .int .i64 j ∧ wr.cell? ⟨w.heap.size, 0, none⟩ = some (.slice a p.length c) ∧ wr.cell? ⟨w2.heap.size, 0, none⟩ = some (.slice a7 p.length c7) ∧ wr.cell? ⟨w3.heap.size, 0, none⟩ = some (.slice a10 p.length c10) ∧ PgAt wr a c p ∧ PgAt wr a7 c7 p ∧ PgAt wr a10 c10 p ∧ Below w.heap.size w wr) (fun jv _ => p.length - (intOf jv).toNat)
  case atStart => exact ⟨0, Nat.zero_le _, rfl, qv3, qv7, qv10, hP, hA, hS, hB⟩
  case round =>
    clear qv3 qv7 qv10 hP hA hS hB hPB
    obtain ⟨j, hj, rfl, qv3, qv7, qv10, hP, hA, hS, hB⟩ := hrel
    by_cases hlt : j < p.length
    · have hjlen : j < p.length := hlt
      have hjb : (j : Int) ≤ 9223372036854775807 := by have := hP.len; omega
      obtain ⟨x, hx⟩ : ∃ x, getD p (j : Int) = x := ⟨_, rfl⟩
      obtain ⟨cc, hcc⟩ : ∃ x, getE p (j : Int) = x := ⟨_, rfl⟩
      obtain ⟨y, hy⟩ : ∃ x, getD p (j : Int) = x := ⟨_, rfl⟩
      obtain ⟨dd, hdd⟩ : ∃ x, getE p (j : Int) = x := ⟨_, rfl⟩
      obtain ⟨z, hz⟩ : ∃ x, getD p (j : Int) = x := ⟨_, rfl⟩
      obtain ⟨mm, hmm⟩ : ∃ x, getE p (j : Int) = x := ⟨_, rfl⟩
      have hput : x = y ∧ cc = dd := ⟨by rw [← hx, ← hy], by rw [← hcc, ← hdd]⟩
      have hset : x = z ∧ cc = mm := ⟨by rw [← hx, ← hz], by rw [← hcc, ← hmm]⟩
      have C := pgGet_any a c p (j : Int) _ hP.out hP.cap hP.len hP.small (by omega) hjb
      rw [hx, hcc] at C
      go_wp2_with fail
      refine C.mono ?_
      rintro e w10 ⟨rfl, hbw10⟩
      clear C
      replace hB := below_through hbw10 hB.size hB
      replace hP := hP.later hbw10
      replace hA := hA.later hbw10
      replace hS := hS.later hbw10
      replace qv3 := cell_later hbw10 qv3
      replace qv7 := cell_later hbw10 qv7
      replace qv10 := cell_later hbw10 qv10
      clear hbw10
      have C := pgGet_any a7 c7 p (j : Int) _ hA.out hA.cap hA.len hA.small (by omega) hjb
      rw [hy, hdd] at C
      go_wp2_with fail
      refine C.mono ?_
      rintro e w11 ⟨rfl, hbw11⟩
      clear C
      replace hB := below_through hbw11 hB.size hB
      replace hP := hP.later hbw11
      replace hA := hA.later hbw11
      replace hS := hS.later hbw11
      replace qv3 := cell_later hbw11 qv3
      replace qv7 := cell_later hbw11 qv7
      replace qv10 := cell_later hbw11 qv10
      clear hbw11
      have C := pgGet_any a10 c10 p (j : Int) _ hS.out hS.cap hS.len hS.small (by omega) hjb
      rw [hz, hmm] at C
      go_wp2_with fail
      refine C.mono ?_
      rintro e w12 ⟨rfl, hbw12⟩
      clear C
      replace hB := below_through hbw12 hB.size hB
      replace hP := hP.later hbw12
      replace hA := hA.later hbw12
      replace hS := hS.later hbw12
      replace qv3 := cell_later hbw12 qv3
      replace qv7 := cell_later hbw12 qv7
      replace qv10 := cell_later hbw12 qv10
      clear hbw12
      have tx := txt_toList x
      have ty := txt_toList y
      have tz := txt_toList z
      clear hx hcc hy hdd hz hmm
      obtain ⟨rfl, rfl⟩ := hput
      obtain ⟨rfl, rfl⟩ := hset
      go_wp2
      exact ⟨⟨j + 1, by omega, by go_num, qv3, qv7, qv10, hP, hA, hS, hB⟩, by simp [intOf]; omega⟩
    · have hie : ¬ (j : Int) < p.length := by omega
      go_wp2_with fail
      refine (awake_any _).mono ?_
      rintro e wl ⟨rfl, hbl⟩
      have hBl := below_through hbl hB.size hB
      clear hbl hB hP hA hS
      go_wp2
      go_ret
      exact ⟨rfl, hBl⟩
end Go.Proofs.Ytpcjfhoppcmenaa
