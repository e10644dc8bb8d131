/- The reference of layer 5: reading a page: a contract of the call, in whatever memory. Conditions: the bytes are a string's. -/
import Derived.Test.YtpcjfhoppcmenaaQj
import Derived.BigQuiet
namespace Go.Proofs.Ytpcjfhoppcmenaa
open Go.RowKit

def readQ (s : List UInt8) : Pg := (readP s).getD []
def readE (s : List UInt8) : Int := if (readP s).isSome then 0 else 2
theorem read_none {s : List UInt8} (h : readP s = none) : readQ s = [] ∧ readE s = 2 := by unfold readQ readE; rw [h]; exact ⟨rfl, rfl⟩
theorem read_some {s : List UInt8} {p : Pg} (h : readP s = some p) : readQ s = p ∧ readE s = 0 := by unfold readQ readE; rw [h]; exact ⟨rfl, rfl⟩
/-- Q has been read of the first i slots of n. -/
def ReadTo (s : List UInt8) (n i : Nat) (Q : Pg) : Prop := slotsD s 0 n = (slotsD s i (n - i)).map (Q ++ ·) ∧ Q.length = i
theorem readTo_start (s : List UInt8) (n : Nat) : ReadTo s n 0 [] := ⟨by cases h : slotsD s 0 n <;> simp, rfl⟩
theorem readTo_bad {s : List UInt8} {n i : Nat} {Q : Pg} (h : ReadTo s n i Q) (hi : i < n) (hb : slotD s i = none) : slotsD s 0 n = none := by
  rw [h.1, show n - i = (n - (i + 1)) + 1 by omega, slotsD, hb]; rfl
theorem readTo_next {s : List UInt8} {n i : Nat} {Q : Pg} {t : Slot} (h : ReadTo s n i Q) (hi : i < n) (hb : slotD s i = some t) : ReadTo s n (i + 1) (Q ++ [t]) := by
  refine ⟨?_, by rw [List.length_append, h.2]; rfl⟩
  rw [h.1, show n - i = (n - (i + 1)) + 1 by omega, slotsD, hb]
  cases slotsD s (i + 1) (n - (i + 1)) <;> simp
theorem readTo_end {s : List UInt8} {n : Nat} {Q : Pg} (h : ReadTo s n n Q) : slotsD s 0 n = some Q := by
  rw [h.1, Nat.sub_self]; simp [slotsD]
theorem read_long {s : List UInt8} (h : s.length ≠ 1024) : readP s = none := by unfold readP; rw [if_pos h]
theorem read_many {s : List UInt8} (h : s.length = 1024) (hn : 1024 < 2 + 4 * numAt s 0) : readP s = none := by unfold readP; rw [if_neg (by omega), if_pos hn]
theorem read_is {s : List UInt8} (h : s.length = 1024) (hn : ¬ 1024 < 2 + 4 * numAt s 0) : readP s = match slotsD s 0 (numAt s 0) with
    | none => none
    | some p => if rightB p = true ∧ bytesP p = s then some p else none := by unfold readP; rw [if_neg (by omega), if_neg hn]; rfl
theorem idx_run (s : List UInt8) (k : Nat) (h : k < s.length) (W : World) (x : Int) (hx : x = (k : Int)) : (Instr.index 9 (.string (txt s)) (.int .i64 x)).run Try.prog W = .ok (.int .u8 (((s.getD k 0).toNat : Nat) : Int)) W := by
  subst hx
  have hz : (txt s).size = s.length := txt_size s
  have hk : k < (txt s).size := by omega
  have e : (txt s)[k]'hk = s.getD k 0 := by rw [txt_get s k hk h]; simp [List.getD, h]
  rw [run_index_string W 9 (txt s) .i64 k Try.underlying9]
  simp [hk, e]

theorem slotD_bad {s : List UInt8} {i x y : Nat} (h1 : numAt s (2 + 4 * i) = x) (h2 : numAt s (4 + 4 * i) = y) (h : 1024 < x ∨ 1024 - x < y) : slotD s i = none := by
  unfold slotD; rw [h1, h2, if_pos h]
theorem slotD_ok {s : List UInt8} {i x y : Nat} (h1 : numAt s (2 + 4 * i) = x) (h2 : numAt s (4 + 4 * i) = y) (h : ¬ (1024 < x ∨ 1024 - x < y)) : slotD s i = some (if 0 < x then (true, (s.drop x).take y) else noS) := by
  unfold slotD; rw [h1, h2, if_neg h]
theorem slotsD_small {s : List UInt8} : ∀ (k i : Nat) (p : Pg), slotsD s i k = some p → ∀ t ∈ p, t.2.length ≤ s.length
  | 0, i, p, h, t, ht => by
    obtain rfl : [] = p := Option.some.inj h
    exact absurd ht (by simp)
  | k + 1, i, p, h, t, ht => by
    rw [slotsD] at h
    cases hd : slotD s i with
    | none => rw [hd] at h; cases h
    | some u =>
      rw [hd] at h
      dsimp only at h
      cases hr : slotsD s (i + 1) k with
      | none => rw [hr] at h; cases h
      | some q =>
        rw [hr] at h
        obtain rfl : u :: q = p := Option.some.inj h
        rcases List.mem_cons.1 ht with rfl | ht
        · unfold slotD at hd
          split at hd
          · cases hd
          · obtain rfl := Option.some.inj hd
            split
            · show ((s.drop _).take _).length ≤ s.length
              rw [List.length_take, List.length_drop]; omega
            · exact Nat.zero_le _
        · exact slotsD_small k (i + 1) q hr t ht
theorem txt_toList (l : List UInt8) : (txt l).toList = l := by rw [ByteArray.toList_eq]; rfl
theorem w64 {x y : Int} (e : x = y) (h1 : -9223372036854775808 ≤ x) (h2 : x ≤ 9223372036854775807) : IntKind.i64.wrap x = y ∧ wrap64 x = y := by
  subst e
  exact ⟨IntWalk.i64_in _ (by omega), by unfold wrap64; omega⟩

set_option maxHeartbeats 4000000 in
set_option maxRecDepth 1000000 in
theorem refRead_any (s : List UInt8) (w : World) :
    Calls Try.prog 30 #[.string (txt s)] w (PgAns w none [] (readQ s) (readE s)) := by
  have hz : (txt s).size = s.length := txt_size s
  have v0 := VarAt.new w (.slice none 0 0) 24
  have hB0 : Below w.heap.size w (w.alloc (Obj.cells #[.slice none 0 0] 24)) := (Below.refl _ _).alloc (Nat.le_refl _) _
  have fin : ∀ (W : World), VarAt W w.heap.size (.slice none 0 0) → Below w.heap.size w W → (∃ a c q', Ending.returned (.tuple #[.agg #[.slice none 0 0], .int .i64 2]) = .returned (.tuple #[.agg #[.slice a q'.length c], .int .i64 2]) ∧ q'.length ≤ c ∧ SlotsAt W a q' ∧ q' = ([] : Pg) ∧ Away w none [] a q') ∧ Below w.heap.size w W :=
    fun W _ hb => ⟨⟨none, 0, [], rfl, Nat.le_refl _, fun h => absurd rfl h, rfl, .inl ⟨rfl, rfl⟩⟩, hb⟩
  by_cases h1024 : s.length = 1024
  · rw [h1024] at hz
    have hget : ∀ (k : Nat) (x : Int), k < 1024 → x = (k : Int) → ∀ W, (Instr.index 9 (.string (txt s)) (.int .i64 x)).run Try.prog W = .ok (.int .u8 (((s.getD k 0).toNat : Nat) : Int)) W := fun k x hk hx W => idx_run s k (by omega) W x hx
    have hbyte : ∀ k, (s.getD k 0).toNat < 256 := fun k => (s.getD k 0).toNat_lt
    obtain ⟨n, hn⟩ : ∃ n, numAt s 0 = n := ⟨_, rfl⟩
    have hna : 256 * (s.getD 0 0).toNat + (s.getD 1 0).toNat = n := hn
    have g0 := hget 0 0 (by omega) rfl
    have g1 := hget 1 1 (by omega) rfl
    have l0 := hbyte 0
    have l1 := hbyte 1
    generalize (s.getD 0 0).toNat = b0 at hna g0 l0
    generalize (s.getD 1 0).toNat = b1 at hna g1 l1
    have W1 := hid0 (w64 (x := (b0 : Int)) rfl (by omega) (by omega))
    have W2 := hid0 (w64 (x := (b1 : Int)) rfl (by omega) (by omega))
    have W3 := hid0 (w64 (x := 256 * (b0 : Int)) rfl (by omega) (by omega))
    have W4 := hid0 (w64 (x := 256 * (b0 : Int) + (b1 : Int)) (y := (n : Int)) (by omega) (by omega) (by omega))
    have W5 := hid0 (w64 (x := 4 * (n : Int)) rfl (by omega) (by omega))
    have W6 := hid0 (w64 (x := 2 + 4 * (n : Int)) rfl (by omega) (by omega))
    have hn65 : n < 65536 := by omega
    have HGET := hid0 hget
    have HBYTE := hid0 hbyte
    have HN := hid0 hn
    have H1024 := hid0 h1024
    obtain ⟨q, f⟩ := v0
    clear hget hbyte hn hna h1024 l0 l1
    obtain ⟨w1, u1⟩ := W1.out
    obtain ⟨w2, u2⟩ := W2.out
    obtain ⟨w3, u3⟩ := W3.out
    obtain ⟨w4, u4⟩ := W4.out
    go_enter Try.func30, Try.ntmps30
    go_wp2_with fail
    go_quiet (fail)
    clear w1 u1 w2 u2 w3 u3 w4 u4 W1 W2 W3 W4 g0 g1
    have v1 : VarAt ((w.alloc (Obj.cells #[.slice none 0 0] 24)).drewN nq) w.heap.size (.slice none 0 0) := ⟨q, f⟩
    have hB1 : Below w.heap.size w ((w.alloc (Obj.cells #[.slice none 0 0] 24)).drewN nq) := ⟨hB0.os, hB0.tape, hB0.output, hB0.size, hB0.block⟩
    have hz1 : ((w.alloc (Obj.cells #[.slice none 0 0] 24)).drewN nq).heap.size = w.heap.size + 1 := World.size_alloc _ _
    clear q f hB0
    generalize (w.alloc (Obj.cells #[.slice none 0 0] 24)).drewN nq = W at v1 hB1 hz1 ⊢
    by_cases hmany : 1024 < 2 + 4 * n
    · obtain ⟨e1, e2⟩ := read_none (read_many H1024.out (by rw [HN.out]; exact hmany))
      have E1 := hid0 e1
      have E2 := hid0 e2
      have hmi : (1024 : Int) < 2 + 4 * (n : Int) := by omega
      have v2 := v1.set (.slice none 0 0)
      have hB2 := hB1.setCell (p := ⟨w.heap.size, 0, none⟩) (Nat.le_refl _) (.slice none 0 0)
      have c0 := v2.cell
      obtain ⟨q, f⟩ := v1
      obtain ⟨w5, u5⟩ := W5.out
      obtain ⟨w6, u6⟩ := W6.out
      clear e1 e2
      go_wp2
      exact bodyPost_ret (v := .tuple #[.agg #[.slice none 0 0], .int .i64 2]) (by simp [results, Try.results30, go_sem, c0]) rfl (by rw [E1.out, E2.out]; exact fin _ v2 hB2)
    · have HIS := hid0 (read_is H1024.out (by rw [HN.out]; exact hmany))
      have hmi : ¬ (1024 : Int) < 2 + 4 * (n : Int) := by omega
      obtain ⟨w5, u5⟩ := W5.out
      obtain ⟨w6, u6⟩ := W6.out
      go_wp2_with fail
      clear w5 u5 w6 u6 W5 W6
      have pv : VarAt (W.alloc (Obj.cells #[.slice none 0 0] 24)) (w.heap.size + 1) (.slice none 0 0) := by
        have h := VarAt.new W (.slice none 0 0) 24
        rwa [hz1] at h
      have rv := v1.alloc (Obj.cells #[.slice none 0 0] 24)
      have hB2 := hB1.alloc (by omega) (Obj.cells #[.slice none 0 0] 24)
      go_loopw [6] (fun iv wr => ∃ (i : Nat) (Q : Pg) (v : Value), i ≤ n ∧ iv = .int .i64 i ∧ VarAt wr w.heap.size (.slice none 0 0) ∧ VarAt wr (w.heap.size + 1) v ∧ OwnS wr (w.heap.size + 2) v Q ∧ Hid (ReadTo s n i Q) ∧ Below w.heap.size w wr) (fun iv _ => n - (intOf iv).toNat)
      case atStart => exact ⟨0, [], .slice none 0 0, Nat.zero_le _, rfl, rv, pv, ⟨World.ownsRow_nil _ _ _ _⟩, hid0 (readTo_start s n), hB2⟩
      case round =>
        clear v1 hB1 hz1 pv rv hB2
        obtain ⟨i, Q, v, hi, rfl, rv, pv, hown, hT, hB⟩ := hrel
        have hsz := hB.size
        have hlt1 := pv.lt
        obtain ⟨a', c', rfl, hcap, _, hSl⟩ := slots_owned hown
        have HO := hid0 hown
        have HS := hid0 hSl
        clear hown hSl
        have HQL := hid0 (show Q.length = i from hT.out.2)
        have hQb : Q.length ≤ n := by have := HQL.out; omega
        by_cases hlt : i < n
        · have g2 := HGET.out (2 + 4 * i) (2 + 4 * (i : Int)) (by omega) (by omega)
          have g3 := HGET.out (2 + 4 * i + 1) (3 + 4 * (i : Int)) (by omega) (by omega)
          have g4 := HGET.out (4 + 4 * i) (4 + 4 * (i : Int)) (by omega) (by omega)
          have g5 := HGET.out (4 + 4 * i + 1) (5 + 4 * (i : Int)) (by omega) (by omega)
          have l2 := HBYTE.out (2 + 4 * i)
          have l3 := HBYTE.out (2 + 4 * i + 1)
          have l4 := HBYTE.out (4 + 4 * i)
          have l5 := HBYTE.out (4 + 4 * i + 1)
          obtain ⟨at', hat⟩ : ∃ x, numAt s (2 + 4 * i) = x := ⟨_, rfl⟩
          obtain ⟨sz, hsz'⟩ : ∃ x, numAt s (4 + 4 * i) = x := ⟨_, rfl⟩
          have n1 : 256 * (s.getD (2 + 4 * i) 0).toNat + (s.getD (2 + 4 * i + 1) 0).toNat = at' := hat
          have n2 : 256 * (s.getD (4 + 4 * i) 0).toNat + (s.getD (4 + 4 * i + 1) 0).toNat = sz := hsz'
          have HAT := hid0 hat
          have HSZ := hid0 hsz'
          clear hat hsz'
          generalize (s.getD (2 + 4 * i) 0).toNat = b2 at g2 l2 n1
          generalize (s.getD (2 + 4 * i + 1) 0).toNat = b3 at g3 l3 n1
          generalize (s.getD (4 + 4 * i) 0).toNat = b4 at g4 l4 n2
          generalize (s.getD (4 + 4 * i + 1) 0).toNat = b5 at g5 l5 n2
          have W0 := hid0 (w64 (x := 4 * (i : Int)) rfl (by omega) (by omega))
          have W2 := hid0 (w64 (x := 2 + 4 * (i : Int)) rfl (by omega) (by omega))
          have W3 := hid0 (w64 (x := 3 + 4 * (i : Int)) rfl (by omega) (by omega))
          have W4 := hid0 (w64 (x := 4 + 4 * (i : Int)) rfl (by omega) (by omega))
          have W5 := hid0 (w64 (x := 5 + 4 * (i : Int)) rfl (by omega) (by omega))
          have X2 := hid0 (w64 (x := (b2 : Int)) rfl (by omega) (by omega))
          have X3 := hid0 (w64 (x := (b3 : Int)) rfl (by omega) (by omega))
          have X4 := hid0 (w64 (x := (b4 : Int)) rfl (by omega) (by omega))
          have X5 := hid0 (w64 (x := (b5 : Int)) rfl (by omega) (by omega))
          have Y2 := hid0 (w64 (x := 256 * (b2 : Int)) rfl (by omega) (by omega))
          have Y4 := hid0 (w64 (x := 256 * (b4 : Int)) rfl (by omega) (by omega))
          have Z2 := hid0 (w64 (x := 256 * (b2 : Int) + (b3 : Int)) (y := (at' : Int)) (by omega) (by omega) (by omega))
          have Z4 := hid0 (w64 (x := 256 * (b4 : Int) + (b5 : Int)) (y := (sz : Int)) (by omega) (by omega) (by omega))
          have hat65 : at' < 65536 := by omega
          have hsz65 : sz < 65536 := by omega
          clear l2 l3 l4 l5 n1 n2
          obtain ⟨w0, u0⟩ := W0.out
          obtain ⟨w2, u2⟩ := W2.out
          obtain ⟨w3, u3⟩ := W3.out
          obtain ⟨w4, u4⟩ := W4.out
          obtain ⟨w5, u5⟩ := W5.out
          obtain ⟨x2, y2⟩ := X2.out
          obtain ⟨x3, y3⟩ := X3.out
          obtain ⟨x4, y4⟩ := X4.out
          obtain ⟨x5, y5⟩ := X5.out
          obtain ⟨z2, t2⟩ := Y2.out
          obtain ⟨z4, t4⟩ := Y4.out
          obtain ⟨z6, t6⟩ := Z2.out
          obtain ⟨z8, t8⟩ := Z4.out
          clear W0 W2 W3 W4 W5 X2 X3 X4 X5 Y2 Y4 Z2 Z4
          go_wp2_with fail
          go_quiet (fail)
          clear w0 u0 w2 u2 w3 u3 w4 u4 w5 u5 x2 y2 x3 y3 x4 y4 x5 y5 z2 t2 z4 t4 z6 t6 z8 t8 g2 g3 g4 g5
          have rv3 : VarAt (wr.drewN nq) w.heap.size (.slice none 0 0) := ⟨rv.cell, rv.frz⟩
          have pv3 : VarAt (wr.drewN nq) (w.heap.size + 1) (.slice a' Q.length c') := ⟨pv.cell, pv.frz⟩
          have HO3 : Hid (OwnS (wr.drewN nq) (w.heap.size + 2) (.slice a' Q.length c') Q) := hid0 ⟨HO.out.out⟩
          have hB3 : Below w.heap.size w (wr.drewN nq) := ⟨hB.os, hB.tape, hB.output, hB.size, hB.block⟩
          have hlt3 : w.heap.size + 1 < (wr.drewN nq).heap.size := hlt1
          clear rv pv HO HS hB hlt1 hsz
          generalize wr.drewN nq = W3 at rv3 pv3 HO3 hB3 hlt3 ⊢
          by_cases hA : 1024 < at'
          · have hAi : (1024 : Int) < (at' : Int) := by omega
            have hnone := readTo_bad hT.out hlt (slotD_bad HAT.out HSZ.out (.inl hA))
            have hrn : readP s = none := by rw [HIS.out, HN.out, hnone]
            obtain ⟨e1, e2⟩ := read_none hrn
            have E1 := hid0 e1
            have E2 := hid0 e2
            clear e1 e2 hnone hrn
            have v2 := rv3.set (.slice none 0 0)
            have hB4 := hB3.setCell (p := ⟨w.heap.size, 0, none⟩) (Nat.le_refl _) (.slice none 0 0)
            have c0 := v2.cell
            obtain ⟨q, f⟩ := rv3
            go_wp2
            exact bodyPost_ret (v := .tuple #[.agg #[.slice none 0 0], .int .i64 2]) (by simp [results, Try.results30, go_sem, c0]) rfl (by rw [E1.out, E2.out]; exact fin _ v2 hB4)
          · have hAi : ¬ (1024 : Int) < (at' : Int) := by omega
            have hwA : IntKind.i64.wrap ((1024 : Int) - (at' : Int)) = (1024 : Int) - (at' : Int) := IntWalk.i64_in _ (by omega)
            by_cases hS : 1024 - at' < sz
            · have hSi : (1024 : Int) - (at' : Int) < (sz : Int) := by omega
              have hnone := readTo_bad hT.out hlt (slotD_bad HAT.out HSZ.out (.inr hS))
              have hrn : readP s = none := by rw [HIS.out, HN.out, hnone]
              obtain ⟨e1, e2⟩ := read_none hrn
              have E1 := hid0 e1
              have E2 := hid0 e2
              clear e1 e2 hnone hrn
              have v2 := rv3.set (.slice none 0 0)
              have hB4 := hB3.setCell (p := ⟨w.heap.size, 0, none⟩) (Nat.le_refl _) (.slice none 0 0)
              have c0 := v2.cell
              obtain ⟨q, f⟩ := rv3
              go_wp2
              exact bodyPost_ret (v := .tuple #[.agg #[.slice none 0 0], .int .i64 2]) (by simp [results, Try.results30, go_sem, c0]) rfl (by rw [E1.out, E2.out]; exact fin _ v2 hB4)
            · have hSi : ¬ (1024 : Int) - (at' : Int) < (sz : Int) := by omega
              have hslot := slotD_ok HAT.out HSZ.out (fun h => by omega)
              by_cases h0 : 0 < at'
              · have h0i : (0 : Int) < (at' : Int) := by omega
                rw [if_pos h0] at hslot
                obtain ⟨d, hd⟩ : ∃ d, (s.drop at').take sz = d := ⟨_, rfl⟩
                have hcut : ∀ W : World, (Instr.slice 9 (.string (txt s)) (some (.int .i64 (at' : Int))) (some (.int .i64 ((at' : Int) + (sz : Int)))) none).run Try.prog W = .ok (.string (txt d)) W := fun W => by
                  rw [cut_at s at' ((at' : Int) + (sz : Int)) W (by omega) (by omega) (by have := H1024.out; omega), ← hd]
                  congr 4 <;> omega
                rw [hd] at hslot
                have HSL := hid0 hslot
                have hwS : IntKind.i64.wrap ((at' : Int) + (sz : Int)) = (at' : Int) + (sz : Int) := IntWalk.i64_in _ (by omega)
                clear hd hslot
                have HN' := hid0 (readTo_next hT.out hlt HSL.out)
                have hn3 := fun u v => slot_new (W3.alloc (Obj.cells #[u, v] 53)) u v 53
                simp only [World.size_alloc] at hn3
                have ho3 := fun o o' => (HO3.out.alloc o).alloc o'
                have pc := fun o => (pv3.alloc o).cell
                have pf := fun o => (pv3.alloc o).frz
                have PV3 := hid0 pv3
                obtain ⟨qp, fp⟩ := pv3
                go_wp2_with (at_builtin; go_must (refine wp_slot1 (base := w.heap.size + 2) (E := Q) rfl _ _ rfl rfl (ho3 _ _) (true, d) (W3.heap.size + 1) rfl (hn3 _ _).1 (hn3 _ _).2 (by omega) (by simp; omega) ?_))
                intro v5 w5 hown5 hb5
                have rv5 := ((rv3.alloc (Obj.cells #[.bool true, .string (txt d)] 53)).alloc (Obj.cells #[.bool true, .string (txt d)] 53)).below hb5 (by omega)
                have pv5 := ((PV3.out.alloc (Obj.cells #[.bool true, .string (txt d)] 53)).alloc (Obj.cells #[.bool true, .string (txt d)] 53)).below hb5 (by omega)
                have hB5 : Below w.heap.size w w5 := (((hB3.alloc (by omega) (Obj.cells #[.bool true, .string (txt d)] 53)).alloc (by simp; omega) (Obj.cells #[.bool true, .string (txt d)] 53))).trans (hb5.mono (by omega))
                obtain ⟨a5, c5, rfl, hcap5, _, _⟩ := slots_owned hown5
                rw [List.length_append, List.length_singleton] at hown5
                have HO5 := hid0 hown5
                obtain ⟨q5, f5⟩ := pv5
                clear hown5 hb5 ho3 hn3 pc pf qp fp PV3 rv3 hB3 HO3
                go_wp2
                exact ⟨⟨i + 1, Q ++ [(true, d)], _, by omega, by go_num, rv5.other ⟨w.heap.size + 1, 0, none⟩ _ (by show w.heap.size + 1 ≠ w.heap.size; omega), (VarAt.mk q5 f5).set _, HO5.out.setCell (a := ⟨w.heap.size + 1, 0, none⟩) (by show w.heap.size + 1 < w.heap.size + 2; omega) _, HN', hB5.setCell (p := ⟨w.heap.size + 1, 0, none⟩) (by show w.heap.size ≤ w.heap.size + 1; omega) _⟩, by simp [intOf]; omega⟩
              · obtain rfl : at' = 0 := by omega
                rw [if_neg h0] at hslot
                have HSL := hid0 hslot
                clear hslot h0
                have HN' := hid0 (readTo_next hT.out hlt HSL.out)
                have hn3 := fun u v => slot_new (W3.alloc (Obj.cells #[u, v] 53)) u v 53
                simp only [World.size_alloc] at hn3
                have ho3 := fun o o' => (HO3.out.alloc o).alloc o'
                have pc := fun o => (pv3.alloc o).cell
                have pf := fun o => (pv3.alloc o).frz
                have PV3 := hid0 pv3
                obtain ⟨qp, fp⟩ := pv3
                go_wp2_with (at_builtin; go_must (refine wp_slot1 (base := w.heap.size + 2) (E := Q) rfl _ _ rfl rfl (ho3 _ _) noS (W3.heap.size + 1) rfl (hn3 _ _).1 (hn3 _ _).2 (by omega) (by simp; omega) ?_))
                intro v5 w5 hown5 hb5
                have rv5 := ((rv3.alloc (Obj.cells #[.bool false, .string ⟨#[]⟩] 53)).alloc (Obj.cells #[.bool false, .string ⟨#[]⟩] 53)).below hb5 (by omega)
                have pv5 := ((PV3.out.alloc (Obj.cells #[.bool false, .string ⟨#[]⟩] 53)).alloc (Obj.cells #[.bool false, .string ⟨#[]⟩] 53)).below hb5 (by omega)
                have hB5 : Below w.heap.size w w5 := (((hB3.alloc (by omega) (Obj.cells #[.bool false, .string ⟨#[]⟩] 53)).alloc (by simp; omega) (Obj.cells #[.bool false, .string ⟨#[]⟩] 53))).trans (hb5.mono (by omega))
                obtain ⟨a5, c5, rfl, hcap5, _, _⟩ := slots_owned hown5
                rw [List.length_append, List.length_singleton] at hown5
                have HO5 := hid0 hown5
                obtain ⟨q5, f5⟩ := pv5
                clear hown5 hb5 ho3 hn3 pc pf qp fp PV3 rv3 hB3 HO3
                go_wp2
                exact ⟨⟨i + 1, Q ++ [noS], _, by omega, by go_num, rv5.other ⟨w.heap.size + 1, 0, none⟩ _ (by show w.heap.size + 1 ≠ w.heap.size; omega), (VarAt.mk q5 f5).set _, HO5.out.setCell (a := ⟨w.heap.size + 1, 0, none⟩) (by show w.heap.size + 1 < w.heap.size + 2; omega) _, HN', hB5.setCell (p := ⟨w.heap.size + 1, 0, none⟩) (by show w.heap.size ≤ w.heap.size + 1; omega) _⟩, by simp [intOf]; omega⟩
        · obtain rfl : i = n := by omega
          have hend := readTo_end hT.out
          have hsm : slotsIn Q := fun t ht => by
            have := slotsD_small _ _ _ hend t ht
            have h2 := H1024.out
            unfold maxLen; omega
          have hrp : readP s = if rightB Q = true ∧ bytesP Q = s then some Q else none := by rw [HIS.out, HN.out, hend]
          have CB := hid0 (refBytes_any a' c' Q wr HS.out (by unfold maxLen; omega) hsm)
          have hti := txt_toList s
          obtain ⟨qp, fp⟩ := pv
          have hie : ¬ (i : Int) < (i : Int) := by omega
          clear hlt hend hsm HGET HBYTE hmany hmi
          cases hr : rightB Q with
          | false =>
            have hb1 : bytE Q = 1 := by unfold bytE; rw [hr]; rfl
            rw [hb1] at CB
            obtain ⟨e1, e2⟩ := read_none (s := s) (by rw [hrp, hr]; rfl)
            clear hb1 hr hrp
            have E1 := hid0 e1
            have E2 := hid0 e2
            clear e1 e2
            go_wp2_with (go_at_call 28; go_must (refine CB.out.mono ?_; rintro e w5 ⟨rfl, hb5⟩; have rv5 := rv.later hb5; obtain ⟨q5, f5⟩ := rv5; have hB5 := below_through hb5 hsz hB))
            have v2 := (VarAt.mk q5 f5).set (.slice none 0 0)
            have hB6 := hB5.setCell (p := ⟨w.heap.size, 0, none⟩) (Nat.le_refl _) (.slice none 0 0)
            have c0 := v2.cell
            exact bodyPost_ret (v := .tuple #[.agg #[.slice none 0 0], .int .i64 2]) (by simp [results, Try.results30, go_sem, c0]) rfl (by rw [E1.out, E2.out]; exact fin _ v2 hB6)
          | true =>
            have hb1 : bytE Q = 0 := by unfold bytE; rw [hr]; rfl
            have hb2 : bytD Q = bytesP Q := by unfold bytD; rw [hr]; rfl
            rw [hb1, hb2] at CB
            rw [hr] at hrp
            obtain ⟨X, hX⟩ : ∃ X, bytesP Q = X := ⟨_, rfl⟩
            rw [hX] at CB hrp
            have hxi := txt_toList X
            by_cases hXs : X = s
            · subst hXs
              obtain ⟨e1, e2⟩ := read_some (s := X) (p := Q) (by rw [hrp, if_pos ⟨rfl, rfl⟩])
              have hne : (X == X) = true := by simp
              have E1 := hid0 e1
              have E2 := hid0 e2
              clear e1 e2 hb1 hb2 hr hrp hX
              go_wp2_with (go_at_call 28; go_must (refine CB.out.mono ?_; rintro e w5 ⟨rfl, hb5⟩; have rv5 := rv.later hb5; obtain ⟨q5, f5⟩ := rv5; have qp5 := cell_later hb5 qp; have hB5 := below_through hb5 hsz hB))
              have v2 := (VarAt.mk q5 f5).set (.slice a' Q.length c')
              have hB6 := hB5.setCell (p := ⟨w.heap.size, 0, none⟩) (Nat.le_refl _) (.slice a' Q.length c')
              have hS6 := ((HO.out.kept hb5).setCell (a := ⟨w.heap.size, 0, none⟩) (by show w.heap.size < w.heap.size + 2; omega) (.slice a' Q.length c')).slots
              have c0 := v2.cell
              exact bodyPost_ret (v := .tuple #[.agg #[.slice a' Q.length c'], .int .i64 0]) (by simp [results, Try.results30, go_sem, c0]) rfl (by rw [E1.out, E2.out]; exact ⟨⟨a', c', Q, rfl, hcap, hS6, rfl, HO.out.away (by omega)⟩, hB6⟩)
            · have hne : (X == s) = false := by simpa using hXs
              obtain ⟨e1, e2⟩ := read_none (s := s) (by rw [hrp, if_neg (fun h => hXs h.2)])
              clear hb1 hb2 hr hrp hX hXs
              have E1 := hid0 e1
              have E2 := hid0 e2
              clear e1 e2
              go_wp2_with (go_at_call 28; go_must (refine CB.out.mono ?_; rintro e w5 ⟨rfl, hb5⟩; have rv5 := rv.later hb5; obtain ⟨q5, f5⟩ := rv5; have hB5 := below_through hb5 hsz hB))
              have v2 := (VarAt.mk q5 f5).set (.slice none 0 0)
              have hB6 := hB5.setCell (p := ⟨w.heap.size, 0, none⟩) (Nat.le_refl _) (.slice none 0 0)
              have c0 := v2.cell
              exact bodyPost_ret (v := .tuple #[.agg #[.slice none 0 0], .int .i64 2]) (by simp [results, Try.results30, go_sem, c0]) rfl (by rw [E1.out, E2.out]; exact fin _ v2 hB6)
  · obtain ⟨e1, e2⟩ := read_none (read_long h1024)
    rw [e1, e2]
    have hne : ¬ ((s.length : Int) = 1024) := by omega
    obtain ⟨q, f⟩ := v0
    clear e1 e2 h1024
    obtain ⟨n, hn⟩ : ∃ n, s.length = n := ⟨_, rfl⟩
    rw [hn] at hz hne
    clear hn
    go_enter Try.func30, Try.ntmps30
    go_wp2
    exact bodyPost_ret (v := .tuple #[.agg #[.slice none 0 0], .int .i64 2]) (by simp [results, Try.results30, go_sem]) rfl (fin _ ⟨q, f⟩ hB0)
end Go.Proofs.Ytpcjfhoppcmenaa
