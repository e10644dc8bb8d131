/- The project's page: its bytes: a contract of the call, in whatever memory. Conditions: the slots' cells are known. -/
import Derived.Test.YtpcjfhoppcmenaaQpe
import Derived.OwnWalk
import Derived.Laws.BytesArg
namespace Go.Proofs.Ytpcjfhoppcmenaa
open Go.RowKit

theorem info_u8 : (Try.prog.info? 5).map (fun i => (i.zero, i.size, i.bytes)) = some (some (.int .u8 0), 1, 1) := by kernel_rfl
theorem made_at (n j : Nat) (h : j < n) : (madeCells (Value.int .u8 0).cells n).toList[j]? = some (.int .u8 0) := by
  show (madeCells #[Value.int .u8 0] n).toList[j]? = _
  rw [toList_madeCells_one]
  simp [h]
theorem made_bytes {w : World} {base B n : Nat} (h : w.ownsRow base 5 1 (.slice (some ⟨B, 0, none⟩) n n) n (madeCells (Value.int .u8 0).cells (n * 1)).toList) : BytAt w B (List.replicate n 0) := by
  refine ⟨fun j hj => ?_, fun j _ => h.frozenAt j, (h.lt B rfl).2⟩
  rw [List.length_replicate] at hj
  rw [h.cellAt j (by omega), Nat.mul_one, made_at n j hj, List.getElem_replicate]
  rfl
theorem BytAt.back {w : World} {B : Nat} {X : List UInt8} (h : BytAt w B X) (c : Nat) : (convert 46 9 (.slice (some ⟨B, 0, none⟩) X.length c)).run Try.prog w = .ok (.string (txt X)) w := by
  refine run_convert_bytes_back (P := Try.prog) w 46 9 5 ⟨B, 0, none⟩ c X Try.underlying46 Try.underlying5 Try.underlying9 (fun j hj => ?_)
  rw [WideShapes.add_plain, Nat.zero_add]
  exact h.cell j hj
/-- A text copied over bytes, from place o on (or from nowhere, if it has none). -/
theorem copy_run (B o o' n : Nat) (d X : List UInt8) (w : World) (h : BytAt w B X) (hl : X.length = o + n) (hd : d.length ≤ n) (ho : d.length = 0 ∨ o' = o) (c : Nat) (ty : TypeId) :
    (Builtin.copy_ #[46, 9] ty #[.slice (some ⟨B, o', none⟩) n c, .string (txt d)]).run Try.prog w = .ok (.int .i64 (d.length : Int)) (w.setCells B o' (d.map fun x => Value.int .u8 (x.toNat : Int))) := by
  have hz : (txt d).size = d.length := txt_size d
  have hsz : ∀ w, (Go.sizeOf 5).run Try.prog w = .ok 1 w := fun w => by
    obtain ⟨i0, hi, hz0, hz1, hz2⟩ := info_parts info_u8
    simp [Go.sizeOf, typeInfo, hi, hz1]
  have hr := run_copy_string (P := Try.prog) w 46 9 ty 5 B o' n c (txt d) Try.underlying46 hsz (by omega) (fun j hj => by
    rw [h.cell (o' + j) (by omega)]; rfl) (fun j hj => h.frz (o' + j) (by omega))
  rw [hr, hz]
  rfl
theorem copied_bytes {B o o' : Nat} {d X : List UInt8} {w : World} (h : BytAt w B X) (ho : d.length = 0 ∨ o' = o) : BytAt (w.setCells B o' (d.map fun x => Value.int .u8 (x.toNat : Int))) B (putL X o d) := by
  rcases ho with ho | rfl
  · obtain rfl := List.length_eq_zero_iff.1 ho
    exact h
  · exact h.puts d X o'

theorem pgWrite_at (B o n len c : Nat) (x : Int) (X : List UInt8) (w : World) (h : BytAt w B X) (hl : X.length = len) (ho : o + 1 < len) (hlen : len ≤ 1000000) (hn : n ≤ 65535) (hx : x = (o : Int)) :
    Calls Try.prog 38 #[.slice (some ⟨B, 0, none⟩) len c, .int .i64 x, .int .i64 (n : Int)] w fun e w' => e = .returned (.tuple #[]) ∧ BytAt w' B (putL X o (twoB n)) ∧ Only B w w' := by
  subst hx
  exact pgWrite_any B o n len c X w h hl ho hlen hn
/-- b[k:] of a block of n bytes: at its very end Go keeps the old address. -/
theorem slice_from (B k n len : Nat) (hk : k + n ≤ len) : ∃ o', (n = 0 ∨ o' = k) ∧ ∀ W : World, (Instr.slice 46 (.slice (some ⟨B, 0, none⟩) len len) (some (.int .i64 (k : Int))) none none).run Try.prog W = .ok (.slice (some ⟨B, o', none⟩) (len - k) (len - k)) W := by
  obtain ⟨i0, hi, hz0, hz1, hz2⟩ := info_parts info_u8
  by_cases h : k = len
  · refine ⟨0, .inl (by omega), fun W => ?_⟩
    rw [run_slice_l W 46 (some ⟨B, 0, none⟩) len len Try.underlying46 .i64 (k : Int) (by omega) (by omega)]
    simp [go_sem, Result.andThen, sliced, h]
  · refine ⟨k, .inr rfl, fun W => ?_⟩
    rw [run_slice_l W 46 (some ⟨B, 0, none⟩) len len Try.underlying46 .i64 (k : Int) (by omega) (by omega)]
    have hne : ¬ len = k := fun e => h e.symm
    simp [go_sem, Result.andThen, sliced, hne]

set_option maxHeartbeats 8000000 in
set_option maxRecDepth 100000 in
theorem pgBytes_any (a : Option Addr) (c : Nat) (p : Pg) (w : World) (h : SlotsAt w a p) (hc : p.length ≤ c) (hl : p.length * 24 ≤ 140737488351232) (hs : slotsIn p) :
    Calls Try.prog 27 #[.agg #[.slice a p.length c]] w fun e w' => e = .returned (.tuple #[.string (txt (bytD p)), .int .i64 (bytE p)]) ∧ Below w.heap.size w w' := by
  have A := hid0 h
  have C24 := fun W (hb : Below w.heap.size w W) => pgRight_any a c p W (A.out.later hb) hc hl hs
  have hB0 : Below w.heap.size w (w.alloc (Obj.cells #[.slice a p.length c] 24)) := (Below.refl _ _).alloc (Nat.le_refl _) _
  have v0 := VarAt.new w (.slice a p.length c) 24
  clear h hs hc
  cases hr : rightB p with
  | false =>
    have e1 : bytD p = [] := by unfold bytD; rw [hr]; rfl
    have e2 : bytE p = 1 := by unfold bytE; rw [hr]; rfl
    rw [e1, e2]
    rw [hr] at C24
    clear hr e1 e2 v0
    go_enter Try.func27, Try.ntmps27
    go_wp2_with (go_at_call 23; go_must (refine (C24 _ hB0).mono ?_; rintro e w1 ⟨rfl, hb⟩))
    go_returns
    exact ⟨rfl, below_through hb hB0.size hB0⟩
  | true =>
    have e1 : bytD p = bytesP p := by unfold bytD; rw [hr]; rfl
    have e2 : bytE p = 0 := by unfold bytE; rw [hr]; rfl
    rw [e1, e2]
    rw [hr] at C24
    obtain ⟨_, hsz, hl256⟩ := right_sizeW hr
    have HR := hid0 ((rightB_iff p).1 hr)
    have HSZ := hid0 hsz
    obtain ⟨i0, hi, hz0, hz1, hz2⟩ := info_parts info_u8
    clear hr e1 e2 hsz hl
    go_enter Try.func27, Try.ntmps27
    go_wp2_with (first
      | (go_at_call 23; go_must (refine (C24 _ hB0).mono ?_; rintro e w1 ⟨rfl, hb⟩; have v1 := v0.later hb; have hB1 := below_through hb hB0.size hB0; clear C24 v0 hB0 hb))
      | (at_make; refine wpList_make_full _ rfl _ _ 46 rfl w1.heap.size 5 i0 (.int .u8 0) 1 Try.underlying46 hi hz0 hz1 .i64 .i64 1024 1024 1024 rfl rfl rfl rfl (by rw [hz2]; omega) (by unfold maxLen; omega) (Nat.le_refl _) ?_; intro w2 hown hgrow; have hW2 := made_bytes hown; have hb2 : Below w1.heap.size w1 w2 := (Below.refl _ _).grown hgrow (Nat.le_refl _) (fun j hj => by cases hj); have hBne := v1.lt; have v2 := v1.later hb2; have hB2 := below_through hb2 hB1.size hB1; have hBsz := hB1.size; clear hown hgrow hB1 v1 hb2; obtain ⟨q2, f2⟩ := v2))
    generalize w1.heap.size = B at hW2 hBne hBsz ⊢
    refine (pgWrite_any B 0 p.length 1024 1024 (List.replicate 1024 0) w2 hW2 List.length_replicate (by omega) (by omega) (by omega)).mono ?_
    rintro e w3 ⟨rfl, hX3, hO3⟩
    rw [midP_zero] at hX3
    have q3 := (hO3.cell w.heap.size 0 (by omega)).trans q2
    have hB3 := hB2.trans (hO3.below _ hBsz)
    clear q2 f2 hW2 hO3 hB2
    go_wp2
    go_loopw [5, 20] (fun bv iv wr => ∃ (i bg : Nat), i ≤ p.length ∧ iv = .int .i64 i ∧ bv = .int .i64 bg ∧ Hid (bg + (dataP (p.take i)).length = 1024) ∧ BytAt wr B (midP p i) ∧ Below w.heap.size w wr) (fun _ iv _ => p.length - (intOf iv).toNat)
    case atStart => exact ⟨0, 1024, Nat.zero_le _, rfl, rfl, hid0 rfl, hX3, hB3⟩
    case round =>
      clear hX3 hB3 q3
      obtain ⟨i, bg, hi, rfl, rfl, HD, hX, hB⟩ := hrel
      have hsz := hB.size
      by_cases hlt : i < p.length
      · obtain ⟨b, o, rfl, hc⟩ := (A.out.later hB) (by intro e; rw [e] at hlt; exact absurd hlt (by simp))
        obtain ⟨q0, q1⟩ := hc i hlt
        clear hc
        obtain ⟨⟨u, d⟩, hsi⟩ : ∃ s, p[i] = s := ⟨_, rfl⟩
        rw [hsi] at q0 q1
        have hXA := hX.later ((Below.refl _ _).alloc (Nat.le_refl _) (Obj.cells #[.bool u, .string (txt d)] 53))
        have hBA := hB.alloc hsz (Obj.cells #[.bool u, .string (txt d)] 53)
        obtain ⟨t0, t1⟩ := slot_new wr (.bool u) (.string (txt d)) 53
        have hTB : B < wr.heap.size := hX.lt
        cases u with
        | false =>
          obtain rfl : d = [] := by
            have h := (HR.out.slots _ (List.getElem_mem hlt)).1 (by rw [hsi])
            rwa [hsi] at h
          have hsk := midP_skip hlt HSZ.out hsi
          have HDn := hid0 (show bg + (dataP (p.take (i + 1))).length = 1024 by rw [data_take hlt, hsi]; exact HD.out)
          have HXn := hid0 (show BytAt _ B (midP p (i + 1)) by rw [hsk]; exact hXA)
          clear hsi hsk hXA hX t0 t1 hTB
          go_wp2
          exact ⟨⟨i + 1, bg, by omega, by go_num, rfl, HDn, HXn.out, hBA⟩, by simp [intOf]; omega⟩
        | true =>
          obtain ⟨hroom, hput⟩ := midP_used hlt HSZ.out hsi rfl
          obtain ⟨D, hD⟩ : ∃ D, (dataP (p.take i)).length = D := ⟨_, rfl⟩
          have hbD := HD.out
          rw [hD] at hroom hput hbD
          obtain ⟨bn, hbn⟩ : ∃ bn, 1024 - D - d.length = bn := ⟨_, rfl⟩
          rw [hbn] at hput
          have HDn := hid0 (show bn + (dataP (p.take (i + 1))).length = 1024 by rw [data_take hlt, hsi, List.length_append, hD]; show bn + (d.length + D) = 1024; omega)
          have HPUT := hid0 hput
          have hz : (txt d).size = d.length := txt_size d
          have hwb : IntKind.i64.wrap ((bg : Int) - (d.length : Int)) = (bn : Int) := by rw [IntWalk.i64_in _ (by omega)]; omega
          have HMID := hid0 (show (midP p i).length = 1024 by unfold midP; simp [headsP_len, twoB]; omega)
          have hbn1 : (0 : Int) ≤ (bn : Int) := by omega
          have hbn2 : (bn : Int) ≤ 1024 := by omega
          clear hsi hput hD HD hX
          go_wp2_with fail
          have hslc := slice_from B bn d.length 1024 (by omega)
          obtain ⟨o', ho', hsl⟩ := hslc
          obtain ⟨m, hm⟩ : ∃ m, 1024 - bn = m := ⟨_, rfl⟩
          rw [hm] at hsl
          generalize wr.alloc (Obj.cells #[.bool true, .string (txt d)] 53) = W at hXA hBA t1 t0 ⊢
          generalize wr.heap.size = T at hsz hTB t0 t1 ⊢
          have hcp := fun ty => copy_run B bn o' m d (midP p i) W.drew hXA.drew (by rw [HMID.out]; omega) (by omega) ho' m ty
          have hXC := hid0 (copied_bytes hXA.drew ho')
          have hOC := (Only.drew B W).trans (Only.puts (B := B) (d.map fun x => Value.int .u8 (x.toNat : Int)) o' W.drew)
          have hkeep := (hOC.cell T 1 (by omega)).trans t1
          have hBC := hBA.trans (hOC.below w.heap.size hBsz)
          have hw2 : IntKind.i64.wrap (bn : Int) = (bn : Int) := IntWalk.i64_in _ (by omega)
          clear hXA hBA t0 hm
          go_region_held3 (fun w' => w'.cell? ⟨T, 1, none⟩ = some (.string (txt d))) (first | assumption | exact hkeep) (fail)
          generalize W.drew.setCells B o' (d.map fun x => Value.int .u8 (x.toNat : Int)) = W5 at hXC hOC hkeep hBC ⊢
          clear hcp hsl hwb hw2 hOC t1
          have hi2 : i ≤ 1000000 := by omega
          have CW := pgWrite_at B (2 + 4 * i) bn 1024 1024 (2 + 4 * (i : Int)) _ W5 hXC.out (by rw [putL_len, HMID.out]) (by omega) (by omega) (by omega) (by omega)
          have HCW := hid0 CW
          clear CW
          go_wp2_with (first
            | (go_at_call 39; go_must (refine (pgPlace_any i _ hi2).mono ?_; rintro e wp ⟨rfl, rfl⟩))
            | (go_at_call 38; go_must (refine HCW.out.mono ?_; rintro e w6 ⟨rfl, hX6, hO6⟩)))
          have t6 := (hO6.cell T 1 (by omega)).trans hkeep
          have HX6 := hid0 hX6
          have hB6 := hBC.trans (hO6.below w.heap.size hBsz)
          have CW := pgWrite_at B (4 + 4 * i) d.length 1024 1024 (4 + 4 * (i : Int)) _ w6.drew HX6.out.drew (by rw [putL_len, putL_len, HMID.out]) (by omega) (by omega) (by omega) (by omega)
          have HCW := hid0 CW
          have hw4 : IntKind.i64.wrap (2 + 4 * (i : Int) + 2) = 4 + 4 * (i : Int) := by rw [IntWalk.i64_in _ (by omega)]; omega
          clear CW hX6 hO6 hkeep hXC hBC
          go_wp2_with fail
          go_region_held3 (fun w' => w'.cell? ⟨T, 1, none⟩ = some (.string (txt d))) (first | assumption | exact (hO7.cell T 1 (by omega)).trans ‹_›)
            (first
              | (go_at_call 39; go_must (refine (pgPlace_any i _ hi2).mono ?_; rintro e wp ⟨rfl, rfl⟩))
              | (go_at_call 38; go_must (refine HCW.out.mono ?_; rintro e w7 ⟨rfl, hX7, hO7⟩)))
          have HXn := hid0 (show BytAt w7 B (midP p (i + 1)) by rw [← HPUT.out]; exact hX7)
          have hB7 := (Below.drew hB6).trans (hO7.below w.heap.size hBsz)
          clear hX7 hO7 HX6 HCW hw4
          go_wp2
          exact ⟨⟨i + 1, bn, by omega, by go_num, rfl, HDn, HXn.out, hB7⟩, by simp [intOf]; omega⟩
      · obtain rfl : i = p.length := by omega
        have hie : ¬ (p.length : Int) < (p.length : Int) := by omega
        rw [midP_all] at hX
        have hconv := hX.back 1024
        rw [bytesP_len HSZ.out] at hconv
        clear hX HD
        go_wp2
        go_returns
        exact ⟨rfl, hB⟩
end Go.Proofs.Ytpcjfhoppcmenaa
