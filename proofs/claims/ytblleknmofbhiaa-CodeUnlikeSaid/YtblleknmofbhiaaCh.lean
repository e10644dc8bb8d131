/- The project's layer 3: the row that bytes are, by whatever function takes a value: a contract of the call, in whatever memory. Conditions: the bytes are a string's; what the function takes. -/
import Derived.Test.YtblleknmofbhiaaCf
import Derived.Test.YtblleknmofbhiaaCg
import Derived.Test.YtblleknmofbhiaaLb
import Derived.Test.YtblleknmofbhiaaRi
import Derived.Shelf.Abstract
namespace Go.Proofs.Ytblleknmofbhiaa
open Go.RowKit

/-- What a function that takes a value must do. -/
def Takes (f : Nat) (dec : List UInt8 → Option (Val × Nat)) : Prop :=
  ∀ (b : UInt8) (r : List UInt8) (w : World), r.length ≤ 140737488351232 →
    Calls Try.prog f #[.string (txt (b :: r))] w fun e w' => (∃ v rest ok, e = .returned (.tuple #[.agg #[.int .i64 v.k, .int .i64 v.n, .string v.s], .string (txt rest), .bool ok]) ∧ Taken dec (b :: r) v rest ok) ∧ Below w.heap.size w w'
theorem takes_plain : Takes 25 rowD := takePlain_any
theorem takes_sorted : Takes 30 keyD := takeSorted_any
theorem enters_takePlain : Enters Try.prog 25 := enters_of Try.func25 (by kernel_rfl) rfl
theorem enters_takeSorted : Enters Try.prog 30 := enters_of Try.func30 (by kernel_rfl) rfl

set_option maxHeartbeats 4000000 in
theorem read_any (f : Nat) (enc : Val → List UInt8) (dec : List UInt8 → Option (Val × Nat)) (hC : Coded enc dec) (he : Enters Try.prog f) (hT : Takes f dec) (l : List UInt8) (w : World) (hl : l.length ≤ 140737488351232) :
    Calls Try.prog 24 #[.string (txt l), .func (.func f) #[] #[]] w fun e w' => (∃ a c, e = .returned (.tuple #[.slice a (readL dec l).length c, .int .i64 (readE dec l)]) ∧ (readL dec l).length ≤ c ∧ RowAt w' a (readL dec l)) ∧ Below w.heap.size w w' := by
  obtain ⟨i0, hi, hz0, hz1, hz2⟩ := info_parts info23
  have HL := hid0 hl
  have HC := hid0 hC
  have HT := hid0 hT
  clear hl hC hT
  go_enter Try.func24, Try.ntmps24
  go_wp2
  go_loopw [0, 6] (fun sv ov wr => ∃ (vs : List Val) (s : List UInt8), sv = .string (txt s) ∧ wr.ownsRow w.heap.size 38 3 ov vs.length (rowCells vs) ∧ Below w.heap.size w wr ∧ Hid (ReadTo dec l vs s)) (fun sv _ _ => strOf sv)
  case atStart => exact ⟨[], l, rfl, World.ownsRow_nil _ _ _ _, Below.refl _ _, hid0 (read_start dec l)⟩
  case round =>
    obtain ⟨vs, s, rfl, hown, hB, hR⟩ := hrel
    have hsz := hB.size
    obtain ⟨a, c, rfl, hcap, hmx, hrow⟩ := row_owned hown
    have HR := hid0 hrow
    have hsl : s.length ≤ 140737488351232 := Nat.le_trans hR.out.2.1 HL.out
    have h8' := hR.out.1
    clear hrow
    cases s with
    | nil =>
      have hem : (txt []).toList.isEmpty = true := by rw [ByteArray.toList_eq]; rfl
      go_wp2
      go_returns
      obtain ⟨e1, e2⟩ := read_all hR.out
      exact ⟨⟨a, c, by rw [e1, e2]; rfl, by rw [e1]; exact hcap, by rw [e1]; exact HR.out⟩, hB⟩
    | cons b r =>
      have hem : (txt (b :: r)).toList.isEmpty = false := by rw [ByteArray.toList_eq]; rfl
      have hen : ∀ args w, Sem.run Try.prog (callFunc f args) w = .ok (.enter f args) w := he
      go_wp2_with fail
      refine (HT.out b r _ (by rw [List.length_cons] at hsl; omega)).mono ?_
      rintro e w1 ⟨⟨v, rest, ok, rfl, hvs, hcase⟩, hbn⟩
      have hown2 := own_below hown hbn
      have hb1 := below_through hbn hsz hB
      have hz1' := hb1.size
      clear hbn hen
      have FAIL : (dec (b :: r) = none ∨ vs.length = 8) → readL dec l = [] ∧ readE dec l = 2 := fun h => read_none hR.out (by simp) h
      rcases hcase with ⟨hd, hbad⟩ | ⟨m, hd, rfl, rfl⟩
      · have hN := hid0 (FAIL (.inl hd))
        clear FAIL
        cases ok with
        | false =>
          clear hbad
          go_wp2
          go_returns
          refine ⟨⟨none, 0, by rw [hN.out.1, hN.out.2]; rfl, by rw [hN.out.1]; exact Nat.le_refl _, by rw [hN.out.1]; exact fun h => absurd rfl h⟩, ?_⟩
          exact Below.alloc hb1 hz1' _
        | true =>
          have hchk : chk v.k v.n v.s ≠ 0 := by rcases hbad with h | h; cases h; exact h
          have hcb : (chk v.k v.n v.s != 0) = true := by simpa using hchk
          clear hbad
          by_cases h8 : vs.length = 8
          · have h8i : (vs.length : Int) = 8 := by omega
            go_wp2
            go_returns
            refine ⟨⟨none, 0, by rw [hN.out.1, hN.out.2]; rfl, by rw [hN.out.1]; exact Nat.le_refl _, by rw [hN.out.1]; exact fun h => absurd rfl h⟩, ?_⟩
            exact Below.alloc hb1 hz1' _
          · have h8i : ¬ (vs.length : Int) = 8 := by omega
            go_wp2_with (go_at_call 38; go_must (refine (check_any _ _ _ _ hvs).mono ?_; rintro e w2 ⟨rfl, hbn⟩))
            go_returns
            refine ⟨⟨none, 0, by rw [hN.out.1, hN.out.2]; rfl, by rw [hN.out.1]; exact Nat.le_refl _, by rw [hN.out.1]; exact fun h => absurd rfl h⟩, ?_⟩
            exact below_through hbn (by simp; omega) (Below.alloc hb1 hz1' _)
      · have hok := (HC.out.back _ _ _ hd).1
        have hc0 : chk v.k v.n v.s = 0 := hok.1
        have hcb : (chk v.k v.n v.s != 0) = false := by rw [hc0]; rfl
        obtain ⟨_, hsm, hme⟩ := HC.out.back _ _ _ hd
        have hm0 : 0 < m := by rw [hme]; exact HC.out.pos v
        have hlt : ((b :: r).drop m).length < (b :: r).length := by rw [List.length_drop, List.length_cons]; omega
        clear hsm hme hok
        by_cases h8 : vs.length = 8
        · have h8i : (vs.length : Int) = 8 := by omega
          have hN := hid0 (FAIL (.inr h8))
          clear FAIL
          go_wp2
          go_returns
          refine ⟨⟨none, 0, by rw [hN.out.1, hN.out.2]; rfl, by rw [hN.out.1]; exact Nat.le_refl _, by rw [hN.out.1]; exact fun h => absurd rfl h⟩, ?_⟩
          exact Below.alloc hb1 hz1' _
        · have h8i : ¬ (vs.length : Int) = 8 := by omega
          have hM := hid0 (read_more hR.out (by simp) hd h8)
          clear FAIL
          go_wp2_with (first
            | (go_at_call 38; go_must (refine (check_any _ _ _ _ hvs).mono ?_; rintro e w2 ⟨rfl, hbn⟩; rw [hc0]; have hown3 := own_below (hown2.alloc _) hbn; have hb2 := below_through hbn (by simp; omega) (Below.alloc hb1 hz1' _); obtain ⟨hc, hf⟩ := below_cells hbn; have hz2' : w1.heap.size < w2.heap.size := (by have := hbn.size; (try simp at this); omega); have c0 : w2.cell? ⟨w1.heap.size, 0, none⟩ = some (.int .i64 v.k) := (by go_cell); have c1 : w2.cell? ⟨w1.heap.size, 1, none⟩ = some (.int .i64 v.n) := (by go_cell); have c2 : w2.cell? ⟨w1.heap.size, 2, none⟩ = some (.string v.s) := (by go_cell); clear hc))
            | (at_builtin; go_must (refine wpList_append_own _ rfl _ _ 22 rfl w.heap.size 38 i0 (.agg #[.int .i64 0, .int .i64 0, .string ⟨#[]⟩]) 3 32 Try.underlying22 hi hz0 hz1 hz2 rfl (by decide) _ _ _ rfl (hown3.alloc _) ⟨w2.heap.size, 0, none⟩ 1 1 [.int .i64 v.k, .int .i64 v.n, .string v.s] rfl rfl ?c1 ?c2 ?c3 ?c4 ?c5 ?_)))
          case c1 =>
            intro j u hj
            match j, hj with
            | 0, hj => simp at hj; subst hj; simp [WideShapes.add_plain]
            | 1, hj => simp at hj; subst hj; simp [WideShapes.add_plain]
            | 2, hj => simp at hj; subst hj; simp [WideShapes.add_plain]
            | j + 3, hj => simp at hj
          case c2 => intro u hu; simp at hu; rcases hu with rfl | rfl | rfl <;> rfl
          case c3 => unfold maxLen; omega
          case c4 => omega
          case c5 => have := hb2.size; simp; omega
          intro v' w3 hown' hgrow _
          have hBa := Below.alloc hb2 hb2.size (Obj.cells #[.int .i64 v.k, .int .i64 v.n, .string v.s] 38)
          have R := row_next hown3 hBa hown' hgrow
          clear hown' hgrow hown hown2 hown3 hBa hcap
          go_wp2
          exact ⟨⟨vs ++ [v], (b :: r).drop m, rfl, R.1, R.2, hM⟩, by
            show (txt ((b :: r).drop m)).size < (txt (b :: r)).size
            rw [txt_size, txt_size]; exact hlt⟩
end Go.Proofs.Ytblleknmofbhiaa
