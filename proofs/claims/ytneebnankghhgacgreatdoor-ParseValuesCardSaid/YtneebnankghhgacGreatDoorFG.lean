/- Several of my texts laid together, each as it was: Fg. Conditions: each names its own. -/
import Derived.Test.YtneebnankghhgacGreatDoorFA
import Derived.Test.YtneebnankghhgacGreatDoorIA
/- The example of stage 9's laws: it holds: a contract of the call. Conditions: what strconv.ErrRange holds is an error. -/
namespace Go.Proofs.YtneebnankghhgacGreatDoor
open Go.RowKit

/-- What a command is read as is the leaves of a statement. -/
theorem s_par (s : List UInt8) (m : Int) : IsSt (parM s m).1 := by
  unfold parM
  split
  · rename_i h
    exact s_read (words_ok' h).few m
  · exact isSt_zS
/-- A select's number of items, and its condition's kind. -/
def selK : List Lf → Nat × Nat
  | .v _ :: .s n _ :: .s _ _ :: .v (.int _ k) :: _ => (n, k.toNat)
  | _ => (0, 0)
theorem selK_of {dis : Bool} {items from_ gr : List (List Lf)} {wh : List Lf} {k : Nat} (h : selK (seL dis items from_ wh gr) = (2, k + 1)) (hw : IsCo wh) : items.length = 2 ∧ ∃ op a b args, wh = coL (k + 1) op a b args := by
  obtain ⟨n, hw⟩ := hw
  cases n with
  | zero => exact hw.elim
  | succ n =>
    obtain ⟨kk, op, a, b, args, ha, hb, hl, rfl, hA⟩ := hw
    have e : selK (seL dis items from_ (coL kk op a b (rL args)) gr) = (items.length, ((kk : Nat) : Int).toNat) := rfl
    rw [e] at h
    simp only [Prod.mk.injEq, Int.toNat_natCast] at h
    obtain ⟨h1, rfl⟩ := h
    exact ⟨h1, op, a, b, _, rfl⟩
theorem awake_parts : (parM [115, 101, 108, 101, 99, 116, 32, 97, 44, 32, 99, 111, 117, 110, 116, 40, 42, 41, 32, 97, 115, 32, 110, 32, 102, 114, 111, 109, 32, 116, 32, 119, 104, 101, 114, 101, 32, 97, 32, 60, 32, 51, 32, 97, 110, 100, 32, 110, 111, 116, 32, 98, 32, 105, 115, 32, 110, 117, 108, 108, 32, 103, 114, 111, 117, 112, 32, 98, 121, 32, 97] 4).1.parts.map selK = [(2, 4)] := by decide +kernel
/-- The document's first example: what lies in memory where it was read. -/
theorem awake_cells {w : World} {P : Nat → Prop} {us : List Value} {x : SM} (hS : IsSt x) (hk : x.k = 1) (hl : x.parts.length = 1) (hp : x.parts.map selK = [(2, 4)]) (h : LsAt w P (stL x) us) :
    us[0]? = some (.int .i64 1) ∧ ∃ b o c p d, us[4]? = some (.slice (some ⟨b, o, none⟩) 1 c) ∧ b < w.heap.size ∧ w.cell? ⟨b, o + 1, none⟩ = some (.slice p 2 d) ∧ w.cell? ⟨b, o + 3, none⟩ = some (.int .i64 4) := by
  obtain ⟨p1, c1, p2, c2, p3, c3, p4, c4, p5, c5, uw, rfl, hUw, hp1, hp2, hp3, hp4, hp5⟩ := st_parts h hS
  rw [hk, hl]
  refine ⟨rfl, ?_⟩
  obtain ⟨b, o, us, rfl, hb, hlen, hA, hR⟩ := hp3.out 0 (by omega)
  obtain ⟨dis, items, from_, wh, gr, hi, hf, hw, hg, he⟩ := hS.parts.all _ (List.getElem_mem (show 0 < x.parts.length by omega))
  have hsel : selK (x.parts[0]'(by omega)) = (2, 4) := by
    have := congrArg (fun l => l[0]?) hp
    simp only [List.getElem?_map, List.getElem?_eq_getElem (show 0 < x.parts.length by omega), Option.map_some] at this
    exact Option.some.inj this
  rw [he] at hsel hA
  obtain ⟨h2, op, a, b', args, rfl⟩ := selK_of hsel hw
  obtain ⟨q1, d1, q2, d2, uw2, q3, d3, rfl, hUw2, _, _, _⟩ := se_parts hA hi hf hg
  replace hUw2 : LsAt w anyB (iL 4 :: iL op :: (a ++ b' ++ [args])) uw2 := hUw2
  obtain ⟨u0, r0, rfl, k0, _⟩ := hUw2.uncons
  obtain rfl := LfAt.val k0
  have r1 := hR 1 _ rfl
  have r3 := hR 3 _ rfl
  rw [h2] at r1
  rw [Nat.zero_mul, Nat.add_zero] at r1 r3
  exact ⟨b, o, c3, q1, d1, rfl, hb, r1, r3⟩
theorem len26' {us : List Value} (h : us.length = 26) : ∃ u0 u1 u2 u3 u4 u5 u6 u7 u8 u9 u10 u11 u12 u13 u14 u15 u16 u17 u18 u19 u20 u21 u22 u23 u24 u25, us = [u0, u1, u2, u3, u4, u5, u6, u7, u8, u9, u10, u11, u12, u13, u14, u15, u16, u17, u18, u19, u20, u21, u22, u23, u24, u25] := by
  match us, h with
  | [u0, u1, u2, u3, u4, u5, u6, u7, u8, u9, u10, u11, u12, u13, u14, u15, u16, u17, u18, u19, u20, u21, u22, u23, u24, u25], _ => exact ⟨_, _, _, _, _, _, _, _, _, _, _, _, _, _, _, _, _, _, _, _, _, _, _, _, _, _, rfl⟩

set_option maxRecDepth 100000 in
set_option maxHeartbeats 4000000 in
theorem awake9_any (w : World) (er : ErAt w) : Calls Tryz.prog 4 #[] w fun e w' => e = .returned (.bool true) ∧ Below w.heap.size w w' := by
  have C1 := paParse_any [115, 101, 108, 101, 99, 116, 32, 97, 44, 32, 99, 111, 117, 110, 116, 40, 42, 41, 32, 97, 115, 32, 110, 32, 102, 114, 111, 109, 32, 116, 32, 119, 104, 101, 114, 101, 32, 97, 32, 60, 32, 51, 32, 97, 110, 100, 32, 110, 111, 116, 32, 98, 32, 105, 115, 32, 110, 117, 108, 108, 32, 103, 114, 111, 117, 112, 32, 98, 121, 32, 97] 4 w (by decide) (by decide) er
  go_enter Tryz.func4, Tryz.ntmps4
  go_wp2_with fail
  go_at_call 7
  refine (C1).mono ?_
  rintro e w1 ⟨us, hl, rfl, hA, hb⟩
  obtain ⟨ua0, ua1, ua2, ua3, ua4, ua5, ua6, ua7, ua8, ua9, ua10, ua11, ua12, ua13, ua14, ua15, ua16, ua17, ua18, ua19, ua20, ua21, ua22, ua23, ua24, ua25, rfl⟩ := len26' hl
  clear hl
  rw [parM_ex1.1]
  have er1 := er.later hb
  have B1 := hb
  obtain ⟨k0, b, o, c, p, d, k4, hbl, b1, b3⟩ := awake_cells (s_par _ _) parM_ex1.2.1 parM_ex1.2.2 awake_parts hA
  have hX : VarB (w1.alloc (Obj.cells #[.int .i64 0, .string ⟨#[]⟩, .slice none 0 0, .slice none 0 0, .slice none 0 0, .int .i64 0, .slice none 0 0, .slice none 0 0, .int .i64 0, .int .i64 0, .int .i64 0, .string ⟨#[]⟩, .string ⟨#[]⟩, .int .i64 0, .int .i64 0, .string ⟨#[]⟩, .slice none 0 0, .int .i64 0, .string ⟨#[]⟩, .string ⟨#[]⟩, .int .i64 0, .int .i64 0, .string ⟨#[]⟩, .slice none 0 0, .slice none 0 0, .int .i64 0] 44)) w1.heap.size zStv := VarB.new w1 zStv 44
  have hA2 := hA.any ((Below.refl w1.heap.size w1).alloc (Nat.le_refl _) (Obj.cells #[.int .i64 0, .string ⟨#[]⟩, .slice none 0 0, .slice none 0 0, .slice none 0 0, .int .i64 0, .slice none 0 0, .slice none 0 0, .int .i64 0, .int .i64 0, .int .i64 0, .string ⟨#[]⟩, .string ⟨#[]⟩, .int .i64 0, .int .i64 0, .string ⟨#[]⟩, .slice none 0 0, .int .i64 0, .string ⟨#[]⟩, .string ⟨#[]⟩, .int .i64 0, .int .i64 0, .string ⟨#[]⟩, .slice none 0 0, .slice none 0 0, .int .i64 0] 44))
  have B1' := B1.alloc B1.size (Obj.cells #[.int .i64 0, .string ⟨#[]⟩, .slice none 0 0, .slice none 0 0, .slice none 0 0, .int .i64 0, .slice none 0 0, .slice none 0 0, .int .i64 0, .int .i64 0, .int .i64 0, .string ⟨#[]⟩, .string ⟨#[]⟩, .int .i64 0, .int .i64 0, .string ⟨#[]⟩, .slice none 0 0, .int .i64 0, .string ⟨#[]⟩, .string ⟨#[]⟩, .int .i64 0, .int .i64 0, .string ⟨#[]⟩, .slice none 0 0, .slice none 0 0, .int .i64 0] 44)
  clear hA hb
  go_wp2_with (first | ((with_reducible refine wp_putB hX hA2 ?_ ?_ ?_ ?_ ?_); (rfl); (exact infoSt); (rfl); (rfl); intro w2 hV hw; simp only [Act.put]; (have hG : Below w1.heap.size w1 w2 := (by rw [hw.out]; exact ((Below.refl _ _).alloc (Nat.le_refl _) _).trans ⟨(grown_setCells _ _ _ _).os, (grown_setCells _ _ _ _).tape, (grown_setCells _ _ _ _).output, (grown_setCells _ _ _ _).size, fun k hk => heap_setCells _ _ _ _ k (by omega)⟩)); (have er2 := er1.later hG); (have B2 := below_through hG B1.size B1); (replace b1 := cell_later hG b1); (replace b3 := cell_later hG b3); (replace hbl := Nat.lt_of_lt_of_le hbl hG.size); (have a0 := hV.cell 0 k0); (have a4 := hV.cell 4 k4); (have haz := hV.lt)) | fail)
  clear hX hA2 hV hw hG B1' B1 er1
  go_wp2_with fail
  go_at_call 7
  refine (paParse_any [115, 101, 108, 101, 99, 116, 32, 97, 32, 102, 114, 111, 109, 32, 116, 32, 119, 104, 101, 114, 101, 32, 40, 40, 40, 40, 40, 40, 97, 32, 61, 32, 49, 41, 41, 41, 41, 41, 41] 4 _ (by decide) (by decide) er2).mono ?_
  rintro e w4 ⟨us, hl, rfl, hA, hb⟩
  obtain ⟨ub0, ub1, ub2, ub3, ub4, ub5, ub6, ub7, ub8, ub9, ub10, ub11, ub12, ub13, ub14, ub15, ub16, ub17, ub18, ub19, ub20, ub21, ub22, ub23, ub24, ub25, rfl⟩ := len26' hl
  clear hl
  rw [parM_ex2]
  have er4 := er2.later hb
  have B4 := below_through hb B2.size B2
  replace b1 := cell_later hb b1
  replace b3 := cell_later hb b3
  replace hbl := Nat.lt_of_lt_of_le hbl hb.size
  replace a0 := cell_later hb a0
  replace a4 := cell_later hb a4
  replace haz := Nat.lt_of_lt_of_le haz hb.size
  have hX : VarB (w4.alloc (Obj.cells #[.int .i64 0, .string ⟨#[]⟩, .slice none 0 0, .slice none 0 0, .slice none 0 0, .int .i64 0, .slice none 0 0, .slice none 0 0, .int .i64 0, .int .i64 0, .int .i64 0, .string ⟨#[]⟩, .string ⟨#[]⟩, .int .i64 0, .int .i64 0, .string ⟨#[]⟩, .slice none 0 0, .int .i64 0, .string ⟨#[]⟩, .string ⟨#[]⟩, .int .i64 0, .int .i64 0, .string ⟨#[]⟩, .slice none 0 0, .slice none 0 0, .int .i64 0] 44)) w4.heap.size zStv := VarB.new w4 zStv 44
  have hA2 := hA.any ((Below.refl w4.heap.size w4).alloc (Nat.le_refl _) (Obj.cells #[.int .i64 0, .string ⟨#[]⟩, .slice none 0 0, .slice none 0 0, .slice none 0 0, .int .i64 0, .slice none 0 0, .slice none 0 0, .int .i64 0, .int .i64 0, .int .i64 0, .string ⟨#[]⟩, .string ⟨#[]⟩, .int .i64 0, .int .i64 0, .string ⟨#[]⟩, .slice none 0 0, .int .i64 0, .string ⟨#[]⟩, .string ⟨#[]⟩, .int .i64 0, .int .i64 0, .string ⟨#[]⟩, .slice none 0 0, .slice none 0 0, .int .i64 0] 44))
  have B4' := B4.alloc B4.size (Obj.cells #[.int .i64 0, .string ⟨#[]⟩, .slice none 0 0, .slice none 0 0, .slice none 0 0, .int .i64 0, .slice none 0 0, .slice none 0 0, .int .i64 0, .int .i64 0, .int .i64 0, .string ⟨#[]⟩, .string ⟨#[]⟩, .int .i64 0, .int .i64 0, .string ⟨#[]⟩, .slice none 0 0, .int .i64 0, .string ⟨#[]⟩, .string ⟨#[]⟩, .int .i64 0, .int .i64 0, .string ⟨#[]⟩, .slice none 0 0, .slice none 0 0, .int .i64 0] 44)
  clear hA hb
  go_wp2_with (first | ((with_reducible refine wp_putB hX hA2 ?_ ?_ ?_ ?_ ?_); (rfl); (exact infoSt); (rfl); (rfl); intro w5 hV hw; simp only [Act.put]; (have hG : Below w4.heap.size w4 w5 := (by rw [hw.out]; exact ((Below.refl _ _).alloc (Nat.le_refl _) _).trans ⟨(grown_setCells _ _ _ _).os, (grown_setCells _ _ _ _).tape, (grown_setCells _ _ _ _).output, (grown_setCells _ _ _ _).size, fun k hk => heap_setCells _ _ _ _ k (by omega)⟩)); (have er5 := er4.later hG); (have B5 := below_through hG B4.size B4); (replace b1 := cell_later hG b1); (replace b3 := cell_later hG b3); (replace hbl := Nat.lt_of_lt_of_le hbl hG.size); (replace a0 := cell_later hG a0); (replace a4 := cell_later hG a4); (replace haz := Nat.lt_of_lt_of_le haz hG.size)) | fail)
  clear hX hA2 hV hw hG B4' B4 er4
  go_wp2_with fail
  go_at_call 7
  refine (paParse_any [115, 101, 108, 101, 99, 116, 32, 102, 114, 111, 109, 32, 116] 4 _ (by decide) (by decide) er5).mono ?_
  rintro e w7 ⟨us, hl, rfl, hA, hb⟩
  obtain ⟨uc0, uc1, uc2, uc3, uc4, uc5, uc6, uc7, uc8, uc9, uc10, uc11, uc12, uc13, uc14, uc15, uc16, uc17, uc18, uc19, uc20, uc21, uc22, uc23, uc24, uc25, rfl⟩ := len26' hl
  clear hl
  rw [parM_ex3]
  have er7 := er5.later hb
  have B7 := below_through hb B5.size B5
  replace b1 := cell_later hb b1
  replace b3 := cell_later hb b3
  replace hbl := Nat.lt_of_lt_of_le hbl hb.size
  replace a0 := cell_later hb a0
  replace a4 := cell_later hb a4
  replace haz := Nat.lt_of_lt_of_le haz hb.size
  have hX : VarB (w7.alloc (Obj.cells #[.int .i64 0, .string ⟨#[]⟩, .slice none 0 0, .slice none 0 0, .slice none 0 0, .int .i64 0, .slice none 0 0, .slice none 0 0, .int .i64 0, .int .i64 0, .int .i64 0, .string ⟨#[]⟩, .string ⟨#[]⟩, .int .i64 0, .int .i64 0, .string ⟨#[]⟩, .slice none 0 0, .int .i64 0, .string ⟨#[]⟩, .string ⟨#[]⟩, .int .i64 0, .int .i64 0, .string ⟨#[]⟩, .slice none 0 0, .slice none 0 0, .int .i64 0] 44)) w7.heap.size zStv := VarB.new w7 zStv 44
  have hA2 := hA.any ((Below.refl w7.heap.size w7).alloc (Nat.le_refl _) (Obj.cells #[.int .i64 0, .string ⟨#[]⟩, .slice none 0 0, .slice none 0 0, .slice none 0 0, .int .i64 0, .slice none 0 0, .slice none 0 0, .int .i64 0, .int .i64 0, .int .i64 0, .string ⟨#[]⟩, .string ⟨#[]⟩, .int .i64 0, .int .i64 0, .string ⟨#[]⟩, .slice none 0 0, .int .i64 0, .string ⟨#[]⟩, .string ⟨#[]⟩, .int .i64 0, .int .i64 0, .string ⟨#[]⟩, .slice none 0 0, .slice none 0 0, .int .i64 0] 44))
  have B7' := B7.alloc B7.size (Obj.cells #[.int .i64 0, .string ⟨#[]⟩, .slice none 0 0, .slice none 0 0, .slice none 0 0, .int .i64 0, .slice none 0 0, .slice none 0 0, .int .i64 0, .int .i64 0, .int .i64 0, .string ⟨#[]⟩, .string ⟨#[]⟩, .int .i64 0, .int .i64 0, .string ⟨#[]⟩, .slice none 0 0, .int .i64 0, .string ⟨#[]⟩, .string ⟨#[]⟩, .int .i64 0, .int .i64 0, .string ⟨#[]⟩, .slice none 0 0, .slice none 0 0, .int .i64 0] 44)
  clear hA hb
  go_wp2_with (first | ((with_reducible refine wp_putB hX hA2 ?_ ?_ ?_ ?_ ?_); (rfl); (exact infoSt); (rfl); (rfl); intro w8 hV hw; simp only [Act.put]; (have hG : Below w7.heap.size w7 w8 := (by rw [hw.out]; exact ((Below.refl _ _).alloc (Nat.le_refl _) _).trans ⟨(grown_setCells _ _ _ _).os, (grown_setCells _ _ _ _).tape, (grown_setCells _ _ _ _).output, (grown_setCells _ _ _ _).size, fun k hk => heap_setCells _ _ _ _ k (by omega)⟩)); (have er8 := er7.later hG); (have B8 := below_through hG B7.size B7); (replace b1 := cell_later hG b1); (replace b3 := cell_later hG b3); (replace hbl := Nat.lt_of_lt_of_le hbl hG.size); (replace a0 := cell_later hG a0); (replace a4 := cell_later hG a4); (replace haz := Nat.lt_of_lt_of_le haz hG.size)) | fail)
  go_ret
  exact ⟨rfl, B8⟩
end Go.Proofs.YtneebnankghhgacGreatDoor
