/- Several of my texts laid together, each as it was: Fg, Fj, Py, Ei. Conditions: each names its own. -/
import Derived.Test.YtbcgjgjbliifbaaDoorFA
import Derived.Test.YtbcgjgjbliifbaaDoorIA
import Derived.Test.YtbcgjgjbliifbaaDoorWz
import Derived.Test.YtbcgjgjbliifbaaDoorPB
import Derived.Stop.LaidErr
import Derived.OpenShut
import Derived.ChangeMaps5
/- The example of stage 9's laws: it holds: a contract of the call. Conditions: what strconv.ErrRange holds is an error. -/
namespace Go.Proofs.YtbcgjgjbliifbaaDoor
open Go.RowKit

/-- What a command is read as is the leaves of a statement. -/
theorem s_par (s : List UInt8) (m : Int) : IsSt (parM s m).1 := by
  unfold parM
  split
  · rename_i h
    exact s_read (words_ok' h).few m
  · exact isSt_zS
/-- A select's number of items, and its condition's kind. -/
def selK : List Lf → Nat × Nat
  | .v _ :: .s n _ :: .s _ _ :: .v (.int _ k) :: _ => (n, k.toNat)
  | _ => (0, 0)
theorem selK_of {dis : Bool} {items from_ gr : List (List Lf)} {wh : List Lf} {k : Nat} (h : selK (seL dis items from_ wh gr) = (2, k + 1)) (hw : IsCo wh) : items.length = 2 ∧ ∃ op a b args, wh = coL (k + 1) op a b args := by
  obtain ⟨n, hw⟩ := hw
  cases n with
  | zero => exact hw.elim
  | succ n =>
    obtain ⟨kk, op, a, b, args, ha, hb, hl, rfl, hA⟩ := hw
    have e : selK (seL dis items from_ (coL kk op a b (rL args)) gr) = (items.length, ((kk : Nat) : Int).toNat) := rfl
    rw [e] at h
    simp only [Prod.mk.injEq, Int.toNat_natCast] at h
    obtain ⟨h1, rfl⟩ := h
    exact ⟨h1, op, a, b, _, rfl⟩
theorem awake_parts : (parM [115, 101, 108, 101, 99, 116, 32, 97, 44, 32, 99, 111, 117, 110, 116, 40, 42, 41, 32, 97, 115, 32, 110, 32, 102, 114, 111, 109, 32, 116, 32, 119, 104, 101, 114, 101, 32, 97, 32, 60, 32, 51, 32, 97, 110, 100, 32, 110, 111, 116, 32, 98, 32, 105, 115, 32, 110, 117, 108, 108, 32, 103, 114, 111, 117, 112, 32, 98, 121, 32, 97] 4).1.parts.map selK = [(2, 4)] := by decide +kernel
/-- The document's first example: what lies in memory where it was read. -/
theorem awake_cells {w : World} {P : Nat → Prop} {us : List Value} {x : SM} (hS : IsSt x) (hk : x.k = 1) (hl : x.parts.length = 1) (hp : x.parts.map selK = [(2, 4)]) (h : LsAt w P (stL x) us) :
    us[0]? = some (.int .i64 1) ∧ ∃ b o c p d, us[4]? = some (.slice (some ⟨b, o, none⟩) 1 c) ∧ b < w.heap.size ∧ w.cell? ⟨b, o + 1, none⟩ = some (.slice p 2 d) ∧ w.cell? ⟨b, o + 3, none⟩ = some (.int .i64 4) := by
  obtain ⟨p1, c1, p2, c2, p3, c3, p4, c4, p5, c5, uw, rfl, hUw, hp1, hp2, hp3, hp4, hp5⟩ := st_parts h hS
  rw [hk, hl]
  refine ⟨rfl, ?_⟩
  obtain ⟨b, o, us, rfl, hb, hlen, hA, hR⟩ := hp3.out 0 (by omega)
  obtain ⟨dis, items, from_, wh, gr, hi, hf, hw, hg, he⟩ := hS.parts.all _ (List.getElem_mem (show 0 < x.parts.length by omega))
  have hsel : selK (x.parts[0]'(by omega)) = (2, 4) := by
    have := congrArg (fun l => l[0]?) hp
    simp only [List.getElem?_map, List.getElem?_eq_getElem (show 0 < x.parts.length by omega), Option.map_some] at this
    exact Option.some.inj this
  rw [he] at hsel hA
  obtain ⟨h2, op, a, b', args, rfl⟩ := selK_of hsel hw
  obtain ⟨q1, d1, q2, d2, uw2, q3, d3, rfl, hUw2, _, _, _⟩ := se_parts hA hi hf hg
  replace hUw2 : LsAt w anyB (iL 4 :: iL op :: (a ++ b' ++ [args])) uw2 := hUw2
  obtain ⟨u0, r0, rfl, k0, _⟩ := hUw2.uncons
  obtain rfl := LfAt.val k0
  have r1 := hR 1 _ rfl
  have r3 := hR 3 _ rfl
  rw [h2] at r1
  rw [Nat.zero_mul, Nat.add_zero] at r1 r3
  exact ⟨b, o, c3, q1, d1, rfl, hb, r1, r3⟩
theorem len26' {us : List Value} (h : us.length = 26) : ∃ u0 u1 u2 u3 u4 u5 u6 u7 u8 u9 u10 u11 u12 u13 u14 u15 u16 u17 u18 u19 u20 u21 u22 u23 u24 u25, us = [u0, u1, u2, u3, u4, u5, u6, u7, u8, u9, u10, u11, u12, u13, u14, u15, u16, u17, u18, u19, u20, u21, u22, u23, u24, u25] := by
  match us, h with
  | [u0, u1, u2, u3, u4, u5, u6, u7, u8, u9, u10, u11, u12, u13, u14, u15, u16, u17, u18, u19, u20, u21, u22, u23, u24, u25], _ => exact ⟨_, _, _, _, _, _, _, _, _, _, _, _, _, _, _, _, _, _, _, _, _, _, _, _, _, _, rfl⟩

set_option maxRecDepth 100000 in
set_option maxHeartbeats 4000000 in
theorem awake9_any (w : World) (er : ErAt w) : Calls Tryd.prog 5 #[] w fun e w' => e = .returned (.bool true) ∧ Below w.heap.size w w' := by
  have C1 := paParse_any [115, 101, 108, 101, 99, 116, 32, 97, 44, 32, 99, 111, 117, 110, 116, 40, 42, 41, 32, 97, 115, 32, 110, 32, 102, 114, 111, 109, 32, 116, 32, 119, 104, 101, 114, 101, 32, 97, 32, 60, 32, 51, 32, 97, 110, 100, 32, 110, 111, 116, 32, 98, 32, 105, 115, 32, 110, 117, 108, 108, 32, 103, 114, 111, 117, 112, 32, 98, 121, 32, 97] 4 w (by decide) (by decide) er
  go_enter Tryd.func5, Tryd.ntmps5
  go_wp2_with fail
  go_at_call 4
  refine (C1).mono ?_
  rintro e w1 ⟨us, hl, rfl, hA, hb⟩
  obtain ⟨ua0, ua1, ua2, ua3, ua4, ua5, ua6, ua7, ua8, ua9, ua10, ua11, ua12, ua13, ua14, ua15, ua16, ua17, ua18, ua19, ua20, ua21, ua22, ua23, ua24, ua25, rfl⟩ := len26' hl
  clear hl
  rw [parM_ex1.1]
  have er1 := er.later hb
  have B1 := hb
  obtain ⟨k0, b, o, c, p, d, k4, hbl, b1, b3⟩ := awake_cells (s_par _ _) parM_ex1.2.1 parM_ex1.2.2 awake_parts hA
  have hX : VarB (w1.alloc (Obj.cells #[.int .i64 0, .string ⟨#[]⟩, .slice none 0 0, .slice none 0 0, .slice none 0 0, .int .i64 0, .slice none 0 0, .slice none 0 0, .int .i64 0, .int .i64 0, .int .i64 0, .string ⟨#[]⟩, .string ⟨#[]⟩, .int .i64 0, .int .i64 0, .string ⟨#[]⟩, .slice none 0 0, .int .i64 0, .string ⟨#[]⟩, .string ⟨#[]⟩, .int .i64 0, .int .i64 0, .string ⟨#[]⟩, .slice none 0 0, .slice none 0 0, .int .i64 0] 38)) w1.heap.size zStv := VarB.new w1 zStv 38
  have hA2 := hA.any ((Below.refl w1.heap.size w1).alloc (Nat.le_refl _) (Obj.cells #[.int .i64 0, .string ⟨#[]⟩, .slice none 0 0, .slice none 0 0, .slice none 0 0, .int .i64 0, .slice none 0 0, .slice none 0 0, .int .i64 0, .int .i64 0, .int .i64 0, .string ⟨#[]⟩, .string ⟨#[]⟩, .int .i64 0, .int .i64 0, .string ⟨#[]⟩, .slice none 0 0, .int .i64 0, .string ⟨#[]⟩, .string ⟨#[]⟩, .int .i64 0, .int .i64 0, .string ⟨#[]⟩, .slice none 0 0, .slice none 0 0, .int .i64 0] 38))
  have B1' := B1.alloc B1.size (Obj.cells #[.int .i64 0, .string ⟨#[]⟩, .slice none 0 0, .slice none 0 0, .slice none 0 0, .int .i64 0, .slice none 0 0, .slice none 0 0, .int .i64 0, .int .i64 0, .int .i64 0, .string ⟨#[]⟩, .string ⟨#[]⟩, .int .i64 0, .int .i64 0, .string ⟨#[]⟩, .slice none 0 0, .int .i64 0, .string ⟨#[]⟩, .string ⟨#[]⟩, .int .i64 0, .int .i64 0, .string ⟨#[]⟩, .slice none 0 0, .slice none 0 0, .int .i64 0] 38)
  clear hA hb
  go_wp2_with (first | ((with_reducible refine wp_putB hX hA2 ?_ ?_ ?_ ?_ ?_); (rfl); (exact infoSt); (rfl); (rfl); intro w2 hV hw; simp only [Act.put]; (have hG : Below w1.heap.size w1 w2 := (by rw [hw.out]; exact ((Below.refl _ _).alloc (Nat.le_refl _) _).trans ⟨(grown_setCells _ _ _ _).os, (grown_setCells _ _ _ _).tape, (grown_setCells _ _ _ _).output, (grown_setCells _ _ _ _).size, fun k hk => heap_setCells _ _ _ _ k (by omega)⟩)); (have er2 := er1.later hG); (have B2 := below_through hG B1.size B1); (replace b1 := cell_later hG b1); (replace b3 := cell_later hG b3); (replace hbl := Nat.lt_of_lt_of_le hbl hG.size); (have a0 := hV.cell 0 k0); (have a4 := hV.cell 4 k4); (have haz := hV.lt)) | fail)
  clear hX hA2 hV hw hG B1' B1 er1
  go_wp2_with fail
  go_at_call 4
  refine (paParse_any [115, 101, 108, 101, 99, 116, 32, 97, 32, 102, 114, 111, 109, 32, 116, 32, 119, 104, 101, 114, 101, 32, 40, 40, 40, 40, 40, 40, 97, 32, 61, 32, 49, 41, 41, 41, 41, 41, 41] 4 _ (by decide) (by decide) er2).mono ?_
  rintro e w4 ⟨us, hl, rfl, hA, hb⟩
  obtain ⟨ub0, ub1, ub2, ub3, ub4, ub5, ub6, ub7, ub8, ub9, ub10, ub11, ub12, ub13, ub14, ub15, ub16, ub17, ub18, ub19, ub20, ub21, ub22, ub23, ub24, ub25, rfl⟩ := len26' hl
  clear hl
  rw [parM_ex2]
  have er4 := er2.later hb
  have B4 := below_through hb B2.size B2
  replace b1 := cell_later hb b1
  replace b3 := cell_later hb b3
  replace hbl := Nat.lt_of_lt_of_le hbl hb.size
  replace a0 := cell_later hb a0
  replace a4 := cell_later hb a4
  replace haz := Nat.lt_of_lt_of_le haz hb.size
  have hX : VarB (w4.alloc (Obj.cells #[.int .i64 0, .string ⟨#[]⟩, .slice none 0 0, .slice none 0 0, .slice none 0 0, .int .i64 0, .slice none 0 0, .slice none 0 0, .int .i64 0, .int .i64 0, .int .i64 0, .string ⟨#[]⟩, .string ⟨#[]⟩, .int .i64 0, .int .i64 0, .string ⟨#[]⟩, .slice none 0 0, .int .i64 0, .string ⟨#[]⟩, .string ⟨#[]⟩, .int .i64 0, .int .i64 0, .string ⟨#[]⟩, .slice none 0 0, .slice none 0 0, .int .i64 0] 38)) w4.heap.size zStv := VarB.new w4 zStv 38
  have hA2 := hA.any ((Below.refl w4.heap.size w4).alloc (Nat.le_refl _) (Obj.cells #[.int .i64 0, .string ⟨#[]⟩, .slice none 0 0, .slice none 0 0, .slice none 0 0, .int .i64 0, .slice none 0 0, .slice none 0 0, .int .i64 0, .int .i64 0, .int .i64 0, .string ⟨#[]⟩, .string ⟨#[]⟩, .int .i64 0, .int .i64 0, .string ⟨#[]⟩, .slice none 0 0, .int .i64 0, .string ⟨#[]⟩, .string ⟨#[]⟩, .int .i64 0, .int .i64 0, .string ⟨#[]⟩, .slice none 0 0, .slice none 0 0, .int .i64 0] 38))
  have B4' := B4.alloc B4.size (Obj.cells #[.int .i64 0, .string ⟨#[]⟩, .slice none 0 0, .slice none 0 0, .slice none 0 0, .int .i64 0, .slice none 0 0, .slice none 0 0, .int .i64 0, .int .i64 0, .int .i64 0, .string ⟨#[]⟩, .string ⟨#[]⟩, .int .i64 0, .int .i64 0, .string ⟨#[]⟩, .slice none 0 0, .int .i64 0, .string ⟨#[]⟩, .string ⟨#[]⟩, .int .i64 0, .int .i64 0, .string ⟨#[]⟩, .slice none 0 0, .slice none 0 0, .int .i64 0] 38)
  clear hA hb
  go_wp2_with (first | ((with_reducible refine wp_putB hX hA2 ?_ ?_ ?_ ?_ ?_); (rfl); (exact infoSt); (rfl); (rfl); intro w5 hV hw; simp only [Act.put]; (have hG : Below w4.heap.size w4 w5 := (by rw [hw.out]; exact ((Below.refl _ _).alloc (Nat.le_refl _) _).trans ⟨(grown_setCells _ _ _ _).os, (grown_setCells _ _ _ _).tape, (grown_setCells _ _ _ _).output, (grown_setCells _ _ _ _).size, fun k hk => heap_setCells _ _ _ _ k (by omega)⟩)); (have er5 := er4.later hG); (have B5 := below_through hG B4.size B4); (replace b1 := cell_later hG b1); (replace b3 := cell_later hG b3); (replace hbl := Nat.lt_of_lt_of_le hbl hG.size); (replace a0 := cell_later hG a0); (replace a4 := cell_later hG a4); (replace haz := Nat.lt_of_lt_of_le haz hG.size)) | fail)
  clear hX hA2 hV hw hG B4' B4 er4
  go_wp2_with fail
  go_at_call 4
  refine (paParse_any [115, 101, 108, 101, 99, 116, 32, 102, 114, 111, 109, 32, 116] 4 _ (by decide) (by decide) er5).mono ?_
  rintro e w7 ⟨us, hl, rfl, hA, hb⟩
  obtain ⟨uc0, uc1, uc2, uc3, uc4, uc5, uc6, uc7, uc8, uc9, uc10, uc11, uc12, uc13, uc14, uc15, uc16, uc17, uc18, uc19, uc20, uc21, uc22, uc23, uc24, uc25, rfl⟩ := len26' hl
  clear hl
  rw [parM_ex3]
  have er7 := er5.later hb
  have B7 := below_through hb B5.size B5
  replace b1 := cell_later hb b1
  replace b3 := cell_later hb b3
  replace hbl := Nat.lt_of_lt_of_le hbl hb.size
  replace a0 := cell_later hb a0
  replace a4 := cell_later hb a4
  replace haz := Nat.lt_of_lt_of_le haz hb.size
  have hX : VarB (w7.alloc (Obj.cells #[.int .i64 0, .string ⟨#[]⟩, .slice none 0 0, .slice none 0 0, .slice none 0 0, .int .i64 0, .slice none 0 0, .slice none 0 0, .int .i64 0, .int .i64 0, .int .i64 0, .string ⟨#[]⟩, .string ⟨#[]⟩, .int .i64 0, .int .i64 0, .string ⟨#[]⟩, .slice none 0 0, .int .i64 0, .string ⟨#[]⟩, .string ⟨#[]⟩, .int .i64 0, .int .i64 0, .string ⟨#[]⟩, .slice none 0 0, .slice none 0 0, .int .i64 0] 38)) w7.heap.size zStv := VarB.new w7 zStv 38
  have hA2 := hA.any ((Below.refl w7.heap.size w7).alloc (Nat.le_refl _) (Obj.cells #[.int .i64 0, .string ⟨#[]⟩, .slice none 0 0, .slice none 0 0, .slice none 0 0, .int .i64 0, .slice none 0 0, .slice none 0 0, .int .i64 0, .int .i64 0, .int .i64 0, .string ⟨#[]⟩, .string ⟨#[]⟩, .int .i64 0, .int .i64 0, .string ⟨#[]⟩, .slice none 0 0, .int .i64 0, .string ⟨#[]⟩, .string ⟨#[]⟩, .int .i64 0, .int .i64 0, .string ⟨#[]⟩, .slice none 0 0, .slice none 0 0, .int .i64 0] 38))
  have B7' := B7.alloc B7.size (Obj.cells #[.int .i64 0, .string ⟨#[]⟩, .slice none 0 0, .slice none 0 0, .slice none 0 0, .int .i64 0, .slice none 0 0, .slice none 0 0, .int .i64 0, .int .i64 0, .int .i64 0, .string ⟨#[]⟩, .string ⟨#[]⟩, .int .i64 0, .int .i64 0, .string ⟨#[]⟩, .slice none 0 0, .int .i64 0, .string ⟨#[]⟩, .string ⟨#[]⟩, .int .i64 0, .int .i64 0, .string ⟨#[]⟩, .slice none 0 0, .slice none 0 0, .int .i64 0] 38)
  clear hA hb
  go_wp2_with (first | ((with_reducible refine wp_putB hX hA2 ?_ ?_ ?_ ?_ ?_); (rfl); (exact infoSt); (rfl); (rfl); intro w8 hV hw; simp only [Act.put]; (have hG : Below w7.heap.size w7 w8 := (by rw [hw.out]; exact ((Below.refl _ _).alloc (Nat.le_refl _) _).trans ⟨(grown_setCells _ _ _ _).os, (grown_setCells _ _ _ _).tape, (grown_setCells _ _ _ _).output, (grown_setCells _ _ _ _).size, fun k hk => heap_setCells _ _ _ _ k (by omega)⟩)); (have er8 := er7.later hG); (have B8 := below_through hG B7.size B7); (replace b1 := cell_later hG b1); (replace b3 := cell_later hG b3); (replace hbl := Nat.lt_of_lt_of_le hbl hG.size); (replace a0 := cell_later hG a0); (replace a4 := cell_later hG a4); (replace haz := Nat.lt_of_lt_of_le haz hG.size)) | fail)
  go_ret
  exact ⟨rfl, B8⟩
end Go.Proofs.YtbcgjgjbliifbaaDoor

/- The walk of the law ParseEnds: it returns true, and below the heap's end memory is as it was. Conditions: what strconv.ErrRange holds is an error. -/
namespace Go.Proofs.YtbcgjgjbliifbaaDoor
open Go.RowKit

theorem parM_short {s : List UInt8} {m : Int} (h : (parM s m).2 = 0) : s.length ≤ 2048 := by
  rcases Nat.lt_or_ge 2048 s.length with hl | hl
  · have e : lexR s = .long 0 := if_pos hl
    unfold parM at h
    rw [e] at h
    cases h
  · exact hl

set_option maxRecDepth 100000 in
set_option maxHeartbeats 8000000 in
theorem lawParseEnds (s : List UInt8) (m : Int) (w : World) (hs : s.length ≤ maxLen) (hm : -9223372036854775808 ≤ m ∧ m ≤ 9223372036854775807) (er : ErAt w) :
    Calls Tryd.prog 3 #[.string (txt s), .int .i64 m] w fun e w' => e = .returned (.bool true) ∧ Below w.heap.size w w' := by
  obtain ⟨k, hk⟩ : ∃ k, (parM s m).2 = k := ⟨_, rfl⟩
  have HK := hid0 hk
  by_cases h : k = 0
  · subst h
    have hsh := parM_short hk
    obtain ⟨P, hP⟩ : ∃ P, s ++ [32, 40] = P := ⟨_, rfl⟩
    obtain ⟨Q, hQ⟩ : ∃ Q, s ++ [32, 41] = Q := ⟨_, rfl⟩
    have X1 : txt s ++ ⟨#[32, 40]⟩ = txt P := by rw [← hP, ← txt_add]; rfl
    have X2 : txt s ++ ⟨#[32, 41]⟩ = txt Q := by rw [← hQ, ← txt_add]; rfl
    have hP2 : P.length ≤ maxLen := by rw [← hP]; unfold maxLen; simp; omega
    have hQ2 : Q.length ≤ maxLen := by rw [← hQ]; unfold maxLen; simp; omega
    obtain ⟨f, hf⟩ : ∃ f, (parM P m).2 = f := ⟨_, rfl⟩
    obtain ⟨q, hq⟩ : ∃ q, (parM Q m).2 = q := ⟨_, rfl⟩
    have hf0 : f ≠ 0 := by rw [← hf, ← hP]; exact parM_end (.inl rfl) hk
    have hq0 : q ≠ 0 := by rw [← hq, ← hQ]; exact parM_end (.inr rfl) hk
    have hfb : ((f : Int) != 0) = true := by rw [bne_iff_ne]; omega
    have hqb : ((q : Int) != 0) = true := by rw [bne_iff_ne]; omega
    have HF := hid0 hf
    have HQ := hid0 hq
    have hzs : (txt s).size = s.length := txt_size s
    clear hk hP hQ hf hq hf0 hq0
    go_enter Tryd.func3, Tryd.ntmps3
    go_wp2_with fail
    go_at_call 4
    refine (paParse_any s m w hs hm er).mono ?_
    rintro e w1a ⟨us, hl, rfl, hA, hb⟩
    obtain ⟨s1_0, s1_1, s1_2, s1_3, s1_4, s1_5, s1_6, s1_7, s1_8, s1_9, s1_10, s1_11, s1_12, s1_13, s1_14, s1_15, s1_16, s1_17, s1_18, s1_19, s1_20, s1_21, s1_22, s1_23, s1_24, s1_25, rfl⟩ := len26' hl
    clear hl
    rw [HK.out]
    replace er := er.later hb
    have BB := hb
    clear hb
    have hX : VarB (w1a.alloc (Obj.cells #[.int .i64 0, .string ⟨#[]⟩, .slice none 0 0, .slice none 0 0, .slice none 0 0, .int .i64 0, .slice none 0 0, .slice none 0 0, .int .i64 0, .int .i64 0, .int .i64 0, .string ⟨#[]⟩, .string ⟨#[]⟩, .int .i64 0, .int .i64 0, .string ⟨#[]⟩, .slice none 0 0, .int .i64 0, .string ⟨#[]⟩, .string ⟨#[]⟩, .int .i64 0, .int .i64 0, .string ⟨#[]⟩, .slice none 0 0, .slice none 0 0, .int .i64 0] 38)) w1a.heap.size zStv := VarB.new w1a zStv 38
    have hA2 := hA.any ((Below.refl w1a.heap.size w1a).alloc (Nat.le_refl _) (Obj.cells #[.int .i64 0, .string ⟨#[]⟩, .slice none 0 0, .slice none 0 0, .slice none 0 0, .int .i64 0, .slice none 0 0, .slice none 0 0, .int .i64 0, .int .i64 0, .int .i64 0, .string ⟨#[]⟩, .string ⟨#[]⟩, .int .i64 0, .int .i64 0, .string ⟨#[]⟩, .slice none 0 0, .int .i64 0, .string ⟨#[]⟩, .string ⟨#[]⟩, .int .i64 0, .int .i64 0, .string ⟨#[]⟩, .slice none 0 0, .slice none 0 0, .int .i64 0] 38))
    have A1 := hA.any (Below.refl w1a.heap.size w1a)
    clear hA
    go_wp2_with (first | ((with_reducible refine wp_putB hX hA2 ?_ ?_ ?_ ?_ ?_); (rfl); (exact infoSt); (rfl); (rfl); intro w1b V1 hw; simp only [Act.put]) | fail)
    have hG : Below w1a.heap.size w1a w1b := by rw [hw.out]; exact ((Below.refl _ _).alloc (Nat.le_refl _) _).trans ⟨(grown_setCells _ _ _ _).os, (grown_setCells _ _ _ _).tape, (grown_setCells _ _ _ _).output, (grown_setCells _ _ _ _).size, fun k hk => heap_setCells _ _ _ _ k (by omega)⟩
    clear hX hA2 hw
    replace er := er.later hG
    replace A1 := A1.any hG
    replace BB := below_through hG BB.size BB
    clear hG
    go_wp2_with (first | ((with_reducible refine wp_getG V1.at_ ?_ Tryd.underlying38 ?_ ?_ ?_ ?_); (rfl); (rfl); (exact infoSt); (rfl)) | fail)
    go_at_call 4
    refine (paParse_any P m _ hP2 hm er).mono ?_
    rintro e w2a ⟨us, hl, rfl, hA, hb⟩
    obtain ⟨s2_0, s2_1, s2_2, s2_3, s2_4, s2_5, s2_6, s2_7, s2_8, s2_9, s2_10, s2_11, s2_12, s2_13, s2_14, s2_15, s2_16, s2_17, s2_18, s2_19, s2_20, s2_21, s2_22, s2_23, s2_24, s2_25, rfl⟩ := len26' hl
    clear hl
    rw [HF.out]
    replace er := er.later hb
    replace A1 := A1.any hb
    replace V1 := V1.below hb
    replace BB := below_through hb BB.size BB
    clear hb
    have hX : VarB (w2a.alloc (Obj.cells #[.int .i64 0, .string ⟨#[]⟩, .slice none 0 0, .slice none 0 0, .slice none 0 0, .int .i64 0, .slice none 0 0, .slice none 0 0, .int .i64 0, .int .i64 0, .int .i64 0, .string ⟨#[]⟩, .string ⟨#[]⟩, .int .i64 0, .int .i64 0, .string ⟨#[]⟩, .slice none 0 0, .int .i64 0, .string ⟨#[]⟩, .string ⟨#[]⟩, .int .i64 0, .int .i64 0, .string ⟨#[]⟩, .slice none 0 0, .slice none 0 0, .int .i64 0] 38)) w2a.heap.size zStv := VarB.new w2a zStv 38
    have hA2 := hA.any ((Below.refl w2a.heap.size w2a).alloc (Nat.le_refl _) (Obj.cells #[.int .i64 0, .string ⟨#[]⟩, .slice none 0 0, .slice none 0 0, .slice none 0 0, .int .i64 0, .slice none 0 0, .slice none 0 0, .int .i64 0, .int .i64 0, .int .i64 0, .string ⟨#[]⟩, .string ⟨#[]⟩, .int .i64 0, .int .i64 0, .string ⟨#[]⟩, .slice none 0 0, .int .i64 0, .string ⟨#[]⟩, .string ⟨#[]⟩, .int .i64 0, .int .i64 0, .string ⟨#[]⟩, .slice none 0 0, .slice none 0 0, .int .i64 0] 38))
    have A2 := hA.any (Below.refl w2a.heap.size w2a)
    clear hA
    go_wp2_with (first | ((with_reducible refine wp_putB hX hA2 ?_ ?_ ?_ ?_ ?_); (rfl); (exact infoSt); (rfl); (rfl); intro w2b V2 hw; simp only [Act.put]) | fail)
    have hG : Below w2a.heap.size w2a w2b := by rw [hw.out]; exact ((Below.refl _ _).alloc (Nat.le_refl _) _).trans ⟨(grown_setCells _ _ _ _).os, (grown_setCells _ _ _ _).tape, (grown_setCells _ _ _ _).output, (grown_setCells _ _ _ _).size, fun k hk => heap_setCells _ _ _ _ k (by omega)⟩
    clear hX hA2 hw
    replace er := er.later hG
    replace A1 := A1.any hG
    replace V1 := V1.below hG
    replace A2 := A2.any hG
    replace BB := below_through hG BB.size BB
    clear hG
    go_wp2_with (first | ((with_reducible refine wp_getG V1.at_ ?_ Tryd.underlying38 ?_ ?_ ?_ ?_); (rfl); (rfl); (exact infoSt); (rfl)) | ((with_reducible refine wp_getG V2.at_ ?_ Tryd.underlying38 ?_ ?_ ?_ ?_); (rfl); (rfl); (exact infoSt); (rfl)) | fail)
    go_at_call 4
    refine (paParse_any Q m _ hQ2 hm er).mono ?_
    rintro e w3a ⟨us, hl, rfl, hA, hb⟩
    obtain ⟨s3_0, s3_1, s3_2, s3_3, s3_4, s3_5, s3_6, s3_7, s3_8, s3_9, s3_10, s3_11, s3_12, s3_13, s3_14, s3_15, s3_16, s3_17, s3_18, s3_19, s3_20, s3_21, s3_22, s3_23, s3_24, s3_25, rfl⟩ := len26' hl
    clear hl
    rw [HQ.out]
    replace er := er.later hb
    replace A1 := A1.any hb
    replace V1 := V1.below hb
    replace A2 := A2.any hb
    replace V2 := V2.below hb
    replace BB := below_through hb BB.size BB
    clear hb
    have hX : VarB (w3a.alloc (Obj.cells #[.int .i64 0, .string ⟨#[]⟩, .slice none 0 0, .slice none 0 0, .slice none 0 0, .int .i64 0, .slice none 0 0, .slice none 0 0, .int .i64 0, .int .i64 0, .int .i64 0, .string ⟨#[]⟩, .string ⟨#[]⟩, .int .i64 0, .int .i64 0, .string ⟨#[]⟩, .slice none 0 0, .int .i64 0, .string ⟨#[]⟩, .string ⟨#[]⟩, .int .i64 0, .int .i64 0, .string ⟨#[]⟩, .slice none 0 0, .slice none 0 0, .int .i64 0] 38)) w3a.heap.size zStv := VarB.new w3a zStv 38
    have hA2 := hA.any ((Below.refl w3a.heap.size w3a).alloc (Nat.le_refl _) (Obj.cells #[.int .i64 0, .string ⟨#[]⟩, .slice none 0 0, .slice none 0 0, .slice none 0 0, .int .i64 0, .slice none 0 0, .slice none 0 0, .int .i64 0, .int .i64 0, .int .i64 0, .string ⟨#[]⟩, .string ⟨#[]⟩, .int .i64 0, .int .i64 0, .string ⟨#[]⟩, .slice none 0 0, .int .i64 0, .string ⟨#[]⟩, .string ⟨#[]⟩, .int .i64 0, .int .i64 0, .string ⟨#[]⟩, .slice none 0 0, .slice none 0 0, .int .i64 0] 38))
    have A3 := hA.any (Below.refl w3a.heap.size w3a)
    clear hA
    go_wp2_with (first | ((with_reducible refine wp_putB hX hA2 ?_ ?_ ?_ ?_ ?_); (rfl); (exact infoSt); (rfl); (rfl); intro w3b V3 hw; simp only [Act.put]) | fail)
    have hG : Below w3a.heap.size w3a w3b := by rw [hw.out]; exact ((Below.refl _ _).alloc (Nat.le_refl _) _).trans ⟨(grown_setCells _ _ _ _).os, (grown_setCells _ _ _ _).tape, (grown_setCells _ _ _ _).output, (grown_setCells _ _ _ _).size, fun k hk => heap_setCells _ _ _ _ k (by omega)⟩
    clear hX hA2 hw
    replace er := er.later hG
    replace A1 := A1.any hG
    replace V1 := V1.below hG
    replace A2 := A2.any hG
    replace V2 := V2.below hG
    replace A3 := A3.any hG
    replace BB := below_through hG BB.size BB
    clear hG
    go_wp2_with (first | ((with_reducible refine wp_getG V1.at_ ?_ Tryd.underlying38 ?_ ?_ ?_ ?_); (rfl); (rfl); (exact infoSt); (rfl)) | ((with_reducible refine wp_getG V2.at_ ?_ Tryd.underlying38 ?_ ?_ ?_ ?_); (rfl); (rfl); (exact infoSt); (rfl)) | ((with_reducible refine wp_getG V3.at_ ?_ Tryd.underlying38 ?_ ?_ ?_ ?_); (rfl); (rfl); (exact infoSt); (rfl)) | fail)
    go_at_call 5
    refine (awake9_any _ er).mono ?_
    rintro e wX ⟨rfl, hb⟩
    replace er := er.later hb
    replace A1 := A1.any hb
    replace V1 := V1.below hb
    replace A2 := A2.any hb
    replace V2 := V2.below hb
    replace A3 := A3.any hb
    replace V3 := V3.below hb
    replace BB := below_through hb BB.size BB
    clear hb
    go_wp2_with fail
    go_ret
    exact ⟨rfl, BB⟩
  · have hkb : ((k : Int) != 0) = true := by rw [bne_iff_ne]; omega
    clear h hk
    go_enter Tryd.func3, Tryd.ntmps3
    go_wp2_with fail
    go_at_call 4
    refine (paParse_any s m w hs hm er).mono ?_
    rintro e w1a ⟨us, hl, rfl, hA, hb⟩
    obtain ⟨s1_0, s1_1, s1_2, s1_3, s1_4, s1_5, s1_6, s1_7, s1_8, s1_9, s1_10, s1_11, s1_12, s1_13, s1_14, s1_15, s1_16, s1_17, s1_18, s1_19, s1_20, s1_21, s1_22, s1_23, s1_24, s1_25, rfl⟩ := len26' hl
    clear hl
    rw [HK.out]
    replace er := er.later hb
    have BB := hb
    clear hb
    have hX : VarB (w1a.alloc (Obj.cells #[.int .i64 0, .string ⟨#[]⟩, .slice none 0 0, .slice none 0 0, .slice none 0 0, .int .i64 0, .slice none 0 0, .slice none 0 0, .int .i64 0, .int .i64 0, .int .i64 0, .string ⟨#[]⟩, .string ⟨#[]⟩, .int .i64 0, .int .i64 0, .string ⟨#[]⟩, .slice none 0 0, .int .i64 0, .string ⟨#[]⟩, .string ⟨#[]⟩, .int .i64 0, .int .i64 0, .string ⟨#[]⟩, .slice none 0 0, .slice none 0 0, .int .i64 0] 38)) w1a.heap.size zStv := VarB.new w1a zStv 38
    have hA2 := hA.any ((Below.refl w1a.heap.size w1a).alloc (Nat.le_refl _) (Obj.cells #[.int .i64 0, .string ⟨#[]⟩, .slice none 0 0, .slice none 0 0, .slice none 0 0, .int .i64 0, .slice none 0 0, .slice none 0 0, .int .i64 0, .int .i64 0, .int .i64 0, .string ⟨#[]⟩, .string ⟨#[]⟩, .int .i64 0, .int .i64 0, .string ⟨#[]⟩, .slice none 0 0, .int .i64 0, .string ⟨#[]⟩, .string ⟨#[]⟩, .int .i64 0, .int .i64 0, .string ⟨#[]⟩, .slice none 0 0, .slice none 0 0, .int .i64 0] 38))
    have A1 := hA.any (Below.refl w1a.heap.size w1a)
    clear hA
    go_wp2_with (first | ((with_reducible refine wp_putB hX hA2 ?_ ?_ ?_ ?_ ?_); (rfl); (exact infoSt); (rfl); (rfl); intro w1b V1 hw; simp only [Act.put]) | fail)
    have hG : Below w1a.heap.size w1a w1b := by rw [hw.out]; exact ((Below.refl _ _).alloc (Nat.le_refl _) _).trans ⟨(grown_setCells _ _ _ _).os, (grown_setCells _ _ _ _).tape, (grown_setCells _ _ _ _).output, (grown_setCells _ _ _ _).size, fun k hk => heap_setCells _ _ _ _ k (by omega)⟩
    clear hX hA2 hw
    replace er := er.later hG
    replace A1 := A1.any hG
    replace BB := below_through hG BB.size BB
    clear hG
    go_wp2_with (first | ((with_reducible refine wp_getG V1.at_ ?_ Tryd.underlying38 ?_ ?_ ?_ ?_); (rfl); (rfl); (exact infoSt); (rfl)) | fail)
    go_at_call 5
    refine (awake9_any _ er).mono ?_
    rintro e wX ⟨rfl, hb⟩
    replace er := er.later hb
    replace A1 := A1.any hb
    replace V1 := V1.below hb
    replace BB := below_through hb BB.size BB
    clear hb
    go_wp2_with fail
    go_ret
    exact ⟨rfl, BB⟩
end Go.Proofs.YtbcgjgjbliifbaaDoor

/- What the rows of stage 9 share: what the listed variable strconv.ErrRange holds is an error. Conditions: what is listed is laid. -/
namespace Go.Proofs.YtbcgjgjbliifbaaDoor
open Go.RowKit Go.ChangeShapes

theorem star8 : "*" ++ "errors.errorString" = "*errors.errorString" := by decide
theorem row8 (u : TypeId) (h : Tryd.prog.typeName? 3 u = some "*errors.errorString") : u = 118 :=
  typeName_ptr_named (nm := "errors.errorString") (by rw [star8]; kernel_rfl) (by kernel_rfl) (by decide) u (by rw [star8]; exact h)
theorem er_of_laid {W : World} (h : laidMetH Tryd.prog Rows.parseEndsRow.laid W) : ErAt W := by
  rw [MakeChecks.laidMetH_plain _ _ _ (by kernel_rfl)] at h
  have hL := h.tail.tail.tail
  obtain ⟨a0, s0, hv0, _, _, _⟩ := laid_sentinel hL (g := 2) (by kernel_rfl) (ti := 82) (by kernel_rfl) Tryd.underlying82 row8 Tryd.underlying118 Tryd.underlying120 rfl rfl Tryd.underlying9 (by kernel_rfl) (by kernel_rfl)
  exact ⟨_, by have h0 := World.var?_cell (g := 2) (by kernel_rfl) hv0 0; simpa using h0, .inr ⟨_, _, rfl⟩⟩
end Go.Proofs.YtbcgjgjbliifbaaDoor

/- ParseEnds: whatever the text and the depth, a statement with a bracket behind it is none: the row and its tied card. Conditions: none beyond the row's own cells (what the listed library variables hold, which the card ties to the program's text). -/
namespace Go.Proofs.YtbcgjgjbliifbaaDoor
open Go.ChangeShapes Go.WideShapes Go.ChangeAt Go.RowKit Go.Joins
open Go.ChangeMaps (open_string shut_string)

set_option maxRecDepth 100000 in
theorem ends_lifted (os : Os) (started : os.Started) (H : Type) (enc : TypeId × Value → H) :
    ReturnsInHanded {} Tryd.checked os 3 .any (fun w args => (Rows.parseEndsSpec.pre enc Tryd.prog Tryd.f3 Rows.parseEndsRow.domain false w args ∧ laidMetH Tryd.prog Rows.parseEndsRow.laid w) ∧ sizedMet enc Tryd.prog Tryd.f3 (OpenSpec.ofChange Rows.parseEndsSpec) false w args)
      (Rows.parseEndsSpec.post enc Tryd.prog Tryd.f3 false true false false) := by
  refine handed_laid_shaped (C := Tryd.checked) (X := fun w _ => laidMetH Tryd.prog Rows.parseEndsRow.laid w) (fun _ _ _ hh h => h.of_heap hh) own started (by kernel_rfl) Tryd.func3
    (ChangeSpec.witness_shaped (enc := enc) (C := Tryd.checked) (os := os) (X := fun w _ => laidMetH Tryd.prog Rows.parseEndsRow.laid w) false (World.laidAll Tryd.prog os Rows.parseEndsRow.laid) #[.string ⟨#[]⟩, .int .i64 0] 8 (World.laidAll_os _ _ _)
      (World.shaped_of_ZipB (by kernel_rfl) (by kernel_rfl)) (by kernel_rfl) (by kernel_rfl) (by kernel_rfl)
      (by rw [MakeChecks.laidMetH_plain _ _ _ (by kernel_rfl)]; exact laidMet_laidAll _ (by kernel_rfl) (by kernel_rfl))) ?_
  intro W base args ds gs before hval0 hW _ hL hsh
  have er := er_of_laid (show laidMetH Tryd.prog Rows.parseEndsRow.laid W from hL)
  have hval : ∀ (j : Nat) t v, Tryd.f3.params[j]? = some t → args[j]? = some v → Value.okWide Tryd.prog W .any base t v := hval0
  have hW' := hW
  obtain ⟨p, q, hA0, hV, rfl, _, _⟩ := hW
  have hA : DataW.TrodAll enc Tryd.prog W 0 (fun _ => true) true Tryd.f3.params.toList args.toList ds p := hA0
  rw [Tryd.params3] at hA hval
  obtain ⟨v0, v1, d0, d1, p0, p1, rfl, rfl, rfl, h0, h1⟩ := trodAll_two hA
  obtain ⟨rfl, rfl⟩ := trodVars_none hV
  obtain ⟨s0, rfl, rfl, rfl, ws0⟩ := open_string Tryd.underlying9 (hval 0 9 v0 rfl rfl) h0
  have hs0 : s0.data.toList.length ≤ maxLen := by rw [size_list]; exact ws0
  have ht0 := txt_of s0
  obtain ⟨n1, rfl, rfl, rfl, wn1⟩ := open_int Tryd.underlying3 (hval 1 3 v1 rfl rfl) h1
  have hlaw := lawParseEnds s0.data.toList n1 W hs0 (bounds_i64 wn1) er
  rw [ht0] at hlaw
  refine hlaw.mono fun e W' ⟨he, hb⟩ => ?_
  subst he
  exact ⟨_, rfl, _, _, _, [], [], [], hW', trodAll_mk1 (shut_bool Tryd.underlying4 true), trodAll_mk2 (shut_string Tryd.underlying9 ws0) (shut_int Tryd.underlying3 wn1), rfl, hb.frame _, fun h => by cases h⟩

theorem ends_row : Rows.ParseEndsSaid :=
  OpenClaim.holds_of_wide 3 Tryd.f3 rfl rfl rfl rfl rfl rfl rfl ⟨rfl, rfl, rfl, rfl, rfl⟩ rfl rfl rfl rfl rfl (by kernel_rfl) Tryd.func3 (by kernel_rfl)
    (of_decide_eq_true (by kernel_rfl)) (by unfold Func.isWrapper; first | (rw [if_pos (by decide +kernel)]; kernel_rfl) | (rw [if_neg (by decide +kernel)]; exact ⟨rfl, rfl⟩))
    (fun os started H enc _ => ends_lifted os started H enc)
theorem ends_card : Rows.ParseEndsCardSaid :=
  Claim7.holds_tied_plain_at .later [] _ _ _ _ ends_row (fun _ h => by cases h) (by kernel_rfl) (fun _ h => by cases h) parseEnds_row_tie rfl ⟨rfl, rfl⟩ (by kernel_rfl) rfl
    (fun f fn hf hfn => by
      obtain rfl : f = 3 := Option.some.inj ((show Tryd.prog.funcNamed "belvedere/belvederelaw09.ParseEnds" = some 3 by kernel_rfl).symm.trans hf) |>.symm
      obtain rfl : fn = Tryd.f3 := (Option.some.inj (Tryd.func3.symm.trans hfn)).symm
      exact ⟨by kernel_rfl, fun j t ht => by
        rw [Tryd.params3] at ht
        have hm : t ∈ [9, 3] := by simpa using Array.mem_of_getElem? ht
        have hall : ([9, 3].all fun u => !Tryd.prog.wantsStandIn u) = true := by kernel_rfl
        exact (show Tryd.prog.wantsStandIn t = false by simpa using List.all_eq_true.1 hall t hm)⟩)
    (by kernel_rfl)
end Go.Proofs.YtbcgjgjbliifbaaDoor
