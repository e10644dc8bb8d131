/- Several of my texts laid together, each as it was: Hpf. Conditions: each names its own. -/
import Derived.Test.YtneebnankghhgaaHpe
import Derived.Test.YtneebnankghhgaaHi
/- The project's heap: a row cut and put anew: a contract of the call, in whatever memory. Conditions: the pages' cells are known; the row is there, it isn't too long, its page has no room. -/
namespace Go.Proofs.Ytneebnankghhgaa
open Go.RowKit

set_option maxHeartbeats 8000000 in
set_option maxRecDepth 1000000 in
theorem hpMoved_any (a : Option Addr) (c : Nat) (E : List PgE) (x y : Int) (d : List UInt8) (most : Int) (w : World) (h : HpAt w a c E) (hx1 : -9223372036854775808 ≤ x) (hx2 : x ≤ 9223372036854775807) (hy1 : -9223372036854775808 ≤ y) (hy2 : y ≤ 9223372036854775807) (hm1 : -9223372036854775808 ≤ most) (hm2 : most ≤ 9223372036854775807)
    (he0 : getHE (hp E) x y = 0) (hl : d.length ≤ 1016) (hrf : roomH (hp E) x y d = false) :
    Calls Try.prog 21 #[.agg #[.slice a E.length c], .agg #[.int .i64 x, .int .i64 y], .string (txt d), .int .i64 most] w (HIdAns w a E (setHP (hp E) x y d most) (setHX (hp E) x y d most) (setHY (hp E) x y d most) (setHE (hp E) x y d most)) := by
  have A := hid0 h
  have hlb : E.length ≤ 5864062014805 := by have := h.len; omega
  have v0 := ((((VarAt.new w (.slice a E.length c) 25).alloc (Obj.cells #[.int .i64 x, .int .i64 y] 29)).alloc (Obj.cells #[.slice none 0 0] 25)).alloc (Obj.cells #[.int .i64 0, .int .i64 0] 29))
  have d0 := (((IdAt.new (w.alloc (Obj.cells #[.slice a E.length c] 25)) x y 29).alloc (Obj.cells #[.slice none 0 0] 25)).alloc (Obj.cells #[.int .i64 0, .int .i64 0] 29))
  have r0 := ((VarAt.new ((w.alloc (Obj.cells #[.slice a E.length c] 25)).alloc (Obj.cells #[.int .i64 x, .int .i64 y] 29)) (.slice none 0 0) 25).alloc (Obj.cells #[.int .i64 0, .int .i64 0] 29))
  have s0 := (IdAt.new (((w.alloc (Obj.cells #[.slice a E.length c] 25)).alloc (Obj.cells #[.int .i64 x, .int .i64 y] 29)).alloc (Obj.cells #[.slice none 0 0] 25)) 0 0 29)
  rw [World.size_alloc] at d0
  rw [World.size_alloc, World.size_alloc] at r0
  rw [World.size_alloc, World.size_alloc, World.size_alloc] at s0
  have hB0 : Below w.heap.size w ((((w.alloc (Obj.cells #[.slice a E.length c] 25)).alloc (Obj.cells #[.int .i64 x, .int .i64 y] 29)).alloc (Obj.cells #[.slice none 0 0] 25)).alloc (Obj.cells #[.int .i64 0, .int .i64 0] 29)) := ((((Below.refl _ _).alloc (Nat.le_refl _) _).alloc (by simp) _).alloc (by simp; omega) _).alloc (by simp; omega) _
  have C15 := hpCut_any a c E x y _ ((((h.alloc (Obj.cells #[.slice a E.length c] 25)).alloc (Obj.cells #[.int .i64 x, .int .i64 y] 29)).alloc (Obj.cells #[.slice none 0 0] 25)).alloc (Obj.cells #[.int .i64 0, .int .i64 0] 29)) hx1 hx2 hy1 hy2
  have hcl : cutHP (hp E) x y = leftH (hp E) x y := by unfold cutHP leftH; rw [if_pos he0]
  rw [hcl, he0] at C15
  unfold HAns at C15
  have hrl := (rightH_iff _).2 (leftH_right he0)
  obtain ⟨LH, hLH⟩ : ∃ L, leftH (hp E) x y = L := ⟨_, rfl⟩
  rw [hLH] at C15 hrl
  have HS := hid0 (And.intro he0 (And.intro hl (And.intro hrf (And.intro hLH hrl))))
  have HD := hid0 (show d.length ≤ 140737488351232 by omega)
  have HM := hid0 (And.intro hm1 hm2)
  clear h he0 hl hrf hcl hLH hrl hm1 hm2
  obtain ⟨q0, f0⟩ := v0
  obtain ⟨i0, i1, fi⟩ := d0
  go_enter Try.func21, Try.ntmps21
  go_wp2_with fail
  refine C15.mono ?_
  rintro e w5 ⟨⟨a5, c5, E5, rfl, hA5, hh5, haw5⟩, hb5⟩
  have V5 := ((VarAt.mk q0 f0).later hb5).alloc (Obj.cells #[.slice a5 E5.length c5] 25)
  have R5 := (r0.later hb5).alloc (Obj.cells #[.slice a5 E5.length c5] 25)
  have S5 := (s0.later hb5).alloc (Obj.cells #[.slice a5 E5.length c5] 25)
  have L5 := VarAt.new w5 (.slice a5 E5.length c5) 25
  have hz5 := hb5.size
  have hlS := s0.lt
  have hB5 := (below_through hb5 hB0.size hB0).alloc (by have := hB0.size; omega) (Obj.cells #[.slice a5 E5.length c5] 25)
  have C9 := hpPut_any a5 c5 E5 d most _ (hA5.alloc (Obj.cells #[.slice a5 E5.length c5] 25)) HD.out HM.out.1 HM.out.2
  unfold HIdAns at C9
  rw [hh5] at C9
  have HA5 := hid0 hA5
  have hW4 : ((((w.alloc (Obj.cells #[.slice a E.length c] 25)).alloc (Obj.cells #[.int .i64 x, .int .i64 y] 29)).alloc (Obj.cells #[.slice none 0 0] 25)).alloc (Obj.cells #[.int .i64 0, .int .i64 0] 29)).heap.size = w.heap.size + 1 + 1 + 1 + 1 := by simp
  have HW5 := hid0 (haw5.less (w0 := w) (by rw [hW4]; omega))
  have HF5 := hid0 (show ∀ B, w.heap.size ≤ B → B < w.heap.size + 1 + 1 + 1 + 1 → HFar a5 E5 B from fun B h1 h2 => hfar_away haw5 (hfar_old A.out h1) (by rw [hW4]; exact h2))
  rw [hW4] at hz5
  clear hh5 hA5 haw5 C15 hb5 q0 f0 i0 i1 fi r0 s0 hB0 hW4 hlS
  obtain ⟨q0, f0⟩ := V5
  obtain ⟨l0, g0⟩ := L5
  go_wp2_with fail
  cases hcan : canH LH d most with
  | true =>
    obtain ⟨he0, hl, hrf, hLH, hrl⟩ := HS.out
    obtain ⟨e1, e2, e3, e4⟩ := putHE_done hrl hl hcan
    rw [e1, e2, e3, e4] at C9
    have HM := hid0 (setH_moved he0 hl hrf (by rw [hLH]; exact hcan))
    have HLH := hid0 hLH
    clear e1 e2 e3 e4 hcan he0 hl hrf hLH hrl
    obtain ⟨X, hX⟩ : ∃ X, fitH (d.length : Int) LH = X := ⟨_, rfl⟩
    obtain ⟨Y, hY⟩ : ∃ Y, slotH LH d = Y := ⟨_, rfl⟩
    rw [hX, hY] at C9
    have HXY := hid0 (And.intro hX hY)
    clear hX hY
    refine C9.mono ?_
    rintro e w7 ⟨⟨a7, c7, E7, rfl, hA7, hh7, haw7⟩, hb7⟩
    have hz7 := hb7.size
    rw [World.size_alloc] at hz7
    have R8 := ((R5.later hb7).alloc (Obj.cells #[.slice a7 E7.length c7] 25)).alloc (Obj.cells #[.int .i64 (X : Int), .int .i64 (Y : Int)] 29)
    have S8 := ((S5.later hb7).alloc (Obj.cells #[.slice a7 E7.length c7] 25)).alloc (Obj.cells #[.int .i64 (X : Int), .int .i64 (Y : Int)] 29)
    have L8 := (VarAt.new w7 (.slice a7 E7.length c7) 25).alloc (Obj.cells #[.int .i64 (X : Int), .int .i64 (Y : Int)] 29)
    have Y8 := IdAt.new (w7.alloc (Obj.cells #[.slice a7 E7.length c7] 25)) (X : Int) (Y : Int) 29
    rw [World.size_alloc] at Y8
    have hB8 := ((below_through hb7 hB5.size hB5).alloc (by have := hB5.size; simp at this; omega) (Obj.cells #[.slice a7 E7.length c7] 25)).alloc (by have := hB5.size; simp at this ⊢; omega) (Obj.cells #[.int .i64 (X : Int), .int .i64 (Y : Int)] 29)
    have hf7 : ∀ B, w.heap.size ≤ B → B < w.heap.size + 1 + 1 + 1 + 1 → HFar a7 E7 B := fun B h1 h2 => hfar_away haw7 (HF5.out B h1 h2) (by simp; omega)
    have haw : AwayH w a E a7 E7 := HW5.out.trans haw7 (by simp; omega)
    have HA8 := (hA7.alloc (Obj.cells #[.slice a7 E7.length c7] 25)).alloc (Obj.cells #[.int .i64 (X : Int), .int .i64 (Y : Int)] 29)
    have HF := hid0 (idans_fin_drew (a := a) R8 S8 (by omega) hB8 HA8 (hf7 _ (by omega) (by omega)) (hf7 _ (by omega) (by omega)) hh7 haw (X : Int) (Y : Int) 0)
    have n2 : w.heap.size + 1 + 1 ≠ w7.heap.size := by omega
    have n3 : w.heap.size + 1 + 1 + 1 ≠ w7.heap.size := by omega
    have n4 : w.heap.size + 1 + 1 ≠ w7.heap.size + 1 := by omega
    have n5 : w.heap.size + 1 + 1 + 1 ≠ w7.heap.size + 1 := by omega
    clear q0 f0 l0 g0 hA7 hh7 haw7 hb7 hf7 haw HA8 hB8 C9 R5 S5 hB5
    go_wp2_with fail
    generalize (w7.alloc (Obj.cells #[.slice a7 E7.length c7] 25)).alloc (Obj.cells #[.int .i64 (X : Int), .int .i64 (Y : Int)] 29) = W8 at R8 S8 L8 Y8 HF ⊢
    have q6 := L8.cell
    have j0 := Y8.c0
    have j1 := Y8.c1
    have hd0 : W8.drew.cell? ⟨w.heap.size + 1 + 1, 0, none⟩ = some (.slice none 0 0) := R8.cell
    have hd1 : W8.drew.frozen? ⟨w.heap.size + 1 + 1, 0, none⟩ = false := R8.frz
    have D2 := S8.drew.other ⟨w.heap.size + 1 + 1, 0, none⟩ (.slice a7 E7.length c7) (by show w.heap.size + 1 + 1 ≠ w.heap.size + 1 + 1 + 1; omega)
    obtain ⟨k0, k1, kf⟩ := D2
    obtain ⟨l0, l1, lf⟩ := S8.drew
    have lf0 := lf 0
    have lf1 := lf 1
    have kf0 := kf 0
    have kf1 := kf 1
    obtain ⟨m0, m1, mf⟩ := S8
    have mf0 := mf 0
    have mf1 := mf 1
    obtain ⟨o0, o1⟩ := R8
    go_region_held3 (fun w' => w'.cell? ⟨w7.heap.size, 0, none⟩ = some (.slice a7 E7.length c7) ∧ w'.cell? ⟨w7.heap.size + 1, 0, none⟩ = some (.int .i64 (X : Int)) ∧ w'.cell? ⟨w7.heap.size + 1, 1, none⟩ = some (.int .i64 (Y : Int)))
      ((go_split_ands; (try dsimp only); (repeat' apply And.intro); all_goals (first
        | assumption
        | exact store_other_keep (by assumption) ‹_›
        | exact store_other_keep (by assumption) (store_other_keep (by assumption) ‹_›)
        | go_keep)))
      (fail)
    clear q6 j0 j1 hd0 hd1 k0 k1 kf l0 l1 lf lf0 lf1 kf0 kf1 m0 m1 mf mf0 mf1 o0 o1 L8 Y8
    obtain ⟨x1, ⟨x2, x3, _⟩, x4⟩ := HF.out
    go_wp2_with fail
    refine bodyPost_ret (v := .tuple #[.agg #[.slice a7 E7.length c7], .agg #[.int .i64 (X : Int), .int .i64 (Y : Int)], .int .i64 0]) (by simp [results, Try.results21, go_sem, x1, x2, x3]) rfl ?_
    obtain ⟨e1, e2, e3, e4⟩ := HM.out
    rw [e1, e2, e3, e4, HLH.out, HXY.out.1, HXY.out.2]
    exact x4
  | false =>
    obtain ⟨he0, hl, hrf, hLH, hrl⟩ := HS.out
    obtain ⟨e1, e2, e3, e4⟩ := putHE_full hrl hl hcan
    rw [e1, e2, e3, e4] at C9
    have HM := hid0 (setH_full he0 hl hrf (by rw [hLH]; exact hcan))
    clear e1 e2 e3 e4 hcan he0 hl hrf hLH hrl
    rw [show ((0 : Nat) : Int) = 0 from rfl] at C9
    refine C9.mono ?_
    rintro e w7 ⟨⟨a7, c7, E7, rfl, -, -, -⟩, hb7⟩
    have V8 := (((VarAt.mk q0 f0).later hb7).alloc (Obj.cells #[.slice a7 E7.length c7] 25)).alloc (Obj.cells #[.int .i64 0, .int .i64 0] 29)
    have R8 := ((R5.later hb7).alloc (Obj.cells #[.slice a7 E7.length c7] 25)).alloc (Obj.cells #[.int .i64 0, .int .i64 0] 29)
    have S8 := ((S5.later hb7).alloc (Obj.cells #[.slice a7 E7.length c7] 25)).alloc (Obj.cells #[.int .i64 0, .int .i64 0] 29)
    have hB8 := ((below_through hb7 hB5.size hB5).alloc (by have := hB5.size; have := hb7.size; simp at *; omega) (Obj.cells #[.slice a7 E7.length c7] 25)).alloc (by have := hB5.size; have := hb7.size; simp at *; omega) (Obj.cells #[.int .i64 0, .int .i64 0] 29)
    have hlS := S8.lt
    clear q0 f0 l0 g0 hb7 C9 R5 S5 hB5
    have C26 := hpCopied_any a c E _ (A.out.later hB8).cellsH A.out.len
    obtain ⟨q0, f0⟩ := V8
    go_wp2_with fail
    refine C26.mono ?_
    rintro e w8 ⟨⟨v, rfl, hown⟩, hb⟩
    obtain ⟨a', c', rfl, hcap, -, -⟩ := pgs_owned hown
    have FN := copied_fin A.out (w.heap.size + 1 + 1) 17 _ (R8.later hb) (S8.later hb) (below_through hb hB8.size hB8) (by omega) hlS hown
    obtain ⟨q1, f1⟩ := R8.later hb
    obtain ⟨i0, i1, fi⟩ := S8.later hb
    clear C26 R8 S8 q0 f0 hB8
    go_wp2_with fail
    obtain ⟨x1, ⟨x2, x3, _⟩, x4⟩ := FN.out
    exact bodyPost_ret (v := .tuple #[.agg #[.slice a' E.length c'], .agg #[.int .i64 0, .int .i64 0], .int .i64 17]) (by simp [results, Try.results21, go_sem, x1, x2, x3]) rfl (by obtain ⟨e1, e2, e3, e4⟩ := HM.out; rw [e1, e2, e3, e4]; exact x4)
end Go.Proofs.Ytneebnankghhgaa
