/- The walk of the law ValuePrints: it returns true, and below the heap's end memory is as it was. Conditions: internal/bytealg.MaxLen holds some integer; strconv's table of powers is laid; the numbers lie within 64 bits; each text has at most 1048576 bytes. -/
import Derived.Test.YtojlgiipnnnfgaaDoorV2
import Derived.Test.YtojlgiipnnnfgaaDoorWf
import Derived.Deep.RegionHeld3
namespace Go.Proofs.YtojlgiipnnnfgaaDoor
open Go.RowKit

theorem tab_later {w w' : World} {zs : List Int} (h : Lib.TabIs Tryd.prog w "internal/strconv.uint64pow10" .u64 zs) (hb : Below w.heap.size w w') : Lib.TabIs Tryd.prog w' "internal/strconv.uint64pow10" .u64 zs := by
  obtain ⟨g, hg⟩ : ∃ g, Tryd.prog.globalNamed "internal/strconv.uint64pow10" = some g := ⟨_, rfl⟩
  unfold Lib.TabIs World.var? at h ⊢
  simp only [hg, Option.bind_some] at h ⊢
  have hlt : g < w.heap.size := by
    rcases Nat.lt_or_ge g w.heap.size with h' | h'
    · exact h'
    · have e : w.heap[g]? = none := by simp [h']
      rw [e] at h; cases h
  rw [hb.block g hlt]
  exact h

def TabW (w : World) : Prop := Lib.TabIs Tryd.prog w "internal/strconv.uint64pow10" .u64 Lib.pow10Tab
theorem TabW.later {w w' : World} (h : TabW w) (hb : Below w.heap.size w w') : TabW w' := tab_later h hb

set_option maxRecDepth 100000 in
set_option maxHeartbeats 1000000 in
theorem lawPrints (k1 n1 k2 n2 m : Int) (s1 s2 : ByteArray) (w : World) (a1 : -9223372036854775808 ≤ n1) (a2 : n1 ≤ 9223372036854775807) (b1 : -9223372036854775808 ≤ n2) (b2 : n2 ≤ 9223372036854775807) (hs1 : s1.size ≤ 1048576) (hs2 : s2.size ≤ 1048576)
    (hm : w.cell? ⟨0, 0, none⟩ = some (.int .i64 m)) (ht : TabW w) :
    Calls Tryd.prog 9 #[.agg #[.int .i64 k1, .int .i64 n1, .string s1], .agg #[.int .i64 k2, .int .i64 n2, .string s2]] w fun e w' => e = .returned (.bool true) ∧ Below w.heap.size w w' := by
  have hma : ∀ o1 o2, ((w.alloc o1).alloc o2).cell? ⟨0, 0, none⟩ = some (.int .i64 m) := fun o1 o2 => cell_later (((Below.refl _ _).alloc (Nat.le_refl _) _).alloc (by simp) _) hm
  have hta : ∀ o1 o2, TabW ((w.alloc o1).alloc o2).drew := fun o1 o2 => ht.later (Below.drew (((Below.refl _ _).alloc (Nat.le_refl _) _).alloc (by simp) _))
  have HT := Lib.hid hta
  have m1 : s1.size ≤ maxLen := by unfold maxLen; omega
  have m2 : s2.size ≤ maxLen := by unfold maxLen; omega
  have M1 := Lib.hid m1
  have M2 := Lib.hid m2
  have A1 := Lib.hid hs1
  have A2 := Lib.hid hs2
  clear hm ht hta m1 m2 hs1 hs2
  go_enter Tryd.func9, Tryd.ntmps9
  go_wp2_with fail
  go_region_held3 (fun w' => w'.cell? ⟨w.heap.size, 0, none⟩ = some (.int .i64 k1) ∧ w'.cell? ⟨w.heap.size, 1, none⟩ = some (.int .i64 n1) ∧ w'.cell? ⟨w.heap.size, 2, none⟩ = some (.string s1) ∧
      w'.cell? ⟨w.heap.size + 1, 0, none⟩ = some (.int .i64 k2) ∧ w'.cell? ⟨w.heap.size + 1, 1, none⟩ = some (.int .i64 n2) ∧ w'.cell? ⟨w.heap.size + 1, 2, none⟩ = some (.string s2) ∧
      w'.cell? ⟨0, 0, none⟩ = some (.int .i64 m) ∧ TabW w' ∧ Below w.heap.size w w')
    ((go_split_ands; (try dsimp only); (repeat' apply And.intro); all_goals (first
      | assumption
      | exact cell_later hb ‹_›
      | exact TabW.later ‹TabW _› hb
      | exact below_through hb (Below.size ‹Below w.heap.size w _›) ‹_›
      | exact Below.drew (((Below.refl _ _).alloc (Nat.le_refl _) _).alloc (by simp) _)
      | exact HT.out _ _
      | (simp [hma]; done)
      | go_keep
      | go_cell)))
    (first
      | (go_at_call 10; (try go_split_ands); refine (awake_any m _ (by first | assumption | simp [hma])).mono ?_; rintro e w' ⟨rfl, hb⟩)
      | (go_at_call 22; (try go_split_ands); refine (print_any _ _ m _ _ a1 a2 A1.out (by assumption) (by assumption)).mono ?_; rintro e w' ⟨rfl, hb⟩)
      | (go_at_call 23; refine (refPrint_any _ _ _ _ a1 a2 A1.out).mono ?_; rintro e w' ⟨rfl, hb⟩))
  obtain ⟨c0, c1, c2, c3, c4, c5, c6, hT, hB⟩ := ‹w'.cell? ⟨w.heap.size, 0, none⟩ = some (.int .i64 k1) ∧ _›
  go_wp2_with fail
  have HE := eql23 k1 n1 s1 k2 n2 s2
  clear hma HT
  by_cases g1 : chk k1 n1 s1 = 0
  · have G1 : (chk k1 n1 s1 != 0) = false := by simpa using g1
    by_cases g2 : chk k2 n2 s2 = 0
    · have G2 : (chk k2 n2 s2 != 0) = false := by simpa using g2
      have E1 := Lib.hid g1
      have E2 := Lib.hid g2
      clear g1 g2
      go_region_held3 (fun w' => w'.cell? ⟨w.heap.size, 0, none⟩ = some (.int .i64 k1) ∧ w'.cell? ⟨w.heap.size, 1, none⟩ = some (.int .i64 n1) ∧ w'.cell? ⟨w.heap.size, 2, none⟩ = some (.string s1) ∧
          w'.cell? ⟨w.heap.size + 1, 0, none⟩ = some (.int .i64 k2) ∧ w'.cell? ⟨w.heap.size + 1, 1, none⟩ = some (.int .i64 n2) ∧ w'.cell? ⟨w.heap.size + 1, 2, none⟩ = some (.string s2) ∧
          w'.cell? ⟨0, 0, none⟩ = some (.int .i64 m) ∧ TabW w' ∧ Below w.heap.size w w')
        ((go_split_ands; (try dsimp only); (repeat' apply And.intro); all_goals (first
          | assumption
          | exact cell_later hbn ‹_›
          | exact TabW.later ‹TabW _› hbn
          | exact below_through hbn (Below.size ‹Below w.heap.size w _›) ‹_›
          | exact Below.drew hB
          | exact hT.later (Below.drew (Below.refl _ _))
          | go_keep
          | go_cell)))
        (first
          | (go_at_call 11; refine (check_any _ _ _ _ (by first | exact M1.out | exact M2.out)).mono ?_; rintro e wn ⟨rfl, hbn⟩)
          | (go_at_call 22; (try go_split_ands); refine (print_any _ _ m _ _ (by first | exact a1 | exact b1) (by first | exact a2 | exact b2) (by first | exact A1.out | exact A2.out) (by assumption) (by assumption)).mono ?_; rintro e wn ⟨rfl, hbn⟩))
      obtain ⟨_, _, _, _, _, _, _, _, hBn⟩ := ‹wn.cell? ⟨w.heap.size, 0, none⟩ = some (.int .i64 k1) ∧ _›
      go_wp2
      go_ret
      have hp := print_inj E1.out E2.out
      refine ⟨ret_bool ?_, hBn⟩
      have h : (printL k1 n1 s1 == printL k2 n2 s2) = sameV k1 n1 s1 k2 n2 s2 := by
        rw [Bool.eq_iff_iff, sameV_iff, beq_iff_eq, hp]
      rw [h]; simp
    · -- the second one may not be
      have G2 : (chk k2 n2 s2 != 0) = true := by simpa using g2
      clear g1 g2
      refine wp_region_held_drew (S := (fun w' => w'.cell? ⟨w.heap.size, 0, none⟩ = some (.int .i64 k1) ∧ w'.cell? ⟨w.heap.size, 1, none⟩ = some (.int .i64 n1) ∧ w'.cell? ⟨w.heap.size, 2, none⟩ = some (.string s1) ∧ w'.cell? ⟨w.heap.size + 1, 0, none⟩ = some (.int .i64 k2) ∧ w'.cell? ⟨w.heap.size + 1, 1, none⟩ = some (.int .i64 n2) ∧ w'.cell? ⟨w.heap.size + 1, 2, none⟩ = some (.string s2) ∧ Below w.heap.size w w')) (by kernel_rfl) ⟨c0, c1, c2, c3, c4, c5, Below.drew hB⟩ (fun hHeld => ?_)
      refine wpAnyH_take (i := 0) (oi := { dst := some 14, op := Op.load 23 (Operand.tmp 2), type := 23, pos := "law.go:80", after := #[], guard := none }) (v := .agg #[.int .i64 k1, .int .i64 n1, .string s1]) rfl (by kernel_rfl) (by kernel_rfl) (by kernel_rfl) (fun _ _ _ h => h) (Or.inl ⟨by rfl, ?_⟩) (by assumption) ?_
      · intro wx hSw
        (try dsimp only at hSw)
        go_split_ands
        go_simp
      simp only [Act.put, List.setIfInBounds_toArray, List.set_cons_zero, List.set_cons_succ]
      refine wpAnyH_ready (rs := [1]) (by kernel_rfl) (by simp) ?_
      refine AllReadyH.cons (o := { dst := some 15, op := Op.call { callee := Callee.value (Operand.func 11), args := #[Operand.tmp 14], argTypes := #[23] }, type := 25, pos := "law.go:80", after := #[{ on := 0, ground := Ground.data }], guard := none }) rfl (fun K hK => ?_) AllReadyH.nil
      go_simp
      refine (check_any k1 n1 s1 _ M1.out).mono ?_
      rintro e wn ⟨rfl, hbn⟩
      refine hK.out _ _ ⟨cell_later hbn c0, cell_later hbn c1, cell_later hbn c2, cell_later hbn c3, cell_later hbn c4, cell_later hbn c5, below_through hbn (Below.drew hB).size (Below.drew hB)⟩ (fun hHeld => ?_)
      clear hK K
      refine wpAnyH_take (i := 2) (oi := { dst := some 16, op := Op.binOp BinOp.neq 25 (Operand.tmp 15) (Operand.const (Value.int IntKind.i64 0)) 25, type := 4, pos := "law.go:80", after := #[{ on := 1, ground := Ground.data }], guard := none }) (v := .bool false) rfl (by kernel_rfl) (by kernel_rfl) (by kernel_rfl) (fun _ _ _ h => h) (Or.inl ⟨by rfl, ?_⟩) (by assumption) ?_
      · intro wx hSw
        (try dsimp only at hSw)
        go_split_ands
        go_simp
      simp only [Act.put, List.setIfInBounds_toArray, List.set_cons_zero, List.set_cons_succ]
      refine wpAnyH_take (i := 3) (oi := { dst := some 17, op := Op.move (Operand.tmp 16), type := 4, pos := "law.go:80", after := #[{ on := 2, ground := Ground.data }, { on := 1, ground := Ground.chain }], guard := none }) (v := .bool false) rfl (by kernel_rfl) (by kernel_rfl) (by kernel_rfl) (fun _ _ _ h => h) (Or.inl ⟨by rfl, ?_⟩) (by assumption) ?_
      · intro wx hSw
        (try dsimp only at hSw)
        go_split_ands
        go_simp
      simp only [Act.put, List.setIfInBounds_toArray, List.set_cons_zero, List.set_cons_succ]
      refine wpAnyH_take (i := 4) (oi := { dst := some 18, op := Op.load 23 (Operand.tmp 3), type := 23, pos := "law.go:80", after := #[{ on := 3, ground := Ground.guard }], guard := some (3, false) }) (v := .agg #[.int .i64 k2, .int .i64 n2, .string s2]) rfl (by kernel_rfl) (by kernel_rfl) (by kernel_rfl) (fun _ _ _ h => h) (Or.inl ⟨by rfl, ?_⟩) (by assumption) ?_
      · intro wx hSw
        (try dsimp only at hSw)
        go_split_ands
        go_simp
      simp only [Act.put, List.setIfInBounds_toArray, List.set_cons_zero, List.set_cons_succ]
      refine wpAnyH_ready (rs := [5]) (by kernel_rfl) (by simp) ?_
      refine AllReadyH.cons (o := { dst := some 19, op := Op.call { callee := Callee.value (Operand.func 11), args := #[Operand.tmp 18], argTypes := #[23] }, type := 25, pos := "law.go:80", after := #[{ on := 4, ground := Ground.data }, { on := 3, ground := Ground.chain }, { on := 3, ground := Ground.guard }], guard := some (3, false) }) rfl (fun K hK => ?_) AllReadyH.nil
      go_simp
      refine (check_any k2 n2 s2 _ M2.out).mono ?_
      rintro e wm ⟨rfl, hbm⟩
      refine hK.out _ _ ⟨cell_later hbm hHeld.1, cell_later hbm hHeld.2.1, cell_later hbm hHeld.2.2.1, cell_later hbm hHeld.2.2.2.1, cell_later hbm hHeld.2.2.2.2.1, cell_later hbm hHeld.2.2.2.2.2.1, below_through hbm hHeld.2.2.2.2.2.2.size hHeld.2.2.2.2.2.2⟩ (fun hHeld => ?_)
      clear hK K
      refine wpAnyH_take (i := 6) (oi := { dst := some 20, op := Op.binOp BinOp.neq 25 (Operand.tmp 19) (Operand.const (Value.int IntKind.i64 0)) 25, type := 4, pos := "law.go:80", after := #[{ on := 5, ground := Ground.data }, { on := 3, ground := Ground.guard }], guard := some (3, false) }) (v := .bool true) rfl (by kernel_rfl) (by kernel_rfl) (by kernel_rfl) (fun _ _ _ h => h) (Or.inl ⟨by rfl, ?_⟩) (by assumption) ?_
      · intro wx hSw
        (try dsimp only at hSw)
        go_split_ands
        go_simp
      simp only [Act.put, List.setIfInBounds_toArray, List.set_cons_zero, List.set_cons_succ]
      refine wpAnyH_take (i := 7) (oi := { dst := some 21, op := Op.pick (Operand.tmp 17) (Operand.const (Value.bool true)) (Operand.tmp 20), type := 4, pos := "law.go:80", after := #[{ on := 3, ground := Ground.data }, { on := 6, ground := Ground.data }], guard := none }) (v := .bool true) rfl (by kernel_rfl) (by kernel_rfl) (by kernel_rfl) (fun _ _ _ h => h) (Or.inl ⟨by rfl, ?_⟩) (by assumption) ?_
      · intro wx hSw
        (try dsimp only at hSw)
        go_split_ands
        go_simp
      simp only [Act.put, List.setIfInBounds_toArray, List.set_cons_zero, List.set_cons_succ]
      refine wpAnyH_take (i := 8) (oi := { dst := some 22, op := Op.move (Operand.tmp 21), type := 4, pos := "law.go:80", after := #[{ on := 7, ground := Ground.data }, { on := 5, ground := Ground.chain }], guard := none }) (v := .bool true) rfl (by kernel_rfl) (by kernel_rfl) (by kernel_rfl) (fun _ _ _ h => h) (Or.inl ⟨by rfl, ?_⟩) (by assumption) ?_
      · intro wx hSw
        (try dsimp only at hSw)
        go_split_ands
        go_simp
      simp only [Act.put, List.setIfInBounds_toArray, List.set_cons_zero, List.set_cons_succ]
      refine wpAnyH_take (i := 9) (oi := { dst := some 23, op := Op.load 23 (Operand.tmp 2), type := 23, pos := "law.go:80", after := #[{ on := 8, ground := Ground.guard }], guard := some (8, false) }) (v := undef) rfl (by kernel_rfl) (by kernel_rfl) (by kernel_rfl) (fun _ _ _ h => h) (Or.inr ⟨by rfl, rfl⟩) (by assumption) ?_
      simp only [Act.put, List.setIfInBounds_toArray, List.set_cons_zero, List.set_cons_succ]
      refine wpAnyH_take (i := 10) (oi := { dst := some 24, op := Op.call { callee := Callee.value (Operand.func 22), args := #[Operand.tmp 23], argTypes := #[23] }, type := 9, pos := "law.go:80", after := #[{ on := 9, ground := Ground.data }, { on := 8, ground := Ground.chain }, { on := 8, ground := Ground.guard }], guard := some (8, false) }) (v := undef) rfl (by kernel_rfl) (by kernel_rfl) (by kernel_rfl) (fun _ _ _ h => h) (Or.inr ⟨by rfl, rfl⟩) (by assumption) ?_
      simp only [Act.put, List.setIfInBounds_toArray, List.set_cons_zero, List.set_cons_succ]
      refine wpAnyH_take (i := 11) (oi := { dst := some 25, op := Op.load 23 (Operand.tmp 3), type := 23, pos := "law.go:80", after := #[{ on := 8, ground := Ground.guard }], guard := some (8, false) }) (v := undef) rfl (by kernel_rfl) (by kernel_rfl) (by kernel_rfl) (fun _ _ _ h => h) (Or.inr ⟨by rfl, rfl⟩) (by assumption) ?_
      simp only [Act.put, List.setIfInBounds_toArray, List.set_cons_zero, List.set_cons_succ]
      refine wpAnyH_take (i := 12) (oi := { dst := some 26, op := Op.call { callee := Callee.value (Operand.func 22), args := #[Operand.tmp 25], argTypes := #[23] }, type := 9, pos := "law.go:80", after := #[{ on := 11, ground := Ground.data }, { on := 10, ground := Ground.chain }, { on := 8, ground := Ground.guard }], guard := some (8, false) }) (v := undef) rfl (by kernel_rfl) (by kernel_rfl) (by kernel_rfl) (fun _ _ _ h => h) (Or.inr ⟨by rfl, rfl⟩) (by assumption) ?_
      simp only [Act.put, List.setIfInBounds_toArray, List.set_cons_zero, List.set_cons_succ]
      refine wpAnyH_take (i := 13) (oi := { dst := some 27, op := Op.binOp BinOp.eql 9 (Operand.tmp 24) (Operand.tmp 26) 9, type := 4, pos := "law.go:80", after := #[{ on := 10, ground := Ground.data }, { on := 12, ground := Ground.data }, { on := 8, ground := Ground.guard }], guard := some (8, false) }) (v := undef) rfl (by kernel_rfl) (by kernel_rfl) (by kernel_rfl) (fun _ _ _ h => h) (Or.inr ⟨by rfl, rfl⟩) (by assumption) ?_
      simp only [Act.put, List.setIfInBounds_toArray, List.set_cons_zero, List.set_cons_succ]
      refine wpAnyH_take (i := 14) (oi := { dst := some 28, op := Op.load 23 (Operand.tmp 2), type := 23, pos := "law.go:80", after := #[{ on := 8, ground := Ground.guard }], guard := some (8, false) }) (v := undef) rfl (by kernel_rfl) (by kernel_rfl) (by kernel_rfl) (fun _ _ _ h => h) (Or.inr ⟨by rfl, rfl⟩) (by assumption) ?_
      simp only [Act.put, List.setIfInBounds_toArray, List.set_cons_zero, List.set_cons_succ]
      refine wpAnyH_take (i := 15) (oi := { dst := some 29, op := Op.load 23 (Operand.tmp 3), type := 23, pos := "law.go:80", after := #[{ on := 8, ground := Ground.guard }], guard := some (8, false) }) (v := undef) rfl (by kernel_rfl) (by kernel_rfl) (by kernel_rfl) (fun _ _ _ h => h) (Or.inr ⟨by rfl, rfl⟩) (by assumption) ?_
      simp only [Act.put, List.setIfInBounds_toArray, List.set_cons_zero, List.set_cons_succ]
      refine wpAnyH_take (i := 16) (oi := { dst := some 30, op := Op.binOp BinOp.eql 23 (Operand.tmp 28) (Operand.tmp 29) 23, type := 4, pos := "law.go:80", after := #[{ on := 14, ground := Ground.data }, { on := 15, ground := Ground.data }, { on := 8, ground := Ground.guard }], guard := some (8, false) }) (v := undef) rfl (by kernel_rfl) (by kernel_rfl) (by kernel_rfl) (fun _ _ _ h => h) (Or.inr ⟨by rfl, rfl⟩) (by assumption) ?_
      simp only [Act.put, List.setIfInBounds_toArray, List.set_cons_zero, List.set_cons_succ]
      refine wpAnyH_take (i := 17) (oi := { dst := some 31, op := Op.binOp BinOp.eql 4 (Operand.tmp 27) (Operand.tmp 30) 4, type := 4, pos := "law.go:80", after := #[{ on := 13, ground := Ground.data }, { on := 16, ground := Ground.data }, { on := 8, ground := Ground.guard }], guard := some (8, false) }) (v := undef) rfl (by kernel_rfl) (by kernel_rfl) (by kernel_rfl) (fun _ _ _ h => h) (Or.inr ⟨by rfl, rfl⟩) (by assumption) ?_
      simp only [Act.put, List.setIfInBounds_toArray, List.set_cons_zero, List.set_cons_succ]
      refine wpAnyH_take (i := 18) (oi := { dst := some 32, op := Op.pick (Operand.tmp 22) (Operand.const (Value.bool true)) (Operand.tmp 31), type := 4, pos := "law.go:80", after := #[{ on := 8, ground := Ground.data }, { on := 17, ground := Ground.data }], guard := none }) (v := .bool true) rfl (by kernel_rfl) (by kernel_rfl) (by kernel_rfl) (fun _ _ _ h => h) (Or.inl ⟨by rfl, ?_⟩) (by assumption) ?_
      · intro wx hSw
        (try dsimp only at hSw)
        go_split_ands
        go_simp
      simp only [Act.put, List.setIfInBounds_toArray, List.set_cons_zero, List.set_cons_succ]
      refine wpAnyH_take (i := 19) (oi := { dst := some 4, op := Op.assign (Operand.tmp 32), type := 4, pos := "law.go:80", after := #[{ on := 18, ground := Ground.data }, { on := 12, ground := Ground.chain }, { on := 0, ground := Ground.phase }, { on := 1, ground := Ground.phase }, { on := 2, ground := Ground.phase }, { on := 3, ground := Ground.phase }, { on := 4, ground := Ground.phase }, { on := 5, ground := Ground.phase }, { on := 6, ground := Ground.phase }, { on := 7, ground := Ground.phase }, { on := 8, ground := Ground.phase }, { on := 9, ground := Ground.phase }, { on := 10, ground := Ground.phase }, { on := 11, ground := Ground.phase }, { on := 12, ground := Ground.phase }, { on := 13, ground := Ground.phase }, { on := 14, ground := Ground.phase }, { on := 15, ground := Ground.phase }, { on := 16, ground := Ground.phase }, { on := 17, ground := Ground.phase }, { on := 18, ground := Ground.phase }], guard := none }) (v := .bool true) rfl (by kernel_rfl) (by kernel_rfl) (by kernel_rfl) (fun _ _ _ h => h) (Or.inl ⟨by rfl, ?_⟩) (by assumption) ?_
      · intro wx hSw
        (try dsimp only at hSw)
        go_split_ands
        go_simp
      simp only [Act.put, List.setIfInBounds_toArray, List.set_cons_zero, List.set_cons_succ]
      refine wpAnyH_done (by kernel_rfl) ?_ _
      go_wp2
      go_ret
      exact ⟨rfl, hHeld.2.2.2.2.2.2⟩
  · -- the first one may not be
    have G1 : (chk k1 n1 s1 != 0) = true := by simpa using g1
    clear g1
    refine wp_region_held_drew (S := (fun w' => w'.cell? ⟨w.heap.size, 0, none⟩ = some (.int .i64 k1) ∧ w'.cell? ⟨w.heap.size, 1, none⟩ = some (.int .i64 n1) ∧ w'.cell? ⟨w.heap.size, 2, none⟩ = some (.string s1) ∧ Below w.heap.size w w')) (by kernel_rfl) ⟨c0, c1, c2, Below.drew hB⟩ (fun hHeld => ?_)
    refine wpAnyH_take (i := 0) (oi := { dst := some 14, op := Op.load 23 (Operand.tmp 2), type := 23, pos := "law.go:80", after := #[], guard := none }) (v := .agg #[.int .i64 k1, .int .i64 n1, .string s1]) rfl (by kernel_rfl) (by kernel_rfl) (by kernel_rfl) (fun _ _ _ h => h) (Or.inl ⟨by rfl, ?_⟩) (by assumption) ?_
    · intro wx hSw
      (try dsimp only at hSw)
      go_split_ands
      go_simp
    simp only [Act.put, List.setIfInBounds_toArray, List.set_cons_zero, List.set_cons_succ]
    refine wpAnyH_ready (rs := [1]) (by kernel_rfl) (by simp) ?_
    refine AllReadyH.cons (o := { dst := some 15, op := Op.call { callee := Callee.value (Operand.func 11), args := #[Operand.tmp 14], argTypes := #[23] }, type := 25, pos := "law.go:80", after := #[{ on := 0, ground := Ground.data }], guard := none }) rfl (fun K hK => ?_) AllReadyH.nil
    go_simp
    refine (check_any k1 n1 s1 _ M1.out).mono ?_
    rintro e wn ⟨rfl, hbn⟩
    refine hK.out _ _ ⟨cell_later hbn c0, cell_later hbn c1, cell_later hbn c2, below_through hbn (Below.drew hB).size (Below.drew hB)⟩ (fun hHeld => ?_)
    clear hK K
    refine wpAnyH_take (i := 2) (oi := { dst := some 16, op := Op.binOp BinOp.neq 25 (Operand.tmp 15) (Operand.const (Value.int IntKind.i64 0)) 25, type := 4, pos := "law.go:80", after := #[{ on := 1, ground := Ground.data }], guard := none }) (v := .bool true) rfl (by kernel_rfl) (by kernel_rfl) (by kernel_rfl) (fun _ _ _ h => h) (Or.inl ⟨by rfl, ?_⟩) (by assumption) ?_
    · intro wx hSw
      (try dsimp only at hSw)
      go_split_ands
      go_simp
    simp only [Act.put, List.setIfInBounds_toArray, List.set_cons_zero, List.set_cons_succ]
    refine wpAnyH_take (i := 3) (oi := { dst := some 17, op := Op.move (Operand.tmp 16), type := 4, pos := "law.go:80", after := #[{ on := 2, ground := Ground.data }, { on := 1, ground := Ground.chain }], guard := none }) (v := .bool true) rfl (by kernel_rfl) (by kernel_rfl) (by kernel_rfl) (fun _ _ _ h => h) (Or.inl ⟨by rfl, ?_⟩) (by assumption) ?_
    · intro wx hSw
      (try dsimp only at hSw)
      go_split_ands
      go_simp
    simp only [Act.put, List.setIfInBounds_toArray, List.set_cons_zero, List.set_cons_succ]
    refine wpAnyH_take (i := 4) (oi := { dst := some 18, op := Op.load 23 (Operand.tmp 3), type := 23, pos := "law.go:80", after := #[{ on := 3, ground := Ground.guard }], guard := some (3, false) }) (v := undef) rfl (by kernel_rfl) (by kernel_rfl) (by kernel_rfl) (fun _ _ _ h => h) (Or.inr ⟨by rfl, rfl⟩) (by assumption) ?_
    simp only [Act.put, List.setIfInBounds_toArray, List.set_cons_zero, List.set_cons_succ]
    refine wpAnyH_take (i := 5) (oi := { dst := some 19, op := Op.call { callee := Callee.value (Operand.func 11), args := #[Operand.tmp 18], argTypes := #[23] }, type := 25, pos := "law.go:80", after := #[{ on := 4, ground := Ground.data }, { on := 3, ground := Ground.chain }, { on := 3, ground := Ground.guard }], guard := some (3, false) }) (v := undef) rfl (by kernel_rfl) (by kernel_rfl) (by kernel_rfl) (fun _ _ _ h => h) (Or.inr ⟨by rfl, rfl⟩) (by assumption) ?_
    simp only [Act.put, List.setIfInBounds_toArray, List.set_cons_zero, List.set_cons_succ]
    refine wpAnyH_take (i := 6) (oi := { dst := some 20, op := Op.binOp BinOp.neq 25 (Operand.tmp 19) (Operand.const (Value.int IntKind.i64 0)) 25, type := 4, pos := "law.go:80", after := #[{ on := 5, ground := Ground.data }, { on := 3, ground := Ground.guard }], guard := some (3, false) }) (v := undef) rfl (by kernel_rfl) (by kernel_rfl) (by kernel_rfl) (fun _ _ _ h => h) (Or.inr ⟨by rfl, rfl⟩) (by assumption) ?_
    simp only [Act.put, List.setIfInBounds_toArray, List.set_cons_zero, List.set_cons_succ]
    refine wpAnyH_take (i := 7) (oi := { dst := some 21, op := Op.pick (Operand.tmp 17) (Operand.const (Value.bool true)) (Operand.tmp 20), type := 4, pos := "law.go:80", after := #[{ on := 3, ground := Ground.data }, { on := 6, ground := Ground.data }], guard := none }) (v := .bool true) rfl (by kernel_rfl) (by kernel_rfl) (by kernel_rfl) (fun _ _ _ h => h) (Or.inl ⟨by rfl, ?_⟩) (by assumption) ?_
    · intro wx hSw
      (try dsimp only at hSw)
      go_split_ands
      go_simp
    simp only [Act.put, List.setIfInBounds_toArray, List.set_cons_zero, List.set_cons_succ]
    refine wpAnyH_take (i := 8) (oi := { dst := some 22, op := Op.move (Operand.tmp 21), type := 4, pos := "law.go:80", after := #[{ on := 7, ground := Ground.data }, { on := 5, ground := Ground.chain }], guard := none }) (v := .bool true) rfl (by kernel_rfl) (by kernel_rfl) (by kernel_rfl) (fun _ _ _ h => h) (Or.inl ⟨by rfl, ?_⟩) (by assumption) ?_
    · intro wx hSw
      (try dsimp only at hSw)
      go_split_ands
      go_simp
    simp only [Act.put, List.setIfInBounds_toArray, List.set_cons_zero, List.set_cons_succ]
    refine wpAnyH_take (i := 9) (oi := { dst := some 23, op := Op.load 23 (Operand.tmp 2), type := 23, pos := "law.go:80", after := #[{ on := 8, ground := Ground.guard }], guard := some (8, false) }) (v := undef) rfl (by kernel_rfl) (by kernel_rfl) (by kernel_rfl) (fun _ _ _ h => h) (Or.inr ⟨by rfl, rfl⟩) (by assumption) ?_
    simp only [Act.put, List.setIfInBounds_toArray, List.set_cons_zero, List.set_cons_succ]
    refine wpAnyH_take (i := 10) (oi := { dst := some 24, op := Op.call { callee := Callee.value (Operand.func 22), args := #[Operand.tmp 23], argTypes := #[23] }, type := 9, pos := "law.go:80", after := #[{ on := 9, ground := Ground.data }, { on := 8, ground := Ground.chain }, { on := 8, ground := Ground.guard }], guard := some (8, false) }) (v := undef) rfl (by kernel_rfl) (by kernel_rfl) (by kernel_rfl) (fun _ _ _ h => h) (Or.inr ⟨by rfl, rfl⟩) (by assumption) ?_
    simp only [Act.put, List.setIfInBounds_toArray, List.set_cons_zero, List.set_cons_succ]
    refine wpAnyH_take (i := 11) (oi := { dst := some 25, op := Op.load 23 (Operand.tmp 3), type := 23, pos := "law.go:80", after := #[{ on := 8, ground := Ground.guard }], guard := some (8, false) }) (v := undef) rfl (by kernel_rfl) (by kernel_rfl) (by kernel_rfl) (fun _ _ _ h => h) (Or.inr ⟨by rfl, rfl⟩) (by assumption) ?_
    simp only [Act.put, List.setIfInBounds_toArray, List.set_cons_zero, List.set_cons_succ]
    refine wpAnyH_take (i := 12) (oi := { dst := some 26, op := Op.call { callee := Callee.value (Operand.func 22), args := #[Operand.tmp 25], argTypes := #[23] }, type := 9, pos := "law.go:80", after := #[{ on := 11, ground := Ground.data }, { on := 10, ground := Ground.chain }, { on := 8, ground := Ground.guard }], guard := some (8, false) }) (v := undef) rfl (by kernel_rfl) (by kernel_rfl) (by kernel_rfl) (fun _ _ _ h => h) (Or.inr ⟨by rfl, rfl⟩) (by assumption) ?_
    simp only [Act.put, List.setIfInBounds_toArray, List.set_cons_zero, List.set_cons_succ]
    refine wpAnyH_take (i := 13) (oi := { dst := some 27, op := Op.binOp BinOp.eql 9 (Operand.tmp 24) (Operand.tmp 26) 9, type := 4, pos := "law.go:80", after := #[{ on := 10, ground := Ground.data }, { on := 12, ground := Ground.data }, { on := 8, ground := Ground.guard }], guard := some (8, false) }) (v := undef) rfl (by kernel_rfl) (by kernel_rfl) (by kernel_rfl) (fun _ _ _ h => h) (Or.inr ⟨by rfl, rfl⟩) (by assumption) ?_
    simp only [Act.put, List.setIfInBounds_toArray, List.set_cons_zero, List.set_cons_succ]
    refine wpAnyH_take (i := 14) (oi := { dst := some 28, op := Op.load 23 (Operand.tmp 2), type := 23, pos := "law.go:80", after := #[{ on := 8, ground := Ground.guard }], guard := some (8, false) }) (v := undef) rfl (by kernel_rfl) (by kernel_rfl) (by kernel_rfl) (fun _ _ _ h => h) (Or.inr ⟨by rfl, rfl⟩) (by assumption) ?_
    simp only [Act.put, List.setIfInBounds_toArray, List.set_cons_zero, List.set_cons_succ]
    refine wpAnyH_take (i := 15) (oi := { dst := some 29, op := Op.load 23 (Operand.tmp 3), type := 23, pos := "law.go:80", after := #[{ on := 8, ground := Ground.guard }], guard := some (8, false) }) (v := undef) rfl (by kernel_rfl) (by kernel_rfl) (by kernel_rfl) (fun _ _ _ h => h) (Or.inr ⟨by rfl, rfl⟩) (by assumption) ?_
    simp only [Act.put, List.setIfInBounds_toArray, List.set_cons_zero, List.set_cons_succ]
    refine wpAnyH_take (i := 16) (oi := { dst := some 30, op := Op.binOp BinOp.eql 23 (Operand.tmp 28) (Operand.tmp 29) 23, type := 4, pos := "law.go:80", after := #[{ on := 14, ground := Ground.data }, { on := 15, ground := Ground.data }, { on := 8, ground := Ground.guard }], guard := some (8, false) }) (v := undef) rfl (by kernel_rfl) (by kernel_rfl) (by kernel_rfl) (fun _ _ _ h => h) (Or.inr ⟨by rfl, rfl⟩) (by assumption) ?_
    simp only [Act.put, List.setIfInBounds_toArray, List.set_cons_zero, List.set_cons_succ]
    refine wpAnyH_take (i := 17) (oi := { dst := some 31, op := Op.binOp BinOp.eql 4 (Operand.tmp 27) (Operand.tmp 30) 4, type := 4, pos := "law.go:80", after := #[{ on := 13, ground := Ground.data }, { on := 16, ground := Ground.data }, { on := 8, ground := Ground.guard }], guard := some (8, false) }) (v := undef) rfl (by kernel_rfl) (by kernel_rfl) (by kernel_rfl) (fun _ _ _ h => h) (Or.inr ⟨by rfl, rfl⟩) (by assumption) ?_
    simp only [Act.put, List.setIfInBounds_toArray, List.set_cons_zero, List.set_cons_succ]
    refine wpAnyH_take (i := 18) (oi := { dst := some 32, op := Op.pick (Operand.tmp 22) (Operand.const (Value.bool true)) (Operand.tmp 31), type := 4, pos := "law.go:80", after := #[{ on := 8, ground := Ground.data }, { on := 17, ground := Ground.data }], guard := none }) (v := .bool true) rfl (by kernel_rfl) (by kernel_rfl) (by kernel_rfl) (fun _ _ _ h => h) (Or.inl ⟨by rfl, ?_⟩) (by assumption) ?_
    · intro wx hSw
      (try dsimp only at hSw)
      go_split_ands
      go_simp
    simp only [Act.put, List.setIfInBounds_toArray, List.set_cons_zero, List.set_cons_succ]
    refine wpAnyH_take (i := 19) (oi := { dst := some 4, op := Op.assign (Operand.tmp 32), type := 4, pos := "law.go:80", after := #[{ on := 18, ground := Ground.data }, { on := 12, ground := Ground.chain }, { on := 0, ground := Ground.phase }, { on := 1, ground := Ground.phase }, { on := 2, ground := Ground.phase }, { on := 3, ground := Ground.phase }, { on := 4, ground := Ground.phase }, { on := 5, ground := Ground.phase }, { on := 6, ground := Ground.phase }, { on := 7, ground := Ground.phase }, { on := 8, ground := Ground.phase }, { on := 9, ground := Ground.phase }, { on := 10, ground := Ground.phase }, { on := 11, ground := Ground.phase }, { on := 12, ground := Ground.phase }, { on := 13, ground := Ground.phase }, { on := 14, ground := Ground.phase }, { on := 15, ground := Ground.phase }, { on := 16, ground := Ground.phase }, { on := 17, ground := Ground.phase }, { on := 18, ground := Ground.phase }], guard := none }) (v := .bool true) rfl (by kernel_rfl) (by kernel_rfl) (by kernel_rfl) (fun _ _ _ h => h) (Or.inl ⟨by rfl, ?_⟩) (by assumption) ?_
    · intro wx hSw
      (try dsimp only at hSw)
      go_split_ands
      go_simp
    simp only [Act.put, List.setIfInBounds_toArray, List.set_cons_zero, List.set_cons_succ]
    refine wpAnyH_done (by kernel_rfl) ?_ _
    go_wp2
    go_ret
    exact ⟨rfl, hHeld.2.2.2⟩
end Go.Proofs.YtojlgiipnnnfgaaDoor
