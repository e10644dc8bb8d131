/- The walk of the law ValueBack: it returns true, and below the heap's end memory is as it was. Conditions: internal/bytealg.MaxLen holds some integer; the two numbers lie within 64 bits. -/
import Derived.Test.YtolcebbpbihnoaaWd
import Derived.Test.YtolcebbpbihnoaaWq
namespace Go.Proofs.Ytolcebbpbihnoaa
open Go.RowKit

theorem calcAs {op ka na kb nb a b c : Int} (h : calc3 op ka na kb nb = (a, b, c)) (sa sb : ByteArray) (w : World) (ha1 : -9223372036854775808 ≤ na) (ha2 : na ≤ 9223372036854775807) (hb1 : -9223372036854775808 ≤ nb) (hb2 : nb ≤ 9223372036854775807) :
    Calls Try.prog 45 #[.int .i64 op, .agg #[.int .i64 ka, .int .i64 na, .string sa], .agg #[.int .i64 kb, .int .i64 nb, .string sb]] w
      fun e w' => e = .returned (.tuple #[.agg #[.int .i64 a, .int .i64 b, .string ⟨#[]⟩], .int .i64 c]) ∧ Below w.heap.size w w' :=
  (calc_any op ka na kb nb sa sb w ha1 ha2 hb1 hb2).mono fun e w' ⟨he, hb⟩ => ⟨by rw [he, cK, cN, cE, h], hb⟩

theorem calc_swap (op x y : Int) (h : op = 3 ∨ op = 5) : calc3 op 1 x 1 y = calc3 op 1 y 1 x := by
  have e : exact3 op x y = exact3 op y x := by
    rcases h with rfl | rfl
    · simp [exact3, Int.add_comm]
    · simp [exact3, Int.mul_comm]
  simp only [calc3, e]
theorem calc_nothing (x : Int) : calc3 5 1 x 0 0 = (0, 0, 0) := by simp [calc3]
theorem calc_back {x y : Int} (h1 : -9223372036854775808 ≤ x) (h2 : x ≤ 9223372036854775807) : calc3 4 1 (x + y) 1 y = (1, x, 0) := by
  have e : exact3 4 (x + y) y = x := by simp [exact3]
  simp [calc3, e, inR, h1, h2]
theorem calc_none0 (y : Int) : calc3 4 0 0 1 y = (0, 0, 0) := by simp [calc3]
theorem sameV_refl (k n : Int) (s : ByteArray) : sameV k n s k n s = true := (sameV_iff ..).2 ⟨rfl, rfl, rfl⟩
theorem bne_refl' (a : Int) : (a != a) = false := by simp
theorem below_alloc2 {W w1 : World} {o1 o2 : Obj} (hb : Below ((W.alloc o1).alloc o2).heap.size ((W.alloc o1).alloc o2) w1) : Below W.heap.size W w1 :=
  below_through hb (by simp; omega) (((Below.refl _ _).alloc (Nat.le_refl _) _).alloc (by simp) _)
theorem below_alloc1 {W w1 : World} {o1 : Obj} (hb : Below (W.alloc o1).heap.size (W.alloc o1) w1) : Below W.heap.size W w1 :=
  below_through hb (by simp) ((Below.refl _ _).alloc (Nat.le_refl _) _)
theorem new_cell {W w1 : World} {cs : Array Value} {t : TypeId} (hb : Below (W.alloc (.cells cs t)).heap.size (W.alloc (.cells cs t)) w1) (i : Nat) (v : Value) (h : cs[i]? = some v) : w1.cell? ⟨W.heap.size, i, none⟩ = some v :=
  cell_later hb (by rw [World.cell?_alloc_new]; exact h)

end Go.Proofs.Ytolcebbpbihnoaa
