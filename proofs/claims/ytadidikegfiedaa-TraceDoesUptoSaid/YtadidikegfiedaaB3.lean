/- Several of my texts laid together, each as it was: Wq, Wr, Yb, Wt, Yc, Wu, Wv, Yd, Ye, Yf, Yg, Yh, Yi. Conditions: each names its own. -/
import Derived.Test.YtadidikegfiedaaB1
import Derived.Laws.StructEq
import Derived.Test.YtadidikegfiedaaB2
import Derived.Deep.MidRow
import Derived.Deep.RegionHeld3
import Derived.Deep.RegionWith
import Derived.Lib.AppendZerosOnto
import Derived.Lib.Walk
import Derived.OwnWalk
import Derived.Lib.SlicesCompact
/- Whether two values of three fields are the same: the model's comparison of structs, as one plain function. Conditions: none. -/
namespace Go.Proofs.Ytadidikegfiedaa
open Go.RowKit

def sameV (k n : Int) (s : ByteArray) (k' n' : Int) (s' : ByteArray) : Bool := k == k' && n == n' && s.toList == s'.toList

theorem sameV_iff (k n : Int) (s : ByteArray) (k' n' : Int) (s' : ByteArray) : sameV k n s k' n' s' = true ↔ k = k' ∧ n = n' ∧ s = s' := by
  simp only [sameV, Bool.and_eq_true, beq_iff_eq, ByteArray.toList_eq]
  constructor
  · rintro ⟨⟨rfl, rfl⟩, h⟩; exact ⟨rfl, rfl, WideShapes.bytes_inj h⟩
  · rintro ⟨rfl, rfl, rfl⟩; exact ⟨⟨rfl, rfl⟩, rfl⟩

theorem eql23 (k n : Int) (s : ByteArray) (k' n' : Int) (s' : ByteArray) (w : World) :
    (binOp .eql 62 (.agg #[.int .i64 k, .int .i64 n, .string s]) (.agg #[.int .i64 k', .int .i64 n', .string s'])).run Try.prog w = .ok (.bool (sameV k n s k' n' s')) w := by
  rw [run_eql_struct, run_equalIn_agg _ _ _ _ _ (by kernel_rfl) (by kernel_rfl)]
  have hf : (Try.prog.fieldsOf 62).toList = [{ name := "Kind", type := 3, offset := 0, embedded := false, tag := "", pkgPath := "", byteOffset := 0 }, { name := "N", type := 3, offset := 1, embedded := false, tag := "", pkgPath := "", byteOffset := 8 }, { name := "S", type := 9, offset := 2, embedded := false, tag := "", pkgPath := "", byteOffset := 16 }] := by kernel_rfl
  rw [hf]
  simp only [Op.eqFields]
  simp [go_sem, sameV]
  by_cases h1 : k = k' <;> by_cases h2 : n = n' <;> by_cases h3 : s.toList = s'.toList <;> simp [h1, h2, h3]

theorem neq23 (k n : Int) (s : ByteArray) (k' n' : Int) (s' : ByteArray) (w : World) :
    (binOp .neq 62 (.agg #[.int .i64 k, .int .i64 n, .string s]) (.agg #[.int .i64 k', .int .i64 n', .string s'])).run Try.prog w = .ok (.bool (!sameV k n s k' n' s')) w := by
  have h := eql23 k n s k' n' s' w
  rw [run_eql_struct] at h
  rw [run_neq_struct]
  revert h
  cases (Op.equalIn 10000 62 (.agg #[.int .i64 k, .int .i64 n, .string s]) (.agg #[.int .i64 k', .int .i64 n', .string s'])).run Try.prog w with
  | ok b w1 => simp [Result.andThen]
  | halt x w1 => simp [Result.andThen]
end Go.Proofs.Ytadidikegfiedaa

/- The walk of the law ValueBack: it returns true, and below the heap's end memory is as it was. Conditions: internal/bytealg.MaxLen holds some integer; the two numbers lie within 64 bits. -/
namespace Go.Proofs.Ytadidikegfiedaa
open Go.RowKit

theorem calc_swap (op x y : Int) (h : op = 3 ∨ op = 5) : calc3 op 1 x 1 y = calc3 op 1 y 1 x := by
  have e : exact3 op x y = exact3 op y x := by
    rcases h with rfl | rfl
    · simp [exact3, Int.add_comm]
    · simp [exact3, Int.mul_comm]
  simp only [calc3, e]
theorem calc_nothing (x : Int) : calc3 5 1 x 0 0 = (0, 0, 0) := by simp [calc3]
theorem calc_back {x y : Int} (h1 : -9223372036854775808 ≤ x) (h2 : x ≤ 9223372036854775807) : calc3 4 1 (x + y) 1 y = (1, x, 0) := by
  have e : exact3 4 (x + y) y = x := by simp [exact3]
  simp [calc3, e, inR, h1, h2]
theorem calc_none0 (y : Int) : calc3 4 0 0 1 y = (0, 0, 0) := by simp [calc3]
theorem sameV_refl (k n : Int) (s : ByteArray) : sameV k n s k n s = true := (sameV_iff ..).2 ⟨rfl, rfl, rfl⟩
theorem bne_refl' (a : Int) : (a != a) = false := by simp
theorem below_alloc2 {W w1 : World} {o1 o2 : Obj} (hb : Below ((W.alloc o1).alloc o2).heap.size ((W.alloc o1).alloc o2) w1) : Below W.heap.size W w1 :=
  below_through hb (by simp; omega) (((Below.refl _ _).alloc (Nat.le_refl _) _).alloc (by simp) _)
theorem below_alloc1 {W w1 : World} {o1 : Obj} (hb : Below (W.alloc o1).heap.size (W.alloc o1) w1) : Below W.heap.size W w1 :=
  below_through hb (by simp) ((Below.refl _ _).alloc (Nat.le_refl _) _)
theorem new_cell {W w1 : World} {cs : Array Value} {t : TypeId} (hb : Below (W.alloc (.cells cs t)).heap.size (W.alloc (.cells cs t)) w1) (i : Nat) (v : Value) (h : cs[i]? = some v) : w1.cell? ⟨W.heap.size, i, none⟩ = some v :=
  cell_later hb (by rw [World.cell?_alloc_new]; exact h)

end Go.Proofs.Ytadidikegfiedaa

/- The project's Eval and what it calls: contracts of the calls, in whatever memory. Conditions: an expression's and a row's cells are known (what came in reads so). -/
namespace Go.Proofs.Ytadidikegfiedaa
open Go.RowKit

/-- What a call answers that tells a value and an error. -/
def EvAns (r : Val × Int) (w : World) (e : Ending) (w' : World) : Prop :=
  e = .returned (.tuple #[.agg #[.int .i64 r.1.k, .int .i64 r.1.n, .string r.1.s], .int .i64 r.2]) ∧ Below w.heap.size w w'
theorem EvAns.of {r : Val × Int} {k n f : Int} {s : ByteArray} {w w' : World} (h : r = (⟨k, n, s⟩, f)) (hb : Below w.heap.size w w') : EvAns r w (.returned (.tuple #[.agg #[.int .i64 k, .int .i64 n, .string s], .int .i64 f])) w' := by
  subst h; exact ⟨rfl, hb⟩
theorem col_neg {row : List Val} {a : Int} (h : a < 0) : colV row a = (zV, 8) := if_pos h
theorem col_out {row : List Val} {k : Nat} (h : row.length ≤ k) : colV row (k : Int) = (zV, 8) := by
  unfold colV; rw [if_neg (by omega)]
  have : row[((k : Nat) : Int).toNat]? = none := List.getElem?_eq_none (by omega)
  rw [this]
theorem col_in {row : List Val} {k : Nat} (h : k < row.length) : colV row (k : Int) = (row[k], 0) := by
  unfold colV; rw [if_neg (by omega)]
  have : row[((k : Nat) : Int).toNat]? = some row[k] := List.getElem?_eq_getElem (by omega)
  rw [this]

end Go.Proofs.Ytadidikegfiedaa

/- Contracts of the reference's Calc and Neg, and of the project's Neg, in whatever memory. Conditions: the numbers lie within 64 bits. -/
namespace Go.Proofs.Ytadidikegfiedaa
open Go.RowKit

theorem fits_pos {P : Int} (h0 : 0 ≤ P) (h1 : P < 340282366920938463463374607431768211456) (h : wH P = 0) (g : (wL P : Int) < 9223372036854775808) : inR P = true ∧ (wL P : Int) = P := by
  unfold wH wL at *
  refine ⟨inR_of _ (by omega) (by omega), by omega⟩
theorem fits_not {P : Int} (h0 : 0 ≤ P) (h1 : P < 340282366920938463463374607431768211456) (h : ¬wH P = 0 ∨ 9223372036854775808 ≤ (wL P : Int)) : inR P = false := by
  unfold wH wL at *
  rw [inR, decide_eq_false]
  omega
theorem fits_neg {P : Int} (h0 : 0 ≤ P) (h1 : P < 340282366920938463463374607431768211456) (h : wH P = 0) (g : (wL P : Int) ≤ 9223372036854775808) : inR (-P) = true ∧ wrap64 (IntKind.u64.wrap (-(wL P : Int))) = -P := by
  rw [IntKind.wrap_u64]
  unfold wH wL wrap64 at *
  refine ⟨inR_of _ (by omega) (by omega), by omega⟩
theorem fits_negnot {P : Int} (h0 : 0 ≤ P) (h1 : P < 340282366920938463463374607431768211456) (h : ¬wH P = 0 ∨ 9223372036854775808 < (wL P : Int)) : inR (-P) = false := by
  unfold wH wL at *
  rw [inR, decide_eq_false]
  omega

def fitV (x : Int) : Int := if inR x then x else 0
theorem fitV_in {x : Int} (h : inR x = true) : fitV x = x := by rw [fitV, if_pos h]
theorem fitV_out {x : Int} (h : inR x = false) : fitV x = 0 := by rw [fitV, h]; rfl

theorem ret_in {x a : Int} {b : Bool} (h : inR x = true) (ha : a = x) (hb : b = true) : Ending.returned (.tuple #[.int .i64 a, .bool b]) = .returned (.tuple #[.int .i64 (fitV x), .bool (inR x)]) := by rw [fitV_in h, h, ha, hb]
theorem ret_out {x a : Int} {b : Bool} (h : inR x = false) (ha : a = 0) (hb : b = false) : Ending.returned (.tuple #[.int .i64 a, .bool b]) = .returned (.tuple #[.int .i64 (fitV x), .bool (inR x)]) := by rw [fitV_out h, h, ha, hb]

end Go.Proofs.Ytadidikegfiedaa

/- The project's Eval, of an expression of any depth: a contract of the call, in whatever memory. Conditions: an expression's and a row's cells are known (what came in reads so). -/
namespace Go.Proofs.Ytadidikegfiedaa
open Go.RowKit

theorem ev_not2 {row : List Val} {k a : Int} {v : Val} {p : Option Addr} {c : Nat} {ys : List Cx} (hk : k = 3 ∨ k = 4 ∨ k = 5) (hl : ys.length ≠ 2) : evC row (.mk k a v p c ys) = (zV, 8) := by
  rw [evC, evL_map]; unfold evOf; rw [if_neg (by omega), if_neg (by omega), if_pos hk]
  match ys, hl with
  | [], _ => rfl
  | [_], _ => rfl
  | [_, _], h => exact absurd rfl h
  | _ :: _ :: _ :: _, _ => rfl
theorem ev_two {row : List Val} {k a : Int} {v : Val} {p : Option Addr} {c : Nat} {x y : Cx} (hk : k = 3 ∨ k = 4 ∨ k = 5) : evC row (.mk k a v p c [x, y]) = twoV k (evC row x) (evC row y) := by
  rw [evC, evL_map]; unfold evOf; rw [if_neg (by omega), if_neg (by omega), if_pos hk]; rfl
theorem ev_not1 {row : List Val} {a : Int} {v : Val} {p : Option Addr} {c : Nat} {ys : List Cx} (hl : ys.length ≠ 1) : evC row (.mk 6 a v p c ys) = (zV, 8) := by
  rw [evC, evL_map]; unfold evOf; rw [if_neg (by omega), if_neg (by omega), if_neg (by omega), if_pos rfl]
  match ys, hl with
  | [], _ => rfl
  | [_], h => exact absurd rfl h
  | _ :: _ :: _, _ => rfl
theorem ev_one {row : List Val} {a : Int} {v : Val} {p : Option Addr} {c : Nat} {x : Cx} : evC row (.mk 6 a v p c [x]) = negV (evC row x) := by
  rw [evC, evL_map]; unfold evOf; rw [if_neg (by omega), if_neg (by omega), if_neg (by omega), if_pos rfl]; rfl
theorem two_err1 {k f : Int} {x : Val} {y : Val × Int} (h : (f != 0) = true) : twoV k (x, f) y = (zV, f) := by
  unfold twoV; rw [if_pos (by simpa using h)]
theorem two_err2 {k f g : Int} {x y : Val} (h : (f != 0) = false) (h2 : (g != 0) = true) : twoV k (x, f) (y, g) = (zV, g) := by
  unfold twoV; rw [if_neg (by simpa using h), if_pos (by simpa using h2)]
theorem two_ok {k f g : Int} {x y : Val} (h : (f != 0) = false) (h2 : (g != 0) = false) : twoV k (x, f) (y, g) = (⟨cK k x.k x.n y.k y.n, cN k x.k x.n y.k y.n, ⟨#[]⟩⟩, cE k x.k x.n y.k y.n) := by
  unfold twoV; rw [if_neg (by simpa using h), if_neg (by simpa using h2)]
theorem neg_err {f : Int} {x : Val} (h : (f != 0) = true) : negV (x, f) = (zV, f) := by
  unfold negV; rw [if_pos (by simpa using h)]
theorem neg_ok {f : Int} {x : Val} (h : (f != 0) = false) : negV (x, f) = (⟨cK 4 1 0 x.k x.n, cN 4 1 0 x.k x.n, ⟨#[]⟩⟩, cE 4 1 0 x.k x.n) := by
  unfold negV; rw [if_neg (by simpa using h)]

end Go.Proofs.Ytadidikegfiedaa

/- The contract of the reference's Calc, in whatever memory. Conditions: the numbers lie within 64 bits. -/
namespace Go.Proofs.Ytadidikegfiedaa
open Go.RowKit

theorem opB_of {op : Int} (h : op = 3 ∨ op = 4 ∨ op = 5) : opB op = true := by simpa [opB] using h

theorem plus_out (x y : Int) (hy1 : -9223372036854775808 ≤ y) (hy2 : y ≤ 9223372036854775807) (h : (!decide (x ≤ wrap64 (x + y)) == decide (0 ≤ y)) = true) : inR (exact3 3 x y) = false := by
  have e : exact3 3 x y = x + y := by simp [exact3]
  rw [e, inR, decide_eq_false]
  intro hr
  have hw : wrap64 (x + y) = x + y := by unfold wrap64; omega
  rw [hw] at h
  by_cases a : x ≤ x + y <;> by_cases b : 0 ≤ y <;> simp [a, b] at h <;> omega
theorem plus_in (x y : Int) (hx1 : -9223372036854775808 ≤ x) (hx2 : x ≤ 9223372036854775807) (hy1 : -9223372036854775808 ≤ y) (hy2 : y ≤ 9223372036854775807) (h : (!decide (x ≤ wrap64 (x + y)) == decide (0 ≤ y)) = false) : inR (exact3 3 x y) = true ∧ wrap64 (x + y) = exact3 3 x y := by
  have e : exact3 3 x y = x + y := by simp [exact3]
  have hr : -9223372036854775808 ≤ x + y ∧ x + y ≤ 9223372036854775807 := by
    unfold wrap64 at h
    by_cases a : x ≤ (x + y + 9223372036854775808) % 18446744073709551616 - 9223372036854775808 <;> by_cases b : 0 ≤ y <;> simp [a, b] at h <;> omega
  rw [e]
  exact ⟨inR_of _ hr.1 hr.2, by unfold wrap64; omega⟩
theorem minus_out (x y : Int) (hy1 : -9223372036854775808 ≤ y) (hy2 : y ≤ 9223372036854775807) (h : (!decide (wrap64 (x - y) ≤ x) == decide (0 ≤ y)) = true) : inR (exact3 4 x y) = false := by
  have e : exact3 4 x y = x - y := by simp [exact3]
  rw [e, inR, decide_eq_false]
  intro hr
  have hw : wrap64 (x - y) = x - y := by unfold wrap64; omega
  rw [hw] at h
  by_cases a : x - y ≤ x <;> by_cases b : 0 ≤ y <;> simp [a, b] at h <;> omega
theorem minus_in (x y : Int) (hx1 : -9223372036854775808 ≤ x) (hx2 : x ≤ 9223372036854775807) (hy1 : -9223372036854775808 ≤ y) (hy2 : y ≤ 9223372036854775807) (h : (!decide (wrap64 (x - y) ≤ x) == decide (0 ≤ y)) = false) : inR (exact3 4 x y) = true ∧ wrap64 (x - y) = exact3 4 x y := by
  have e : exact3 4 x y = x - y := by simp [exact3]
  have hr : -9223372036854775808 ≤ x - y ∧ x - y ≤ 9223372036854775807 := by
    unfold wrap64 at h
    by_cases a : (x - y + 9223372036854775808) % 18446744073709551616 - 9223372036854775808 ≤ x <;> by_cases b : 0 ≤ y <;> simp [a, b] at h <;> omega
  rw [e]
  exact ⟨inR_of _ hr.1 hr.2, by unfold wrap64; omega⟩
theorem prod_bd (na nb : Int) (ha1 : -9223372036854775808 ≤ na) (ha2 : na ≤ 9223372036854775807) (hb1 : -9223372036854775808 ≤ nb) (hb2 : nb ≤ 9223372036854775807) : (na.natAbs : Int) * (nb.natAbs : Int) < 340282366920938463463374607431768211456 := by
  have h := Nat.mul_le_mul (size_le na ha1 ha2) (size_le nb hb1 hb2)
  have h' : ((na.natAbs * nb.natAbs : Nat) : Int) = (na.natAbs : Int) * (nb.natAbs : Int) := Int.natCast_mul _ _
  omega
theorem calc_yes {op na nb : Int} (h : opB op = true) (hr : inR (exact3 op na nb) = true) {v : Int} (hv : v = exact3 op na nb) : calc3 op 1 na 1 nb = (1, v, 0) := by rw [calc_in h hr, hv]

end Go.Proofs.Ytadidikegfiedaa

/- Contracts of the project's Neg and the reference's, in whatever memory. Conditions: the numbers lie within 64 bits. -/
namespace Go.Proofs.Ytadidikegfiedaa
open Go.RowKit

end Go.Proofs.Ytadidikegfiedaa

/- The project's Eval, of an expression of any depth: a contract of the call, in whatever memory. Conditions: an expression's and a row's cells are known (what came in reads so). -/
namespace Go.Proofs.Ytadidikegfiedaa
open Go.RowKit

/-- A call that tells a value and an error, whenever it is made behind w. -/
structure StHalf (f : Nat) (w : World) (u v : Value) (r : Val × Int) : Prop where
  out : ∀ W, Below w.heap.size w W → Calls Try.prog f #[u, v] W (EvAns r W)
end Go.Proofs.Ytadidikegfiedaa

/- slices.Grow of nothing, at three types: contracts of the calls, in whatever memory. Conditions: what is asked for takes less than 2^47 bytes. -/
namespace Go.Proofs.Ytadidikegfiedaa
open Go.RowKit

theorem infoI : (Try.prog.info? 3).map (fun i => (i.zero, i.size, i.bytes)) = some (some (.int .i64 0), 1, 8) := by kernel_rfl
end Go.Proofs.Ytadidikegfiedaa

/- The project's side and empty: contracts of the calls, in whatever memory. Conditions: an expression's and a row's cells are known. -/
namespace Go.Proofs.Ytadidikegfiedaa
open Go.RowKit

/-- What a call answers that tells a value; a number. -/
def SdAns (v : Val) (w : World) (e : Ending) (w' : World) : Prop := e = .returned (.agg #[.int .i64 v.k, .int .i64 v.n, .string v.s]) ∧ Below w.heap.size w w'
theorem SdAns.of {r : Val} {k n : Int} {s : ByteArray} {w w' : World} (h : r = ⟨k, n, s⟩) (hb : Below w.heap.size w w') : SdAns r w (.returned (.agg #[.int .i64 k, .int .i64 n, .string s])) w' := by
  subst h; exact ⟨rfl, hb⟩
def IntAns (x : Int) (w : World) (e : Ending) (w' : World) : Prop := e = .returned (.int .i64 x) ∧ Below w.heap.size w w'
theorem IntAns.of {x y : Int} {w w' : World} (h : x = y) (hb : Below w.heap.size w w') : IntAns x w (.returned (.int .i64 y)) w' := by subst h; exact ⟨rfl, hb⟩
theorem sd_yes {row : List Val} {k a : Int} {v : Val} {p : Option Addr} {c : Nat} {ys : List Cx} (h : k = 1 ∨ k = 2) : sdC row (.mk k a v p c ys) = (evC row (.mk k a v p c ys)).1 := by rw [sdC, if_pos h]
theorem sd_no {row : List Val} {k a : Int} {v : Val} {p : Option Addr} {c : Nat} {ys : List Cx} (h : ¬ (k = 1 ∨ k = 2)) : sdC row (.mk k a v p c ys) = zV := by rw [sdC, if_neg h]
structure SdHalf (f : Nat) (w : World) (u v : Value) (r : Val) : Prop where
  out : ∀ W, Below w.heap.size w W → Calls Try.prog f #[u, v] W (SdAns r W)
end Go.Proofs.Ytadidikegfiedaa

/- The project's stand: contracts of the calls, in whatever memory. Conditions: a condition's and a row's cells are known. -/
namespace Go.Proofs.Ytadidikegfiedaa
open Go.RowKit

structure IntHalf (f : Nat) (w : World) (u v : Value) (r : Int) : Prop where
  out : ∀ W, Below w.heap.size w W → Calls Try.prog f #[u, v] W (IntAns r W)
def ints (l : List Int) : List Value := l.map (Value.int .i64)
theorem ints_len (l : List Int) : (ints l).length = l.length := by simp [ints]
theorem ints_snoc (l : List Int) (x : Int) : ints (l ++ [x]) = ints l ++ [.int .i64 x] := by simp [ints]
theorem ints_owned {B n : Nat} {w : World} {v : Value} {l : List Int} (h : w.ownsRow B 3 1 v n (ints l)) (hn : l.length = n) : ∃ a c, v = .slice a l.length c ∧ l.length ≤ c ∧ IntsAt w a l := by
  subst hn
  have h0 := h
  obtain ⟨_, hcase⟩ := h
  rcases hcase with ⟨rfl, hl⟩ | ⟨g, cap', cur, rfl, hg, hh, hn, hcap, hsz, htake⟩
  · exact ⟨none, 0, by rw [hl], by omega, fun hne => absurd (List.length_eq_zero_iff.1 hl) hne⟩
  · refine ⟨some ⟨g, 0, none⟩, cap', rfl, hn, fun _ => ⟨g, 0, rfl, fun i hi => ?_⟩⟩
    have := h0.cellAt i (by omega)
    rw [Nat.zero_add, this]
    simp [ints, hi]
theorem hoL_len (row : List Val) (l : List Tx) : (hoL row l).length = l.length := by rw [hoL_map]; simp
theorem hoL_take (row : List Val) (l : List Tx) (j : Nat) (h : j < l.length) : hoL row (l.take (j + 1)) = hoL row (l.take j) ++ [hoT row l[j]] := by
  rw [hoL_map, hoL_map, List.take_succ_eq_append_getElem h, List.map_append]; rfl
theorem own_belowY {w w' : World} {base n k : Nat} {ty : TypeId} {v : Value} {X : List Value} (h : w.ownsRow base ty k v n X) (hb : Below w.heap.size w w') : w'.ownsRow base ty k v n X :=
  h.kept (row := none) ⟨hb.os, hb.tape, hb.output, hb.size, fun i hi _ => hb.block i hi⟩ (by cases v.ownBlock <;> simp)
theorem own_next {w w1 w2 : World} {v v' : Value} {o : Obj} {n m k : Nat} {ty : TypeId} {X Y : List Value} (hnx : Below w.heap.size w w1) (hown : w1.ownsRow w.heap.size ty k v n X) (hown' : w2.ownsRow w.heap.size ty k v' m Y) (hgrow : (w1.alloc o).grownBy w2 v.ownBlock) :
    w2.ownsRow w.heap.size ty k v' m Y ∧ Below w.heap.size w w2 :=
  ⟨hown', (hnx.alloc hnx.size o).grown hgrow (by have := hnx.size; simp; omega) (fun j hj => (hown.lt j hj).1)⟩
theorem range_mid {w : World} {b o : Nat} {xs ys zs : List Value} (h : w.rangeAt b o (xs ++ (ys ++ zs))) : w.rangeAt b (o + xs.length) ys := fun j v hv => by
  have hj : j < ys.length := by
    rcases Nat.lt_or_ge j ys.length with h | h
    · exact h
    · rw [List.getElem?_eq_none h] at hv; cases hv
  rw [Nat.add_assoc]
  exact h (xs.length + j) v (by rw [List.getElem?_append_right (by omega), show xs.length + j - xs.length = j by omega, List.getElem?_append_left hj]; exact hv)
/-- A box, and what was there. -/
structure BoxS (w0 : World) (B : Nat) (us : List Value) (w : World) : Prop where
  a : VarB w B us
  b : Below w0.heap.size w0 w
theorem BoxS.drew {w0 w : World} {B : Nat} {us : List Value} (h : BoxS w0 B us w) : BoxS w0 B us w.drew := ⟨h.a.drew, Below.drew h.b⟩
theorem BoxS.below {w0 w w1 : World} {B : Nat} {us : List Value} (h : BoxS w0 B us w) (hb : Below w.heap.size w w1) : BoxS w0 B us w1 := ⟨h.a.below hb, below_through hb h.b.size h.b⟩
end Go.Proofs.Ytadidikegfiedaa

/- The project's Holds, of a condition of any depth: a contract of the call, in whatever memory. Conditions: a condition's and a row's cells are known. -/
namespace Go.Proofs.Ytadidikegfiedaa
open Go.RowKit

theorem ho_6n {op : Int} {l r : Val} {L : List Int} (h : L.length ≠ 1) : hoOf 6 op l r L = 1 := by
  unfold hoOf
  rw [if_neg (by omega), if_neg (by omega), if_neg (by omega), if_neg (by omega), if_neg (by omega), if_neg (by omega), if_pos rfl]
  match L, h with
  | [], _ => rfl
  | [_], h => exact absurd rfl h
  | _ :: _ :: _, _ => rfl
end Go.Proofs.Ytadidikegfiedaa

/- Numbers rising, each once: what is left of a sorted list when neighbours that are alike go. Nothing of any program here. Conditions: none. -/
namespace Go.Proofs.Ytadidikegfiedaa
open Go.RowKit

def rise (F : List Int) : List Int := Lib.compact (F.mergeSort fun x y => decide (x ≤ y))
theorem compact_len (zs : List Int) : (Lib.compact zs).length ≤ zs.length := by
  unfold Lib.compact Lib.compactUpTo
  rw [List.length_map]
  exact Nat.le_trans (List.length_filter_le _ _) (by simp)
theorem compact_at (zs : List Int) (x : Int) : x ∈ Lib.compact zs ↔ ∃ i, ∃ h : i < zs.length, zs[i] = x ∧ (i = 0 ∨ ∃ h' : i - 1 < zs.length, zs[i - 1] ≠ zs[i]) := by
  unfold Lib.compact Lib.compactUpTo
  simp only [List.mem_map, List.mem_filter, List.mem_range]
  constructor
  · rintro ⟨i, ⟨hi, hk⟩, rfl⟩
    refine ⟨i, hi, by simp [hi], ?_⟩
    rcases Nat.eq_zero_or_pos i with h0 | h0
    · exact .inl h0
    · refine .inr ⟨by omega, fun e => ?_⟩
      simp [Lib.keeps, show i ≠ 0 by omega, hi, show i - 1 < zs.length by omega] at hk
      exact hk e.symm
  · rintro ⟨i, hi, rfl, hk⟩
    refine ⟨i, ⟨hi, ?_⟩, by simp [hi]⟩
    rcases Nat.eq_zero_or_pos i with h0 | h0
    · simp [Lib.keeps, h0]
    · rcases hk with h | ⟨h1, h2⟩
      · omega
      · simp [Lib.keeps, show i ≠ 0 by omega, hi, show i - 1 < zs.length by omega]
        exact fun e => h2 e.symm
theorem mem_compact (zs : List Int) (x : Int) : x ∈ Lib.compact zs ↔ x ∈ zs := by
  rw [compact_at]
  constructor
  · rintro ⟨i, hi, rfl, _⟩; exact List.getElem_mem hi
  · intro hx
    obtain ⟨i, hi, rfl⟩ := List.mem_iff_getElem.1 hx
    clear hx
    induction i with
    | zero => exact ⟨0, hi, rfl, .inl rfl⟩
    | succ i ih =>
      by_cases h : zs[i] = zs[i + 1]
      · rw [← h]; exact ih (by omega)
      · exact ⟨i + 1, hi, rfl, .inr ⟨by omega, h⟩⟩
theorem compact_lt (zs : List Int) (hs : zs.Pairwise (· ≤ ·)) : (Lib.compact zs).Pairwise (· < ·) := by
  unfold Lib.compact Lib.compactUpTo
  rw [List.pairwise_map]
  have h0 := (List.pairwise_lt_range (n := zs.length)).filter (Lib.keeps zs.toArray)
  refine List.Pairwise.imp_of_mem ?_ h0
  intro i j hi hj hij
  simp only [List.mem_filter, List.mem_range] at hi hj
  have hk := hj.2
  simp [Lib.keeps, show j ≠ 0 by omega, hj.1, show j - 1 < zs.length by omega] at hk
  have h1 : zs[i]'hi.1 ≤ zs[j - 1]'(by omega) := by
    rcases Nat.lt_or_ge i (j - 1) with h | h
    · exact List.pairwise_iff_getElem.1 hs i (j - 1) hi.1 (by omega) h
    · obtain rfl : i = j - 1 := by omega
      exact Int.le_refl _
  have h2 : zs[j - 1]'(by omega) ≤ zs[j]'hj.1 := List.pairwise_iff_getElem.1 hs (j - 1) j (by omega) hj.1 (by omega)
  simp [hi.1, hj.1]
  omega
theorem sort_pair (F : List Int) : (F.mergeSort fun x y => decide (x ≤ y)).Pairwise (· ≤ ·) := by
  have h := List.pairwise_mergeSort (le := fun x y : Int => decide (x ≤ y)) (fun a b c h1 h2 => by simp at *; omega) (fun a b => by simp; omega) F
  exact h.imp (fun h => by simpa using h)
theorem mem_rise (F : List Int) (x : Int) : x ∈ rise F ↔ x ∈ F := by
  unfold rise; rw [mem_compact, List.mem_mergeSort]
theorem rise_lt (F : List Int) : (rise F).Pairwise (· < ·) := compact_lt _ (sort_pair F)
theorem rise_len (F : List Int) : (rise F).length ≤ F.length := by
  have := compact_len (F.mergeSort fun x y => decide (x ≤ y))
  rw [List.length_mergeSort] at this
  exact this
/-- Two lists that rise and have the same numbers are one. -/
theorem lt_same : ∀ (a b : List Int), a.Pairwise (· < ·) → b.Pairwise (· < ·) → (∀ x, x ∈ a ↔ x ∈ b) → a = b
  | [], [], _, _, _ => rfl
  | [], y :: b, _, _, h => absurd ((h y).2 (by simp)) (by simp)
  | x :: a, [], _, _, h => absurd ((h x).1 (by simp)) (by simp)
  | x :: a, y :: b, ha, hb, h => by
    rw [List.pairwise_cons] at ha hb
    have e : x = y := by
      rcases List.mem_cons.1 ((h x).1 (by simp)) with e | e
      · exact e
      · rcases List.mem_cons.1 ((h y).2 (by simp)) with e' | e'
        · exact e'.symm
        · have := ha.1 y e'
          have := hb.1 x e
          omega
    subst e
    rw [lt_same a b ha.2 hb.2 (fun z => ⟨fun hz => by
      rcases List.mem_cons.1 ((h z).1 (by simp [hz])) with e | e
      · subst e; exact absurd (ha.1 z hz) (by omega)
      · exact e, fun hz => by
      rcases List.mem_cons.1 ((h z).2 (by simp [hz])) with e | e
      · subst e; exact absurd (hb.1 z hz) (by omega)
      · exact e⟩)]
end Go.Proofs.Ytadidikegfiedaa
