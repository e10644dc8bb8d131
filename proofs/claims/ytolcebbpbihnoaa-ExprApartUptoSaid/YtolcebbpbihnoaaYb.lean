/- The project's Eval and what it calls: contracts of the calls, in whatever memory. Conditions: an expression's and a row's cells are known (what came in reads so). -/
import Derived.Test.YtolcebbpbihnoaaYa
import Derived.Test.YtolcebbpbihnoaaWr
import Derived.Deep.MidRow
import Derived.Deep.RegionHeld3
namespace Go.Proofs.Ytolcebbpbihnoaa
open Go.RowKit

/-- What a call answers that tells a value and an error. -/
def EvAns (r : Val × Int) (w : World) (e : Ending) (w' : World) : Prop :=
  e = .returned (.tuple #[.agg #[.int .i64 r.1.k, .int .i64 r.1.n, .string r.1.s], .int .i64 r.2]) ∧ Below w.heap.size w w'
theorem EvAns.of {r : Val × Int} {k n f : Int} {s : ByteArray} {w w' : World} (h : r = (⟨k, n, s⟩, f)) (hb : Below w.heap.size w w') : EvAns r w (.returned (.tuple #[.agg #[.int .i64 k, .int .i64 n, .string s], .int .i64 f])) w' := by
  subst h; exact ⟨rfl, hb⟩
theorem col_neg {row : List Val} {a : Int} (h : a < 0) : colV row a = (zV, 8) := if_pos h
theorem col_out {row : List Val} {k : Nat} (h : row.length ≤ k) : colV row (k : Int) = (zV, 8) := by
  unfold colV; rw [if_neg (by omega)]
  have : row[((k : Nat) : Int).toNat]? = none := List.getElem?_eq_none (by omega)
  rw [this]
theorem col_in {row : List Val} {k : Nat} (h : k < row.length) : colV row (k : Int) = (row[k], 0) := by
  unfold colV; rw [if_neg (by omega)]
  have : row[((k : Nat) : Int).toNat]? = some row[k] := List.getElem?_eq_getElem (by omega)
  rw [this]

set_option maxHeartbeats 800000 in
theorem column_any (a : Option Addr) (c : Nat) (row : List Val) (n : Int) (w : World) (h : RowAt w a row) :
    Calls Try.prog 22 #[.slice a row.length c, .int .i64 n] w (EvAns (colV row n) w) := by

  have R := hid0 h
  clear h
  by_cases h0 : n < 0
  · have C := hid0 (col_neg (row := row) h0)
    go_enter Try.func22, Try.ntmps22
    go_wp2
    go_returns
    exact EvAns.of C.out (by go_grown)
  obtain ⟨k, rfl⟩ : ∃ k : Nat, n = (k : Int) := ⟨n.toNat, by omega⟩
  by_cases h1 : k < row.length
  · have C := hid0 (col_in h1)
    obtain ⟨b, o, rfl, hc⟩ := R.out (by intro e; rw [e] at h1; exact absurd h1 (by simp))
    obtain ⟨x0, x1, x2⟩ := hc k h1
    have hb := World.block_lt_of_cell? w _ x0
    clear hc R
    go_enter Try.func22, Try.ntmps22
    go_wp2
    go_returns
    exact EvAns.of C.out (by go_grown)
  · have C := hid0 (col_out (row := row) (k := k) (by omega))
    go_enter Try.func22, Try.ntmps22
    go_wp2
    go_returns
    exact EvAns.of C.out (by go_grown)
end Go.Proofs.Ytolcebbpbihnoaa
