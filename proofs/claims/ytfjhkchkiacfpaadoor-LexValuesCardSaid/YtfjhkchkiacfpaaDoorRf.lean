/- The reference of layer 3: whether all of a row's values may be; numbers in eight bytes: contracts of the calls, in whatever memory. Conditions: a row's cells are known (what came in reads so). -/
import Derived.Test.YtfjhkchkiacfpaaDoorLa
import Derived.Test.YtfjhkchkiacfpaaDoorMc
import Derived.Deep.RegionHeld3
import Derived.Laws.IdiomStrings
import Derived.Laws.Strings2
namespace Go.Proofs.YtfjhkchkiacfpaaDoor
open Go.RowKit

/-! ### A text cut -/
theorem cut_at (l : List UInt8) (i j : Int) (W : World) (h0 : 0 ≤ i) (h1 : i ≤ j) (h2 : j ≤ l.length) :
    (Instr.slice 9 (.string (txt l)) (some (.int .i64 i)) (some (.int .i64 j)) none).run Tryd.prog W = .ok (.string (txt ((l.drop i.toNat).take (j.toNat - i.toNat)))) W := by
  rw [run_slice_string W 9 (txt l) .i64 .i64 i j Tryd.underlying9 h0 h1 (by rw [txt_size]; exact h2), txt_cut]
theorem cut_from (l : List UInt8) (i : Int) (W : World) (h0 : 0 ≤ i) (h1 : i ≤ l.length) :
    (Instr.slice 9 (.string (txt l)) (some (.int .i64 i)) none none).run Tryd.prog W = .ok (.string (txt (l.drop i.toNat))) W := by
  rw [run_slice_string_l W 9 (txt l) Tryd.underlying9 .i64 i h0 (by rw [txt_size]; exact h1), txt_cut, txt_size, List.take_of_length_le (by rw [List.length_drop]; omega)]

theorem bad_here {l : List Val} {k : Nat} (h : k < l.length) (hb : chk l[k].k l[k].n l[k].s ≠ 0) : firstBad (l.drop k) = chk l[k].k l[k].n l[k].s := by
  rw [List.drop_eq_getElem_cons h, firstBad, if_neg hb]
theorem bad_next {l : List Val} {k : Nat} (h : k < l.length) (hb : chk l[k].k l[k].n l[k].s = 0) : firstBad (l.drop k) = firstBad (l.drop (k + 1)) := by
  rw [List.drop_eq_getElem_cons h, firstBad, if_pos hb]

theorem wrap_u64 (x : Int) (h1 : 0 ≤ x) (h2 : x < 18446744073709551616) : IntKind.u64.wrap x = x := IntWalk.u64_in x ⟨h1, by omega⟩
theorem dec_next (l : List UInt8) (i : Nat) (h : i < l.length) : decBE (l.take (i + 1)) = 256 * decBE (l.take i) + (l[i]).toNat := by
  rw [List.take_succ_eq_append_getElem h, decBE_snoc]

end Go.Proofs.YtfjhkchkiacfpaaDoor
