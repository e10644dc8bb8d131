/- The project's page: its bytes: a contract of the call, in whatever memory. Conditions: the slots' cells are known. -/
import Derived.Test.YtnneeojgakjalaaQpe
import Derived.OwnWalk
import Derived.Laws.BytesArg
namespace Go.Proofs.Ytnneeojgakjalaa
open Go.RowKit

theorem info_u8 : (Try.prog.info? 5).map (fun i => (i.zero, i.size, i.bytes)) = some (some (.int .u8 0), 1, 1) := by kernel_rfl
theorem made_at (n j : Nat) (h : j < n) : (madeCells (Value.int .u8 0).cells n).toList[j]? = some (.int .u8 0) := by
  show (madeCells #[Value.int .u8 0] n).toList[j]? = _
  rw [toList_madeCells_one]
  simp [h]
theorem made_bytes {w : World} {base B n : Nat} (h : w.ownsRow base 5 1 (.slice (some ⟨B, 0, none⟩) n n) n (madeCells (Value.int .u8 0).cells (n * 1)).toList) : BytAt w B (List.replicate n 0) := by
  refine ⟨fun j hj => ?_, fun j _ => h.frozenAt j, (h.lt B rfl).2⟩
  rw [List.length_replicate] at hj
  rw [h.cellAt j (by omega), Nat.mul_one, made_at n j hj, List.getElem_replicate]
  rfl
theorem BytAt.back {w : World} {B : Nat} {X : List UInt8} (h : BytAt w B X) (c : Nat) : (convert 68 9 (.slice (some ⟨B, 0, none⟩) X.length c)).run Try.prog w = .ok (.string (txt X)) w := by
  refine run_convert_bytes_back (P := Try.prog) w 68 9 5 ⟨B, 0, none⟩ c X Try.underlying68 Try.underlying5 Try.underlying9 (fun j hj => ?_)
  rw [WideShapes.add_plain, Nat.zero_add]
  exact h.cell j hj
/-- A text copied over bytes, from place o on (or from nowhere, if it has none). -/
theorem copy_run (B o o' n : Nat) (d X : List UInt8) (w : World) (h : BytAt w B X) (hl : X.length = o + n) (hd : d.length ≤ n) (ho : d.length = 0 ∨ o' = o) (c : Nat) (ty : TypeId) :
    (Builtin.copy_ #[68, 9] ty #[.slice (some ⟨B, o', none⟩) n c, .string (txt d)]).run Try.prog w = .ok (.int .i64 (d.length : Int)) (w.setCells B o' (d.map fun x => Value.int .u8 (x.toNat : Int))) := by
  have hz : (txt d).size = d.length := txt_size d
  have hsz : ∀ w, (Go.sizeOf 5).run Try.prog w = .ok 1 w := fun w => by
    obtain ⟨i0, hi, hz0, hz1, hz2⟩ := info_parts info_u8
    simp [Go.sizeOf, typeInfo, hi, hz1]
  have hr := run_copy_string (P := Try.prog) w 68 9 ty 5 B o' n c (txt d) Try.underlying68 hsz (by omega) (fun j hj => by
    rw [h.cell (o' + j) (by omega)]; rfl) (fun j hj => h.frz (o' + j) (by omega))
  rw [hr, hz]
  rfl
theorem copied_bytes {B o o' : Nat} {d X : List UInt8} {w : World} (h : BytAt w B X) (ho : d.length = 0 ∨ o' = o) : BytAt (w.setCells B o' (d.map fun x => Value.int .u8 (x.toNat : Int))) B (putL X o d) := by
  rcases ho with ho | rfl
  · obtain rfl := List.length_eq_zero_iff.1 ho
    exact h
  · exact h.puts d X o'

/-- b[k:] of a block of n bytes: at its very end Go keeps the old address. -/
theorem slice_from (B k n len : Nat) (hk : k + n ≤ len) : ∃ o', (n = 0 ∨ o' = k) ∧ ∀ W : World, (Instr.slice 68 (.slice (some ⟨B, 0, none⟩) len len) (some (.int .i64 (k : Int))) none none).run Try.prog W = .ok (.slice (some ⟨B, o', none⟩) (len - k) (len - k)) W := by
  obtain ⟨i0, hi, hz0, hz1, hz2⟩ := info_parts info_u8
  by_cases h : k = len
  · refine ⟨0, .inl (by omega), fun W => ?_⟩
    rw [run_slice_l W 68 (some ⟨B, 0, none⟩) len len Try.underlying68 .i64 (k : Int) (by omega) (by omega)]
    simp [go_sem, Result.andThen, sliced, h]
  · refine ⟨k, .inr rfl, fun W => ?_⟩
    rw [run_slice_l W 68 (some ⟨B, 0, none⟩) len len Try.underlying68 .i64 (k : Int) (by omega) (by omega)]
    have hne : ¬ len = k := fun e => h e.symm
    simp [go_sem, Result.andThen, sliced, hne]

end Go.Proofs.Ytnneeojgakjalaa
