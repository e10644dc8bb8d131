/- Several of my texts laid together, each as it was: Px. Conditions: each names its own. -/
import Derived.Test.YtneebnankghhgacGreatDoorWz
import Derived.Test.YtneebnankghhgacGreatDoorPB
import Derived.Stop.LaidErr
import Derived.OpenShut
import Derived.ChangeMaps5
/- What the rows of stage 9 share: what the listed variable strconv.ErrRange holds is an error. Conditions: what is listed is laid. -/
namespace Go.Proofs.YtneebnankghhgacGreatDoor
open Go.RowKit Go.ChangeShapes

theorem star8 : "*" ++ "errors.errorString" = "*errors.errorString" := by decide
theorem row8 (u : TypeId) (h : Tryz.prog.typeName? 3 u = some "*errors.errorString") : u = 124 :=
  typeName_ptr_named (nm := "errors.errorString") (by rw [star8]; kernel_rfl) (by kernel_rfl) (by decide) u (by rw [star8]; exact h)
theorem er_of_laid {W : World} (h : laidMetH Tryz.prog Rows.parseValuesRow.laid W) : ErAt W := by
  rw [MakeChecks.laidMetH_plain _ _ _ (by kernel_rfl)] at h
  have hL := h.tail.tail.tail
  obtain ⟨a0, s0, hv0, _, _, _⟩ := laid_sentinel hL (g := 2) (by kernel_rfl) (ti := 90) (by kernel_rfl) Tryz.underlying90 row8 Tryz.underlying124 Tryz.underlying126 rfl rfl Tryz.underlying9 (by kernel_rfl) (by kernel_rfl)
  exact ⟨_, by have h0 := World.var?_cell (g := 2) (by kernel_rfl) hv0 0; simpa using h0, .inr ⟨_, _, rfl⟩⟩
end Go.Proofs.YtneebnankghhgacGreatDoor
