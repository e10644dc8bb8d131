/- What the rows of stage 8 share: what the listed variable strconv.ErrRange holds is an error. Conditions: what is listed is laid. -/
import Derived.Test.YtfjhkchkiacfpaaDoorWz
import Derived.Test.YtfjhkchkiacfpaaDoorNc
import Derived.Stop.LaidErr
import Derived.OpenShut
import Derived.ChangeMaps5
namespace Go.Proofs.YtfjhkchkiacfpaaDoor
open Go.RowKit Go.ChangeShapes

theorem star8 : "*" ++ "errors.errorString" = "*errors.errorString" := by decide
theorem row8 (u : TypeId) (h : Tryd.prog.typeName? 3 u = some "*errors.errorString") : u = 62 :=
  typeName_ptr_named (nm := "errors.errorString") (by rw [star8]; kernel_rfl) (by kernel_rfl) (by decide) u (by rw [star8]; exact h)
theorem er_of_laid {W : World} (h : laidMetH Tryd.prog Rows.lexNamesRow.laid W) : ErAt W := by
  rw [MakeChecks.laidMetH_plain _ _ _ (by kernel_rfl)] at h
  have hL := h.tail.tail.tail
  obtain ⟨a0, s0, hv0, _, _, _⟩ := laid_sentinel hL (g := 2) (by kernel_rfl) (ti := 47) (by kernel_rfl) Tryd.underlying47 row8 Tryd.underlying62 Tryd.underlying64 rfl rfl Tryd.underlying9 (by kernel_rfl) (by kernel_rfl)
  exact ⟨_, by have h0 := World.var?_cell (g := 2) (by kernel_rfl) hv0 0; simpa using h0, .inr ⟨_, _, rfl⟩⟩
end Go.Proofs.YtfjhkchkiacfpaaDoor
