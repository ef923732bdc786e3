/- What the rows say of strconv.ErrRange. -/
import Derived.Test.YthibdbpgllhcpaaGreatDoorRow
import Derived.Test.YthibdbpgllhcpaaGreatDoorSmallI
import Derived.Stop.LaidErr
import Derived.ChangeMaps5
import Derived.Carry
namespace Go.Proofs.YthibdbpgllhcpaaGreatDoor
open Go Go.ChangeShapes Go.WideShapes Go.ChangeAt Go.RowKit

theorem star_text : "*" ++ "errors.errorString" = "*errors.errorString" := by decide
theorem err_row (u : TypeId) (h : Tryz.prog.typeName? 3 u = some "*errors.errorString") : u = 163 :=
  typeName_ptr_named (nm := "errors.errorString") (by rw [star_text]; kernel_rfl) (by kernel_rfl) (by decide) u (by rw [star_text]; exact h)
set_option maxRecDepth 100000 in
theorem err_of_laid {W : World} (h : laidMetH Tryz.prog Rows.integerRingRow.laid W) : ErrAt W := by
  rw [MakeChecks.laidMetH_plain _ _ _ (by kernel_rfl)] at h
  obtain ⟨a, s, hv, _⟩ := laid_sentinel (P := Tryz.prog) (g := 1) (ti := 68) (tp := 163) (te := 165) (ts := 9) (laidMet.tail (laidMet.tail (laidMet.tail (laidMet.tail h)))) (by kernel_rfl) (by kernel_rfl) Tryz.underlying68 err_row Tryz.underlying163 Tryz.underlying165 rfl rfl Tryz.underlying9 (by kernel_rfl) (by kernel_rfl)
  exact ⟨_, by have h0 := World.var?_cell (P := Tryz.prog) (show Tryz.prog.globalNamed "strconv.ErrRange" = some 1 by kernel_rfl) hv 0; simpa using h0, .inr ⟨_, _, rfl⟩⟩
end Go.Proofs.YthibdbpgllhcpaaGreatDoor
