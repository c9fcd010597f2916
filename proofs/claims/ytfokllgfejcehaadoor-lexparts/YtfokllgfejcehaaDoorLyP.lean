/-
  The listed variables of LexParts' row.
-/
import Derived.Test.YtfokllgfejcehaaDoorTiedL
namespace Go.Proofs.YtfokllgfejcehaaDoor
open Go.RowKit

set_option maxRecDepth 100000 in
theorem lexV_parts {W : World} (h : laidMetH Tryd.prog Rows.lexPartsRow.laid W) : LexV W := by
  rw [MakeChecks.laidMetH_plain _ _ _ (by kernel_rfl)] at h
  refine ⟨errR_of_head (laidMet.tail (laidMet.tail (laidMet.tail h))), symV_of_reads (Lib.laidMet.reads h ?_)⟩
  simp only [Rows.lexPartsRow, List.mem_cons, true_or, or_true]
end Go.Proofs.YtfokllgfejcehaaDoor
