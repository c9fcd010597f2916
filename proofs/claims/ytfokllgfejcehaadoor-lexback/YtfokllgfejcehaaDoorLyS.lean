/-
  The listed variables of LexBack's row.
-/
import Derived.Test.YtfokllgfejcehaaDoorLyR
namespace Go.Proofs.YtfokllgfejcehaaDoor
open Go.RowKit

set_option maxRecDepth 100000 in
theorem vars_back {W : World} (h : laidMetH Tryd.prog Rows.lexBackRow.laid W) : LexV W ∧ LTab W := by
  rw [MakeChecks.laidMetH_plain _ _ _ (by kernel_rfl)] at h
  refine ⟨⟨errR_of_head (laidMet.tail (laidMet.tail (laidMet.tail (laidMet.tail h)))), symV_of_reads (Lib.laidMet.reads h ?_)⟩, ltab_of_reads (Lib.laidMet.reads h ?_)⟩ <;>
    simp only [Rows.lexBackRow, List.mem_cons, true_or, or_true]
end Go.Proofs.YtfokllgfejcehaaDoor
