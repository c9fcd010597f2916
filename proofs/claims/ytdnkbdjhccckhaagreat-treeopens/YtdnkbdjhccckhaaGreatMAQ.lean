import Derived.Deep.CutRange
import Derived.Test.YtdnkbdjhccckhaaGreatMAP
namespace Go.Proofs.YtdnkbdjhccckhaaGreat.L5
open Go.RowKit
theorem toList_inj {a b: ByteArray} (h: a.toList = b.toList): a = b := by
 rw [ByteArray.ext_iff]
 rw [ByteArray.toList_eq,ByteArray.toList_eq] at h
 exact Array.toList_inj.1 h
theorem mark_of (n: Nd): byteAt (pageL n) 0 = 1 \/ byteAt (pageL n) 0 = 2 := by
 unfold pageL headL byteAt
 cases n.leaf
 · exact Or.inr rfl
 · exact Or.inl rfl
theorem fresh_fail (w: World): ROut w (.bool false) (.slice none 0 0) (.slice none 0 0) (w.alloc (.cells #[.bool false, .slice none 0 0, .slice none 0 0] 91)) := by
 obtain ⟨c0,c1,c2⟩ := node_cells (heap_alloc_last w (.cells #[.bool false, .slice none 0 0, .slice none 0 0] 91))
 exact ⟨c0,c1,c2,below_alloc _ _⟩
end Go.Proofs.YtdnkbdjhccckhaaGreat.L5
