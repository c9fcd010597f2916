import Derived.Test.YteibhbnlcpejpaaGreatMAE
namespace Go.Proofs.YteibhbnlcpejpaaGreat
open Go.RowKit
theorem cmpS_le (s t: ByteArray): cmpS s t <= 0 ↔ s.toList <= t.toList := by
 unfold cmpS
 rw [bytesLess_lt]
 by_cases h: s.toList < t.toList
 · simp [h,List.le_of_lt h]
 · by_cases e: s.toList = t.toList
   · simp [e,List.lt_irrefl]
   · have h2: t.toList <= s.toList := List.not_lt.1 h
     have h3: ¬ s.toList <= t.toList := fun h4 => e (List.le_antisymm h4 h2)
     simp [h,e,h3]
theorem cmpS_zero (s t: ByteArray): cmpS s t = 0 ↔ s.toList = t.toList := by
 unfold cmpS
 rw [bytesLess_lt]
 by_cases h: s.toList < t.toList
 · have: ¬ s.toList = t.toList := fun e => by rw [e] at h; exact List.lt_irrefl _ h
   simp [h,this]
 · by_cases e: s.toList = t.toList
   · simp [e,List.lt_irrefl]
   · simp [h,e]
theorem cmpS_range (s t: ByteArray): cmpS s t = -1 \/ cmpS s t = 0 \/ cmpS s t = 1 := by
 unfold cmpS
 split
 · simp
 · split <;> simp
theorem cmpS_swap (s t: ByteArray): cmpS t s = -cmpS s t := by
 have h1 := cmpS_range s t
 have h2 := cmpS_range t s
 have z1 := cmpS_zero s t
 have z2 := cmpS_zero t s
 have l1 := cmpS_le s t
 have l2 := cmpS_le t s
 by_cases p: s.toList <= t.toList <;> by_cases q: t.toList <= s.toList
 · have e := List.le_antisymm p q
   rw [z1.2 e,z2.2 e.symm]; rfl
 · have a1 := l1.2 p
   have a2: ¬ cmpS t s <= 0 := fun h => q (l2.1 h)
   have a3: ¬ cmpS s t = 0 := fun h => q (by rw [z1.1 h]; exact List.le_refl _)
   omega
 · have a1 := l2.2 q
   have a2: ¬ cmpS s t <= 0 := fun h => p (l1.1 h)
   have a3: ¬ cmpS t s = 0 := fun h => p (by rw [z2.1 h]; exact List.le_refl _)
   omega
 · exact absurd (List.le_total s.toList t.toList) (by simp [p,q])
theorem ordI_range (k n: Int) (s: ByteArray) (k' n': Int) (s': ByteArray): ordI k n s k' n' s' = -1 \/ ordI k n s k' n' s' = 0 \/ ordI k n s k' n' s' = 1 := by
 have h := cmpS_range s s'
 unfold ordI or3 Lib.compareInt
 simp only [beq_iff_eq]
 repeat' split
 all_goals omega
theorem ordI_swap (k n: Int) (s: ByteArray) (k' n': Int) (s': ByteArray): ordI k' n' s' k n s = -ordI k n s k' n' s' := by
 have h := cmpS_swap s s'
 unfold ordI or3 Lib.compareInt
 simp only [beq_iff_eq]
 repeat' split
 all_goals omega
end Go.Proofs.YteibhbnlcpejpaaGreat
