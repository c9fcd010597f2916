import Derived.Test.YteibhbnlcpejpaaGreatMAU
import Derived.Test.YteibhbnlcpejpaaGreatMBB
namespace Go.Proofs.YteibhbnlcpejpaaGreat
open Go.RowKit
theorem cmpS_le (s t: ByteArray): cmpS s t <= 0 ↔ s.toList <= t.toList := by
 unfold cmpS
 rw [bytesLess_lt]
 by_cases h: s.toList < t.toList
 · simp [h,List.le_of_lt h]
 · by_cases e: s.toList = t.toList
   · simp [e,List.lt_irrefl]
   · have h2: t.toList <= s.toList := List.not_lt.1 h
     have h3: ¬ s.toList <= t.toList := fun h4 => e (List.le_antisymm h4 h2)
     simp [h,e,h3]
theorem cmpS_zero (s t: ByteArray): cmpS s t = 0 ↔ s.toList = t.toList := by
 unfold cmpS
 rw [bytesLess_lt]
 by_cases h: s.toList < t.toList
 · have: ¬ s.toList = t.toList := fun e => by rw [e] at h; exact List.lt_irrefl _ h
   simp [h,this]
 · by_cases e: s.toList = t.toList
   · simp [e,List.lt_irrefl]
   · simp [h,e]
theorem cmpS_range (s t: ByteArray): cmpS s t = -1 \/ cmpS s t = 0 \/ cmpS s t = 1 := by
 unfold cmpS
 split
 · simp
 · split <;> simp
theorem cmpS_swap (s t: ByteArray): cmpS t s = -cmpS s t := by
 have h1 := cmpS_range s t
 have h2 := cmpS_range t s
 have z1 := cmpS_zero s t
 have z2 := cmpS_zero t s
 have l1 := cmpS_le s t
 have l2 := cmpS_le t s
 by_cases p: s.toList <= t.toList <;> by_cases q: t.toList <= s.toList
 · have e := List.le_antisymm p q
   rw [z1.2 e,z2.2 e.symm]; rfl
 · have a1 := l1.2 p
   have a2: ¬ cmpS t s <= 0 := fun h => q (l2.1 h)
   have a3: ¬ cmpS s t = 0 := fun h => q (by rw [z1.1 h]; exact List.le_refl _)
   omega
 · have a1 := l2.2 q
   have a2: ¬ cmpS s t <= 0 := fun h => p (l1.1 h)
   have a3: ¬ cmpS t s = 0 := fun h => p (by rw [z2.1 h]; exact List.le_refl _)
   omega
 · exact absurd (List.le_total s.toList t.toList) (by simp [p,q])
theorem ordI_range (k n: Int) (s: ByteArray) (k' n': Int) (s': ByteArray): ordI k n s k' n' s' = -1 \/ ordI k n s k' n' s' = 0 \/ ordI k n s k' n' s' = 1 := by
 have h := cmpS_range s s'
 unfold ordI or3 Lib.compareInt
 simp only [beq_iff_eq]
 repeat' split
 all_goals omega
theorem ordI_zero (k n: Int) (s: ByteArray) (k' n': Int) (s': ByteArray): ordI k n s k' n' s' = 0 ↔ k = k' /\ n = n' /\ s.toList = s'.toList := by
 have h := cmpS_zero s s'
 unfold ordI or3 Lib.compareInt
 simp only [beq_iff_eq]
 rw [<- h]
 repeat' split
 all_goals omega
theorem ordI_swap (k n: Int) (s: ByteArray) (k' n': Int) (s': ByteArray): ordI k' n' s' k n s = -ordI k n s k' n' s' := by
 have h := cmpS_swap s s'
 unfold ordI or3 Lib.compareInt
 simp only [beq_iff_eq]
 repeat' split
 all_goals omega
theorem ordI_le (k n: Int) (s: ByteArray) (k' n': Int) (s': ByteArray): ordI k n s k' n' s' <= 0 ↔ k < k' \/ (k = k' /\ (n < n' \/ (n = n' /\ s.toList <= s'.toList))) := by
 have h := cmpS_le s s'
 unfold ordI or3 Lib.compareInt
 simp only [beq_iff_eq]
 rw [<- h]
 repeat' split
 all_goals omega
def ordV (a b: Vv): Int := ordI a.k a.n a.s b.k b.n b.s
def letsB (b: Bd) (place: Int): Bool := !b.has || decide (0 < place) || (place == 0 && b.incl)
def inB (lo hi: Bd) (v: Vv): Bool := letsB lo (ordV v lo.v) && letsB hi (ordV hi.v v)
def colV (r: List Vv) (c: Int): Option Vv := if c < 0 then none else r[c.toNat]?
def metT (r: List Vv) (t: Tl): Bool := match colV r t.col with
 | none => false
 | some v => inB t.lo t.hi v
def meetsC (n: Nat) (r: RowL) (ts: List Tl) (l: List NL): Bool := ts.all (metT r.l) && (allN n [r] l).1
theorem colV_lo {r: List Vv} {c: Int} (h: c < 0): colV r c = none := by unfold colV; rw [if_pos h]
theorem colV_hi {r: List Vv} {c: Int} (h: (r.length: Int) <= c): colV r c = none := by
 unfold colV
 split
 · rfl
 · exact List.getElem?_eq_none (by omega)
theorem colV_at {r: List Vv} {j: Nat} {v: Vv} (h: r[j]? = some v): colV r (j: Int) = some v := by
 unfold colV; rw [if_neg (by omega)]; simpa using h
theorem metT_no {r: List Vv} {t: Tl} (h: colV r t.col = none): metT r t = false := by unfold metT; rw [h]
theorem metT_at {r: List Vv} {t: Tl} {v: Vv} (h: colV r t.col = some v): metT r t = inB t.lo t.hi v := by unfold metT; rw [h]
theorem ordV_swap (a b: Vv): ordV b a = -ordV a b := ordI_swap _ _ _ _ _ _
theorem ordV_range (a b: Vv): ordV a b = -1 \/ ordV a b = 0 \/ ordV a b = 1 := ordI_range _ _ _ _ _ _
end Go.Proofs.YteibhbnlcpejpaaGreat
