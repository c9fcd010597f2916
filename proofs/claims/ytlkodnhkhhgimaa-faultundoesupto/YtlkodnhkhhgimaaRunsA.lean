/-
  FaultRuns, FaultUndoes: a program of steps as a tree, what it writes down, and how it lies in memory.
-/
import Derived.Test.YtlkodnhkhhgimaaFaultF
import Derived.Test.YtlkodnhkhhgimaaFaultD
import Derived.OneCell
namespace Go.Proofs.Ytlkodnhkhhgimaa
open Go.RowKit

/-- A step, with the steps within it. -/
inductive Stp where
  | mk (k n a : Int) (i b : List Stp)

/-- A mark. -/
abbrev Mk := Int × Int × Int

mutual
def szS : Stp → Nat
  | .mk _ _ _ i b => 1 + szL i + szL b
def szL : List Stp → Nat
  | [] => 0
  | s :: r => szS s + szL r
end

theorem szL_append (l r : List Stp) : szL (l ++ r) = szL l + szL r := by
  induction l with
  | nil => simp [szL]
  | cons s l ih => simp [szL, ih]; omega

mutual
/-- What a step writes down, the code and the place with which it stops. -/
def runS : Stp → List Mk × Int × Int
  | .mk k n a i b =>
    if k = 1 then (if n ≠ 0 then ([], n, a) else ([], 0, 0))
    else if k = 2 then ((runL i).1 ++ [(2, (runL i).2)], 0, 0)
    else if k = 3 then
      (if (runL i).2.1 ≠ 0 then ((runL i).1 ++ (runL b).1 ++ [(3, if (runL b).2.1 ≠ 0 then (runL b).2 else (runL i).2)], 0, 0)
       else ((runL i).1 ++ [(3, (runL i).2)], 0, 0))
    else if k = 4 then ((firL i 0).1 ++ [(4, (firL i 0).2.2), (5, (firL i 0).2.1, 0)], 0, 0)
    else ([(0, n, 0)], 0, 0)
def runL : List Stp → List Mk × Int × Int
  | [] => ([], 0, 0)
  | s :: r => if (runS s).2.1 ≠ 0 then runS s else ((runS s).1 ++ (runL r).1, (runL r).2)
/-- The steps one by one: marks, the number of the one that stopped, code and place. -/
def firL : List Stp → Int → List Mk × Int × Int × Int
  | [], _ => ([], -1, 0, 0)
  | s :: r, j => if (runS s).2.1 ≠ 0 then ((runS s).1, j, (runS s).2) else ((runS s).1 ++ (firL r (j + 1)).1, (firL r (j + 1)).2)
end

theorem runS_zero (s : Stp) : (runS s).2.1 = 0 → (runS s).2.2 = 0 := by
  cases s
  simp only [runS]
  (repeat' split) <;> simp_all

theorem runL_zero (l : List Stp) : (runL l).2.1 = 0 → (runL l).2.2 = 0 := by
  induction l with
  | nil => simp [runL]
  | cons s r ih =>
    simp only [runL]
    split
    · intro h; contradiction
    · exact ih

theorem runL_one (s : Stp) : runL [s] = runS s := by
  simp only [runL]
  split
  · rfl
  · rename_i h
    have h0 : (runS s).2.1 = 0 := by simpa using h
    have h1 := runS_zero s h0
    rw [List.append_nil]
    exact Prod.ext rfl (Prod.ext h0.symm h1.symm)

mutual
theorem runS_len : ∀ s, (runS s).1.length ≤ 2 * szS s
  | .mk k n a i b => by
    have hi := runL_len i
    have hb := runL_len b
    have hf := firL_len i 0
    simp only [runS, szS]
    (repeat' split) <;> simp <;> omega
theorem runL_len : ∀ l, (runL l).1.length ≤ 2 * szL l
  | [] => by simp [runL]
  | s :: r => by
    have h1 := runS_len s
    have h2 := runL_len r
    simp only [runL, szL]
    split
    · omega
    · simp; omega
theorem firL_len : ∀ l j, (firL l j).1.length ≤ 2 * szL l
  | [], j => by simp [firL]
  | s :: r, j => by
    have h1 := runS_len s
    have h2 := firL_len r (j + 1)
    simp only [firL, szL]
    split
    · simp; omega
    · simp; omega
end

/-- A mark's cells; marks' cells. -/
def mkCells (m : Mk) : List Value := [.int .i64 m.1, .int .i64 m.2.1, .int .i64 m.2.2]
def mksCells (l : List Mk) : List Value := l.flatMap mkCells
theorem mksCells_append (l r : List Mk) : mksCells (l ++ r) = mksCells l ++ mksCells r := by simp [mksCells]
theorem mksCells_length (l : List Mk) : (mksCells l).length = l.length * 3 := by
  induction l with
  | nil => rfl
  | cons m l ih => simp only [mksCells, List.flatMap_cons, List.length_append, mkCells, List.length_cons, List.length_nil] at ih ⊢; rw [ih]; omega
theorem mksCells_one (l : List Mk) : ∀ u ∈ mksCells l, u.oneCell' = true := by
  intro u hu
  simp only [mksCells, List.mem_flatMap, mkCells] at hu
  obtain ⟨m, -, hu⟩ := hu
  simp at hu
  rcases hu with rfl | rfl | rfl <;> rfl

mutual
/-- A step lies at an address of the world; steps lie one behind the other. -/
def StepAt (w : World) (b o : Nat) : Stp → Prop
  | .mk k n a i bk => w.cell? ⟨b, o, none⟩ = some (.int .i64 k) ∧ w.cell? ⟨b, o + 1, none⟩ = some (.int .i64 n) ∧ w.cell? ⟨b, o + 2, none⟩ = some (.int .i64 a) ∧
    (∃ x c, i.length ≤ c ∧ w.cell? ⟨b, o + 3, none⟩ = some (.slice x i.length c) ∧ StepsAt w x i) ∧
    (∃ x c, bk.length ≤ c ∧ w.cell? ⟨b, o + 4, none⟩ = some (.slice x bk.length c) ∧ StepsAt w x bk)
def StepsAt (w : World) (x : Option Addr) : List Stp → Prop
  | [] => True
  | s :: r => ∃ b o, x = some ⟨b, o, none⟩ ∧ StepAt w b o s ∧ StepsAt w (some ⟨b, o + 5, none⟩) r
end

/-- The steps from the k-th on. -/
theorem StepsAt.drop {w : World} : ∀ {k : Nat} {l : List Stp} {b o : Nat}, StepsAt w (some ⟨b, o, none⟩) l → StepsAt w (some ⟨b, o + 5 * k, none⟩) (l.drop k)
  | 0, l, b, o, h => by simpa using h
  | k + 1, [], b, o, h => by simp [StepsAt]
  | k + 1, s :: r, b, o, h => by
    obtain ⟨b', o', e, -, h2⟩ := h
    simp only [Option.some.injEq, Addr.mk.injEq, and_true] at e
    obtain ⟨rfl, rfl⟩ := e
    have := StepsAt.drop (k := k) h2
    rw [List.drop_succ_cons]
    rwa [show o + 5 * (k + 1) = o + 5 + 5 * k by omega]

theorem StepsAt.at {w : World} {x : Option Addr} {d r : List Stp} {s : Stp} (h : StepsAt w x (d ++ s :: r)) : ∃ b o, x = some ⟨b, o, none⟩ ∧ StepAt w b (o + 5 * d.length) s := by
  have hx : ∃ b o, x = some ⟨b, o, none⟩ := by
    cases d with
    | nil => obtain ⟨b, o, e, -⟩ := h; exact ⟨b, o, e⟩
    | cons t d => obtain ⟨b, o, e, -⟩ := h; exact ⟨b, o, e⟩
  obtain ⟨b, o, rfl⟩ := hx
  have := StepsAt.drop (k := d.length) h
  rw [List.drop_left] at this
  obtain ⟨b', o', e, h1, -⟩ := this
  simp only [Option.some.injEq, Addr.mk.injEq, and_true] at e
  obtain ⟨rfl, rfl⟩ := e
  exact ⟨b, o, rfl, h1⟩

end Go.Proofs.Ytlkodnhkhhgimaa
