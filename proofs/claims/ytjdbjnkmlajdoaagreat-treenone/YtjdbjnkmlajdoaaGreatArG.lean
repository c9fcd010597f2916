/-
  Arenas: how many are in use, and which, behind each call. Of no program but for what an arena is.
-/
import Derived.Test.YtjdbjnkmlajdoaaGreatArF
namespace Go.Proofs.YtjdbjnkmlajdoaaGreat.L4
open Go.RowKit

theorem upto_count {β : Type} (pg : List (Option β)) : ∀ j, j ≤ pg.length → (upto pg j).length = (pg.take j).countP Option.isSome := by
  intro j
  induction j with
  | zero => intro _; simp [upto]
  | succ j ih =>
    intro hj
    rw [upto_succ, List.length_append, ih (by omega), List.take_add_one, List.countP_append]
    congr 1
    have : pg[j]? = some pg[j] := List.getElem?_eq_getElem (by omega)
    rw [this]
    cases pg[j] <;> simp

theorem Abs.Ok.pages {a : Abs} (h : a.Ok) : a.pages.length = a.used := by
  unfold Abs.pages Abs.used
  rw [upto_count _ _ (Nat.le_refl _), List.take_length, ← h.count]
  have := List.length_eq_countP_add_countP Option.isSome (l := a.pg)
  have e : a.pg.countP (fun x => decide ¬ x.isSome = true) = a.pg.countP Option.isNone := by
    congr 1
    funext x
    cases x <;> rfl
  omega

theorem Abs.next_pos {a : Abs} (h : a.Ok) : 1 ≤ a.next := by
  unfold Abs.next
  split
  · omega
  · rename_i n hn
    exact (h.low n (List.mem_of_getLast? hn)).1

theorem Abs.at_nat (a : Abs) (n : Nat) (hn : 1 ≤ n) : a.at (n : Int) = (a.pg[n - 1]?).join := by
  unfold Abs.at
  rw [if_pos (by omega), Int.toNat_natCast]

theorem Abs.take_pg {a : Abs} (h : a.Ok) : a.take.pg[a.next - 1]? = some none ∧ a.take.q = a.q ∧ a.take.pg.length - a.take.fr.length = a.used + 1 ∧ a.take.fr.length ≤ a.take.pg.length := by
  have hle := h.le
  unfold Abs.take Abs.next Abs.used
  cases hg : a.fr.getLast? with
  | none =>
    have hf : a.fr = [] := by simpa using hg
    refine ⟨by simp, rfl, ?_, ?_⟩
    · simp [hf]
    · simp [hf]
  | some n =>
    have hm := List.mem_of_getLast? hg
    have hl : 0 < a.fr.length := List.length_pos_of_mem hm
    refine ⟨(h.low n hm).2, rfl, ?_, ?_⟩
    · simp only [List.length_dropLast]; omega
    · simp only [List.length_dropLast]; omega

theorem Abs.alloc_used {a : Abs} (h : a.Ok) : a.alloc.used = a.used + 1 ∧ a.alloc.q = a.q ∧ a.alloc.at (a.next : Int) = some zeroP := by
  obtain ⟨h1, h2, h3, _⟩ := Abs.take_pg h
  refine ⟨?_, h2, ?_⟩
  · unfold Abs.alloc Abs.lay
    show (a.take.pg.set (a.next - 1) (some zeroP)).length - a.take.fr.length = _
    rw [List.length_set]
    exact h3
  · rw [Abs.at_nat _ _ (Abs.next_pos h)]
    have hlt := (List.getElem?_eq_some_iff.1 h1).1
    show ((a.take.pg.set (a.next - 1) (some zeroP))[a.next - 1]?).join = _
    rw [List.getElem?_set_self hlt]
    rfl

theorem Abs.lay_used (a : Abs) (n : Nat) (c : Option (List UInt8)) : (a.lay n c).used = a.used ∧ (a.lay n c).q = a.q := by
  unfold Abs.lay Abs.used
  simp

theorem Abs.free_used {a : Abs} {n : Nat} : (a.free n).used ≤ a.used ∧ (a.free n).q = a.q := by
  unfold Abs.free Abs.lay Abs.used
  simp
  omega
end Go.Proofs.YtjdbjnkmlajdoaaGreat.L4
