/-
  From what an argument that is a node reads as to how it lies in memory.
-/
import Derived.Deep.Slices
import Derived.Deep.Strs
import Derived.Lib.SmallJoins
import Derived.WalkKit
import Derived.ProofKit
import Derived.OpenShut
import Derived.ShutString
import Derived.ChangeOld
import Derived.Below
import Derived.Test.YtgpahhlmpdnbpaaNdA
namespace Go.Proofs.Ytgpahhlmpdnbpaa
open Go.ChangeShapes Go.WideShapes Go.ChangeAt Go.RowKit Go.Deep

theorem add_addr (b o j : Nat) : (⟨b, o, none⟩ : Addr).add j = ⟨b, o + j, none⟩ := by unfold Addr.add; split <;> simp_all

set_option maxRecDepth 100000 in
theorem open_strs_rd {H : Type} {enc : TypeId × Value → H} {W : World} {fuel : Nat} {v : Value} {x : DataW H × List MemPlace} (h : DataW.trod enc Try.prog W 0 (fun _ => true) true fuel 22 [v] = some x) :
    ∃ a c, ∃ l : List ByteArray, v = .slice a l.length c ∧ Rd W a c (svs l) := by
  rcases open_strs Try.underlying22 Try.underlying9 (by kernel_rfl) h with ⟨hcs, _⟩ | ⟨a, len, cap, m, Sx, hcs, _, hl, hm, hmm, _, hel⟩
  · cases hcs
    exact ⟨none, 0, [], rfl, by simp [svs], by unfold maxLen; omega, fun j u hj => by simp [svs] at hj⟩
  · cases hcs
    simp only [if_true] at hmm
    subst hmm
    refine ⟨some a, m, (List.range len).map Sx, by simp, by simp [svs]; exact hl, hm, fun j u hj => ?_⟩
    have hlt : j < len := by
      have := (List.getElem?_eq_some_iff.1 hj).1
      simpa [svs] using this
    have hu : u = .string (Sx j) := by
      simp only [svs, List.getElem?_map, List.getElem?_range hlt, Option.map_some] at hj
      exact (Option.some.inj hj).symm
    subst hu
    have hc := (hel j (by omega)).1
    have hsp : a.spot = none := by
      have := World.cell?_spot (hel 0 (by omega)).1
      simpa [Addr.add] using this
    obtain ⟨b, o, sp⟩ := a
    simp only at hsp
    subst hsp
    rw [add_addr] at hc
    exact ⟨b, o, rfl, World.block_lt_of_cell? _ _ hc, hc⟩

set_option maxRecDepth 100000 in
theorem open_ints_rd {H : Type} {enc : TypeId × Value → H} {W : World} {fuel : Nat} {v : Value} {x : DataW H × List MemPlace} (h : DataW.trod enc Try.prog W 0 (fun _ => true) true fuel 23 [v] = some x) :
    ∃ a c, ∃ l : List Int, v = .slice a l.length c ∧ Rd W a c (ivs l) := by
  rcases open_ints Try.underlying23 Try.underlying3 (by kernel_rfl) h with ⟨hcs, _⟩ | ⟨a, len, cap, zs, hcs, _, hl, hm, hz, _, hcell, _⟩
  · cases hcs
    exact ⟨none, 0, [], rfl, by simp [ivs], by unfold maxLen; omega, fun j u hj => by simp [ivs] at hj⟩
  · cases hcs
    have hz' : zs.length = cap := by simpa using hz
    refine ⟨some a, cap, zs.take len, by simp; omega, by simp [ivs]; omega, hm, fun j u hj => ?_⟩
    have hlt : j < len := by
      have := (List.getElem?_eq_some_iff.1 hj).1
      simp [ivs] at this
      omega
    have hu : u = .int .i64 (zs.getD j 0) := by
      simp only [ivs, List.getElem?_map, List.getElem?_take, if_pos hlt] at hj
      rw [List.getElem?_eq_getElem (by omega)] at hj
      rw [List.getD_eq_getElem?_getD, List.getElem?_eq_getElem (by omega)]
      exact (Option.some.inj hj).symm
    subst hu
    obtain ⟨b, off, rfl, hc⟩ := ints_at hcell (by omega)
    have h1 := hc j (by omega)
    exact ⟨b, off, rfl, World.block_lt_of_cell? _ _ h1, h1⟩

set_option maxRecDepth 100000 in
/-- A node that came in, opened. -/
theorem open_node {H : Type} {enc : TypeId × Value → H} {W : World} {base : Nat} {v : Value} {d : DataW H} {p : List MemPlace} (hv : Value.okWide Try.prog W .any base 25 v) (h : DataW.Trod enc Try.prog W 0 (fun _ => true) true 25 v d p) :
    ∃ (n : No) (a : Option Addr) (c : Nat) (a' : Option Addr) (c' : Nat), v = nodeV n a c a' c' ∧ NR W n a c a' c' := by
  obtain ⟨v0, v1, v2, y0, y1, y2, m, rfl, _, _, h0, h1, h2⟩ := Go.Joins.open_agg3 Try.underlying25 (by kernel_rfl) (by kernel_rfl) hv h
  obtain ⟨lf, e0, _⟩ := DataW.trod_bool Try.underlying4 h0
  obtain ⟨a, c, l, e1, r1⟩ := open_strs_rd h1
  obtain ⟨a', c', l', e2, r2⟩ := open_ints_rd h2
  cases e0
  subst e1 e2
  exact ⟨⟨lf, l, l'⟩, a, c, a', c', rfl, r1, r2⟩
end Go.Proofs.Ytgpahhlmpdnbpaa
