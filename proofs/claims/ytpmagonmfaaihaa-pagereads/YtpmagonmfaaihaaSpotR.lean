/-
  From what an argument of places and bytes reads as to how they lie in memory.
-/
import Derived.Deep.Slices
import Derived.Deep.Strs
import Derived.Lib.SmallJoins
import Derived.WalkKit
import Derived.ProofKit
import Derived.OpenShut
import Derived.ShutString
import Derived.ChangeOld
import Derived.ChangeSame
import Derived.Below
import Derived.Test.YtpmagonmfaaihaaPgReadW
namespace Go.Proofs.Ytpmagonmfaaihaa
open Go.ChangeShapes Go.WideShapes Go.ChangeAt Go.RowKit Go.Deep

theorem Try.cellsSpot : Try.prog.cellsOf 44 = 2 := by kernel_rfl

theorem spot_byte {n : Int} (h : (Lit.int .u8 n).wf = true) : ∃ x : UInt8, n = (x.toNat : Int) := by
  have hb := bounds_u8 h
  refine ⟨UInt8.ofNat n.toNat, ?_⟩
  rw [UInt8.toNat_ofNat']
  omega

theorem spot_of_take {cs : List Value} {j : Nat} {v : Value} (h : (cs.drop j).take 1 = [v]) : cs[j]? = some v := by
  have := congrArg (·[0]?) h
  simpa using this

theorem spot_add (b o i j : Nat) : ((⟨b, o, none⟩ : Addr).add i).add j = ⟨b, o + i + j, none⟩ := by
  rw [add_add]
  unfold Addr.add
  split <;> simp <;> omega

theorem list_of {p : Nat → Int × UInt8 → Prop} : ∀ n, (∀ i, i < n → ∃ v, p i v) → ∃ l : List (Int × UInt8), l.length = n ∧ ∀ i (h : i < l.length), p i l[i]
  | 0, _ => ⟨[], rfl, fun i h => by simp at h⟩
  | n + 1, h => by
    obtain ⟨l, hl, hp⟩ := list_of n fun i hi => h i (by omega)
    obtain ⟨v, hv⟩ := h n (by omega)
    refine ⟨l ++ [v], by simp [hl], fun i hi => ?_⟩
    by_cases e : i < l.length
    · rw [List.getElem_append_left e]; exact hp i e
    · have : i = l.length := by simp at hi; omega
      subst this
      simp
      rw [hl]
      exact hv

set_option maxRecDepth 100000 in
theorem read_spots {H : Type} {enc : TypeId × Value → H} {w : World} {a0 : Option Addr} {len0 cap0 : Nat} {d : DataW H} {p : List MemPlace} (h : DataW.Trod enc Try.prog w 0 (fun _ => true) true 41 (.slice a0 len0 cap0) d p) : ∃ l : List (Int × UInt8), l.length = len0 ∧ Spots w a0 l := by
  obtain ⟨fuel, hf⟩ := h
  rcases open_slice Try.underlying41 hf with ⟨hcs, hx⟩ | ⟨a, len, cap, m, n, D, Pl, hcs, hb, hl, hm, hmm, hx, hel⟩
  · simp [Value.cells] at hcs
    obtain ⟨rfl, rfl, rfl⟩ := hcs
    exact ⟨[], rfl, fun j hj => by simp at hj⟩
  · simp [Value.cells] at hcs
    obtain ⟨rfl, rfl, rfl⟩ := hcs
    simp only [if_true] at hmm
    subst hmm
    by_cases hz : len0 = 0
    · exact ⟨[], by simp [hz], fun j hj => by simp at hj⟩
    have hsp : a.spot = none := by
      obtain ⟨cs', hc, -⟩ := hel 0 (by omega)
      rw [Try.cellsSpot] at hc
      obtain ⟨-, hlen, hcell⟩ := World.cells?_some hc
      have h0 := hcell 0 (by decide)
      rw [List.getElem?_eq_getElem (by omega)] at h0
      have := World.cell?_spot h0
      simpa [Addr.add] using this
    obtain ⟨b, o, sp⟩ := a
    simp only at hsp
    subst hsp
    have key : ∀ i, i < len0 → ∃ v : Int × UInt8, b < w.heap.size ∧ w.cell? ⟨b, o + i * 2, none⟩ = some (.int .i64 v.1) ∧ w.cell? ⟨b, o + i * 2 + 1, none⟩ = some (.int .u8 (v.2.toNat : Int)) := by
      intro i hi
      obtain ⟨cs', hc, ht⟩ := hel i (by omega)
      rw [Try.cellsSpot] at hc
      obtain ⟨-, hlen, hcell⟩ := World.cells?_some hc
      obtain ⟨y0, y1, n', -, -, f0, f1⟩ := trod_struct2 Try.underlying44 ht
      obtain ⟨k, g0, -, -⟩ := DataW.trod_int Try.underlying3 f0
      obtain ⟨c, g1, -, hc3⟩ := DataW.trod_int Try.underlying5 f1
      obtain ⟨x, rfl⟩ := spot_byte hc3
      have cc : ∀ j v, cs'[j]? = some v → w.cell? ⟨b, o + i * 2 + j, none⟩ = some v := fun j v hv => by
        have hj : j < 2 := by rw [← hlen]; exact (List.getElem?_eq_some_iff.1 hv).1
        have := hcell j hj
        rw [spot_add] at this
        rw [this, hv]
      exact ⟨⟨k, x⟩, World.block_lt_of_cell? _ _ (cc 0 _ (spot_of_take g0)), cc 0 _ (spot_of_take g0), cc 1 _ (spot_of_take g1)⟩
    obtain ⟨l, hl, hp⟩ := list_of len0 key
    exact ⟨l, hl, fun j hj => ⟨b, o, rfl, hp j hj⟩⟩
end Go.Proofs.Ytpmagonmfaaihaa
