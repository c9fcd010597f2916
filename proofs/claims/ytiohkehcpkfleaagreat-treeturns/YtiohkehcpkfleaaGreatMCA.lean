import Derived.Deep.Slices
import Derived.Deep.Strs
import Derived.Lib.SmallJoins
import Derived.ProofKit
import Derived.OpenShut
import Derived.ShutString
import Derived.ChangeOld
import Derived.Below
import Derived.Test.YtiohkehcpkfleaaGreatMAB
set_option maxRecDepth 100000
set_option maxHeartbeats 4000000
namespace Go.Proofs.YtiohkehcpkfleaaGreat.L5
open Go.ChangeShapes Go.WideShapes Go.ChangeAt Go.RowKit Go.Deep
theorem add_addr (b o j : Nat) : (⟨b, o, none⟩ : Addr).add j = ⟨b, o + j, none⟩ := by unfold Addr.add; split <;> simp_all
theorem open_strs_rd {H : Type} {enc : TypeId × Value -> H} {W : World} {fuel : Nat} {v : Value} {x : DataW H × List MemPlace} (h : DataW.trod enc Tryz.prog W 0 (fun _ => true) true fuel 23 [v] = some x) :
 ∃ a c, ∃ l : List ByteArray, v = .slice a l.length c /\ Rd W a c (svs l) := by
 rcases open_strs Tryz.underlying23 Tryz.underlying9 (by kernel_rfl) h with ⟨hcs, _⟩ | ⟨a, len, cap, m, Sx, hcs, _, hl, hm, hmm, _, hel⟩
 · cases hcs
   exact ⟨none, 0, [], rfl, by simp [svs], by unfold maxLen; omega, fun j u hj => by simp [svs] at hj⟩
 · cases hcs
   simp only [if_true] at hmm
   subst hmm
   refine ⟨some a, m, (List.range len).map Sx, by simp, by simp [svs]; exact hl, hm, fun j u hj => ?_⟩
   have hlt : j < len := by
    have := (List.getElem?_eq_some_iff.1 hj).1
    simpa [svs] using this
   have hu : u = .string (Sx j) := by
    simp only [svs, List.getElem?_map, List.getElem?_range hlt, Option.map_some] at hj
    exact (Option.some.inj hj).symm
   subst hu
   have hc := (hel j (by omega)).1
   have hsp : a.spot = none := by
    have := World.cell?_spot (hel 0 (by omega)).1
    simpa [Addr.add] using this
   obtain ⟨b, o, sp⟩ := a
   simp only at hsp
   subst hsp
   rw [add_addr] at hc
   exact ⟨b, o, rfl, World.block_lt_of_cell? _ _ hc, hc⟩
end Go.Proofs.YtiohkehcpkfleaaGreat.L5
namespace Go.Proofs.YtiohkehcpkfleaaGreat
open Go.RowKit
theorem open_strs_arg {H : Type} {enc : TypeId × Value -> H} {W : World} {base : Nat} {v : Value} {d : DataW H} {p : List MemPlace} (hv : Value.okWide Tryz.prog W .any base 23 v) (h : DataW.Trod enc Tryz.prog W 0 (fun _ => true) true 23 v d p) :
 ∃ a cap, ∃ l : List ByteArray, v = .slice a l.length cap /\ L5.Rd W a cap (L5.svs l) := by
 obtain ⟨a, n, cap, rfl⟩ := Go.WideShapes.okWide_slice Tryz.underlying23 hv
 obtain ⟨fuel, hf⟩ := h
 exact L5.open_strs_rd (by simpa [Value.cells] using hf)
end Go.Proofs.YtiohkehcpkfleaaGreat
