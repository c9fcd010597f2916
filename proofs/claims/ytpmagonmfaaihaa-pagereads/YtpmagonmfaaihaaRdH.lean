/-
  Rows of bytes that grow beside a node that is read.
-/
import Derived.Test.YtpmagonmfaaihaaRdF
import Derived.Test.YtpmagonmfaaihaaSpH
namespace Go.Proofs.Ytpmagonmfaaihaa
open Go.RowKit

theorem one_bcs (l : List UInt8) : ∀ u ∈ bcs l, u.oneCell' = true := by
  intro u hu
  obtain ⟨c, _, rfl⟩ := List.mem_map.1 hu
  rfl

theorem Blk.cells {W : World} {b : Nat} {L : List UInt8} (h : Blk W b L) : ∀ j u, (bcs L)[j]? = some u → W.cell? ((⟨b, 0, none⟩ : Addr).add j) = some u := fun j u hj => by
  have hlt : j < L.length := by
    have := (List.getElem?_eq_some_iff.1 hj).1
    rwa [bcs_length] at this
  have e : u = .int .u8 (L[j].toNat : Int) := by
    unfold bcs at hj
    rw [List.getElem?_map, List.getElem?_eq_getElem hlt] at hj
    simpa using hj.symm
  subst e
  rw [show (⟨b, 0, none⟩ : Addr).add j = ⟨b, j, none⟩ by unfold Addr.add; split <;> simp_all]
  exact h.cell j hlt

/-- A row of bytes of the call's own, beside the node. -/
structure Pw (w : World) (n : No) (a : Option Addr) (c : Nat) (a' : Option Addr) (c' : Nat) (v : Value) (o : List UInt8) (wr : World) : Prop where
  nq : Nq w n a c a' c' wr
  row : wr.ownsRow (w.heap.size + 1) 5 1 v o.length (bcs o)

theorem Pw.on {w : World} {n : No} {a : Option Addr} {c : Nat} {a' : Option Addr} {c' : Nat} {v : Value} {o : List UInt8} {wr wr' : World} (h : Pw w n a c a' c' v o wr) (hb : Below wr.heap.size wr wr') : Pw w n a c a' c' v o wr' :=
  ⟨h.nq.on hb, owns_below h.row hb⟩

theorem Nq.grown {w : World} {n : No} {a : Option Addr} {c : Nat} {a' : Option Addr} {c' : Nat} {wr w' : World} (h : Nq w n a c a' c' wr) (hr : NR w n a c a' c') {row : Option Nat} (hg : wr.grownBy w' row) (hk : ∀ k, row = some k → w.heap.size + 1 ≤ k) : Nq w n a c a' c' w' := by
  have hlt := h.bx.lt
  have hb : Below w.heap.size w w' := h.bx.below.grown hg (by omega) (fun k hk' => by have := hk k hk'; omega)
  have hblk : w'.heap[w.heap.size]? = wr.heap[w.heap.size]? := hg.block _ hlt (fun e => by have := hk _ e.symm; omega)
  have hc : ∀ o, w'.cell? ⟨w.heap.size, o, none⟩ = wr.cell? ⟨w.heap.size, o, none⟩ := fun o => World.cell?_of_block hblk
  exact ⟨⟨hb, by rw [hc]; exact h.bx.c0, by rw [hc]; exact h.bx.c1, by rw [hc]; exact h.bx.c2, (Array.getElem?_eq_some_iff.1 (hblk.trans (Array.getElem?_eq_getElem hlt))).1⟩, hr.below hb⟩

theorem Pw.grow {w : World} {n : No} {a : Option Addr} {c : Nat} {a' : Option Addr} {c' : Nat} {v v' : Value} {o o' : List UInt8} {wr w' : World} (h : Pw w n a c a' c' v o wr) (hr : NR w n a c a' c') (hg : wr.grownBy w' v.ownBlock) {m : Nat} (hm : m = o'.length) (ho : w'.ownsRow (w.heap.size + 1) 5 1 v' m (bcs o')) : Pw w n a c a' c' v' o' w' := by
  subst hm
  exact ⟨h.nq.grown hr hg (fun k hk => (h.row.lt k hk).1), ho⟩
end Go.Proofs.Ytpmagonmfaaihaa
