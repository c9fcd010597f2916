import Derived.Test.YtpcmiholbcmmjaaGreatMAT
import Derived.Test.YtpcmiholbcmmjaaGreatMAN
namespace Go.Proofs.YtpcmiholbcmmjaaGreat
open Go.RowKit
open L4 (Ar ArP Abs arV nv)
def Lay.pl (y : Lay) : Pl := ⟨y.at_, y.n, y.kid⟩
structure WayR (B : Nat) (v : Value) (Ld : List Lay) (w : World) : Prop where
 row : w.ownsRow B 100 5 v Ld.length (Ld.flatMap Lay.cells)
 rr : ∀ y ∈ Ld, w.ownsRow B 9 1 y.vr y.n.recs.length (L5.svs y.n.recs)
 rk : ∀ y ∈ Ld, w.ownsRow B 3 1 y.vk y.n.kids.length (L5.ivs y.n.kids)
 ap : Ld.Pairwise fun y z => (∀ q, y.vr.ownBlock = some q -> z.vr.ownBlock ≠ some q) /\ (∀ q, y.vk.ownBlock = some q -> z.vk.ownBlock ≠ some q)
theorem WayR.on {B : Nat} {v : Value} {Ld : List Lay} {w w' : World} (k : WayR B v Ld w) (hb : Below w.heap.size w w') : WayR B v Ld w' :=
 ⟨L5.owns_of_block k.row fun q hq => hb.block q (k.row.lt q hq).2, fun y hy => L5.owns_below (k.rr y hy) hb, fun y hy => L5.owns_below (k.rk y hy) hb, k.ap⟩
theorem WayR.more {B : Nat} {v v' : Value} {Ld : List Lay} {y0 : Lay} {w0 w w' : World} {m : Nat} (k0 : WayR B v Ld w0) (hb0 : Below w0.heap.size w0 w) (hB : B <= w0.heap.size) (hm : m = Ld.length + 1) (ho : w'.ownsRow B 100 5 v' m (Ld.flatMap Lay.cells ++ y0.cells)) (hg : w.grownBy w' v.ownBlock)
 (yr : w.ownsRow w0.heap.size 9 1 y0.vr y0.n.recs.length (L5.svs y0.n.recs)) (yk : w.ownsRow w0.heap.size 3 1 y0.vk y0.n.kids.length (L5.ivs y0.n.kids)) : WayR B v' (Ld ++ [y0]) w' := by
 subst hm
 have k := k0.on hb0
 have row : ∀ {e : TypeId} {b : Nat} {u : Value} {n : Nat} {xs : List Value}, w.ownsRow b e 1 u n xs -> e ≠ 100 -> w'.ownsRow b e 1 u n xs := fun hr he => L5.owns_of_block hr fun q hq => hg.block q (hr.lt q hq).2 (fun e => rows_ne hr k.row he q hq e.symm)
 refine ⟨by rw [List.length_append, List.flatMap_append]; simpa using ho, fun y hy => ?_, fun y hy => ?_, ?_⟩
 · rcases List.mem_append.1 hy with hy | hy
   · exact row (k.rr y hy) (by decide)
   · cases List.mem_singleton.1 hy
     exact owns_weak (row yr (by decide)) hB
 · rcases List.mem_append.1 hy with hy | hy
   · exact row (k.rk y hy) (by decide)
   · cases List.mem_singleton.1 hy
     exact owns_weak (row yk (by decide)) hB
 · rw [List.pairwise_append]
   refine ⟨k.ap, by simp, fun y hy z hz => ?_⟩
   cases List.mem_singleton.1 hz
   exact ⟨fun q hq e => by have := ((k0.rr y hy).lt q hq).2; have := (yr.lt q e).1; omega, fun q hq e => by have := ((k0.rk y hy).lt q hq).2; have := (yk.lt q e).1; omega⟩
end Go.Proofs.YtpcmiholbcmmjaaGreat
