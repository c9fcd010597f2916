import Derived.Test.YteibhbnlcpejpaaGreatMBN
set_option maxRecDepth 100000
set_option maxHeartbeats 4000000
namespace Go.Proofs.YteibhbnlcpejpaaGreat
open Go.RowKit
theorem pcount {P: Program} {t k e ty: TypeId} (ht: P.underlying t = some (.map k e)) {b: Nat} {es: Array MapEntry} {clock: Nat} {w: World} (hb: w.heap[b]? = some (.map es clock)): (Builtin.len_ #[t] ty #[.map (some b)]).run P w = .ok (.int .i64 es.size) w := by
 simp [Builtin.len_,run_underlying ht,MapKept.run_getObj_map hb,Result.andThen]
 rfl
theorem plen_walk {L: List EntL} {clock: Nat} {w: World} {bx m: Nat} (hb: w.heap[bx]? = some (.cells #[.map (some m)] 170 (0,0))) (hM: MapAt Tryz.prog 3 w m (L.map entM) clock) :
 Calls Tryz.prog 31 #[.pointer (some ⟨bx,0,none⟩)] w fun e w' => e = .returned (.int .i64 L.length) /\ Below w.heap.size w w' := by
 have c0: w.cell? ⟨bx,0,none⟩ = some (.map (some m)) := by rw [cell_of_row _ _ _ _ _ _ hb]; rfl
 have hl := (Array.getElem?_eq_some_iff.1 hb).1
 have hlen := fun ty => pcount (P := Tryz.prog) (ty := ty) Tryz.underlying168 hM.heap
 clear hb hM
 go_enter Tryz.func31,Tryz.ntmps31
 go_wp2
 go_ret
 exact ⟨by simp,Below.refl _ _⟩
theorem plenN_walk {w: World} {bx: Nat} (hb: w.heap[bx]? = some (.cells #[.map none] 170 (0,0))) :
 Calls Tryz.prog 31 #[.pointer (some ⟨bx,0,none⟩)] w fun e w' => e = .returned (.int .i64 0) /\ Below w.heap.size w w' := by
 have c0: w.cell? ⟨bx,0,none⟩ = some (.map none) := by rw [cell_of_row _ _ _ _ _ _ hb]; rfl
 have hl := (Array.getElem?_eq_some_iff.1 hb).1
 have hlen: ∀ ty,(Builtin.len_ #[168] ty #[.map none]).run Tryz.prog w = .ok (.int .i64 0) w := fun ty => by simp [Builtin.len_,run_underlying Tryz.underlying168,Result.andThen]; rfl
 clear hb
 go_enter Tryz.func31,Tryz.ntmps31
 go_wp2
 go_ret
 exact ⟨rfl,Below.refl _ _⟩
end Go.Proofs.YteibhbnlcpejpaaGreat
