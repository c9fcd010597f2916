import Derived.Maps.OwnOps
import Derived.Maps.Keyed
import Derived.WalkKit
import Derived.Below
import Derived.Test.YteibhbnlcpejpaaGreatProg
namespace Go.Proofs.YteibhbnlcpejpaaGreat
open Go.RowKit
open Go.Maps (Keyed)
open Go.ChangeMaps (setBlock heap_setBlock_same heap_setBlock_other modify_eq_set)
structure MapAt (P: Program) (k: TypeId) (W: World) (b: Nat) (es: List MapEntry) (clock: Nat): Prop where
 heap: W.heap[b]? = some (.map es.toArray clock)
 keys: ∀ x ∈ es,∃ l,keyOf P k x.key = some l
 born: (es.map (·.born)).Nodup /\ ∀ x ∈ es,x.born < clock
theorem MapAt.lt {P: Program} {k: TypeId} {W: World} {b: Nat} {es: List MapEntry} {clock: Nat} (h: MapAt P k W b es clock): b < W.heap.size := (Array.getElem?_eq_some_iff.1 h.heap).1
theorem MapAt.turn {P: Program} {k: TypeId} {W W': World} {b: Nat} {es: List MapEntry} {clock: Nat} (h: MapAt P k W b es clock) (hb: W'.heap[b]? = W.heap[b]?): MapAt P k W' b es clock := ⟨hb.trans h.heap,h.keys,h.born⟩
theorem map_look {P: Program} {k e t: TypeId} {W: World} {b: Nat} {es: List MapEntry} {clock: Nat} (h: MapAt P k W b es clock) (K: Keyed P k) (ht: P.underlying t = some (.map k e)) {z: Value} (hz: (zeroValue e).run P W = .ok z W) {key: Value} {kl: Lit} (hkey: keyOf P k key = some kl) (ok: Bool) :
 ((Instr.lookup t (.map (some b)) key ok).run P W = .ok (if ok then .tuple #[z, .bool false] else z) W /\ ∀ x ∈ es,x.key ≠ key) \/
 ∃ (j: Nat) (x: MapEntry),(Instr.lookup t (.map (some b)) key ok).run P W = .ok (if ok then .tuple #[x.val, .bool true] else x.val) W /\ es[j]? = some x /\ x.key = key := by
 rcases K.find W hkey es h.keys with ⟨h1,h2⟩ | ⟨j,x,h1,h2,h3⟩
 · exact Or.inl ⟨by simp [Instr.lookup,run_underlying ht,MapKept.run_getObj_map h.heap,K.check W _ hkey,h1,hz,Result.andThen],h2⟩
 · exact Or.inr ⟨j,x,by simp [Instr.lookup,run_underlying ht,MapKept.run_getObj_map h.heap,K.check W _ hkey,h1,Result.andThen],h2,h3⟩
theorem map_store {P: Program} {k e t: TypeId} {W: World} {b: Nat} {es: List MapEntry} {clock: Nat} (h: MapAt P k W b es clock) (K: Keyed P k) (ht: P.underlying t = some (.map k e)) {key: Value} {kl: Lit} (hkey: keyOf P k key = some kl) (val: Value) :
 ((∀ x ∈ es,x.key ≠ key) /\ (Instr.mapUpdate t (.map (some b)) key val).run P W = .ok () (setBlock W b (.map (es ++ [MapEntry.mk key val clock]).toArray (clock + 1))) /\ MapAt P k (setBlock W b (.map (es ++ [MapEntry.mk key val clock]).toArray (clock + 1))) b (es ++ [MapEntry.mk key val clock]) (clock + 1)) \/
 ∃ (j: Nat) (x: MapEntry),es[j]? = some x /\ x.key = key /\ (Instr.mapUpdate t (.map (some b)) key val).run P W = .ok () (setBlock W b (.map (es.set j { x with val := val }).toArray clock)) /\ MapAt P k (setBlock W b (.map (es.set j { x with val := val }).toArray clock)) b (es.set j { x with val := val }) clock := by
 rcases K.find W hkey es h.keys with ⟨h1,h2⟩ | ⟨j,x,h1,h2,h3⟩
 · refine Or.inl ⟨h2, ?_,heap_setBlock_same h.heap _,fun y hy => ?_, ?_,fun y hy => ?_⟩
   · simp [Instr.mapUpdate,run_underlying ht,MapKept.run_getObj_map h.heap,K.check W false hkey,h1,MapKept.run_setObj_map _ h.heap,Result.andThen,setBlock]
   · rcases List.mem_append.1 hy with hy | hy
     · exact h.keys y hy
     · simp at hy; subst hy; exact ⟨kl,hkey⟩
   · rw [List.map_append,List.nodup_append]
     refine ⟨h.born.1,by simp,fun a ha b hb => ?_⟩
     simp at hb
     subst hb
     obtain ⟨x,hx,rfl⟩ := List.mem_map.1 ha
     have := h.born.2 x hx
     omega
   · rcases List.mem_append.1 hy with hy | hy
     · have := h.born.2 y hy; omega
     · simp at hy; subst hy; exact Nat.lt_succ_self _
 · refine Or.inr ⟨j,x,h2,h3, ?_,heap_setBlock_same h.heap _,fun y hy => ?_, ?_,fun y hy => ?_⟩
   · have hj: es.toArray[j]? = some x := by simpa using h2
     have e: es.modify j (fun e' => { key := key,val := val,born := e'.born }) = es.set j { key := key,val := val,born := x.born } := modify_eq_set _ _ _ _ h2
     simp only [Instr.mapUpdate,Sem.run_bind,run_underlying ht,MapKept.run_getObj_map h.heap,K.check W false hkey,h1,Result.andThen_ok]
     simp [hj,h3,K.stays W hkey,MapKept.run_setObj_map _ h.heap,Result.andThen,setBlock,e]
   · rcases List.mem_or_eq_of_mem_set hy with hy | rfl
     · exact h.keys y hy
     · exact h.keys x (List.mem_of_getElem? h2)
   · rw [List.map_set]
     have e: (es.map (·.born)).set j x.born = es.map (·.born) := by
      refine List.ext_getElem? fun i => ?_
      rw [List.getElem?_set]
      split
      · rename_i hij
        subst hij
        have hl := (List.getElem?_eq_some_iff.1 h2).1
        rw [if_pos (by simpa using hl),List.getElem?_map,h2]; rfl
      · rfl
     rw [e]; exact h.born.1
   · rcases List.mem_or_eq_of_mem_set hy with hy | rfl
     · exact h.born.2 y hy
     · exact h.born.2 x (List.mem_of_getElem? h2)
theorem wpList_mapUpdate_eq {P: Program} {W W': World} {ops: Array Oper} {rest: List Oper} {o: Oper} {a: Act} {Q: Exit -> Act -> World -> Prop}
 (hg: o.guard = none) (m x v: Operand) (t: TypeId) (hop: o.op = Op.mapUpdate t m x v) (hrun: (Instr.mapUpdate t (a.eval m) (a.eval x) (a.eval v)).run P W = .ok () W')
 (hK: wpList P ops Q rest (a.put o.dst undef) W'): wpList P ops Q (o :: rest) a W := by
 refine wpList_plain hg fun K' hK' => ?_
 unfold Oper.wp
 simp [execOp,hop,hrun,Result.andThen]
 exact hK' _ _ hK
end Go.Proofs.YteibhbnlcpejpaaGreat
namespace Go.Proofs.YteibhbnlcpejpaaGreat
open Go.RowKit
open Go.Maps (Keyed)
open Go.ChangeMaps (setBlock heap_setBlock_same heap_setBlock_other)
theorem map_drop {P: Program} {k e t: TypeId} {W: World} {b: Nat} {es: List MapEntry} {clock: Nat} (h: MapAt P k W b es clock) (K: Keyed P k) (ht: P.underlying t = some (.map k e)) {key: Value} {kl: Lit} (hkey: keyOf P k key = some kl) (ty: TypeId) :
 ((∀ x ∈ es,x.key ≠ key) /\ (Builtin.delete_ #[t,k] ty #[.map (some b),key]).run P W = .ok (.tuple #[]) (setBlock W b (.map es.toArray clock)) /\ MapAt P k (setBlock W b (.map es.toArray clock)) b es clock) \/
 ∃ (j: Nat) (x: MapEntry),es[j]? = some x /\ x.key = key /\ (Builtin.delete_ #[t,k] ty #[.map (some b),key]).run P W = .ok (.tuple #[]) (setBlock W b (.map (es.eraseIdx j).toArray clock)) /\ MapAt P k (setBlock W b (.map (es.eraseIdx j).toArray clock)) b (es.eraseIdx j) clock := by
 rcases K.find W hkey es h.keys with ⟨h1,h2⟩ | ⟨j,x,h1,h2,h3⟩
 · refine Or.inl ⟨h2, ?_,heap_setBlock_same h.heap _,h.keys,h.born⟩
   simp [Builtin.delete_,run_underlying ht,MapKept.run_getObj_map h.heap,K.check W _ hkey,h1,MapKept.run_setObj_map _ h.heap,Result.andThen,setBlock]
 · refine Or.inr ⟨j,x,h2,h3, ?_,heap_setBlock_same h.heap _,fun y hy => h.keys y ((List.eraseIdx_sublist _ _).subset hy),h.born.1.sublist ((List.eraseIdx_sublist _ _).map _),fun y hy => h.born.2 y ((List.eraseIdx_sublist _ _).subset hy)⟩
   have hjl := (List.getElem?_eq_some_iff.1 h2).1
   have e: es.toArray.eraseIdxIfInBounds j = (es.eraseIdx j).toArray := by
    unfold Array.eraseIdxIfInBounds
    rw [dif_pos (by simpa using hjl)]
    simp
   simp only [Builtin.delete_,List.getElem?_toArray,List.getElem?_cons_zero,List.getElem?_cons_succ,Sem.run_bind,run_underlying ht,MapKept.run_getObj_map h.heap,K.check W _ hkey,h1,Result.andThen_ok]
   simp [MapKept.run_setObj_map _ h.heap,Result.andThen,setBlock,e]
end Go.Proofs.YteibhbnlcpejpaaGreat
