import Derived.Test.YteibhbnlcpejpaaGreatMBN
set_option maxRecDepth 100000
set_option maxHeartbeats 4000000
namespace Go.Proofs.YteibhbnlcpejpaaGreat
open Go.RowKit
open Go.ChangeMaps (setBlock)
theorem map_erase {α β: Type} (f: α -> β): ∀ (l: List α) (j: Nat),(l.eraseIdx j).map f = (l.map f).eraseIdx j
 | [],_ => rfl
 | _ :: _,0 => rfl
 | x :: l,j + 1 => by simp [map_erase f l j]
def nameV: Value := .int .i64 2
theorem pcutN_walk (w: World) (bx: Nat) (hb: w.heap[bx]? = some (.cells #[.map none] 170 (0,0))) (id: Int) (hid: (Lit.int .i64 id).wf = true) :
 Calls Tryz.prog 28 #[.pointer (some ⟨bx,0,none⟩), .int .i64 id] w fun e w' => e = .returned nameV /\ Below w.heap.size w w' := by
 have HH := Rw.dh (phasN_walk w bx hb id hid)
 have hl := (Array.getElem?_eq_some_iff.1 hb).1
 clear hb
 go_enter Tryz.func28,Tryz.ntmps28
 go_wp2_with fail
 refine HH.out.mono ?_
 rintro e w1 ⟨rfl,hb1⟩
 have hB1 := Rw.dh hb1
 clear hb1
 go_wp2
 go_ret
 exact ⟨rfl,hB1.out⟩
theorem pcutF_walk {L: List EntL} {clock: Nat} {w: World} {bx m: Nat} (hb: w.heap[bx]? = some (.cells #[.map (some m)] 170 (0,0))) (hM: MapAt Tryz.prog 3 w m (L.map entM) clock) (id: Int) (hid: (Lit.int .i64 id).wf = true) (hin: hasL L id = false) :
 Calls Tryz.prog 28 #[.pointer (some ⟨bx,0,none⟩), .int .i64 id] w fun e w' => e = .returned nameV /\ Below w.heap.size w w' := by
 have HH := Rw.dh (phas_walk hb hM id hid)
 have hl := (Array.getElem?_eq_some_iff.1 hb).1
 clear hb hM
 go_enter Tryz.func28,Tryz.ntmps28
 go_wp2_with fail
 refine HH.out.mono ?_
 rintro e w1 ⟨rfl,hb1⟩
 rw [hin]
 have hB1 := Rw.dh hb1
 clear hb1
 go_wp2
 go_ret
 exact ⟨rfl,hB1.out⟩
def CutQ (w: World) (L: List EntL) (clock m: Nat) (j: Nat) (e: Ending) (W: World): Prop :=
 e = .returned (.int .i64 0) /\ MapAt Tryz.prog 3 W m ((L.eraseIdx j).map entM) clock /\ Only (· = m) w W
theorem pcut_walk {L: List EntL} {clock: Nat} {w: World} {bx m: Nat} (hb: w.heap[bx]? = some (.cells #[.map (some m)] 170 (0,0))) (hM: MapAt Tryz.prog 3 w m (L.map entM) clock) (id: Int) (hid: (Lit.int .i64 id).wf = true) (hn: (L.map fun x => x.1).Nodup) {j: Nat} {x: EntL} (hj: L[j]? = some x) (hx: x.1 = id) :
 Calls Tryz.prog 28 #[.pointer (some ⟨bx,0,none⟩), .int .i64 id] w (CutQ w L clock m j) := by
 have hin: hasL L id = true := List.any_eq_true.2 ⟨x,List.mem_of_getElem? hj,by simpa using hx⟩
 have HH := Rw.dh (phas_walk hb hM id hid)
 have hl := (Array.getElem?_eq_some_iff.1 hb).1
 obtain ⟨kl,hkl⟩ := pkey hid
 have HD: Hid (∀ W,Below w.heap.size w W -> ∃ W',(∀ ty,(Builtin.delete_ #[168,3] ty #[.map (some m), .int .i64 id]).run Tryz.prog W = .ok (.tuple #[]) W') /\ MapAt Tryz.prog 3 W' m ((L.eraseIdx j).map entM) clock /\ Only (· = m) w W') := fun W hB => by
  have hM' := hM.turn (hB.block _ hM.lt)
  rcases map_drop hM' pintKeyed Tryz.underlying168 hkl 0 with ⟨h1, -, -⟩ | ⟨j',x',h1,h2,h3,h4⟩
  · have := h1 _ (List.mem_map_of_mem (List.mem_of_getElem? hj))
    simp [entM,hx] at this
  · rw [List.getElem?_map] at h1
    obtain ⟨y,hy,rfl⟩ := Option.map_eq_some_iff.1 h1
    have hye: y.1 = id := by simpa [entM] using h2
    have: j' = j := at_one hn hy hj (by rw [hye,hx])
    subst this
    refine ⟨_,fun ty => h3, ?_, ?_⟩
    · rw [map_erase]
      exact h4
    · refine ⟨hB.os,hB.tape,hB.output,by simpa [setBlock] using hB.size,fun q hq hne => (set_other hM'.heap hne).trans (hB.block q hq)⟩
 have HC: Hid (∀ W,Below w.heap.size w W -> W.cell? ⟨bx,0,none⟩ = some (.map (some m))) := fun W hB => by
  have g1 := (hB.block _ hl).trans hb
  rw [cell_of_row _ _ _ _ _ _ g1]; rfl
 clear hb hM
 go_enter Tryz.func28,Tryz.ntmps28
 go_wp2_with fail
 refine HH.out.mono ?_
 rintro e w1 ⟨rfl,hb1⟩
 rw [hin]
 have c0 := HC.out w1 hb1
 obtain ⟨W',hrun,hM2,hO⟩ := HD.out w1 hb1
 have HM2 := Rw.dh hM2
 have HO := Rw.dh hO
 have hl1: bx < w1.heap.size := Nat.lt_of_lt_of_le hl hb1.size
 clear hb1 hM2 hO
 go_wp2_with fail
 go_ret
 exact ⟨rfl,HM2.out,HO.out⟩
end Go.Proofs.YteibhbnlcpejpaaGreat
