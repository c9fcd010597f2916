import Derived.Test.YteibhbnlcpejpaaGreatMBI
import Derived.Test.YteibhbnlcpejpaaGreatMBJ
set_option maxRecDepth 100000
set_option maxHeartbeats 4000000
namespace Go.Proofs.YteibhbnlcpejpaaGreat
open Go.RowKit
open Go.Maps (Keyed)
open Go.ChangeMaps (setBlock)
theorem pintKeyed: Keyed Tryz.prog 3 := Go.Maps.int_keyed Tryz.underlying3
theorem pkey {id: Int} (h: (Lit.int .i64 id).wf = true): ∃ l,keyOf Tryz.prog 3 (.int .i64 id) = some l := by
 simp [keyOf,mapKey,Tryz.underlying3,h]
theorem peqNil (w: World): (binOp .eql 168 (.map none) (.map none)).run Tryz.prog w = .ok (.bool true) w := by kernel_rfl
theorem pfindN {id: Int} (h: (Lit.int .i64 id).wf = true) (w: World): (Instr.findKey 3 (.int .i64 id) []).run Tryz.prog w = .ok none w := by
 obtain ⟨kl,hkl⟩ := pkey h
 rcases pintKeyed.find w hkl [] (fun e he => by cases he) with ⟨h, -⟩ | ⟨j,e, -, h, -⟩
 · exact h
 · simp at h
theorem pnew_walk (w: World): Calls Tryz.prog 24 #[] w fun e w' => e = .returned (.pointer (some ⟨w.heap.size,0,none⟩)) /\ w' = w.alloc (.cells #[.map none] 170) := by
 go_enter Tryz.func24,Tryz.ntmps24
 go_wp2
 go_ret
 exact ⟨rfl,rfl⟩
theorem phasN_walk (w: World) (bx: Nat) (hb: w.heap[bx]? = some (.cells #[.map none] 170 (0,0))) (id: Int) (hid: (Lit.int .i64 id).wf = true): Calls Tryz.prog 79 #[.pointer (some ⟨bx,0,none⟩), .int .i64 id] w fun e w' => e = .returned (.bool false) /\ Below w.heap.size w w' := by
 have c0: w.cell? ⟨bx,0,none⟩ = some (.map none) := by rw [cell_of_row _ _ _ _ _ _ hb]; rfl
 have hl := (Array.getElem?_eq_some_iff.1 hb).1
 have hz := fun W => Tryz.zeroValue78 W
 obtain ⟨kl,hkl⟩ := pkey hid
 have hlk: ∀ W,(Instr.lookup 168 (.map none) (.int .i64 id) true).run Tryz.prog W = .ok (.tuple #[.agg #[.slice none 0 0, .slice none 0 0], .bool false]) W := fun W => by
  simp [Instr.lookup,run_underlying Tryz.underlying168,hz,pfindN hid,pintKeyed.check W true hkl,Result.andThen]
 clear hb hz
 go_enter Tryz.func79,Tryz.ntmps79
 go_wp2
 go_ret
 exact ⟨rfl,Rw.below_alloc _ _⟩
def AddP (n: Nat) (k: CondL) (w: World) (bx: Nat) (id: Int) (e: Ending) (W: World): Prop := e = .returned (.int .i64 0) /\ ∃ (k': CondL) (m: Nat),W.heap[bx]? = some (.cells #[.map (some m)] 170 (0,0)) /\ MapAt Tryz.prog 3 W m [⟨.int .i64 id,cdV k',0⟩] 1 /\ w.heap.size <= m /\
 k'.ts = k.ts /\ k'.l.length = k.l.length /\ (∀ (j: Nat) x y,k.l[j]? = some x -> k'.l[j]? = some y -> LikeN n x y) /\ CdIn W k' /\ ((∀ q,k'.a = some q -> w.heap.size <= q.block) /\ (∀ q,k'.b = some q -> w.heap.size <= q.block) /\ ∀ x ∈ k'.l,∀ m,OffN (fun b => w.heap.size <= b) m x) /\ Only (· = bx) w W
structure AdI (w: World) (k: CondL) (bx: Nat) (w1 V: World): Prop where
 only: Only (· = bx) w V
 x: V.heap[bx]? = some (.cells #[.map (some w1.heap.size)] 170 (0,0))
 c: V.heap[w.heap.size]? = some (.cells #[.slice k.a k.ts.length k.c, .slice k.b k.l.length k.d] 78 (0,0))
 m: MapAt Tryz.prog 3 V w1.heap.size [] 0
theorem AdI.mk' {w w1: World} {k: CondL} {bx: Nat} (hB: Below w.heap.size w w1) (hbx: bx < w.heap.size) (hx: w1.heap[bx]? = some (.cells #[.map none] 170 (0,0))) (hc: w1.heap[w.heap.size]? = some (.cells #[.slice k.a k.ts.length k.c, .slice k.b k.l.length k.d] 78 (0,0))) :
 AdI w k bx w1 ((w1.setCell ⟨bx,0,none⟩ (.map (some w1.heap.size))).alloc (.map #[] 0)) := by
 have hs := hB.size
 have hl := (Array.getElem?_eq_some_iff.1 hc).1
 have hz: (w1.setCell ⟨bx,0,none⟩ (.map (some w1.heap.size))).heap.size = w1.heap.size := by simp
 refine ⟨(Only.setCell (S := fun q => q = bx) (Only.of_below hB) (p := ⟨bx,0,none⟩) (Or.inr rfl) _).alloc _, ?_, ?_,⟨?_,fun x hx => (by cases hx), .nil,fun x hx => (by cases hx)⟩⟩
 · have := heap_setCell_same w1 bx 0 _ _ (.map (some w1.heap.size)) hx
   exact (Below.heap_alloc _ _ _ (by omega)).trans (by simpa using this)
 · exact (Below.heap_alloc _ _ _ (by omega)).trans ((heap_setCell_other _ _ _ _ (show w.heap.size ≠ bx by omega)).trans hc)
 · exact Rw.heap_new' _ _ hz.symm
theorem set_other {W: World} {b k: Nat} {o o': Obj} (_: W.heap[b]? = some o) (h: k ≠ b): (setBlock W b o').heap[k]? = W.heap[k]? := by
 show (W.heap.set! b o')[k]? = _
 simp [Ne.symm h]
theorem add_end {n: Nat} {k k': CondL} {w w1 V w5: World} {bx: Nat} {id: Int} {o: Obj} (hB: Below w.heap.size w w1) (hbx: bx < w.heap.size) (hV: AdI w k bx w1 V) (hb: Below V.heap.size V w5) (hts: k'.ts = k.ts) (hle: k'.l.length = k.l.length) (hlk: ∀ (j: Nat) x y,k.l[j]? = some x -> k'.l[j]? = some y -> LikeN n x y) (hci: CdIn w5 k')
 (hoff: (∀ q,k'.a = some q -> V.drew.heap.size <= q.block) /\ (∀ q,k'.b = some q -> V.drew.heap.size <= q.block) /\ ∀ x ∈ k'.l,∀ m,OffN (fun b => V.drew.heap.size <= b) m x) (hma: MapAt Tryz.prog 3 (setBlock w5 w1.heap.size o) w1.heap.size [⟨.int .i64 id,cdV k',0⟩] 1): AddP n k w bx id (.returned (.int .i64 0)) (setBlock w5 w1.heap.size o) := by
 have hm: w1.heap.size < V.heap.size := (Array.getElem?_eq_some_iff.1 hV.m.heap).1
 have hs := hB.size
 have hm5 := (hb.block _ hm).trans hV.m.heap
 have hz: w5.heap.size <= (setBlock w5 w1.heap.size o).heap.size := by simp [setBlock]
 have hoff': (∀ q,k'.a = some q -> V.heap.size <= q.block) /\ (∀ q,k'.b = some q -> V.heap.size <= q.block) /\ ∀ x ∈ k'.l,∀ m,OffN (fun b => V.heap.size <= b) m x := hoff
 have hVs := hV.only.size
 refine ⟨rfl,k',w1.heap.size,(set_other hm5 (by omega)).trans ((hb.block _ (by omega)).trans hV.x),hma,hs,hts,hle,hlk,⟨hci.ts.turn hz fun b _ e _ => set_other hm5 (by have := hoff'.1 _ e; simp only at this; omega),hci.ok,hci.ns.turn hz fun b _ e _ => set_other hm5 (by have := hoff'.2.1 _ e; simp only at this; omega),hci.len,fun x hx m => (hci.ins x hx m).turn (hoff'.2.2 x hx m) hz fun b _ hb => set_other hm5 (by omega)⟩,⟨fun q hq => by have := hoff'.1 q hq; omega,fun q hq => by have := hoff'.2.1 q hq; omega,fun x hx m => (hoff'.2.2 x hx m).mono fun b hb => by omega⟩, ?_⟩
 have h1: Only (· = bx) w w5 := hV.only.trans ((Only.of_below hb).weaken fun _ _ x => x)
 exact ⟨h1.os,h1.tape,h1.output,Nat.le_trans h1.size hz,fun q hq hn => (set_other hm5 (by omega)).trans (h1.block q hq hn)⟩
set_option linter.unusedSimpArgs false in
theorem paddM_walk (n: Nat) (hn: n <= 65536) (k: CondL) {w: World} (bx: Nat) (hb: w.heap[bx]? = some (.cells #[.map none] 170 (0,0))) (id: Int) (hid: (Lit.int .i64 id).wf = true) (hnx: ∀ W,Only (· = bx) w W -> CdIn W k) (hts: k.ts.length <= 1000) (hd: ∀ x ∈ k.l,deepN n x = false) (ho: ∀ x ∈ k.l,OpN n x) :
 Calls Tryz.prog 26 #[.pointer (some ⟨bx,0,none⟩), .int .i64 id,cdV k] w (AddP n k w bx id) := by
 have HH := Rw.dh (fun W (hb': Below w.heap.size w W) => phasN_walk W bx ((hb'.block _ (Array.getElem?_eq_some_iff.1 hb).1).trans hb) id hid)
 have heq := peqNil
 have hmk := fun W => run_makeMap (P := Tryz.prog) 168 W
 have HI := Rw.dh hnx
 clear hnx
 unfold cdV
 go_enter Tryz.func26,Tryz.ntmps26
 go_wp2_with fail
 refine (HH.out _ (Rw.below_alloc w _)).mono ?_
 rintro e w1 ⟨rfl,hb1⟩
 have hB1 := Rw.dh (below_on (Rw.below_alloc w _) hb1)
 have hk1 := (hb1.block w.heap.size (by simp)).trans (Rw.heap_new w (.cells #[.slice k.a k.ts.length k.c, .slice k.b k.l.length k.d] 78))
 have hx1 := (hB1.out.block bx (Array.getElem?_eq_some_iff.1 hb).1).trans hb
 have c0: w1.cell? ⟨bx,0,none⟩ = some (.map none) := by rw [cell_of_row _ _ _ _ _ _ hx1]; rfl
 have f0 := fun o => frozen_of_row _ _ o _ _ hx1
 have d0: w1.cell? ⟨w.heap.size,0,none⟩ = some (.slice k.a k.ts.length k.c) := by rw [cell_of_row _ _ _ _ _ _ hk1]; rfl
 have d1: w1.cell? ⟨w.heap.size,1,none⟩ = some (.slice k.b k.l.length k.d) := by rw [cell_of_row _ _ _ _ _ _ hk1]; rfl
 have hl1 := (Array.getElem?_eq_some_iff.1 hx1).1
 go_wp2_with fail
 have hbx: bx < w.heap.size := (Array.getElem?_eq_some_iff.1 hb).1
 have hne: bx ≠ w.heap.size := by omega
 refine Rw.to_letter (F := fun V => AdI w k bx w1 V) (AdI.mk' hB1.out hbx hx1 hk1) ?_
 intro V hV
 have HV := Rw.dh hV
 have KS: Hid (∀ W',Below V.heap.size V W' -> (fun W => W.cell? ⟨bx,0,none⟩ = some (.map (some w1.heap.size)) /\ W.cell? ⟨w.heap.size,0,none⟩ = some (.slice k.a k.ts.length k.c) /\ W.cell? ⟨w.heap.size,1,none⟩ = some (.slice k.b k.l.length k.d)) W') := fun W' hb' => by
  have g1 := (hb'.block _ (Array.getElem?_eq_some_iff.1 HV.out.x).1).trans HV.out.x
  have g2 := (hb'.block _ (Array.getElem?_eq_some_iff.1 HV.out.c).1).trans HV.out.c
  exact ⟨by rw [cell_of_row _ _ _ _ _ _ g1]; rfl,by rw [cell_of_row _ _ _ _ _ _ g2]; rfl,by rw [cell_of_row _ _ _ _ _ _ g2]; rfl⟩
 have hHeld: (fun W => W.cell? ⟨bx,0,none⟩ = some (.map (some w1.heap.size)) /\ W.cell? ⟨w.heap.size,0,none⟩ = some (.slice k.a k.ts.length k.c) /\ W.cell? ⟨w.heap.size,1,none⟩ = some (.slice k.b k.l.length k.d)) V.drew := KS.out _ (Below.refl _ V).drew
 have HC := Rw.dh (copied_walk n hn k (w := V.drew) (HI.out V.drew HV.out.only.drew) hts hd ho)
 unfold cdV at HC
 clear hV c0 f0 d0 d1 hl1 hx1 hk1 hb1 hd ho heq hmk
 refine HeT.begin_ (fun W => W.cell? ⟨bx,0,none⟩ = some (.map (some w1.heap.size)) /\ W.cell? ⟨w.heap.size,0,none⟩ = some (.slice k.a k.ts.length k.c) /\ W.cell? ⟨w.heap.size,1,none⟩ = some (.slice k.b k.l.length k.d)) 7 (by kernel_rfl) ?_
 refine HeT.take (i := 0) (v := ?_) rfl (by kernel_rfl) (by kernel_rfl) (by kernel_rfl) (by kernel_rfl) (by decide) (fun _ _ _ h => h) (Or.inl ⟨by rfl, ?_⟩) hHeld ?_
 rotate_left
 · intro w' hSw
   obtain ⟨s0,s1,s2⟩ := hSw
   go_simp
   (try with_reducible rfl)
 (try simp only [Act.put,List.getElem_toArray,List.getElem_cons_succ,List.getElem_cons_zero,HeT.pT])
 refine HeT.take (i := 1) (v := ?_) rfl (by kernel_rfl) (by kernel_rfl) (by kernel_rfl) (by kernel_rfl) (by decide) (fun _ _ _ h => h) (Or.inl ⟨by rfl, ?_⟩) hHeld ?_
 rotate_left
 · intro w' hSw
   obtain ⟨s0,s1,s2⟩ := hSw
   go_simp
   (try with_reducible rfl)
 (try simp only [Act.put,List.getElem_toArray,List.getElem_cons_succ,List.getElem_cons_zero,HeT.pT])
 refine HeT.take (i := 2) (v := ?_) rfl (by kernel_rfl) (by kernel_rfl) (by kernel_rfl) (by kernel_rfl) (by decide) (fun _ _ _ h => h) (Or.inl ⟨by rfl, ?_⟩) hHeld ?_
 rotate_left
 · intro w' hSw
   obtain ⟨s0,s1,s2⟩ := hSw
   go_simp
   (try with_reducible rfl)
 (try simp only [Act.put,List.getElem_toArray,List.getElem_cons_succ,List.getElem_cons_zero,HeT.pT])
 refine HeT.take (i := 3) (v := ?_) rfl (by kernel_rfl) (by kernel_rfl) (by kernel_rfl) (by kernel_rfl) (by decide) (fun _ _ _ h => h) (Or.inl ⟨by rfl, ?_⟩) hHeld ?_
 rotate_left
 · intro w' hSw
   obtain ⟨s0,s1,s2⟩ := hSw
   go_simp
   (try with_reducible rfl)
 (try simp only [Act.put,List.getElem_toArray,List.getElem_cons_succ,List.getElem_cons_zero,HeT.pT])
 refine HeT.take (i := 4) (v := ?_) rfl (by kernel_rfl) (by kernel_rfl) (by kernel_rfl) (by kernel_rfl) (by decide) (fun _ _ _ h => h) (Or.inl ⟨by rfl, ?_⟩) hHeld ?_
 rotate_left
 · intro w' hSw
   obtain ⟨s0,s1,s2⟩ := hSw
   go_simp
   (try with_reducible rfl)
 (try simp only [Act.put,List.getElem_toArray,List.getElem_cons_succ,List.getElem_cons_zero,HeT.pT])
 refine HeT.take (i := 5) (v := ?_) rfl (by kernel_rfl) (by kernel_rfl) (by kernel_rfl) (by kernel_rfl) (by decide) (fun _ _ _ h => h) (Or.inl ⟨by rfl, ?_⟩) hHeld ?_
 rotate_left
 · intro w' hSw
   obtain ⟨s0,s1,s2⟩ := hSw
   go_simp
   (try with_reducible rfl)
 (try simp only [Act.put,List.getElem_toArray,List.getElem_cons_succ,List.getElem_cons_zero,HeT.pT])
 refine HeT.one (i := 6) (by kernel_rfl) rfl ?_
 intro K hK
 go_simp
 refine HC.out.mono ?_
 rintro e w5 ⟨k',rfl,hts',hle,hlk,hci,hoff,hb5⟩
 have hb6: Below V.heap.size V w5 := (Below.refl _ V).drew.trans hb5
 refine hK _ _ (KS.out _ hb6) ?_
 clear hK K
 (try simp only [Act.put,List.getElem_toArray,List.getElem_cons_succ,List.getElem_cons_zero,HeT.pT])
 refine HeT.rest2 (k := 7) rfl (by decide) (by kernel_rfl) ?_
 simp only [List.drop_succ_cons,List.drop_zero]
 have hm5: MapAt Tryz.prog 3 w5 w1.heap.size [] 0 := HV.out.m.turn (hb6.block _ (Array.getElem?_eq_some_iff.1 HV.out.m.heap).1)
 obtain ⟨kl,hkl⟩ := pkey hid
 rcases map_store hm5 pintKeyed Tryz.underlying168 hkl (cdV k') with ⟨-, hup,hma⟩ | ⟨j,x,hx, -⟩
 · refine wpList_mapUpdate_eq rfl _ _ _ 168 rfl (by simpa [Act.eval] using hup) ?_
   have HE := Rw.dh (add_end hB1.out hbx HV.out hb6 hts' hle hlk hci hoff hma)
   clear hup hma hm5 hts' hle hlk hci hoff hb5 hb6 KS hHeld HV HC HI HH
   go_wp2_with fail
   refine NoPanic.normal ?_
   go_wp2
   go_ret
   exact HE.out
 · simp at hx
end Go.Proofs.YteibhbnlcpejpaaGreat
