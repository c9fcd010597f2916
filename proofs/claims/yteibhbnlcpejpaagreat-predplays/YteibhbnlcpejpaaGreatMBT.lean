import Derived.Test.YteibhbnlcpejpaaGreatMBN
set_option maxRecDepth 100000
set_option maxHeartbeats 4000000
namespace Go.Proofs.YteibhbnlcpejpaaGreat
open Go.RowKit
open Go.ChangeMaps (setBlock)
def AddQ (n: Nat) (k: CondL) (w: World) (L: List EntL) (clock bx m: Nat) (id: Int) (e: Ending) (W: World): Prop := e = .returned (.int .i64 0) /\ ∃ k': CondL,W.heap[bx]? = some (.cells #[.map (some m)] 170 (0,0)) /\ MapAt Tryz.prog 3 W m ((L ++ [(id,k',clock)]).map entM) (clock + 1) /\
 k'.ts = k.ts /\ k'.l.length = k.l.length /\ (∀ (j: Nat) x y,k.l[j]? = some x -> k'.l[j]? = some y -> LikeN n x y) /\ CdIn W k' /\ ((∀ q,k'.a = some q -> w.heap.size <= q.block) /\ (∀ q,k'.b = some q -> w.heap.size <= q.block) /\ ∀ x ∈ k'.l,∀ m,OffN (fun b => w.heap.size <= b) m x) /\ Only (· = m) w W
theorem add_endQ {n: Nat} {k k': CondL} {w w1 w5: World} {L: List EntL} {clock bx m: Nat} {id: Int} {o: Obj} (hB: Below w.heap.size w w1) (hb0: w.heap[bx]? = some (.cells #[.map (some m)] 170 (0,0))) (hM: MapAt Tryz.prog 3 w m (L.map entM) clock) (hb: Below w1.heap.size w1 w5) (hts: k'.ts = k.ts) (hle: k'.l.length = k.l.length) (hlk: ∀ (j: Nat) x y,k.l[j]? = some x -> k'.l[j]? = some y -> LikeN n x y) (hci: CdIn w5 k')
 (hoff: (∀ q,k'.a = some q -> w1.drew.heap.size <= q.block) /\ (∀ q,k'.b = some q -> w1.drew.heap.size <= q.block) /\ ∀ x ∈ k'.l,∀ m,OffN (fun b => w1.drew.heap.size <= b) m x) (hma: MapAt Tryz.prog 3 (setBlock w5 m o) m (L.map entM ++ [MapEntry.mk (.int .i64 id) (cdV k') clock]) (clock + 1)): AddQ n k w L clock bx m id (.returned (.int .i64 0)) (setBlock w5 m o) := by
 have hm: m < w.heap.size := hM.lt
 have hbx: bx < w.heap.size := (Array.getElem?_eq_some_iff.1 hb0).1
 have hs := hB.size
 have h05: Below w.heap.size w w5 := hB.trans (hb.mono hs)
 have hm5 := (h05.block _ hm).trans hM.heap
 have hbm: bx ≠ m := fun e => by rw [e,hM.heap] at hb0; cases hb0
 have hz: w5.heap.size <= (setBlock w5 m o).heap.size := by simp [setBlock]
 have hoff': (∀ q,k'.a = some q -> w1.heap.size <= q.block) /\ (∀ q,k'.b = some q -> w1.heap.size <= q.block) /\ ∀ x ∈ k'.l,∀ m,OffN (fun b => w1.heap.size <= b) m x := hoff
 refine ⟨rfl,k',(set_other hm5 hbm).trans ((h05.block _ hbx).trans hb0),by rw [List.map_append]; exact hma,hts,hle,hlk,⟨hci.ts.turn hz fun b _ e _ => set_other hm5 (by have := hoff'.1 _ e; simp only at this; omega),hci.ok,hci.ns.turn hz fun b _ e _ => set_other hm5 (by have := hoff'.2.1 _ e; simp only at this; omega),hci.len,fun x hx m => (hci.ins x hx m).turn (hoff'.2.2 x hx m) hz fun b _ hb => set_other hm5 (by omega)⟩,⟨fun q hq => by have := hoff'.1 q hq; omega,fun q hq => by have := hoff'.2.1 q hq; omega,fun x hx m => (hoff'.2.2 x hx m).mono fun b hb => by omega⟩, ?_⟩
 exact ⟨h05.os,h05.tape,h05.output,Nat.le_trans h05.size hz,fun q hq hn => (set_other hm5 hn).trans (h05.block q hq)⟩
theorem peqMap (w: World) (m: Nat): (binOp .eql 168 (.map (some m)) (.map none)).run Tryz.prog w = .ok (.bool false) w := by kernel_rfl
set_option linter.unusedSimpArgs false in
theorem padd_walk (n: Nat) (hn: n <= 65536) (k: CondL) {L: List EntL} {clock: Nat} {w: World} {bx m: Nat} (hb: w.heap[bx]? = some (.cells #[.map (some m)] 170 (0,0))) (hM: MapAt Tryz.prog 3 w m (L.map entM) clock) (id: Int) (hid: (Lit.int .i64 id).wf = true) (hin: hasL L id = false) (hI: CdIn w k) (hts: k.ts.length <= 1000) (hd: ∀ x ∈ k.l,deepN n x = false) (ho: ∀ x ∈ k.l,OpN n x) :
 Calls Tryz.prog 26 #[.pointer (some ⟨bx,0,none⟩), .int .i64 id,cdV k] w (AddQ n k w L clock bx m id) := by
 have HH := Rw.dh (fun W (hb': Below w.heap.size w W) => phas_walk ((hb'.block _ (Array.getElem?_eq_some_iff.1 hb).1).trans hb) (hM.turn (hb'.block _ hM.lt)) id hid)
 have heq := peqMap
 have HI := Rw.dh (fun W (ho': Below w.heap.size w W) => hI.on ho')
 clear hI
 unfold cdV
 go_enter Tryz.func26,Tryz.ntmps26
 go_wp2_with fail
 refine (HH.out _ (Rw.below_alloc w _)).mono ?_
 rintro e w1 ⟨rfl,hb1⟩
 rw [hin]
 have hB1 := Rw.dh (below_on (Rw.below_alloc w _) hb1)
 have hk1 := (hb1.block w.heap.size (by simp)).trans (Rw.heap_new w (.cells #[.slice k.a k.ts.length k.c, .slice k.b k.l.length k.d] 78))
 have hx1 := (hB1.out.block bx (Array.getElem?_eq_some_iff.1 hb).1).trans hb
 have c0: w1.cell? ⟨bx,0,none⟩ = some (.map (some m)) := by rw [cell_of_row _ _ _ _ _ _ hx1]; rfl
 have d0: w1.cell? ⟨w.heap.size,0,none⟩ = some (.slice k.a k.ts.length k.c) := by rw [cell_of_row _ _ _ _ _ _ hk1]; rfl
 have d1: w1.cell? ⟨w.heap.size,1,none⟩ = some (.slice k.b k.l.length k.d) := by rw [cell_of_row _ _ _ _ _ _ hk1]; rfl
 have hl1 := (Array.getElem?_eq_some_iff.1 hx1).1
 have KS: Hid (∀ W',Below w1.heap.size w1 W' -> (fun W => W.cell? ⟨bx,0,none⟩ = some (.map (some m)) /\ W.cell? ⟨w.heap.size,0,none⟩ = some (.slice k.a k.ts.length k.c) /\ W.cell? ⟨w.heap.size,1,none⟩ = some (.slice k.b k.l.length k.d)) W') := fun W' hb' => by
  have g1 := (hb'.block _ (Array.getElem?_eq_some_iff.1 hx1).1).trans hx1
  have g2 := (hb'.block _ (Array.getElem?_eq_some_iff.1 hk1).1).trans hk1
  exact ⟨by rw [cell_of_row _ _ _ _ _ _ g1]; rfl,by rw [cell_of_row _ _ _ _ _ _ g2]; rfl,by rw [cell_of_row _ _ _ _ _ _ g2]; rfl⟩
 have hHeld: (fun W => W.cell? ⟨bx,0,none⟩ = some (.map (some m)) /\ W.cell? ⟨w.heap.size,0,none⟩ = some (.slice k.a k.ts.length k.c) /\ W.cell? ⟨w.heap.size,1,none⟩ = some (.slice k.b k.l.length k.d)) w1.drew := KS.out _ (Below.refl _ w1).drew
 have HC := Rw.dh (copied_walk n hn k (w := w1.drew) (HI.out w1.drew hB1.out.drew) hts hd ho)
 unfold cdV at HC
 go_wp2_with fail
 clear c0 d0 d1 hl1 hx1 hk1 hb1 hd ho heq
 refine HeT.begin_ (fun W => W.cell? ⟨bx,0,none⟩ = some (.map (some m)) /\ W.cell? ⟨w.heap.size,0,none⟩ = some (.slice k.a k.ts.length k.c) /\ W.cell? ⟨w.heap.size,1,none⟩ = some (.slice k.b k.l.length k.d)) 7 (by kernel_rfl) ?_
 refine HeT.take (i := 0) (v := ?_) rfl (by kernel_rfl) (by kernel_rfl) (by kernel_rfl) (by kernel_rfl) (by decide) (fun _ _ _ h => h) (Or.inl ⟨by rfl, ?_⟩) hHeld ?_
 rotate_left
 · intro w' hSw
   obtain ⟨s0,s1,s2⟩ := hSw
   go_simp
   (try with_reducible rfl)
 (try simp only [Act.put,List.getElem_toArray,List.getElem_cons_succ,List.getElem_cons_zero,HeT.pT])
 refine HeT.take (i := 1) (v := ?_) rfl (by kernel_rfl) (by kernel_rfl) (by kernel_rfl) (by kernel_rfl) (by decide) (fun _ _ _ h => h) (Or.inl ⟨by rfl, ?_⟩) hHeld ?_
 rotate_left
 · intro w' hSw
   obtain ⟨s0,s1,s2⟩ := hSw
   go_simp
   (try with_reducible rfl)
 (try simp only [Act.put,List.getElem_toArray,List.getElem_cons_succ,List.getElem_cons_zero,HeT.pT])
 refine HeT.take (i := 2) (v := ?_) rfl (by kernel_rfl) (by kernel_rfl) (by kernel_rfl) (by kernel_rfl) (by decide) (fun _ _ _ h => h) (Or.inl ⟨by rfl, ?_⟩) hHeld ?_
 rotate_left
 · intro w' hSw
   obtain ⟨s0,s1,s2⟩ := hSw
   go_simp
   (try with_reducible rfl)
 (try simp only [Act.put,List.getElem_toArray,List.getElem_cons_succ,List.getElem_cons_zero,HeT.pT])
 refine HeT.take (i := 3) (v := ?_) rfl (by kernel_rfl) (by kernel_rfl) (by kernel_rfl) (by kernel_rfl) (by decide) (fun _ _ _ h => h) (Or.inl ⟨by rfl, ?_⟩) hHeld ?_
 rotate_left
 · intro w' hSw
   obtain ⟨s0,s1,s2⟩ := hSw
   go_simp
   (try with_reducible rfl)
 (try simp only [Act.put,List.getElem_toArray,List.getElem_cons_succ,List.getElem_cons_zero,HeT.pT])
 refine HeT.take (i := 4) (v := ?_) rfl (by kernel_rfl) (by kernel_rfl) (by kernel_rfl) (by kernel_rfl) (by decide) (fun _ _ _ h => h) (Or.inl ⟨by rfl, ?_⟩) hHeld ?_
 rotate_left
 · intro w' hSw
   obtain ⟨s0,s1,s2⟩ := hSw
   go_simp
   (try with_reducible rfl)
 (try simp only [Act.put,List.getElem_toArray,List.getElem_cons_succ,List.getElem_cons_zero,HeT.pT])
 refine HeT.take (i := 5) (v := ?_) rfl (by kernel_rfl) (by kernel_rfl) (by kernel_rfl) (by kernel_rfl) (by decide) (fun _ _ _ h => h) (Or.inl ⟨by rfl, ?_⟩) hHeld ?_
 rotate_left
 · intro w' hSw
   obtain ⟨s0,s1,s2⟩ := hSw
   go_simp
   (try with_reducible rfl)
 (try simp only [Act.put,List.getElem_toArray,List.getElem_cons_succ,List.getElem_cons_zero,HeT.pT])
 refine HeT.one (i := 6) (by kernel_rfl) rfl ?_
 intro K hK
 go_simp
 refine HC.out.mono ?_
 rintro e w5 ⟨k',rfl,hts',hle,hlk,hci,hoff,hb5⟩
 have hb6: Below w1.heap.size w1 w5 := (Below.refl _ w1).drew.trans hb5
 refine hK _ _ (KS.out _ hb6) ?_
 clear hK K
 (try simp only [Act.put,List.getElem_toArray,List.getElem_cons_succ,List.getElem_cons_zero,HeT.pT])
 refine HeT.rest2 (k := 7) rfl (by decide) (by kernel_rfl) ?_
 simp only [List.drop_succ_cons,List.drop_zero]
 have hm5: MapAt Tryz.prog 3 w5 m (L.map entM) clock := hM.turn ((hB1.out.trans (hb6.mono hB1.out.size)).block _ hM.lt)
 obtain ⟨kl,hkl⟩ := pkey hid
 rcases map_store hm5 pintKeyed Tryz.underlying168 hkl (cdV k') with ⟨-, hup,hma⟩ | ⟨j,x,hx,hxk, -⟩
 · refine wpList_mapUpdate_eq rfl _ _ _ 168 rfl (by simpa [Act.eval] using hup) ?_
   have HE := Rw.dh (add_endQ hB1.out hb hM hb6 hts' hle hlk hci hoff hma)
   clear hup hma hm5 hts' hle hlk hci hoff hb5 hb6 KS hHeld HC HI HH
   go_wp2_with fail
   refine NoPanic.normal ?_
   go_wp2
   go_ret
   exact HE.out
 · exfalso
   rw [List.getElem?_map] at hx
   obtain ⟨y,hy,rfl⟩ := Option.map_eq_some_iff.1 hx
   have: hasL L id = true := List.any_eq_true.2 ⟨y,List.mem_of_getElem? hy,by simp [entM] at hxk; simpa using hxk⟩
   rw [hin] at this
   cases this
end Go.Proofs.YteibhbnlcpejpaaGreat
