import Derived.Test.YteibhbnlcpejpaaGreatMBB
set_option maxRecDepth 100000
set_option maxHeartbeats 4000000
namespace Go.Proofs.YteibhbnlcpejpaaGreat
open Go.RowKit
theorem isCol_walk (x: NL) (w: World): Calls Tryz.prog 138 #[nV x] w fun e w' => e = .returned (.bool (isColN x)) /\ Below w.heap.size w w' := by
 obtain ⟨xo,xk,xn,xs,xv,xc,xa,xp,l⟩ := x
 have HE: Hid (∀ B,B = isColN (.mk xo xk xn xs xv xc xa xp l) -> Ending.returned (.bool B) = .returned (.bool (isColN (.mk xo xk xn xs xv xc xa xp l)))) := fun B hB => by rw [hB]
 show Calls Tryz.prog 138 #[.agg #[.string xo, .int .i64 xk, .int .i64 xn, .string xs, .int .i64 xv, .int .i64 xc, .slice xa l.length xp]] w _
 have h3': (l.length == 0) = ((l.length: Int) == 0) := by rw [Bool.eq_iff_iff]; simp
 have HL := Rw.dh h3'
 clear h3'
 go_enter Tryz.func138,Tryz.ntmps138
 go_wp2
 all_goals
  go_ret
  refine ⟨HE.out _ ?_,Rw.below_alloc _ _⟩
  have := HL.out
  simp_all [isColN,NL.op,NL.var,NL.kids,nCOLUMN]
theorem isKnown_walk (x: NL) (w: World): Calls Tryz.prog 183 #[nV x] w fun e w' => e = .returned (.bool (isKnownN x)) /\ Below w.heap.size w w' := by
 obtain ⟨xo,xk,xn,xs,xv,xc,xa,xp,l⟩ := x
 have HE: Hid (∀ B,B = isKnownN (.mk xo xk xn xs xv xc xa xp l) -> Ending.returned (.bool B) = .returned (.bool (isKnownN (.mk xo xk xn xs xv xc xa xp l)))) := fun B hB => by rw [hB]
 show Calls Tryz.prog 183 #[.agg #[.string xo, .int .i64 xk, .int .i64 xn, .string xs, .int .i64 xv, .int .i64 xc, .slice xa l.length xp]] w _
 have h3': (l.length == 0) = ((l.length: Int) == 0) := by rw [Bool.eq_iff_iff]; simp
 have HL := Rw.dh h3'
 clear h3'
 go_enter Tryz.func183,Tryz.ntmps183
 go_wp2
 all_goals
  go_ret
  refine ⟨HE.out _ ?_,Rw.below_alloc _ _⟩
  have := HL.out
  simp_all [isKnownN,NL.op,NL.val,NL.vk,NL.vn,NL.vs,NL.kids,nVALUE,isZ]
set_option linter.unusedSimpArgs false in
theorem turned_walk (s: ByteArray) (w: World): Calls Tryz.prog 181 #[.string s] w fun e w' => e = .returned (.string (turnN s)) /\ w' = w := by
 have HE: Hid (∀ B,B = turnN s -> Ending.returned (.string B) = .returned (.string (turnN s))) := fun B hB => by rw [hB]
 cases h1: (s.toList == [60])
 · cases h2: (s.toList == [60,61])
   · cases h3: (s.toList == [62])
     · cases h4: (s.toList == [62,61])
       all_goals
        go_enter Tryz.func181,Tryz.ntmps181
        go_wp2
        go_ret
        exact ⟨HE.out _ (by simp [turnN,h1,h2,h3,h4,oLT,oLE,oGT,oGE]),rfl⟩
     · go_enter Tryz.func181,Tryz.ntmps181
       go_wp2
       go_ret
       exact ⟨HE.out _ (by simp [turnN,h1,h2,h3,oLT,oLE,oGT,oGE]),rfl⟩
   · go_enter Tryz.func181,Tryz.ntmps181
     go_wp2
     go_ret
     exact ⟨HE.out _ (by simp [turnN,h1,h2,oLT,oLE,oGT,oGE]),rfl⟩
 · go_enter Tryz.func181,Tryz.ntmps181
   go_wp2
   go_ret
   exact ⟨HE.out _ (by simp [turnN,h1,oLT,oLE,oGT,oGE]),rfl⟩
theorem bd_cells {W: World} {p: Nat} {b: Bd} (h: W.heap[p]? = some (.cells #[.bool b.has, .bool b.incl, .int .i64 b.v.k, .int .i64 b.v.n, .string b.v.s] 173 (0,0))): W.cell? ⟨p,0,none⟩ = some (.bool b.has) /\ W.cell? ⟨p,1,none⟩ = some (.bool b.incl) /\ W.cell? ⟨p,2,none⟩ = some (.int .i64 b.v.k) /\ W.cell? ⟨p,3,none⟩ = some (.int .i64 b.v.n) /\ W.cell? ⟨p,4,none⟩ = some (.string b.v.s) := by
 refine ⟨?_, ?_, ?_, ?_, ?_⟩ <;> (rw [cell_of_row _ _ _ _ _ _ h]; rfl)
def KeepB (w W1 W': World): Prop := w.heap.size + 6 <= W'.heap.size /\ ∀ q,w.heap.size + 3 <= q -> q < w.heap.size + 6 -> W'.heap[q]? = W1.heap[q]?
theorem KeepB.refl {w W1: World} (h: w.heap.size + 6 <= W1.heap.size): KeepB w W1 W1 := ⟨h,fun _ _ _ => rfl⟩
theorem KeepB.drew {w W1 W': World} (h: KeepB w W1 W'): KeepB w W1 W'.drew := h
theorem KeepB.set {w W1 W': World} {p: Addr} (h: KeepB w W1 W') (hp: p.block < w.heap.size + 3 \/ w.heap.size + 6 <= p.block) (v: Value): KeepB w W1 (W'.setCell p v) :=
 ⟨by simpa using h.1,fun q h1 h2 => by
  obtain ⟨b,o,f⟩ := p
  have hq: q ≠ b := by simp only at hp; omega
  rw [Below.heap_setCell _ _ _ _ hq]
  exact h.2 q h1 h2⟩
theorem KeepB.alloc {w W1 W': World} (h: KeepB w W1 W') (o: Obj): KeepB w W1 (W'.alloc o) :=
 ⟨by have := h.1; simp; omega,fun q h1 h2 => (Below.heap_alloc _ _ _ (by have := h.1; omega)).trans (h.2 q h1 h2)⟩
structure BdF (w: World) (vk vn: Int) (vs: ByteArray) (pa pb: Nat) (W: World): Prop where
 bel: Below w.heap.size w W
 sz: W.heap.size = w.heap.size + 6
 lpa: w.heap.size + 3 <= pa /\ pa < w.heap.size + 5
 lpb: w.heap.size + 3 <= pb /\ pb < w.heap.size + 5
 ha: W.heap[pa]? = some (.cells #[.bool true, .bool true, .int .i64 vk, .int .i64 vn, .string vs] 173 (0,0))
 hb: W.heap[pb]? = some (.cells #[.bool true, .bool false, .int .i64 vk, .int .i64 vn, .string vs] 173 (0,0))
 hn: W.heap[w.heap.size + 5]? = some (.cells #[.bool true, .bool false, .int .i64 0, .int .i64 0, .string ⟨#[]⟩] 173 (0,0))
 lo: W.heap[w.heap.size + 1]? = some (.cells #[.bool false, .bool false, .int .i64 0, .int .i64 0, .string ⟨#[]⟩] 173 (0,0))
 hi: W.heap[w.heap.size + 2]? = some (.cells #[.bool false, .bool false, .int .i64 0, .int .i64 0, .string ⟨#[]⟩] 173 (0,0))
theorem BdF.mk' {w W1: World} {vk vn: Int} {vs: ByteArray} {pa pb: Nat} (h: Below w.heap.size w W1) (hs: W1.heap.size = w.heap.size + 5) (h1: w.heap.size + 3 <= pa /\ pa < w.heap.size + 5) (h2: w.heap.size + 3 <= pb /\ pb < w.heap.size + 5)
 (ha: W1.heap[pa]? = some (.cells #[.bool true, .bool true, .int .i64 vk, .int .i64 vn, .string vs] 173 (0,0))) (hb: W1.heap[pb]? = some (.cells #[.bool true, .bool false, .int .i64 vk, .int .i64 vn, .string vs] 173 (0,0)))
 (lo: W1.heap[w.heap.size + 1]? = some (.cells #[.bool false, .bool false, .int .i64 0, .int .i64 0, .string ⟨#[]⟩] 173 (0,0))) (hi: W1.heap[w.heap.size + 2]? = some (.cells #[.bool false, .bool false, .int .i64 0, .int .i64 0, .string ⟨#[]⟩] 173 (0,0))) :
 BdF w vk vn vs pa pb (W1.alloc (.cells #[.bool true, .bool false, .int .i64 0, .int .i64 0, .string ⟨#[]⟩] 173)) :=
 ⟨h.alloc h.size _,by simp [hs],h1,h2,(Below.heap_alloc _ _ _ (by omega)).trans ha,(Below.heap_alloc _ _ _ (by omega)).trans hb,by rw [<- hs]; exact Rw.heap_new W1 _,(Below.heap_alloc _ _ _ (by omega)).trans lo,(Below.heap_alloc _ _ _ (by omega)).trans hi⟩
theorem KeepB.a {w W W': World} {vk vn: Int} {vs: ByteArray} {pa pb: Nat} (hk: KeepB w W W') (h: BdF w vk vn vs pa pb W): W'.cell? ⟨pa,0,none⟩ = some (.bool true) /\ W'.cell? ⟨pa,1,none⟩ = some (.bool true) /\ W'.cell? ⟨pa,2,none⟩ = some (.int .i64 vk) /\ W'.cell? ⟨pa,3,none⟩ = some (.int .i64 vn) /\ W'.cell? ⟨pa,4,none⟩ = some (.string vs) :=
 bd_cells (b := ⟨true,true,⟨vk,vn,vs⟩⟩) ((hk.2 pa h.lpa.1 (by have := h.lpa.2; omega)).trans h.ha)
theorem KeepB.b {w W W': World} {vk vn: Int} {vs: ByteArray} {pa pb: Nat} (hk: KeepB w W W') (h: BdF w vk vn vs pa pb W): W'.cell? ⟨pb,0,none⟩ = some (.bool true) /\ W'.cell? ⟨pb,1,none⟩ = some (.bool false) /\ W'.cell? ⟨pb,2,none⟩ = some (.int .i64 vk) /\ W'.cell? ⟨pb,3,none⟩ = some (.int .i64 vn) /\ W'.cell? ⟨pb,4,none⟩ = some (.string vs) :=
 bd_cells (b := ⟨true,false,⟨vk,vn,vs⟩⟩) ((hk.2 pb h.lpb.1 (by have := h.lpb.2; omega)).trans h.hb)
theorem KeepB.n {w W W': World} {vk vn: Int} {vs: ByteArray} {pa pb: Nat} (hk: KeepB w W W') (h: BdF w vk vn vs pa pb W): W'.cell? ⟨w.heap.size + 5,0,none⟩ = some (.bool true) /\ W'.cell? ⟨w.heap.size + 5,1,none⟩ = some (.bool false) /\ W'.cell? ⟨w.heap.size + 5,2,none⟩ = some (.int .i64 0) /\ W'.cell? ⟨w.heap.size + 5,3,none⟩ = some (.int .i64 0) /\ W'.cell? ⟨w.heap.size + 5,4,none⟩ = some (.string ⟨#[]⟩) :=
 bd_cells (b := ⟨true,false,vz⟩) ((hk.2 _ (by omega) (by omega)).trans h.hn)
theorem ops_five (l: List UInt8): (l == [61]) = true \/ ((l == [61]) = false /\ (l == [60]) = true) \/ ((l == [61]) = false /\ (l == [60]) = false /\ (l == [60,61]) = true) \/ ((l == [61]) = false /\ (l == [60]) = false /\ (l == [60,61]) = false /\ (l == [62]) = true) \/ ((l == [61]) = false /\ (l == [60]) = false /\ (l == [60,61]) = false /\ (l == [62]) = false /\ (l == [62,61]) = true) \/ ((l == [61]) = false /\ (l == [60]) = false /\ (l == [60,61]) = false /\ (l == [62]) = false /\ (l == [62,61]) = false) := by
 cases h1: (l == [61]) <;> cases h2: (l == [60]) <;> cases h3: (l == [60,61]) <;> cases h4: (l == [62]) <;> cases h5: (l == [62,61]) <;> simp
theorem bounds_walk (s: ByteArray) (v: Vv) (w: World): Calls Tryz.prog 182 #[.string s,vvV v] w fun e w' => e = .returned (.tuple #[bdV (boundsN s.toList v).1,bdV (boundsN s.toList v).2.1, .bool (boundsN s.toList v).2.2]) /\ Below w.heap.size w w' := by
 obtain ⟨vk,vn,vs⟩ := v
 have HQ: Hid (∀ r,boundsN s.toList ⟨vk,vn,vs⟩ = r -> Ending.returned (.tuple #[bdV r.1,bdV r.2.1, .bool r.2.2]) = .returned (.tuple #[bdV (boundsN s.toList ⟨vk,vn,vs⟩).1,bdV (boundsN s.toList ⟨vk,vn,vs⟩).2.1, .bool (boundsN s.toList ⟨vk,vn,vs⟩).2.2])) := fun r h => by rw [h]
 unfold vvV valV
 go_enter Tryz.func182,Tryz.ntmps182
 go_wp2_with fail
 refine Rw.to_letter (F := fun W => Below w.heap.size w W /\ W.heap.size = w.heap.size + 3 /\ W.heap[w.heap.size]? = some (.cells #[.int .i64 vk, .int .i64 vn, .string vs] 27 (0,0)) /\ W.heap[w.heap.size + 1]? = some (.cells #[.bool false, .bool false, .int .i64 0, .int .i64 0, .string ⟨#[]⟩] 173 (0,0)) /\ W.heap[w.heap.size + 2]? = some (.cells #[.bool false, .bool false, .int .i64 0, .int .i64 0, .string ⟨#[]⟩] 173 (0,0))) ⟨below_three _ _ _ _,by simp,(Below.heap_alloc _ _ _ (by simp; omega)).trans ((Below.heap_alloc _ _ _ (by simp)).trans (Rw.heap_new w _)),(Below.heap_alloc _ _ _ (by simp)).trans (heap_two w _ _),heap_three w _ _ _⟩ ?_
 rintro W ⟨hB,hsz,hv,hlo,hhi⟩
 have KS: Hid (∀ W',Below W.heap.size W W' -> W'.cell? ⟨w.heap.size,0,none⟩ = some (.int .i64 vk) /\ W'.cell? ⟨w.heap.size,1,none⟩ = some (.int .i64 vn) /\ W'.cell? ⟨w.heap.size,2,none⟩ = some (.string vs)) := fun W' hb => by
  have := (hb.block _ (by omega)).trans hv
  refine ⟨?_, ?_, ?_⟩ <;> (rw [cell_of_row _ _ _ _ _ _ this]; rfl)
 have HB := Rw.dh hB
 have HLO := Rw.dh (fun W' (hb: Below W.heap.size W W') => (hb.block (w.heap.size + 1) (by omega)).trans hlo)
 have HHI := Rw.dh (fun W' (hb: Below W.heap.size W W') => (hb.block (w.heap.size + 2) (by omega)).trans hhi)
 clear hB hv hlo hhi
 go_region_held (fun W => W.cell? ⟨w.heap.size,0,none⟩ = some (.int .i64 vk) /\ W.cell? ⟨w.heap.size,1,none⟩ = some (.int .i64 vn) /\ W.cell? ⟨w.heap.size,2,none⟩ = some (.string vs)) (exact KS.out _ (by repeat (first | exact Below.refl _ _ | refine Below.drew ?_ | refine Below.alloc ?_ (by first | omega | (simp; done) | (simp; omega)) _))) (fail)
 · refine Rw.to_letter (F := fun W1 => Below W.heap.size W W1 /\ W1.heap.size = w.heap.size + 5 /\ W1.heap[w.heap.size + 3]? = some (.cells #[.bool true, .bool true, .int .i64 vk, .int .i64 vn, .string vs] 173 (0,0)) /\ W1.heap[w.heap.size + 3 + 1]? = some (.cells #[.bool true, .bool false, .int .i64 vk, .int .i64 vn, .string vs] 173 (0,0))) ⟨(below_two W _ _).drew,by simp; omega,by rw [<- hsz]; exact (Below.heap_alloc _ _ _ (by simp)).trans (Rw.heap_new W _),by rw [<- hsz]; exact heap_two W _ _⟩ ?_
   rintro W1 ⟨hB1,hs1,h3',h4'⟩
   have HF: Hid (BdF w vk vn vs (w.heap.size + 3) (w.heap.size + 3 + 1) (W1.alloc (.cells #[.bool true, .bool false, .int .i64 0, .int .i64 0, .string ⟨#[]⟩] 173))) := BdF.mk' (HB.out.trans (hB1.mono HB.out.size)) hs1 (by omega) (by omega) h3' h4' (HLO.out W1 hB1) (HHI.out W1 hB1)
   have HW1: Hid (Below w.heap.size w W1 /\ W1.heap[w.heap.size + 1]? = some (.cells #[.bool false, .bool false, .int .i64 0, .int .i64 0, .string ⟨#[]⟩] 173 (0,0)) /\ W1.heap[w.heap.size + 2]? = some (.cells #[.bool false, .bool false, .int .i64 0, .int .i64 0, .string ⟨#[]⟩] 173 (0,0))) := ⟨HB.out.trans (hB1.mono HB.out.size),HLO.out W1 hB1,HHI.out W1 hB1⟩
   have HA1 := Rw.dh h3'
   have HB1 := Rw.dh h4'
   clear h3' h4' hB1 KS HB HLO HHI hsz
   rcases ops_five s.toList with h | ⟨h1,h⟩ | ⟨h1,h2,h⟩ | ⟨h1,h2,h3,h⟩ | ⟨h1,h2,h3,h4,h⟩ | ⟨h1,h2,h3,h4,h⟩
   · go_wp2_with fail
     refine Rw.to_letter HF.out ?_
     intro W2 hF
     have KB: Hid (∀ W,KeepB w W2 W -> W.cell? ⟨w.heap.size + 3,0,none⟩ = some (.bool true) /\ W.cell? ⟨w.heap.size + 3,1,none⟩ = some (.bool true) /\ W.cell? ⟨w.heap.size + 3,2,none⟩ = some (.int .i64 vk) /\ W.cell? ⟨w.heap.size + 3,3,none⟩ = some (.int .i64 vn) /\ W.cell? ⟨w.heap.size + 3,4,none⟩ = some (.string vs)) := fun W hk => by exact (hk.a hF)
     have KR: Hid (KeepB w W2 W2) := KeepB.refl (Nat.le_of_eq hF.sz.symm)
     obtain ⟨l0,l1,l2,l3,l4⟩ := bd_cells (b := bdz) hF.lo
     obtain ⟨g0,g1,g2,g3,g4⟩ := bd_cells (b := bdz) hF.hi
     have fl := fun o => frozen_of_row _ _ o _ _ hF.lo
     have fg := fun o => frozen_of_row _ _ o _ _ hF.hi
     have hz := hF.sz
     have HB2 := Rw.dh hF.bel
     clear HF hF hs1 HW1 HA1 HB1
     go_region_held (fun W => W.cell? ⟨w.heap.size + 3,0,none⟩ = some (.bool true) /\ W.cell? ⟨w.heap.size + 3,1,none⟩ = some (.bool true) /\ W.cell? ⟨w.heap.size + 3,2,none⟩ = some (.int .i64 vk) /\ W.cell? ⟨w.heap.size + 3,3,none⟩ = some (.int .i64 vn) /\ W.cell? ⟨w.heap.size + 3,4,none⟩ = some (.string vs)) (exact KB.out _ (by repeat (first | with_reducible refine KeepB.set ?_ (Or.inl (by first | omega | (simp; done) | (simp; omega))) _ | with_reducible refine KeepB.drew ?_ | with_reducible refine KeepB.alloc ?_ _ | exact KR.out))) (fail)
     go_wp2
     refine bodyPost_ret (v := .tuple #[bdV ((⟨true,true,⟨vk,vn,vs⟩⟩,⟨true,true,⟨vk,vn,vs⟩⟩,true): Bd × Bd × Bool).1,bdV ((⟨true,true,⟨vk,vn,vs⟩⟩,⟨true,true,⟨vk,vn,vs⟩⟩,true): Bd × Bd × Bool).2.1, .bool ((⟨true,true,⟨vk,vn,vs⟩⟩,⟨true,true,⟨vk,vn,vs⟩⟩,true): Bd × Bd × Bool).2.2]) (by simp [results,Tryz.results182,go_sem,bdV,bdz,vz,l0,l1,l2,l3,l4,g0,g1,g2,g3,g4]) rfl ⟨HQ.out _ (by unfold boundsN; simp [h]),by repeat (first | with_reducible refine Below.setCell ?_ (by first | omega | (simp; done) | (simp; omega)) _ | with_reducible refine Below.drew ?_ | with_reducible refine Below.alloc ?_ (by first | omega | (simp; done) | (simp; omega)) _ | exact HB2.out)⟩
   · go_wp2_with fail
     refine Rw.to_letter HF.out ?_
     intro W2 hF
     have KB: Hid (∀ W,KeepB w W2 W -> W.cell? ⟨w.heap.size + 5,0,none⟩ = some (.bool true) /\ W.cell? ⟨w.heap.size + 5,1,none⟩ = some (.bool false) /\ W.cell? ⟨w.heap.size + 5,2,none⟩ = some (.int .i64 0) /\ W.cell? ⟨w.heap.size + 5,3,none⟩ = some (.int .i64 0) /\ W.cell? ⟨w.heap.size + 5,4,none⟩ = some (.string ⟨#[]⟩) /\ W.cell? ⟨w.heap.size + 3 + 1,0,none⟩ = some (.bool true) /\ W.cell? ⟨w.heap.size + 3 + 1,1,none⟩ = some (.bool false) /\ W.cell? ⟨w.heap.size + 3 + 1,2,none⟩ = some (.int .i64 vk) /\ W.cell? ⟨w.heap.size + 3 + 1,3,none⟩ = some (.int .i64 vn) /\ W.cell? ⟨w.heap.size + 3 + 1,4,none⟩ = some (.string vs)) := fun W hk => by have h1 := hk.n hF; have h2 := hk.b hF; exact ⟨h1.1,h1.2.1,h1.2.2.1,h1.2.2.2.1,h1.2.2.2.2,h2⟩
     have KR: Hid (KeepB w W2 W2) := KeepB.refl (Nat.le_of_eq hF.sz.symm)
     obtain ⟨l0,l1,l2,l3,l4⟩ := bd_cells (b := bdz) hF.lo
     obtain ⟨g0,g1,g2,g3,g4⟩ := bd_cells (b := bdz) hF.hi
     have fl := fun o => frozen_of_row _ _ o _ _ hF.lo
     have fg := fun o => frozen_of_row _ _ o _ _ hF.hi
     have hz := hF.sz
     have HB2 := Rw.dh hF.bel
     clear HF hF hs1 HW1 HA1 HB1
     go_region_held (fun W => W.cell? ⟨w.heap.size + 5,0,none⟩ = some (.bool true) /\ W.cell? ⟨w.heap.size + 5,1,none⟩ = some (.bool false) /\ W.cell? ⟨w.heap.size + 5,2,none⟩ = some (.int .i64 0) /\ W.cell? ⟨w.heap.size + 5,3,none⟩ = some (.int .i64 0) /\ W.cell? ⟨w.heap.size + 5,4,none⟩ = some (.string ⟨#[]⟩) /\ W.cell? ⟨w.heap.size + 3 + 1,0,none⟩ = some (.bool true) /\ W.cell? ⟨w.heap.size + 3 + 1,1,none⟩ = some (.bool false) /\ W.cell? ⟨w.heap.size + 3 + 1,2,none⟩ = some (.int .i64 vk) /\ W.cell? ⟨w.heap.size + 3 + 1,3,none⟩ = some (.int .i64 vn) /\ W.cell? ⟨w.heap.size + 3 + 1,4,none⟩ = some (.string vs)) (exact KB.out _ (by repeat (first | with_reducible refine KeepB.set ?_ (Or.inl (by first | omega | (simp; done) | (simp; omega))) _ | with_reducible refine KeepB.drew ?_ | with_reducible refine KeepB.alloc ?_ _ | exact KR.out))) (fail)
     go_wp2
     refine bodyPost_ret (v := .tuple #[bdV ((⟨true,false,vz⟩,⟨true,false,⟨vk,vn,vs⟩⟩,true): Bd × Bd × Bool).1,bdV ((⟨true,false,vz⟩,⟨true,false,⟨vk,vn,vs⟩⟩,true): Bd × Bd × Bool).2.1, .bool ((⟨true,false,vz⟩,⟨true,false,⟨vk,vn,vs⟩⟩,true): Bd × Bd × Bool).2.2]) (by simp [results,Tryz.results182,go_sem,bdV,bdz,vz,l0,l1,l2,l3,l4,g0,g1,g2,g3,g4]) rfl ⟨HQ.out _ (by unfold boundsN; simp [h1,h]),by repeat (first | with_reducible refine Below.setCell ?_ (by first | omega | (simp; done) | (simp; omega)) _ | with_reducible refine Below.drew ?_ | with_reducible refine Below.alloc ?_ (by first | omega | (simp; done) | (simp; omega)) _ | exact HB2.out)⟩
   · go_wp2_with fail
     refine Rw.to_letter HF.out ?_
     intro W2 hF
     have KB: Hid (∀ W,KeepB w W2 W -> W.cell? ⟨w.heap.size + 5,0,none⟩ = some (.bool true) /\ W.cell? ⟨w.heap.size + 5,1,none⟩ = some (.bool false) /\ W.cell? ⟨w.heap.size + 5,2,none⟩ = some (.int .i64 0) /\ W.cell? ⟨w.heap.size + 5,3,none⟩ = some (.int .i64 0) /\ W.cell? ⟨w.heap.size + 5,4,none⟩ = some (.string ⟨#[]⟩) /\ W.cell? ⟨w.heap.size + 3,0,none⟩ = some (.bool true) /\ W.cell? ⟨w.heap.size + 3,1,none⟩ = some (.bool true) /\ W.cell? ⟨w.heap.size + 3,2,none⟩ = some (.int .i64 vk) /\ W.cell? ⟨w.heap.size + 3,3,none⟩ = some (.int .i64 vn) /\ W.cell? ⟨w.heap.size + 3,4,none⟩ = some (.string vs)) := fun W hk => by have h1 := hk.n hF; have h2 := hk.a hF; exact ⟨h1.1,h1.2.1,h1.2.2.1,h1.2.2.2.1,h1.2.2.2.2,h2⟩
     have KR: Hid (KeepB w W2 W2) := KeepB.refl (Nat.le_of_eq hF.sz.symm)
     obtain ⟨l0,l1,l2,l3,l4⟩ := bd_cells (b := bdz) hF.lo
     obtain ⟨g0,g1,g2,g3,g4⟩ := bd_cells (b := bdz) hF.hi
     have fl := fun o => frozen_of_row _ _ o _ _ hF.lo
     have fg := fun o => frozen_of_row _ _ o _ _ hF.hi
     have hz := hF.sz
     have HB2 := Rw.dh hF.bel
     clear HF hF hs1 HW1 HA1 HB1
     go_region_held (fun W => W.cell? ⟨w.heap.size + 5,0,none⟩ = some (.bool true) /\ W.cell? ⟨w.heap.size + 5,1,none⟩ = some (.bool false) /\ W.cell? ⟨w.heap.size + 5,2,none⟩ = some (.int .i64 0) /\ W.cell? ⟨w.heap.size + 5,3,none⟩ = some (.int .i64 0) /\ W.cell? ⟨w.heap.size + 5,4,none⟩ = some (.string ⟨#[]⟩) /\ W.cell? ⟨w.heap.size + 3,0,none⟩ = some (.bool true) /\ W.cell? ⟨w.heap.size + 3,1,none⟩ = some (.bool true) /\ W.cell? ⟨w.heap.size + 3,2,none⟩ = some (.int .i64 vk) /\ W.cell? ⟨w.heap.size + 3,3,none⟩ = some (.int .i64 vn) /\ W.cell? ⟨w.heap.size + 3,4,none⟩ = some (.string vs)) (exact KB.out _ (by repeat (first | with_reducible refine KeepB.set ?_ (Or.inl (by first | omega | (simp; done) | (simp; omega))) _ | with_reducible refine KeepB.drew ?_ | with_reducible refine KeepB.alloc ?_ _ | exact KR.out))) (fail)
     go_wp2
     refine bodyPost_ret (v := .tuple #[bdV ((⟨true,false,vz⟩,⟨true,true,⟨vk,vn,vs⟩⟩,true): Bd × Bd × Bool).1,bdV ((⟨true,false,vz⟩,⟨true,true,⟨vk,vn,vs⟩⟩,true): Bd × Bd × Bool).2.1, .bool ((⟨true,false,vz⟩,⟨true,true,⟨vk,vn,vs⟩⟩,true): Bd × Bd × Bool).2.2]) (by simp [results,Tryz.results182,go_sem,bdV,bdz,vz,l0,l1,l2,l3,l4,g0,g1,g2,g3,g4]) rfl ⟨HQ.out _ (by unfold boundsN; simp [h1,h2,h]),by repeat (first | with_reducible refine Below.setCell ?_ (by first | omega | (simp; done) | (simp; omega)) _ | with_reducible refine Below.drew ?_ | with_reducible refine Below.alloc ?_ (by first | omega | (simp; done) | (simp; omega)) _ | exact HB2.out)⟩
   · have HB2 := Rw.dh HW1.out.1
     obtain ⟨l0,l1,l2,l3,l4⟩ := bd_cells (b := bdz) HW1.out.2.1
     obtain ⟨g0,g1,g2,g3,g4⟩ := bd_cells (b := bdz) HW1.out.2.2
     have fl := fun o => frozen_of_row _ _ o _ _ HW1.out.2.1
     have fg := fun o => frozen_of_row _ _ o _ _ HW1.out.2.2
     obtain ⟨a0,a1,a2,a3,a4⟩ := bd_cells (b := ⟨true,false,⟨vk,vn,vs⟩⟩) HB1.out
     clear HF HW1 HA1 HB1
     go_wp2
     refine bodyPost_ret (v := .tuple #[bdV ((⟨true,false,⟨vk,vn,vs⟩⟩,bdz,true): Bd × Bd × Bool).1,bdV ((⟨true,false,⟨vk,vn,vs⟩⟩,bdz,true): Bd × Bd × Bool).2.1, .bool ((⟨true,false,⟨vk,vn,vs⟩⟩,bdz,true): Bd × Bd × Bool).2.2]) (by simp [results,Tryz.results182,go_sem,bdV,bdz,vz,l0,l1,l2,l3,l4,g0,g1,g2,g3,g4,hs1]) rfl ⟨HQ.out _ (by unfold boundsN; simp [h1,h2,h3,h]),by repeat (first | with_reducible refine Below.setCell ?_ (by first | omega | (simp; done) | (simp; omega)) _ | with_reducible refine Below.drew ?_ | with_reducible refine Below.alloc ?_ (by first | omega | (simp; done) | (simp; omega)) _ | exact HB2.out)⟩
   · have HB2 := Rw.dh HW1.out.1
     obtain ⟨l0,l1,l2,l3,l4⟩ := bd_cells (b := bdz) HW1.out.2.1
     obtain ⟨g0,g1,g2,g3,g4⟩ := bd_cells (b := bdz) HW1.out.2.2
     have fl := fun o => frozen_of_row _ _ o _ _ HW1.out.2.1
     have fg := fun o => frozen_of_row _ _ o _ _ HW1.out.2.2
     obtain ⟨a0,a1,a2,a3,a4⟩ := bd_cells (b := ⟨true,true,⟨vk,vn,vs⟩⟩) HA1.out
     clear HF HW1 HA1 HB1
     go_wp2
     refine bodyPost_ret (v := .tuple #[bdV ((⟨true,true,⟨vk,vn,vs⟩⟩,bdz,true): Bd × Bd × Bool).1,bdV ((⟨true,true,⟨vk,vn,vs⟩⟩,bdz,true): Bd × Bd × Bool).2.1, .bool ((⟨true,true,⟨vk,vn,vs⟩⟩,bdz,true): Bd × Bd × Bool).2.2]) (by simp [results,Tryz.results182,go_sem,bdV,bdz,vz,l0,l1,l2,l3,l4,g0,g1,g2,g3,g4,hs1]) rfl ⟨HQ.out _ (by unfold boundsN; simp [h1,h2,h3,h4,h]),by repeat (first | with_reducible refine Below.setCell ?_ (by first | omega | (simp; done) | (simp; omega)) _ | with_reducible refine Below.drew ?_ | with_reducible refine Below.alloc ?_ (by first | omega | (simp; done) | (simp; omega)) _ | exact HB2.out)⟩
   · have HB2 := Rw.dh HW1.out.1
     obtain ⟨l0,l1,l2,l3,l4⟩ := bd_cells (b := bdz) HW1.out.2.1
     obtain ⟨g0,g1,g2,g3,g4⟩ := bd_cells (b := bdz) HW1.out.2.2
     have fl := fun o => frozen_of_row _ _ o _ _ HW1.out.2.1
     have fg := fun o => frozen_of_row _ _ o _ _ HW1.out.2.2
     clear HF HW1 HA1 HB1
     go_wp2
     refine bodyPost_ret (v := .tuple #[bdV ((bdz,bdz,false): Bd × Bd × Bool).1,bdV ((bdz,bdz,false): Bd × Bd × Bool).2.1, .bool ((bdz,bdz,false): Bd × Bd × Bool).2.2]) (by simp [results,Tryz.results182,go_sem,bdV,bdz,vz,l0,l1,l2,l3,l4,g0,g1,g2,g3,g4,hs1]) rfl ⟨HQ.out _ (by unfold boundsN; simp [h1,h2,h3,h4,h]),by repeat (first | with_reducible refine Below.setCell ?_ (by first | omega | (simp; done) | (simp; omega)) _ | with_reducible refine Below.drew ?_ | with_reducible refine Below.alloc ?_ (by first | omega | (simp; done) | (simp; omega)) _ | exact HB2.out)⟩
 · refine Rw.to_letter (F := fun W1 => Below W.heap.size W W1 /\ W1.heap.size = w.heap.size + 5 /\ W1.heap[w.heap.size + 3]? = some (.cells #[.bool true, .bool false, .int .i64 vk, .int .i64 vn, .string vs] 173 (0,0)) /\ W1.heap[w.heap.size + 3 + 1]? = some (.cells #[.bool true, .bool true, .int .i64 vk, .int .i64 vn, .string vs] 173 (0,0))) ⟨(below_two W _ _).drew,by simp; omega,by rw [<- hsz]; exact (Below.heap_alloc _ _ _ (by simp)).trans (Rw.heap_new W _),by rw [<- hsz]; exact heap_two W _ _⟩ ?_
   rintro W1 ⟨hB1,hs1,h3',h4'⟩
   have HF: Hid (BdF w vk vn vs (w.heap.size + 3 + 1) (w.heap.size + 3) (W1.alloc (.cells #[.bool true, .bool false, .int .i64 0, .int .i64 0, .string ⟨#[]⟩] 173))) := BdF.mk' (HB.out.trans (hB1.mono HB.out.size)) hs1 (by omega) (by omega) h4' h3' (HLO.out W1 hB1) (HHI.out W1 hB1)
   have HW1: Hid (Below w.heap.size w W1 /\ W1.heap[w.heap.size + 1]? = some (.cells #[.bool false, .bool false, .int .i64 0, .int .i64 0, .string ⟨#[]⟩] 173 (0,0)) /\ W1.heap[w.heap.size + 2]? = some (.cells #[.bool false, .bool false, .int .i64 0, .int .i64 0, .string ⟨#[]⟩] 173 (0,0))) := ⟨HB.out.trans (hB1.mono HB.out.size),HLO.out W1 hB1,HHI.out W1 hB1⟩
   have HA1 := Rw.dh h4'
   have HB1 := Rw.dh h3'
   clear h3' h4' hB1 KS HB HLO HHI hsz
   rcases ops_five s.toList with h | ⟨h1,h⟩ | ⟨h1,h2,h⟩ | ⟨h1,h2,h3,h⟩ | ⟨h1,h2,h3,h4,h⟩ | ⟨h1,h2,h3,h4,h⟩
   · go_wp2_with fail
     refine Rw.to_letter HF.out ?_
     intro W2 hF
     have KB: Hid (∀ W,KeepB w W2 W -> W.cell? ⟨w.heap.size + 3 + 1,0,none⟩ = some (.bool true) /\ W.cell? ⟨w.heap.size + 3 + 1,1,none⟩ = some (.bool true) /\ W.cell? ⟨w.heap.size + 3 + 1,2,none⟩ = some (.int .i64 vk) /\ W.cell? ⟨w.heap.size + 3 + 1,3,none⟩ = some (.int .i64 vn) /\ W.cell? ⟨w.heap.size + 3 + 1,4,none⟩ = some (.string vs)) := fun W hk => by exact (hk.a hF)
     have KR: Hid (KeepB w W2 W2) := KeepB.refl (Nat.le_of_eq hF.sz.symm)
     obtain ⟨l0,l1,l2,l3,l4⟩ := bd_cells (b := bdz) hF.lo
     obtain ⟨g0,g1,g2,g3,g4⟩ := bd_cells (b := bdz) hF.hi
     have fl := fun o => frozen_of_row _ _ o _ _ hF.lo
     have fg := fun o => frozen_of_row _ _ o _ _ hF.hi
     have hz := hF.sz
     have HB2 := Rw.dh hF.bel
     clear HF hF hs1 HW1 HA1 HB1
     go_region_held (fun W => W.cell? ⟨w.heap.size + 3 + 1,0,none⟩ = some (.bool true) /\ W.cell? ⟨w.heap.size + 3 + 1,1,none⟩ = some (.bool true) /\ W.cell? ⟨w.heap.size + 3 + 1,2,none⟩ = some (.int .i64 vk) /\ W.cell? ⟨w.heap.size + 3 + 1,3,none⟩ = some (.int .i64 vn) /\ W.cell? ⟨w.heap.size + 3 + 1,4,none⟩ = some (.string vs)) (exact KB.out _ (by repeat (first | with_reducible refine KeepB.set ?_ (Or.inl (by first | omega | (simp; done) | (simp; omega))) _ | with_reducible refine KeepB.drew ?_ | with_reducible refine KeepB.alloc ?_ _ | exact KR.out))) (fail)
     go_wp2
     refine bodyPost_ret (v := .tuple #[bdV ((⟨true,true,⟨vk,vn,vs⟩⟩,⟨true,true,⟨vk,vn,vs⟩⟩,true): Bd × Bd × Bool).1,bdV ((⟨true,true,⟨vk,vn,vs⟩⟩,⟨true,true,⟨vk,vn,vs⟩⟩,true): Bd × Bd × Bool).2.1, .bool ((⟨true,true,⟨vk,vn,vs⟩⟩,⟨true,true,⟨vk,vn,vs⟩⟩,true): Bd × Bd × Bool).2.2]) (by simp [results,Tryz.results182,go_sem,bdV,bdz,vz,l0,l1,l2,l3,l4,g0,g1,g2,g3,g4]) rfl ⟨HQ.out _ (by unfold boundsN; simp [h]),by repeat (first | with_reducible refine Below.setCell ?_ (by first | omega | (simp; done) | (simp; omega)) _ | with_reducible refine Below.drew ?_ | with_reducible refine Below.alloc ?_ (by first | omega | (simp; done) | (simp; omega)) _ | exact HB2.out)⟩
   · go_wp2_with fail
     refine Rw.to_letter HF.out ?_
     intro W2 hF
     have KB: Hid (∀ W,KeepB w W2 W -> W.cell? ⟨w.heap.size + 5,0,none⟩ = some (.bool true) /\ W.cell? ⟨w.heap.size + 5,1,none⟩ = some (.bool false) /\ W.cell? ⟨w.heap.size + 5,2,none⟩ = some (.int .i64 0) /\ W.cell? ⟨w.heap.size + 5,3,none⟩ = some (.int .i64 0) /\ W.cell? ⟨w.heap.size + 5,4,none⟩ = some (.string ⟨#[]⟩) /\ W.cell? ⟨w.heap.size + 3,0,none⟩ = some (.bool true) /\ W.cell? ⟨w.heap.size + 3,1,none⟩ = some (.bool false) /\ W.cell? ⟨w.heap.size + 3,2,none⟩ = some (.int .i64 vk) /\ W.cell? ⟨w.heap.size + 3,3,none⟩ = some (.int .i64 vn) /\ W.cell? ⟨w.heap.size + 3,4,none⟩ = some (.string vs)) := fun W hk => by have h1 := hk.n hF; have h2 := hk.b hF; exact ⟨h1.1,h1.2.1,h1.2.2.1,h1.2.2.2.1,h1.2.2.2.2,h2⟩
     have KR: Hid (KeepB w W2 W2) := KeepB.refl (Nat.le_of_eq hF.sz.symm)
     obtain ⟨l0,l1,l2,l3,l4⟩ := bd_cells (b := bdz) hF.lo
     obtain ⟨g0,g1,g2,g3,g4⟩ := bd_cells (b := bdz) hF.hi
     have fl := fun o => frozen_of_row _ _ o _ _ hF.lo
     have fg := fun o => frozen_of_row _ _ o _ _ hF.hi
     have hz := hF.sz
     have HB2 := Rw.dh hF.bel
     clear HF hF hs1 HW1 HA1 HB1
     go_region_held (fun W => W.cell? ⟨w.heap.size + 5,0,none⟩ = some (.bool true) /\ W.cell? ⟨w.heap.size + 5,1,none⟩ = some (.bool false) /\ W.cell? ⟨w.heap.size + 5,2,none⟩ = some (.int .i64 0) /\ W.cell? ⟨w.heap.size + 5,3,none⟩ = some (.int .i64 0) /\ W.cell? ⟨w.heap.size + 5,4,none⟩ = some (.string ⟨#[]⟩) /\ W.cell? ⟨w.heap.size + 3,0,none⟩ = some (.bool true) /\ W.cell? ⟨w.heap.size + 3,1,none⟩ = some (.bool false) /\ W.cell? ⟨w.heap.size + 3,2,none⟩ = some (.int .i64 vk) /\ W.cell? ⟨w.heap.size + 3,3,none⟩ = some (.int .i64 vn) /\ W.cell? ⟨w.heap.size + 3,4,none⟩ = some (.string vs)) (exact KB.out _ (by repeat (first | with_reducible refine KeepB.set ?_ (Or.inl (by first | omega | (simp; done) | (simp; omega))) _ | with_reducible refine KeepB.drew ?_ | with_reducible refine KeepB.alloc ?_ _ | exact KR.out))) (fail)
     go_wp2
     refine bodyPost_ret (v := .tuple #[bdV ((⟨true,false,vz⟩,⟨true,false,⟨vk,vn,vs⟩⟩,true): Bd × Bd × Bool).1,bdV ((⟨true,false,vz⟩,⟨true,false,⟨vk,vn,vs⟩⟩,true): Bd × Bd × Bool).2.1, .bool ((⟨true,false,vz⟩,⟨true,false,⟨vk,vn,vs⟩⟩,true): Bd × Bd × Bool).2.2]) (by simp [results,Tryz.results182,go_sem,bdV,bdz,vz,l0,l1,l2,l3,l4,g0,g1,g2,g3,g4]) rfl ⟨HQ.out _ (by unfold boundsN; simp [h1,h]),by repeat (first | with_reducible refine Below.setCell ?_ (by first | omega | (simp; done) | (simp; omega)) _ | with_reducible refine Below.drew ?_ | with_reducible refine Below.alloc ?_ (by first | omega | (simp; done) | (simp; omega)) _ | exact HB2.out)⟩
   · go_wp2_with fail
     refine Rw.to_letter HF.out ?_
     intro W2 hF
     have KB: Hid (∀ W,KeepB w W2 W -> W.cell? ⟨w.heap.size + 5,0,none⟩ = some (.bool true) /\ W.cell? ⟨w.heap.size + 5,1,none⟩ = some (.bool false) /\ W.cell? ⟨w.heap.size + 5,2,none⟩ = some (.int .i64 0) /\ W.cell? ⟨w.heap.size + 5,3,none⟩ = some (.int .i64 0) /\ W.cell? ⟨w.heap.size + 5,4,none⟩ = some (.string ⟨#[]⟩) /\ W.cell? ⟨w.heap.size + 3 + 1,0,none⟩ = some (.bool true) /\ W.cell? ⟨w.heap.size + 3 + 1,1,none⟩ = some (.bool true) /\ W.cell? ⟨w.heap.size + 3 + 1,2,none⟩ = some (.int .i64 vk) /\ W.cell? ⟨w.heap.size + 3 + 1,3,none⟩ = some (.int .i64 vn) /\ W.cell? ⟨w.heap.size + 3 + 1,4,none⟩ = some (.string vs)) := fun W hk => by have h1 := hk.n hF; have h2 := hk.a hF; exact ⟨h1.1,h1.2.1,h1.2.2.1,h1.2.2.2.1,h1.2.2.2.2,h2⟩
     have KR: Hid (KeepB w W2 W2) := KeepB.refl (Nat.le_of_eq hF.sz.symm)
     obtain ⟨l0,l1,l2,l3,l4⟩ := bd_cells (b := bdz) hF.lo
     obtain ⟨g0,g1,g2,g3,g4⟩ := bd_cells (b := bdz) hF.hi
     have fl := fun o => frozen_of_row _ _ o _ _ hF.lo
     have fg := fun o => frozen_of_row _ _ o _ _ hF.hi
     have hz := hF.sz
     have HB2 := Rw.dh hF.bel
     clear HF hF hs1 HW1 HA1 HB1
     go_region_held (fun W => W.cell? ⟨w.heap.size + 5,0,none⟩ = some (.bool true) /\ W.cell? ⟨w.heap.size + 5,1,none⟩ = some (.bool false) /\ W.cell? ⟨w.heap.size + 5,2,none⟩ = some (.int .i64 0) /\ W.cell? ⟨w.heap.size + 5,3,none⟩ = some (.int .i64 0) /\ W.cell? ⟨w.heap.size + 5,4,none⟩ = some (.string ⟨#[]⟩) /\ W.cell? ⟨w.heap.size + 3 + 1,0,none⟩ = some (.bool true) /\ W.cell? ⟨w.heap.size + 3 + 1,1,none⟩ = some (.bool true) /\ W.cell? ⟨w.heap.size + 3 + 1,2,none⟩ = some (.int .i64 vk) /\ W.cell? ⟨w.heap.size + 3 + 1,3,none⟩ = some (.int .i64 vn) /\ W.cell? ⟨w.heap.size + 3 + 1,4,none⟩ = some (.string vs)) (exact KB.out _ (by repeat (first | with_reducible refine KeepB.set ?_ (Or.inl (by first | omega | (simp; done) | (simp; omega))) _ | with_reducible refine KeepB.drew ?_ | with_reducible refine KeepB.alloc ?_ _ | exact KR.out))) (fail)
     go_wp2
     refine bodyPost_ret (v := .tuple #[bdV ((⟨true,false,vz⟩,⟨true,true,⟨vk,vn,vs⟩⟩,true): Bd × Bd × Bool).1,bdV ((⟨true,false,vz⟩,⟨true,true,⟨vk,vn,vs⟩⟩,true): Bd × Bd × Bool).2.1, .bool ((⟨true,false,vz⟩,⟨true,true,⟨vk,vn,vs⟩⟩,true): Bd × Bd × Bool).2.2]) (by simp [results,Tryz.results182,go_sem,bdV,bdz,vz,l0,l1,l2,l3,l4,g0,g1,g2,g3,g4]) rfl ⟨HQ.out _ (by unfold boundsN; simp [h1,h2,h]),by repeat (first | with_reducible refine Below.setCell ?_ (by first | omega | (simp; done) | (simp; omega)) _ | with_reducible refine Below.drew ?_ | with_reducible refine Below.alloc ?_ (by first | omega | (simp; done) | (simp; omega)) _ | exact HB2.out)⟩
   · have HB2 := Rw.dh HW1.out.1
     obtain ⟨l0,l1,l2,l3,l4⟩ := bd_cells (b := bdz) HW1.out.2.1
     obtain ⟨g0,g1,g2,g3,g4⟩ := bd_cells (b := bdz) HW1.out.2.2
     have fl := fun o => frozen_of_row _ _ o _ _ HW1.out.2.1
     have fg := fun o => frozen_of_row _ _ o _ _ HW1.out.2.2
     obtain ⟨a0,a1,a2,a3,a4⟩ := bd_cells (b := ⟨true,false,⟨vk,vn,vs⟩⟩) HB1.out
     clear HF HW1 HA1 HB1
     go_wp2
     refine bodyPost_ret (v := .tuple #[bdV ((⟨true,false,⟨vk,vn,vs⟩⟩,bdz,true): Bd × Bd × Bool).1,bdV ((⟨true,false,⟨vk,vn,vs⟩⟩,bdz,true): Bd × Bd × Bool).2.1, .bool ((⟨true,false,⟨vk,vn,vs⟩⟩,bdz,true): Bd × Bd × Bool).2.2]) (by simp [results,Tryz.results182,go_sem,bdV,bdz,vz,l0,l1,l2,l3,l4,g0,g1,g2,g3,g4,hs1]) rfl ⟨HQ.out _ (by unfold boundsN; simp [h1,h2,h3,h]),by repeat (first | with_reducible refine Below.setCell ?_ (by first | omega | (simp; done) | (simp; omega)) _ | with_reducible refine Below.drew ?_ | with_reducible refine Below.alloc ?_ (by first | omega | (simp; done) | (simp; omega)) _ | exact HB2.out)⟩
   · have HB2 := Rw.dh HW1.out.1
     obtain ⟨l0,l1,l2,l3,l4⟩ := bd_cells (b := bdz) HW1.out.2.1
     obtain ⟨g0,g1,g2,g3,g4⟩ := bd_cells (b := bdz) HW1.out.2.2
     have fl := fun o => frozen_of_row _ _ o _ _ HW1.out.2.1
     have fg := fun o => frozen_of_row _ _ o _ _ HW1.out.2.2
     obtain ⟨a0,a1,a2,a3,a4⟩ := bd_cells (b := ⟨true,true,⟨vk,vn,vs⟩⟩) HA1.out
     clear HF HW1 HA1 HB1
     go_wp2
     refine bodyPost_ret (v := .tuple #[bdV ((⟨true,true,⟨vk,vn,vs⟩⟩,bdz,true): Bd × Bd × Bool).1,bdV ((⟨true,true,⟨vk,vn,vs⟩⟩,bdz,true): Bd × Bd × Bool).2.1, .bool ((⟨true,true,⟨vk,vn,vs⟩⟩,bdz,true): Bd × Bd × Bool).2.2]) (by simp [results,Tryz.results182,go_sem,bdV,bdz,vz,l0,l1,l2,l3,l4,g0,g1,g2,g3,g4,hs1]) rfl ⟨HQ.out _ (by unfold boundsN; simp [h1,h2,h3,h4,h]),by repeat (first | with_reducible refine Below.setCell ?_ (by first | omega | (simp; done) | (simp; omega)) _ | with_reducible refine Below.drew ?_ | with_reducible refine Below.alloc ?_ (by first | omega | (simp; done) | (simp; omega)) _ | exact HB2.out)⟩
   · have HB2 := Rw.dh HW1.out.1
     obtain ⟨l0,l1,l2,l3,l4⟩ := bd_cells (b := bdz) HW1.out.2.1
     obtain ⟨g0,g1,g2,g3,g4⟩ := bd_cells (b := bdz) HW1.out.2.2
     have fl := fun o => frozen_of_row _ _ o _ _ HW1.out.2.1
     have fg := fun o => frozen_of_row _ _ o _ _ HW1.out.2.2
     clear HF HW1 HA1 HB1
     go_wp2
     refine bodyPost_ret (v := .tuple #[bdV ((bdz,bdz,false): Bd × Bd × Bool).1,bdV ((bdz,bdz,false): Bd × Bd × Bool).2.1, .bool ((bdz,bdz,false): Bd × Bd × Bool).2.2]) (by simp [results,Tryz.results182,go_sem,bdV,bdz,vz,l0,l1,l2,l3,l4,g0,g1,g2,g3,g4,hs1]) rfl ⟨HQ.out _ (by unfold boundsN; simp [h1,h2,h3,h4,h]),by repeat (first | with_reducible refine Below.setCell ?_ (by first | omega | (simp; done) | (simp; omega)) _ | with_reducible refine Below.drew ?_ | with_reducible refine Below.alloc ?_ (by first | omega | (simp; done) | (simp; omega)) _ | exact HB2.out)⟩
end Go.Proofs.YteibhbnlcpejpaaGreat
