import Derived.Test.YteibhbnlcpejpaaGreatMAX
set_option maxRecDepth 100000
set_option maxHeartbeats 4000000
namespace Go.Proofs.YteibhbnlcpejpaaGreat
open Go.RowKit
section
variable {w W: World} {n: Nat} {ra: Option Addr} {rs: List RowL} {m rc: Nat} {xo: ByteArray} {xk xn: Int} {xs: ByteArray} {xv xc: Int} {xa: Option Addr} {k xp: Nat} {l: List NL}
theorem reval_col_at {b o b' o': Nat} {r: RowL} {u: Vv} (hv0: 0 <= xv) (hv1: xv < (rs.length: Int)) (hb: b < w.heap.size) (c0: w.cell? ⟨b,o + xv.toNat,none⟩ = some (.slice (some ⟨b',o',none⟩) r.l.length r.c)) (h2: 0 <= xc) (h3: xc < (r.l.length: Int)) (hb': b' < w.heap.size) (d0: w.cell? ⟨b',o' + xc.toNat * 3,none⟩ = some (.int .i64 u.k)) (d1: w.cell? ⟨b',o' + xc.toNat * 3 + 1,none⟩ = some (.int .i64 u.n)) (d2: w.cell? ⟨b',o' + xc.toNat * 3 + 2,none⟩ = some (.string u.s)) (hl: l = []) (ho: xo.toList = nCOLUMN) :
 Calls Tryz.prog 88 #[nV (.mk xo xk xn xs xv xc xa xp l), .slice (some ⟨b,o,none⟩) rs.length rc] w (RvP (u,0) w) := by
 have k1: (xo.toList == [118,97,108,117,101]) = false := by rw [ho]; rfl
 have k2: (xo.toList == [99,111,108,117,109,110]) = true := by rw [ho]; rfl
 subst hl
 unfold nV
 dsimp only [NL.op,NL.vk,NL.vn,NL.vs,NL.var,NL.col,NL.a,NL.c,NL.kids,List.length_nil]
 clear ho
 have g0: decide (xv < 0) = false := decide_eq_false (by omega)
 have g1: decide ((rs.length: Int) <= xv) = false := decide_eq_false (by omega)
 have g2: decide (xv ≥ (rs.length: Int)) = false := decide_eq_false (by omega)
 have g3: decide (xc < 0) = false := decide_eq_false (by omega)
 have g4: decide ((r.l.length: Int) <= xc) = false := decide_eq_false (by omega)
 have g5: decide (xc ≥ (r.l.length: Int)) = false := decide_eq_false (by omega)
 generalize rs.length = N at *
 generalize r.l.length = M at *
 go_enter Tryz.func88,Tryz.ntmps88
 go_wp2_with fail
 refine Rw.to_letter (F := fun W => Rbx w W xo xk xn xs xv xc xa 0 xp) Rbx.new0 ?_
 intro W hE
 have HE := Rw.dh hE
 obtain ⟨n0,n1,n2,n3,n4,n5,n6⟩ := hE.cn
 have e0: W.cell? ⟨b,o + xv.toNat,none⟩ = some (.slice (some ⟨b',o',none⟩) M r.c) := by rw [hE.bel.cell hb]; assumption
 have d0': W.cell? ⟨b',o' + xc.toNat * 3,none⟩ = some (.int .i64 u.k) := by rw [hE.bel.cell hb']; assumption
 have d1': W.cell? ⟨b',o' + xc.toNat * 3 + 1,none⟩ = some (.int .i64 u.n) := by rw [hE.bel.cell hb']; assumption
 have d2': W.cell? ⟨b',o' + xc.toNat * 3 + 2,none⟩ = some (.string u.s) := by rw [hE.bel.cell hb']; assumption
 clear hE
 go_quiet (fail)
 rename_i nq
 refine Rw.to_letter (F := fun W => Rbx w W xo xk xn xs xv xc xa 0 xp /\ W.cell? ⟨b,o + xv.toNat,none⟩ = some (.slice (some ⟨b',o',none⟩) M r.c) /\ W.cell? ⟨b',o' + xc.toNat * 3,none⟩ = some (.int .i64 u.k) /\ W.cell? ⟨b',o' + xc.toNat * 3 + 1,none⟩ = some (.int .i64 u.n) /\ W.cell? ⟨b',o' + xc.toNat * 3 + 2,none⟩ = some (.string u.s)) ⟨HE.out.drewN _,by simpa using e0,by simpa using d0',by simpa using d1',by simpa using d2'⟩ ?_
 clear HE
 intro V hE
 obtain ⟨hE,f0,f1,f2,f3⟩ := hE
 have HE := Rw.dh hE
 obtain ⟨m0,m1,m2,m3,m4,m5,m6⟩ := hE.cn
 obtain ⟨r0,r1,r2,r3,r4,r5⟩ := cells3 hE.r
 clear hE
 go_wp2_with fail
 go_region
 refine Rw.to_letter (F := fun U => Below w.heap.size w U /\ U.heap[w.heap.size + 1]? = some (.cells #[.int .i64 u.k, .int .i64 u.n, .string u.s] 27 (0,0))) ⟨(below_set3 (p := w.heap.size + 1) (by omega) HE.out.bel _ _ _).drew,heap_setCell_same _ _ _ _ _ _ (heap_setCell_same _ _ _ _ _ _ (heap_setCell_same _ _ _ _ _ _ HE.out.r))⟩ ?_
 clear HE
 rintro U ⟨hU,hE⟩
 have HU := Rw.dh hU
 obtain ⟨s0,s1,s2,s3,s4,s5⟩ := cells3 hE
 clear hE hU
 go_wp2
 exact bodyPost_ret (v := .tuple #[vvV u, .int .i64 0]) (by simp [results,Tryz.results88,go_sem,vvV,valV,s0,s1,s2]) rfl ⟨rfl,HU.out⟩
end
end Go.Proofs.YteibhbnlcpejpaaGreat
