import Derived.Test.YteibhbnlcpejpaaGreatMAJ
import Derived.Test.YteibhbnlcpejpaaGreatMAO
import Derived.Test.YteibhbnlcpejpaaGreatMAV
set_option maxRecDepth 100000
set_option maxHeartbeats 4000000
namespace Go.Proofs.YteibhbnlcpejpaaGreat
open Go.RowKit
theorem tNot_two (n: Int): tNot (tNot n) = if n == 0 then 0 else if n == 1 then 1 else 2 := by
 unfold tNot
 by_cases h: n = 0
 · subst h; rfl
 by_cases h1: n = 1
 · subst h1; rfl
 simp [h,h1]
theorem ret2_int {a b c d: Int} (h: a = b) (h1: c = d): Ending.returned (.tuple #[.int .i64 a, .int .i64 c]) = .returned (.tuple #[.int .i64 b, .int .i64 d]) := by rw [h,h1]
theorem truth_no {k n: Int} (h0: (k == 0) = false) (h1: (k == 1) = false): truthT k n = 0 /\ truthE k n = 4 := by
 unfold truthT truthE
 rw [h0,h1]; simp
theorem truth_yes {k n: Int} (h0: (k == 0) = false) (h1: (k == 1) = true): truthT k n = tNot (tNot n) /\ truthE k n = 0 := by
 unfold truthT truthE
 rw [h0,h1,tNot_two]; simp
theorem rtruth_walk (k n: Int) (s: ByteArray) (w: World): Calls Tryz.prog 89 #[valV k n s] w fun e w' =>
 e = .returned (.tuple #[.int .i64 (truthT k n), .int .i64 (truthE k n)]) /\ Below w.heap.size w w' := by
 have HN := Rw.dh (fun a W => rnot_walk a W)
 cases h0: (k == 0)
 · cases h1: (k == 1)
   · have HT := Rw.dh (truth_no (n := n) h0 h1)
     unfold valV
     go_enter Tryz.func89,Tryz.ntmps89
     go_wp2
     go_ret2
     exact ⟨ret2_int HT.out.1.symm HT.out.2.symm,Rw.below_alloc _ _⟩
   · have HT := Rw.dh (truth_yes (n := n) h0 h1)
     unfold valV
     go_enter Tryz.func89,Tryz.ntmps89
     go_wp2_with (go_at_call 126; refine (HN.out _ _).mono ?_; rintro e w' ⟨rfl,rfl⟩)
     go_ret2
     exact ⟨ret2_int HT.out.1.symm HT.out.2.symm,Rw.below_alloc _ _⟩
 · obtain rfl: k = 0 := by simpa using h0
   unfold valV
   go_enter Tryz.func89,Tryz.ntmps89
   go_wp2
   go_ret2
   exact ⟨rfl,Rw.below_alloc _ _⟩
theorem rof_walk (t: Int) (h: t = 0 \/ t = 1 \/ t = 2) (w: World): Calls Tryz.prog 125 #[.int .i64 t] w fun e w' => e = .returned (vvV (ofVv t)) /\ Below w.heap.size w w' := by
 rcases h with rfl | rfl | rfl
 · go_enter Tryz.func125,Tryz.ntmps125
   go_wp2
   exact bodyPost_ret (v := vvV (ofVv 0)) (by simp [results,Tryz.results125,go_sem,vvV,ofVv,valV]) rfl ⟨rfl,Rw.below_alloc _ _⟩
 · go_enter Tryz.func125,Tryz.ntmps125
   go_wp2
   exact bodyPost_ret (v := vvV (ofVv 1)) (by simp [results,Tryz.results125,go_sem,vvV,ofVv,valV]) rfl ⟨rfl,Rw.below_alloc _ _⟩
 · go_enter Tryz.func125,Tryz.ntmps125
   go_wp2
   exact bodyPost_ret (v := vvV (ofVv 2)) (by simp [results,Tryz.results125,go_sem,vvV,ofVv,vz,valV]) rfl ⟨rfl,Rw.below_alloc _ _⟩
abbrev RvP (r: VE) (w: World): Ending -> World -> Prop := fun e w' => e = .returned (.tuple #[vvV r.1, .int .i64 r.2]) /\ Below w.heap.size w w'
structure Rbx (w W: World) (xo: ByteArray) (xk xn: Int) (xs: ByteArray) (xv xc: Int) (xa: Option Addr) (k xp: Nat): Prop where
 bel: Below w.heap.size w W
 n: W.heap[w.heap.size]? = some (.cells #[.string xo, .int .i64 xk, .int .i64 xn, .string xs, .int .i64 xv, .int .i64 xc, .slice xa k xp] 56 (0,0))
 r: W.heap[w.heap.size + 1]? = some (.cells #[.int .i64 0, .int .i64 0, .string ⟨#[]⟩] 27 (0,0))
 z: W.heap[w.heap.size + 1 + 1]? = some (.cells #[.int .i64 0, .int .i64 0, .string ⟨#[]⟩] 27 (0,0))
section
variable {w W: World} {n: Nat} {ra: Option Addr} {rs: List RowL} {m rc: Nat} {xo: ByteArray} {xk xn: Int} {xs: ByteArray} {xv xc: Int} {xa: Option Addr} {k xp: Nat} {l: List NL}
theorem Rbx.new (nq: Nat): Rbx w ((((w.alloc (.cells #[.string xo, .int .i64 xk, .int .i64 xn, .string xs, .int .i64 xv, .int .i64 xc, .slice xa k xp] 56)).alloc (.cells #[.int .i64 0, .int .i64 0, .string ⟨#[]⟩] 27)).alloc (.cells #[.int .i64 0, .int .i64 0, .string ⟨#[]⟩] 27)).drewN nq) xo xk xn xs xv xc xa k xp :=
 ⟨below_drewN (below_three w _ _ _) nq,
  ((Below.heap_alloc _ _ _ (by simp; omega)).trans (Below.heap_alloc _ _ _ (by simp))).trans (Rw.heap_new w _),
  (Below.heap_alloc _ _ _ (by simp)).trans (heap_two w _ _),heap_three w _ _ _⟩
theorem Rbx.on {w1: World} (h: Rbx w W xo xk xn xs xv xc xa k xp) (hb: Below W.heap.size W w1): Rbx w w1 xo xk xn xs xv xc xa k xp :=
 ⟨below_on h.bel hb,(hb.block _ (Array.getElem?_eq_some_iff.1 h.n).1).trans h.n,(hb.block _ (Array.getElem?_eq_some_iff.1 h.r).1).trans h.r,(hb.block _ (Array.getElem?_eq_some_iff.1 h.z).1).trans h.z⟩
theorem Rbx.cn (h: Rbx w W xo xk xn xs xv xc xa k xp): W.cell? ⟨w.heap.size,0,none⟩ = some (.string xo) /\ W.cell? ⟨w.heap.size,1,none⟩ = some (.int .i64 xk) /\ W.cell? ⟨w.heap.size,2,none⟩ = some (.int .i64 xn) /\ W.cell? ⟨w.heap.size,3,none⟩ = some (.string xs) /\ W.cell? ⟨w.heap.size,4,none⟩ = some (.int .i64 xv) /\ W.cell? ⟨w.heap.size,5,none⟩ = some (.int .i64 xc) /\ W.cell? ⟨w.heap.size,6,none⟩ = some (.slice xa k xp) := by
 refine ⟨?_, ?_, ?_, ?_, ?_, ?_, ?_⟩ <;> (rw [cell_of_row _ _ _ _ _ _ h.n]; rfl)
theorem cells3 {W: World} {p: Nat} {a b c: Value} (h: W.heap[p]? = some (.cells #[a,b,c] 27 (0,0))): W.cell? ⟨p,0,none⟩ = some a /\ W.cell? ⟨p,1,none⟩ = some b /\ W.cell? ⟨p,2,none⟩ = some c /\ W.frozen? ⟨p,0,none⟩ = false /\ W.frozen? ⟨p,1,none⟩ = false /\ W.frozen? ⟨p,2,none⟩ = false :=
 ⟨by rw [cell_of_row _ _ _ _ _ _ h]; rfl,by rw [cell_of_row _ _ _ _ _ _ h]; rfl,by rw [cell_of_row _ _ _ _ _ _ h]; rfl,frozen_of_row _ _ _ _ _ h,frozen_of_row _ _ _ _ _ h,frozen_of_row _ _ _ _ _ h⟩
theorem reval_value (hl: l = []) (ho: xo.toList = nVALUE) :
 Calls Tryz.prog 88 #[nV (.mk xo xk xn xs xv xc xa xp l), .slice ra rs.length rc] w (RvP (⟨xk,xn,xs⟩,0) w) := by
 have k1: (xo.toList == [118,97,108,117,101]) = true := by rw [ho]; rfl
 subst hl
 unfold nV
 dsimp only [NL.op,NL.vk,NL.vn,NL.vs,NL.var,NL.col,NL.a,NL.c,NL.kids,List.length_nil]
 clear ho
 go_enter Tryz.func88,Tryz.ntmps88
 go_wp2_with fail
 exact bodyPost_ret (v := .tuple #[.agg #[.int .i64 xk, .int .i64 xn, .string xs], .int .i64 0]) (by simp [results,Tryz.results88,go_sem]) rfl ⟨rfl,below_three w _ _ _⟩
end
section
variable {w W: World} {n: Nat} {ra: Option Addr} {rs: List RowL} {m rc: Nat} {xo: ByteArray} {xk xn: Int} {xs: ByteArray} {xv xc: Int} {xa: Option Addr} {k xp: Nat} {l: List NL}
theorem reval_col_out (hv: xv < 0 \/ (rs.length: Int) <= xv) (hl: l = []) (ho: xo.toList = nCOLUMN) (hF: RowsFit rs) :
 Calls Tryz.prog 88 #[nV (.mk xo xk xn xs xv xc xa xp l), .slice ra rs.length rc] w (RvP (evCol rs xv xc) w) := by
 have k1: (xo.toList == [118,97,108,117,101]) = false := by rw [ho]; rfl
 have k2: (xo.toList == [99,111,108,117,109,110]) = true := by rw [ho]; rfl
 have hll: rs.length <= 9223372036854775807 := hF.1
 subst hl
 unfold nV
 dsimp only [NL.op,NL.vk,NL.vn,NL.vs,NL.var,NL.col,NL.a,NL.c,NL.kids,List.length_nil]
 clear ho
 have hB := fun o1 o2 o3 => Rw.dh (below_three w o1 o2 o3)
 by_cases h0: xv < 0
 · rw [evCol_lo h0]
   go_enter Tryz.func88,Tryz.ntmps88
   go_wp2_with fail
   go_quiet (fail)
   refine Rw.to_letter (F := fun W => Rbx w W xo xk xn xs xv xc xa 0 xp) (Rbx.new _) ?_
   intro W hE
   have HE := Rw.dh hE
   obtain ⟨n0,n1,n2,n3,n4,n5,n6⟩ := hE.cn
   obtain ⟨r0,r1,r2,r3,r4,r5⟩ := cells3 hE.r
   obtain ⟨z0,z1,z2,z3,z4,z5⟩ := cells3 hE.z
   clear hE
   go_wp2
   exact bodyPost_ret (v := .tuple #[.agg #[.int .i64 0, .int .i64 0, .string ⟨#[]⟩], .int .i64 15]) (by simp [results,Tryz.results88,go_sem,r0,r1,r2]) rfl ⟨rfl,below_set3 (by omega) HE.out.bel _ _ _⟩
 by_cases h1: (rs.length: Int) <= xv
 · rw [evCol_hi h0 h1]
   have g0: decide (xv < 0) = false := by first | exact decide_eq_true (by omega) | exact decide_eq_false (by omega)
   have g1: decide ((rs.length: Int) <= xv) = true := by first | exact decide_eq_true (by omega) | exact decide_eq_false (by omega)
   have g2: decide (xv ≥ (rs.length: Int)) = true := by first | exact decide_eq_true (by omega) | exact decide_eq_false (by omega)
   go_enter Tryz.func88,Tryz.ntmps88
   go_wp2_with fail
   go_quiet (fail)
   refine Rw.to_letter (F := fun W => Rbx w W xo xk xn xs xv xc xa 0 xp) (Rbx.new _) ?_
   intro W hE
   have HE := Rw.dh hE
   obtain ⟨n0,n1,n2,n3,n4,n5,n6⟩ := hE.cn
   obtain ⟨r0,r1,r2,r3,r4,r5⟩ := cells3 hE.r
   obtain ⟨z0,z1,z2,z3,z4,z5⟩ := cells3 hE.z
   clear hE
   go_wp2
   exact bodyPost_ret (v := .tuple #[.agg #[.int .i64 0, .int .i64 0, .string ⟨#[]⟩], .int .i64 15]) (by simp [results,Tryz.results88,go_sem,r0,r1,r2]) rfl ⟨rfl,below_set3 (by omega) HE.out.bel _ _ _⟩
 exact absurd hv (by omega)
end
end Go.Proofs.YteibhbnlcpejpaaGreat
