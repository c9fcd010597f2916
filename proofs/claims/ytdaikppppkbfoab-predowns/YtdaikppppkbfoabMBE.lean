import Derived.Test.YtdaikppppkbfoabMBD
set_option maxRecDepth 100000
set_option maxHeartbeats 4000000
namespace Go.Proofs.Ytdaikppppkbfoab
open Go.RowKit
structure Ebx (w W: World) (ra: Option Addr) (m rc: Nat) (left: Int) (xo: ByteArray) (xk xn: Int) (xs: ByteArray) (xv xc: Int) (xa: Option Addr) (k xp: Nat): Prop where
 bel: Below w.heap.size w W
 s: W.heap[w.heap.size]? = some (.cells #[.slice ra m rc, .int .i64 left] 72 (0,0))
 n: W.heap[w.heap.size + 1]? = some (.cells #[.string xo, .int .i64 xk, .int .i64 xn, .string xs, .int .i64 xv, .int .i64 xc, .slice xa k xp] 43 (0,0))
 z: W.heap[w.heap.size + 1 + 1]? = some (.cells #[.int .i64 0, .int .i64 0, .string ⟨#[]⟩] 23 (0,0))
section
variable {w W: World} {n: Nat} {ra: Option Addr} {rs: List RowL} {m rc: Nat} {xo: ByteArray} {xk xn: Int} {xs: ByteArray} {xv xc: Int} {xa: Option Addr} {k xp: Nat} {l: List NL} {left: Int}
theorem Ebx.new (nq: Nat): Ebx w ((((w.alloc (.cells #[.slice ra m rc, .int .i64 left] 72)).alloc (.cells #[.string xo, .int .i64 xk, .int .i64 xn, .string xs, .int .i64 xv, .int .i64 xc, .slice xa k xp] 43)).alloc (.cells #[.int .i64 0, .int .i64 0, .string ⟨#[]⟩] 23)).drewN nq) ra m rc left xo xk xn xs xv xc xa k xp :=
 ⟨below_drewN (below_three w _ _ _) nq,
  ((Below.heap_alloc _ _ _ (by simp; omega)).trans (Below.heap_alloc _ _ _ (by simp))).trans (Rw.heap_new w _),
  (Below.heap_alloc _ _ _ (by simp)).trans (heap_two w _ _),heap_three w _ _ _⟩
theorem Ebx.on {w1: World} (h: Ebx w W ra m rc left xo xk xn xs xv xc xa k xp) (hb: Below W.heap.size W w1): Ebx w w1 ra m rc left xo xk xn xs xv xc xa k xp :=
 ⟨below_on h.bel hb,(hb.block _ (Array.getElem?_eq_some_iff.1 h.s).1).trans h.s,(hb.block _ (Array.getElem?_eq_some_iff.1 h.n).1).trans h.n,(hb.block _ (Array.getElem?_eq_some_iff.1 h.z).1).trans h.z⟩
theorem Ebx.dec (h: Ebx w W ra m rc left xo xk xn xs xv xc xa k xp) (left': Int): Ebx w (W.setCell ⟨w.heap.size,1,none⟩ (.int .i64 left')) ra m rc left' xo xk xn xs xv xc xa k xp :=
 ⟨h.bel.setCell (Nat.le_refl _) _,heap_setCell_same _ _ _ _ _ _ h.s,(heap_setCell_other _ _ _ _ (by simp)).trans h.n,(heap_setCell_other _ _ _ _ (by simp; omega)).trans h.z⟩
theorem Ebx.cs (h: Ebx w W ra m rc left xo xk xn xs xv xc xa k xp): W.cell? ⟨w.heap.size,0,none⟩ = some (.slice ra m rc) /\ W.cell? ⟨w.heap.size,1,none⟩ = some (.int .i64 left) /\ W.frozen? ⟨w.heap.size,1,none⟩ = false /\ w.heap.size < W.heap.size :=
 ⟨by rw [cell_of_row _ _ _ _ _ _ h.s]; rfl,by rw [cell_of_row _ _ _ _ _ _ h.s]; rfl,frozen_of_row _ _ _ _ _ h.s,(Array.getElem?_eq_some_iff.1 h.s).1⟩
theorem Ebx.cn (h: Ebx w W ra m rc left xo xk xn xs xv xc xa k xp): W.cell? ⟨w.heap.size + 1,0,none⟩ = some (.string xo) /\ W.cell? ⟨w.heap.size + 1,1,none⟩ = some (.int .i64 xk) /\ W.cell? ⟨w.heap.size + 1,2,none⟩ = some (.int .i64 xn) /\ W.cell? ⟨w.heap.size + 1,3,none⟩ = some (.string xs) /\ W.cell? ⟨w.heap.size + 1,4,none⟩ = some (.int .i64 xv) /\ W.cell? ⟨w.heap.size + 1,5,none⟩ = some (.int .i64 xc) /\ W.cell? ⟨w.heap.size + 1,6,none⟩ = some (.slice xa k xp) := by
 refine ⟨?_, ?_, ?_, ?_, ?_, ?_, ?_⟩ <;> (rw [cell_of_row _ _ _ _ _ _ h.n]; rfl)
theorem Ebx.cz (h: Ebx w W ra m rc left xo xk xn xs xv xc xa k xp): W.cell? ⟨w.heap.size + 1 + 1,0,none⟩ = some (.int .i64 0) /\ W.cell? ⟨w.heap.size + 1 + 1,1,none⟩ = some (.int .i64 0) /\ W.cell? ⟨w.heap.size + 1 + 1,2,none⟩ = some (.string ⟨#[]⟩) /\ W.frozen? ⟨w.heap.size + 1 + 1,0,none⟩ = false /\ W.frozen? ⟨w.heap.size + 1 + 1,1,none⟩ = false /\ W.frozen? ⟨w.heap.size + 1 + 1,2,none⟩ = false := by
 refine ⟨?_, ?_, ?_, ?_, ?_, ?_⟩
 · rw [cell_of_row _ _ _ _ _ _ h.z]; rfl
 · rw [cell_of_row _ _ _ _ _ _ h.z]; rfl
 · rw [cell_of_row _ _ _ _ _ _ h.z]; rfl
 all_goals exact frozen_of_row _ _ _ _ _ h.z
theorem eval_bad (h: ((l.length: Int) == kidsN xo) = false) (h1: 1 <= left) :
 Calls Try.prog 58 #[scV ra rs.length rc left,nV (.mk xo xk xn xs xv xc xa xp l)] w (EvP (vz,15) w) := by
 have HK := Rw.dh (fun W => nkids_walk xo W)
 have hz: (left == 0) = false := beq_eq_false_iff_ne.2 (by omega)
 unfold scV nV
 dsimp only [NL.op,NL.vk,NL.vn,NL.vs,NL.var,NL.col,NL.a,NL.c,NL.kids]
 generalize kidsN xo = K at *
 have hne: ((l.length: Int) != K) = true := by simpa [bne] using h
 go_enter Try.func58,Try.ntmps58
 go_wp2_with fail
 go_quiet (first | (go_at_call 70; exact Calls.quiet_of_same (HK.out _)))
 go_wp2_with (go_at_call 69; refine (check_no 15 rfl _).mono ?_; rintro e w' ⟨rfl,rfl⟩)
 exact ⟨rfl, .no _ _ rfl,below_drewN (below_three w _ _ _) _⟩
theorem eval_value (h: ((l.length: Int) == kidsN xo) = true) (h1: 1 <= left) (h2: left <= 65536) (ho: xo.toList = nVALUE) :
 Calls Try.prog 58 #[scV ra rs.length rc left,nV (.mk xo xk xn xs xv xc xa xp l)] w (EvP (⟨xk,xn,xs⟩,0) w) := by
 have HK := Rw.dh (fun W => nkids_walk xo W)
 have hz: (left == 0) = false := beq_eq_false_iff_ne.2 (by omega)
 have k1: (xo.toList == [118,97,108,117,101]) = true := by rw [ho]; rfl
 unfold scV nV
 dsimp only [NL.op,NL.vk,NL.vn,NL.vs,NL.var,NL.col,NL.a,NL.c,NL.kids]
 generalize kidsN xo = K at *
 have hne: ((l.length: Int) != K) = false := by simpa [bne] using h
 clear h ho
 go_enter Try.func58,Try.ntmps58
 go_wp2_with fail
 go_quiet (first | (go_at_call 70; exact Calls.quiet_of_same (HK.out _)))
 refine Rw.to_letter (F := fun W => Ebx w W ra rs.length rc left xo xk xn xs xv xc xa l.length xp) (Ebx.new _) ?_
 intro W hE
 have HE := Rw.dh hE
 obtain ⟨s0,s1,s2,s3⟩ := hE.cs
 obtain ⟨n0,n1,n2,n3,n4,n5,n6⟩ := hE.cn
 obtain ⟨z0,z1,z2,z3,z4,z5⟩ := hE.cz
 clear hE
 go_wp2
 exact bodyPost_ret (v := .agg #[.int .i64 xk, .int .i64 xn, .string xs]) (by simp [results,Try.results58,go_sem,z0,z1,z2]) rfl ⟨.ok ⟨xk,xn,xs⟩,below_set3 (by omega) (HE.out.dec _).bel _ _ _⟩
theorem eval_column (h: ((l.length: Int) == kidsN xo) = true) (h1: 1 <= left) (h2: left <= 65536) (ho: xo.toList = nCOLUMN) (hR: RowsIn w ra rs) (hF: RowsFit rs) :
 Calls Try.prog 58 #[scV ra rs.length rc left,nV (.mk xo xk xn xs xv xc xa xp l)] w (EvP (evCol rs xv xc) w) := by
 have HK := Rw.dh (fun W => nkids_walk xo W)
 have hz: (left == 0) = false := beq_eq_false_iff_ne.2 (by omega)
 have k1: (xo.toList == [118,97,108,117,101]) = false := by rw [ho]; rfl
 have k2: (xo.toList == [99,111,108,117,109,110]) = true := by rw [ho]; rfl
 have HC := Rw.dh (fun W (hb: Below w.heap.size w W) => column_walk (c := rc) (left := left - 1) (hR.on hb) hF xv xc)
 unfold scV at HC
 unfold scV nV
 dsimp only [NL.op,NL.vk,NL.vn,NL.vs,NL.var,NL.col,NL.a,NL.c,NL.kids]
 generalize kidsN xo = K at *
 have hne: ((l.length: Int) != K) = false := by simpa [bne] using h
 clear h ho hR hF
 generalize evCol rs xv xc = R at *
 go_enter Try.func58,Try.ntmps58
 go_wp2_with fail
 go_quiet (first | (go_at_call 70; exact Calls.quiet_of_same (HK.out _)))
 refine Rw.to_letter (F := fun W => Ebx w W ra rs.length rc left xo xk xn xs xv xc xa l.length xp) (Ebx.new _) ?_
 intro W hE
 have HE := Rw.dh hE
 obtain ⟨s0,s1,s2,s3⟩ := hE.cs
 obtain ⟨n0,n1,n2,n3,n4,n5,n6⟩ := hE.cn
 clear hE
 go_wp2_with fail
 refine (HC.out _ (HE.out.dec _).bel).mono ?_
 rintro e w1 ⟨hW,hb⟩
 have HE1 := Rw.dh ((HE.out.dec _).on hb)
 clear hb HE HC
 cases hW with
 | no v c h =>
  go_wp2
  exact ⟨rfl, .no _ _ h,HE1.out.bel⟩
 | ok v =>
  obtain ⟨z0,z1,z2,z3,z4,z5⟩ := HE1.out.cz
  obtain ⟨vk,vn,vs⟩ := v
  unfold vvV valV
  go_wp2
  exact bodyPost_ret (v := .agg #[.int .i64 vk, .int .i64 vn, .string vs]) (by simp [results,Try.results58,go_sem,z0,z1,z2]) rfl ⟨.ok ⟨vk,vn,vs⟩,below_set3 (by omega) HE1.out.bel _ _ _⟩
end
end Go.Proofs.Ytdaikppppkbfoab
