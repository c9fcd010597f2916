import Derived.Test.YteibhbnlcpejpaaGreatMBY
set_option maxRecDepth 100000
set_option maxHeartbeats 4000000
namespace Go.Proofs.YteibhbnlcpejpaaGreat
open Go.RowKit
def pEq (p: Nat): NL := .mk ⟨#[61]⟩ 0 0 ⟨#[]⟩ 0 0 (some ⟨p,0,none⟩) 2 [xA,xN 3]
def pNl (p: Nat): NL := .mk ⟨#[110,117,108,108]⟩ 0 0 ⟨#[]⟩ 0 0 (some ⟨p,0,none⟩) 1 [xB]
def pOr (p: Nat): NL := .mk ⟨#[111,114]⟩ 0 0 ⟨#[]⟩ 0 0 (some ⟨p,0,none⟩) 2 [xB,xB]
def pL (p q r: Nat): List NL := [pEq p,pNl q,pOr r]
def pT: List Tl := [⟨0,⟨true,true,⟨2,3,⟨#[]⟩⟩⟩,⟨true,true,⟨2,3,⟨#[]⟩⟩⟩⟩,⟨1,nullBd,nullBd⟩]
theorem colA: isColN xA = true := by simp [isColN,xA,NL.op,NL.var,NL.kids,nCOLUMN,ByteArray.toList_eq]
theorem colB: isColN xB = true := by simp [isColN,xB,NL.op,NL.var,NL.kids,nCOLUMN,ByteArray.toList_eq]
theorem col3: isColN (xN 3) = false := by simp [isColN,xN,NL.op,NL.var,NL.kids,nCOLUMN,ByteArray.toList_eq]
theorem kno3: isKnownN (xN 3) = true := by simp [isKnownN,xN,NL.op,NL.val,NL.vk,NL.vn,NL.vs,NL.kids,nVALUE,isZ,ByteArray.toList_eq]
theorem knoB: isKnownN xB = false := by simp [isKnownN,xB,NL.op,NL.val,NL.vk,NL.vn,NL.vs,NL.kids,nVALUE,ByteArray.toList_eq]
theorem t_eq (p: Nat): testN (pEq p) = (⟨0,⟨true,true,⟨2,3,⟨#[]⟩⟩⟩,⟨true,true,⟨2,3,⟨#[]⟩⟩⟩⟩,true) := by
 show comparedN ⟨#[61]⟩ xA (xN 3) = _
 unfold comparedN
 rw [if_neg (by rw [col3]; decide)]
 unfold cmpN
 rw [colA,kno3]
 simp [boundsN,ByteArray.toList_eq,xN,xA,NL.val,NL.vk,NL.vn,NL.vs,NL.col]
theorem t_nl (p: Nat): testN (pNl p) = (⟨1,nullBd,nullBd⟩,true) := by
 show ((⟨xB.col,nullBd,nullBd⟩: Tl),(pNl p).op.toList == nNULL && isColN xB) = _
 rw [colB]
 simp [pNl,NL.op,nNULL,ByteArray.toList_eq,xB,NL.col]
theorem t_or (p: Nat): (testN (pOr p)).2 = false := by
 show (comparedN ⟨#[111,114]⟩ xB xB).2 = _
 unfold comparedN
 rw [if_pos colB]
 unfold cmpN
 rw [knoB]
 simp
theorem pL_tests (p q r: Nat): testsN (pL p q r) = pT := by
 unfold pL
 rw [testsN,testsN,testsN,testsN,t_eq,t_nl,t_or]
 rfl
theorem pL_rest (p q r: Nat): restN (pL p q r) = [pOr r] := by
 unfold pL
 rw [restN,restN,restN,restN,t_eq,t_nl,t_or]
 rfl
theorem ordV_self (v: Vv): ordV v v = 0 := by have := ordV_swap v v; omega
theorem pL_met (n: Nat) (a: Option Addr) (c: Nat): meetsC n ⟨a,c,[⟨2,3,⟨#[]⟩⟩,vz]⟩ pT [] = true := by
 have h: ∀ v,inB ⟨true,true,v⟩ ⟨true,true,v⟩ v = true := fun v => by unfold inB; simp [ordV_self,letsB]
 have h1: metT [⟨2,3,⟨#[]⟩⟩,vz] ⟨0,⟨true,true,⟨2,3,⟨#[]⟩⟩⟩,⟨true,true,⟨2,3,⟨#[]⟩⟩⟩⟩ = true := (metT_at (v := ⟨2,3,⟨#[]⟩⟩) rfl).trans (h _)
 have h2: metT [⟨2,3,⟨#[]⟩⟩,vz] ⟨1,nullBd,nullBd⟩ = true := (metT_at (v := vz) rfl).trans (h _)
 simp [meetsC,pT,h1,h2,allN]
structure PIn (w: World) (p q r s: Nat): Prop where
 hp: w.heap[p]? = some (.cells (nC xA ++ nC (xN 3)).toArray 44 (0,0))
 hq: w.heap[q]? = some (.cells (nC xB).toArray 44 (0,0))
 hr: w.heap[r]? = some (.cells (nC xB ++ nC xB).toArray 44 (0,0))
 hs: w.heap[s]? = some (.cells (nC (pEq p) ++ nC (pNl q) ++ nC (pOr r)).toArray 44 (0,0))
theorem PIn.slg {w: World} {p q r s: Nat} (h: PIn w p q r s): Rw.SlG nC 7 w (some ⟨s,0,none⟩) (pL p q r) := slg_flat nC_len (by have := h.hs; simpa [Rw.flat,pL] using this)
theorem PIn.ins {w: World} {p q r s: Nat} (h: PIn w p q r s): ∀ k ∈ pL p q r,∀ n,InN n w k := by
 have sm: ∀ x: NL,fits x.vk = true -> fits x.vn = true -> x.op.size <= 6 -> x.vs.size <= 6 -> x.kids.length <= 6 -> NOk x := fun x a b c d e => smallN a b c d e
 have hA: ∀ n,InN n w xA := fun n => leafN rfl (sm _ rfl rfl (Nat.le_of_ble_eq_true rfl) (Nat.le_of_ble_eq_true rfl) (Nat.le_of_ble_eq_true rfl)) n w
 have hB: ∀ n,InN n w xB := fun n => leafN rfl (sm _ rfl rfl (Nat.le_of_ble_eq_true rfl) (Nat.le_of_ble_eq_true rfl) (Nat.le_of_ble_eq_true rfl)) n w
 have h3: ∀ n,InN n w (xN 3) := fun n => leafN rfl (sm _ rfl rfl (Nat.le_of_ble_eq_true rfl) (Nat.le_of_ble_eq_true rfl) (Nat.le_of_ble_eq_true rfl)) n w
 intro k hk
 simp only [pL,List.mem_cons,List.not_mem_nil,or_false] at hk
 rcases hk with rfl | rfl | rfl
 · exact twoN (sm _ rfl rfl (Nat.le_of_ble_eq_true rfl) (Nat.le_of_ble_eq_true rfl) (Nat.le_of_ble_eq_true rfl)) rfl rfl h.hp hA h3
 · intro n
   cases n with
   | zero => trivial
   | succ n =>
    refine ⟨sm _ rfl rfl (Nat.le_of_ble_eq_true rfl) (Nat.le_of_ble_eq_true rfl) (Nat.le_of_ble_eq_true rfl), ?_,fun z hz => ?_⟩
    · show Rw.SlG nC 7 w (some ⟨q,0,none⟩) [xB]
      exact slg_flat nC_len (by have := h.hq; simpa [Rw.flat] using this)
    · have: z = xB := by simpa [pNl,NL.kids] using hz
      rw [this]; exact hB n
 · exact twoN (sm _ rfl rfl (Nat.le_of_ble_eq_true rfl) (Nat.le_of_ble_eq_true rfl) (Nat.le_of_ble_eq_true rfl)) rfl rfl h.hr hB hB
theorem pL_deep (p q r: Nat): ∀ k ∈ pL p q r,deepN 2 k = false := by
 intro k hk
 simp only [pL,List.mem_cons,List.not_mem_nil,or_false] at hk
 rcases hk with rfl | rfl | rfl <;> rfl
theorem pL_op (p q r: Nat): ∀ k ∈ pL p q r,OpN 2 k := by
 intro k hk
 simp only [pL,List.mem_cons,List.not_mem_nil,or_false] at hk
 rcases hk with rfl | rfl | rfl <;> refine ⟨Nat.le_of_ble_eq_true rfl,fun z hz => ?_⟩
 all_goals
  simp only [pEq,pNl,pOr,NL.kids,List.mem_cons,List.not_mem_nil,or_false] at hz
  refine ⟨?_,fun y _ => trivial⟩
  first | (rcases hz with rfl | rfl <;> exact Nat.le_of_ble_eq_true rfl) | (rcases hz with rfl; exact Nat.le_of_ble_eq_true rfl)
theorem pL_fit (p q r: Nat): ∀ k ∈ pL p q r,∀ z ∈ k.kids,VFit z.val /\ fits z.col = true := by
 intro k hk z hz
 simp only [pL,List.mem_cons,List.not_mem_nil,or_false] at hk
 rcases hk with rfl | rfl | rfl
 all_goals
  simp only [pEq,pNl,pOr,NL.kids,List.mem_cons,List.not_mem_nil,or_false] at hz
  first | (rcases hz with rfl | rfl <;> exact ⟨⟨rfl,rfl,Nat.le_of_ble_eq_true rfl⟩,rfl⟩) | (rcases hz with rfl; exact ⟨⟨rfl,rfl,Nat.le_of_ble_eq_true rfl⟩,rfl⟩)
theorem pbuilt (w: World): Below w.heap.size w (((((((w.alloc (.cells (nC xA).toArray 44)).alloc (.cells (nC xB).toArray 44)).alloc (.cells (nC (xN 3)).toArray 44)).alloc (.cells (nC xA ++ nC (xN 3)).toArray 44)).alloc (.cells (nC xB).toArray 44)).alloc (.cells (nC xB ++ nC xB).toArray 44)).alloc (.cells (nC (pEq (w.heap.size + 3)) ++ nC (pNl (w.heap.size + 4)) ++ nC (pOr (w.heap.size + 5))).toArray 44)) /\
 PIn (((((((w.alloc (.cells (nC xA).toArray 44)).alloc (.cells (nC xB).toArray 44)).alloc (.cells (nC (xN 3)).toArray 44)).alloc (.cells (nC xA ++ nC (xN 3)).toArray 44)).alloc (.cells (nC xB).toArray 44)).alloc (.cells (nC xB ++ nC xB).toArray 44)).alloc (.cells (nC (pEq (w.heap.size + 3)) ++ nC (pNl (w.heap.size + 4)) ++ nC (pOr (w.heap.size + 5))).toArray 44)) (w.heap.size + 3) (w.heap.size + 4) (w.heap.size + 5) (w.heap.size + 6) := by
 refine ⟨?_, ?_, ?_, ?_, ?_⟩
 · exact ((((((Rw.below_alloc w _).alloc (by first | (simp; done) | (simp; omega)) _).alloc (by first | (simp; done) | (simp; omega)) _).alloc (by first | (simp; done) | (simp; omega)) _).alloc (by first | (simp; done) | (simp; omega)) _).alloc (by first | (simp; done) | (simp; omega)) _).alloc (by first | (simp; done) | (simp; omega)) _
 · exact (Below.heap_alloc _ _ _ (by first | (simp; done) | (simp; omega))).trans ((Below.heap_alloc _ _ _ (by first | (simp; done) | (simp; omega))).trans ((Below.heap_alloc _ _ _ (by first | (simp; done) | (simp; omega))).trans (Rw.heap_new' _ _ (by first | (simp; done) | (simp; omega)))))
 · exact (Below.heap_alloc _ _ _ (by first | (simp; done) | (simp; omega))).trans ((Below.heap_alloc _ _ _ (by first | (simp; done) | (simp; omega))).trans (Rw.heap_new' _ _ (by first | (simp; done) | (simp; omega))))
 · exact (Below.heap_alloc _ _ _ (by first | (simp; done) | (simp; omega))).trans (Rw.heap_new' _ _ (by first | (simp; done) | (simp; omega)))
 · exact Rw.heap_new' _ _ (by first | (simp; done) | (simp; omega))
theorem pawake_walk (w: World): Calls Tryz.prog 23 #[] w fun e w' => e = .returned (.bool true) /\ Below w.heap.size w w' := by
 go_enter Tryz.func23,Tryz.ntmps23
 go_wp2_with fail
 have hP := pbuilt w
 have HC := predOf_walk 2 (by decide) (c := 3) hP.2.slg (show 3 <= 1000 by decide) hP.2.ins (pL_fit _ _ _) (pL_deep _ _ _) (pL_op _ _ _)
 have HB := Rw.dh hP.1
 clear hP
 refine HC.mono ?_
 clear HC
 rintro e w1 ⟨k,rfl,hts,hle, -, hci,hb1⟩
 rw [pL_tests] at hts
 rw [pL_rest] at hle
 have HB1 := Rw.dh (HB.out.trans (hb1.mono HB.out.size))
 have HCi := Rw.dh hci
 clear hb1 HB hci
 obtain ⟨ka,kc,kt,kb,kd,kl⟩ := k
 simp only at hts hle
 subst hts
 unfold cdV
 simp only [hle,pT,List.length_cons,List.length_nil]
 go_wp2_with fail
 have hu := below_two w1 (.cells #[.slice ka 2 kc, .slice kb 1 kd] 78) (.cells #[.int .i64 2, .int .i64 3, .string ⟨#[]⟩, .int .i64 0, .int .i64 0, .string ⟨#[]⟩] 27)
 have hk: CdIn ((w1.alloc (.cells #[.slice ka 2 kc, .slice kb 1 kd] 78)).alloc (.cells #[.int .i64 2, .int .i64 3, .string ⟨#[]⟩, .int .i64 0, .int .i64 0, .string ⟨#[]⟩] 27)) ⟨ka,kc,pT,none,0,[]⟩ := ⟨HCi.out.ts.below hu,HCi.out.ok,Or.inl rfl,Nat.zero_le _,fun x hx => (by cases hx)⟩
 have hr: Rw.SlG vvC 3 ((w1.alloc (.cells #[.slice ka 2 kc, .slice kb 1 kd] 78)).alloc (.cells #[.int .i64 2, .int .i64 3, .string ⟨#[]⟩, .int .i64 0, .int .i64 0, .string ⟨#[]⟩] 27)) (some ⟨w1.heap.size + 1,0,none⟩) [⟨2,3,⟨#[]⟩⟩,vz] := slg_flat vvC_len (heap_two w1 _ _)
 have HM := meets_walk (n := 2) (by decide) ⟨ka,kc,pT,none,0,[]⟩ ⟨some ⟨w1.heap.size + 1,0,none⟩,2,[⟨2,3,⟨#[]⟩⟩,vz]⟩ hk (show 2 <= 1000 by decide) (fun x hx => (by cases hx)) (Nat.zero_le _) hr ⟨by simp [maxLen],fun v hv => (by
  simp only [List.mem_cons,List.not_mem_nil,or_false] at hv
  rcases hv with rfl | rfl <;> exact ⟨rfl,rfl,Nat.le_of_ble_eq_true rfl⟩)⟩
 rw [pL_met] at HM
 refine HM.mono ?_
 rintro e w2 ⟨rfl,hb2⟩
 have HB2 := Rw.dh (below_on HB1.out (below_on hu hb2))
 clear HM hk hr hu hb2 HCi HB1
 go_wp2
 go_ret
 exact ⟨rfl,HB2.out⟩
end Go.Proofs.YteibhbnlcpejpaaGreat
