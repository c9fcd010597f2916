import Derived.Test.YteibhbnlcpejpaaGreatMBJ
import Derived.Test.YteibhbnlcpejpaaGreatMBL
set_option maxRecDepth 100000
set_option maxHeartbeats 4000000
namespace Go.Proofs.YteibhbnlcpejpaaGreat
open Go.RowKit
structure Made (w W: World) (X: Array Value) (xo: ByteArray) (m p q: Nat): Prop where
 bel: Below w.heap.size w W
 x: W.heap[w.heap.size]? = some (.cells X 30 (0,0))
 z: W.heap[w.heap.size + 1]? = some (.cells (nC zNL).toArray 44 (0,0))
 box: W.heap[p]? = some (.cells (nC (.mk xo 0 0 ⟨#[]⟩ 0 0 (some ⟨q,0,none⟩) m (List.replicate m zNL))).toArray 44 (0,0))
 row: W.heap[q]? = some (.cells (rowN (List.replicate m zNL)) 44 (0,0))
 far: w.heap.size + 2 <= p /\ w.heap.size + 2 <= q /\ p ≠ q
def kS (i: Nat): Nat := if i < 7 then 68 + i else if i = 7 then 67 else if i < 11 then 67 + i else if i = 12 then 78 else 79
def kL: List Nat := [67,68,69,70,71,72,73,74,75,76,77,78]
theorem kS_inj: ∀ i j: Nat,i < 13 -> j < 13 -> kS i = kS j -> i = j := fun i j hi hj h => by unfold kS at h; (repeat' split at h) <;> omega
theorem found_kids {l: List VarL} {a: Option Addr} {c: Nat} {w: World} {xo: ByteArray} {xk xn: Int} {xs xv xc: ByteArray} {xa: Option Addr} {xp: Nat} {kids: List XL} {f: XL -> Chk} (h1: (xo.toList == oVALUE) = false) (h2: (xo.toList == oCOLUMN) = false) (h3: xo.size <= 1048576)
 (hm: kids.length = 1 \/ kids.length = 2) (hin: Rw.SlG xC 7 w xa kids) (hK: ∀ k ∈ kids,∀ W,Below w.heap.size w W -> Calls Tryz.prog 64 #[.slice a l.length c,xV k] W (FoP (f k) W)) :
 Calls Tryz.prog 64 #[.slice a l.length c,xV (.mk xo xk xn xs xv xc xa xp kids)] w (FoP (chkKids xo f kids) w) := by
 unfold oVALUE at h1
 unfold oCOLUMN at h2
 have HB0 := Rw.dh (below_two w (.cells #[.string xo, .int .i64 xk, .int .i64 xn, .string xs, .string xv, .string xc, .slice xa kids.length xp] 30) (.cells (nC zNL).toArray 44))
 have hx0 := (Below.heap_alloc (w.alloc (.cells #[.string xo, .int .i64 xk, .int .i64 xn, .string xs, .string xv, .string xc, .slice xa kids.length xp] 30)) (.cells (nC zNL).toArray 44) w.heap.size (by simp)).trans (Rw.heap_new w _)
 have hz0 := heap_two w (.cells #[.string xo, .int .i64 xk, .int .i64 xn, .string xs, .string xv, .string xc, .slice xa kids.length xp] 30) (.cells (nC zNL).toArray 44)
 unfold xV
 dsimp only [XL.op,XL.vk,XL.vn,XL.vs,XL.var,XL.col,XL.a,XL.c,XL.kids]
 have HIN := Rw.dh hin
 have HK := Rw.dh hK
 have HM := Rw.dh hm
 clear hK hin
 generalize hkl: kids.length = m at *
 have HKL := Rw.dh hkl
 clear hkl
 go_enter Tryz.func64,Tryz.ntmps64
 go_wp2_with fail
 refine Rw.to_letter (F := fun W => Below w.heap.size w W /\ W.heap[w.heap.size]? = some (.cells #[.string xo, .int .i64 xk, .int .i64 xn, .string xs, .string xv, .string xc, .slice xa m xp] 30 (0,0)) /\ W.heap[w.heap.size + 1]? = some (.cells (nC zNL).toArray 44 (0,0))) ⟨HB0.out,hx0,hz0⟩ ?_
 clear HB0 hx0 hz0
 rintro W ⟨hbB,hx,hz⟩
 have HX := Rw.dh hx
 have HZ := Rw.dh hz
 have HB := Rw.dh hbB
 have hWs: w.heap.size + 2 <= W.heap.size := (Array.getElem?_eq_some_iff.1 hz).1
 clear hz hx hbB
 refine Rw.wp_region_factsX (U := W) 9 (fun i => if i < 8 then 51 + i else 8) [8,51,52,53,54,55,56,57,58] (fmF w.heap.size (w.heap.size + 2) m xp xa xo) (JX xo m) W.heap.size ⟨fun p hp => (by cases hp),fun q hq => hq.elim (fun e => (by cases e)) fun e => (by cases e),fun p q hp => (by cases hp)⟩ (by kernel_rfl) (by kernel_rfl) (by kernel_rfl) (by simp) (Rw.lowO_of (by kernel_rfl)) (by kernel_rfl) ?_ ?_
 · intro i o a2 w2 hi hi9 hfr hbw hsz hj hdep
   have hinj: ∀ i j: Nat,i < 9 -> j < 9 -> (if i < 8 then 51 + i else 8) = (if j < 8 then 51 + j else 8) -> i = j := fun i j _ _ h => by split at h <;> split at h <;> omega
   have e3: a2.eval (.tmp 3) = .pointer (some ⟨w.heap.size,0,none⟩) := hfr.eval (by decide)
   have hts: a2.tmps.size = 88 := hfr.size
   have hx2 := (hbw.block w.heap.size (by omega)).trans HX.out
   have x0: w2.cell? ⟨w.heap.size,0,none⟩ = some (.string xo) := by rw [cell_of_row _ _ _ _ _ _ hx2]; rfl
   have x6: w2.cell? ⟨w.heap.size,6,none⟩ = some (.slice xa m xp) := by rw [cell_of_row _ _ _ _ _ _ hx2]; rfl
   have dep: ∀ q,(o.after.any fun e => Region.binds .any e && e.on == q) = true -> fmF w.heap.size (w.heap.size + 2) m xp xa xo q (a2.eval (.tmp (if q < 8 then 51 + q else 8))) w2 := fun q h => Rw.depO (F := fun q => fmF w.heap.size (w.heap.size + 2) m xp xa xo q (a2.eval (.tmp (if q < 8 then 51 + q else 8))) w2) q h hdep
   have same: ∀ (i: Nat) (hi: i < 6) (v: Value),fmF w.heap.size (w.heap.size + 2) m xp xa xo i v w2 -> Rw.StpX 9 (fun i => if i < 8 then 51 + i else 8) [8,51,52,53,54,55,56,57,58] (fmF w.heap.size (w.heap.size + 2) m xp xa xo) (JX xo m) W.heap.size i a2 w2 (a2.put (some (51 + i)) v) w2 := fun i hi v h => by
    have e: 51 + i = (if i < 8 then 51 + i else 8) := by rw [if_pos (by omega)]
    rw [e]
    refine Rw.StpX.put hinj (by omega) (by rw [<- e]; simp; omega) (by rw [hts, <- e]; show 51 + i < 88; omega) h (Below.refl _ _) (Nat.le_refl _) (hj.keep ?_ ?_ ?_ (Nat.le_refl _)) fun _ _ _ h => h
    all_goals (rw [<- e]; exact Rw.put_ne _ _ _ _ (by omega))
   have hcs: i = 0 \/ i = 1 \/ i = 2 \/ i = 3 \/ i = 4 \/ i = 5 \/ i = 6 \/ i = 7 \/ i = 8 := by omega
   rcases hcs with rfl | rfl | rfl | rfl | rfl | rfl | rfl | rfl | rfl
   · obtain rfl := Option.some.inj hi
     exact ⟨rfl,fun K hK => xop_f0 rfl e3 (hK _ _ (same 0 (by omega) _ rfl))⟩
   · obtain rfl := Option.some.inj hi
     have d: a2.eval (.tmp 51) = .pointer (some ⟨w.heap.size,0,none⟩) := dep 0 (by kernel_rfl)
     exact ⟨rfl,fun K hK => cop_str rfl d x0 (hK _ _ (same 1 (by omega) _ rfl))⟩
   · obtain rfl := Option.some.inj hi
     have d: a2.eval (.tmp 52) = .string xo := dep 1 (by kernel_rfl)
     refine ⟨rfl,fun K hK => cop_clone rfl d (Nat.le_trans h3 (by decide)) fun w3 hb3 => hK _ _ ?_⟩
     refine Rw.StpX.put hinj (i := 2) (by omega) (by decide) (by rw [hts]; decide) rfl (hb3.mono hsz) hb3.size (hj.keep ?_ ?_ ?_ hb3.size) fun j u _ h => fmF_mono j u w2 w3 hb3 h
     all_goals exact Rw.put_ne _ _ _ _ (by decide)
   · obtain rfl := Option.some.inj hi
     exact ⟨rfl,fun K hK => xop_f4 rfl e3 (hK _ _ (same 3 (by omega) _ rfl))⟩
   · obtain rfl := Option.some.inj hi
     have d: a2.eval (.tmp 54) = .pointer (some ⟨w.heap.size,6,none⟩) := dep 3 (by kernel_rfl)
     exact ⟨rfl,fun K hK => iop_exprs rfl d x6 (hK _ _ (same 4 (by omega) _ rfl))⟩
   · obtain rfl := Option.some.inj hi
     have d: a2.eval (.tmp 55) = .slice xa m xp := dep 4 (by kernel_rfl)
     exact ⟨rfl,fun K hK => iop_len rfl d (hK _ _ (same 5 (by omega) _ rfl))⟩
   · obtain rfl := Option.some.inj hi
     have d: a2.eval (.tmp 56) = .int .i64 (m: Int) := dep 5 (by kernel_rfl)
     refine ⟨rfl,fun K hK => iop_make HM.out rfl d (hK _ _ ?_)⟩
     have hal := Rw.below_alloc w2 (.cells (rowN (List.replicate m zNL)) 44)
     have e8: (a2.put (some 57) (.slice (some ⟨w2.heap.size,0,none⟩) m m)).eval (.tmp 8) = a2.eval (.tmp 8) := Rw.put_ne _ _ _ _ (by decide)
     have e58: (a2.put (some 57) (.slice (some ⟨w2.heap.size,0,none⟩) m m)).eval (.tmp 58) = a2.eval (.tmp 58) := Rw.put_ne _ _ _ _ (by decide)
     have e57: (a2.put (some 57) (.slice (some ⟨w2.heap.size,0,none⟩) m m)).eval (.tmp 57) = .slice (some ⟨w2.heap.size,0,none⟩) m m := Rw.put_get _ _ _ (by rw [hts]; decide)
     have hq: ∀ q,SLq xo m (a2.put (some 57) (.slice (some ⟨w2.heap.size,0,none⟩) m m)) q -> q = w2.heap.size \/ SLq xo m a2 q := fun q h => by
      unfold SLq at h ⊢
      rw [e57,e58] at h
      exact h.elim (fun h => Or.inl (sl_inj h).symm) fun h => Or.inr (Or.inr h)
     refine Rw.StpX.put hinj (i := 6) (by omega) (by decide) (by rw [hts]; decide) ⟨w2.heap.size,by omega,rfl,Rw.heap_new _ _⟩ (hal.mono hsz) hal.size ⟨fun p hp => ?_,fun q g => ?_,fun p q hp g => ?_⟩ fun j u _ h => fmF_mono j u _ _ hal h
     · exact Nat.lt_of_lt_of_le (hj.box p (e8 ▸ hp)) hal.size
     · rcases hq q g with rfl | g
       · simp
       · exact Nat.lt_of_lt_of_le (hj.row q g) hal.size
     · rcases hq q g with rfl | g
       · exact Nat.ne_of_lt (hj.box p (e8 ▸ hp))
       · exact hj.two p q (e8 ▸ hp) g
   · obtain rfl := Option.some.inj hi
     have d0: a2.eval (.tmp 53) = .string xo := dep 2 (by kernel_rfl)
     obtain ⟨q,g1,g2,g3⟩: ∃ q,w.heap.size + 2 <= q /\ a2.eval (.tmp 57) = .slice (some ⟨q,0,none⟩) m m /\ w2.heap[q]? = some (.cells (rowN (List.replicate m zNL)) 44 (0,0)) := dep 6 (by kernel_rfl)
     refine ⟨rfl,fun K hK => iop_build rfl d0 g2 (hK _ _ ?_)⟩
     have e8: (a2.put (some 58) (mV xo q m)).eval (.tmp 8) = a2.eval (.tmp 8) := Rw.put_ne _ _ _ _ (by decide)
     have e57: (a2.put (some 58) (mV xo q m)).eval (.tmp 57) = a2.eval (.tmp 57) := Rw.put_ne _ _ _ _ (by decide)
     have e58: (a2.put (some 58) (mV xo q m)).eval (.tmp 58) = mV xo q m := Rw.put_get _ _ _ (by rw [hts]; decide)
     have hq: ∀ q',SLq xo m (a2.put (some 58) (mV xo q m)) q' -> SLq xo m a2 q' := fun q' h => by
      unfold SLq at h ⊢
      rw [e57,e58] at h
      exact h.elim Or.inl fun h => Or.inl (by rw [g2,mV_inj h])
     exact Rw.StpX.put hinj (i := 7) (by omega) (by decide) (by rw [hts]; decide) ⟨q,g1,rfl,g3⟩ (Below.refl _ _) (Nat.le_refl _) ⟨fun p hp => hj.box p (e8 ▸ hp),fun q' g => hj.row q' (hq q' g),fun p q' hp g => hj.two p q' (e8 ▸ hp) (hq q' g)⟩ fun _ _ _ h => h
   · obtain rfl := Option.some.inj hi
     refine ⟨rfl,fun K hK => aop_alloc rfl (hK _ _ ?_)⟩
     have hal := Rw.below_alloc w2 (.cells (nC zNL).toArray 44)
     have e8: (a2.put (some 8) (.pointer (some ⟨w2.heap.size,0,none⟩))).eval (.tmp 8) = .pointer (some ⟨w2.heap.size,0,none⟩) := Rw.put_get _ _ _ (by rw [hts]; decide)
     have e57: (a2.put (some 8) (.pointer (some ⟨w2.heap.size,0,none⟩))).eval (.tmp 57) = a2.eval (.tmp 57) := Rw.put_ne _ _ _ _ (by decide)
     have e58: (a2.put (some 8) (.pointer (some ⟨w2.heap.size,0,none⟩))).eval (.tmp 58) = a2.eval (.tmp 58) := Rw.put_ne _ _ _ _ (by decide)
     have hq: ∀ q',SLq xo m (a2.put (some 8) (.pointer (some ⟨w2.heap.size,0,none⟩))) q' -> SLq xo m a2 q' := fun q' h => by
      unfold SLq at h ⊢
      rwa [e57,e58] at h
     refine Rw.StpX.put hinj (i := 8) (by omega) (by decide) (by rw [hts]; decide) ⟨w2.heap.size,by omega,rfl,Rw.heap_new _ _⟩ (hal.mono hsz) hal.size ⟨fun p hp => ?_,fun q g => ?_,fun p q hp g => ?_⟩ fun j u _ h => fmF_mono j u _ _ hal h
     · replace hp := e8.symm.trans hp
       obtain rfl := pt_inj hp
       simp
     · exact Nat.lt_of_lt_of_le (hj.row q (hq q g)) hal.size
     · replace hp := e8.symm.trans hp
       obtain rfl := pt_inj hp
       exact Nat.ne_of_gt (hj.row q (hq q g))
 · intro a2 w2 hfr hbw hsz hj hk
   obtain ⟨q,q1,k7,q3⟩: ∃ q,w.heap.size + 2 <= q /\ a2.eval (.tmp 58) = mV xo q m /\ w2.heap[q]? = some (.cells (rowN (List.replicate m zNL)) 44 (0,0)) := hk 7 (by decide)
   obtain ⟨p,p1,k8,p3⟩: ∃ p,w.heap.size + 2 <= p /\ a2.eval (.tmp 8) = .pointer (some ⟨p,0,none⟩) /\ w2.heap[p]? = some (.cells (nC zNL).toArray 44 (0,0)) := hk 8 (by decide)
   have hpq := hj.two p q k8 (Or.inr k7)
   have ha := hfr.all (by intro t ht; simp at ht; show t < 88; omega)
   have k7': a2.eval (.tmp 58) = nV (.mk xo 0 0 ⟨#[]⟩ 0 0 (some ⟨q,0,none⟩) m (List.replicate m zNL)) := by
    rw [k7]
    unfold mV nV
    dsimp only [NL.op,NL.vk,NL.vn,NL.vs,NL.var,NL.col,NL.a,NL.c,NL.kids]
    rw [List.length_replicate]
   refine wpList_plain rfl fun K hK => nop_store rfl rfl k8 k7' ⟨zNL,p3⟩ fun w3 g1 g2 g3 g4 => hK _ _ ?_
   have HD: Made w w3 #[.string xo, .int .i64 xk, .int .i64 xn, .string xs, .string xv, .string xc, .slice xa m xp] xo m p q :=
    ⟨HB.out.trans ((hbw.mono (by omega)).trans (g4.mono (by omega))),(g2 _ (by omega)).trans ((hbw.block _ (by omega)).trans HX.out),(g2 _ (by omega)).trans ((hbw.block _ (by omega)).trans HZ.out),g1,(g2 _ (Ne.symm hpq)).trans q3,p1,q1,hpq⟩
   clear HX HZ HB g1 g2 g3 g4 p3 q3 hbw hsz hj hk k7 hWs
   rw [ha]
   simp only [Rw.putAll]
   rw [k8,k7']
   clear ha hfr k8 k7'
   generalize a2.eval (.tmp 51) = u51,a2.eval (.tmp 52) = u52,a2.eval (.tmp 53) = u53,a2.eval (.tmp 54) = u54,a2.eval (.tmp 55) = u55,a2.eval (.tmp 56) = u56,a2.eval (.tmp 57) = u57
   generalize nV (.mk xo 0 0 ⟨#[]⟩ 0 0 (some ⟨q,0,none⟩) m (List.replicate m zNL)) = u58
   simp only [Act.put,List.setIfInBounds_toArray,List.set_cons_succ,List.set_cons_zero]
   have xy := HD.x
   have xy6: w3.cell? ⟨w.heap.size,6,none⟩ = some (.slice xa m xp) := by rw [cell_of_row _ _ _ _ _ _ xy]; rfl
   have hlt: w.heap.size < w3.heap.size := (Array.getElem?_eq_some_iff.1 xy).1
   have hal := Rw.below_alloc w3 (.cells #[.int .i64 0, .int .i64 0] 233)
   have g: ∀ {b: Nat} {o: Obj},w3.heap[b]? = some o -> (w3.alloc (.cells #[.int .i64 0, .int .i64 0] 233)).heap[b]? = some o := fun {b o} e => (hal.block b (Array.getElem?_eq_some_iff.1 e).1).trans e
   have HI: Hid (FI w (w3.alloc (.cells #[.int .i64 0, .int .i64 0] 233)) #[.string xo, .int .i64 xk, .int .i64 xn, .string xs, .string xv, .string xc, .slice xa m xp] xo m p q w3.heap.size kids f []) :=
    ⟨below_on HD.bel hal,g HD.x,g HD.z,g HD.box,by simpa using g HD.row,Rw.heap_new _ _,fun i k y _ h => by cases h⟩
   have HF: Hid (w.heap.size + 2 <= p /\ w.heap.size + 2 <= q /\ w.heap.size + 2 <= w3.heap.size /\ p ≠ q /\ p ≠ w3.heap.size /\ q ≠ w3.heap.size) :=
    ⟨HD.far.1,HD.far.2.1,(Array.getElem?_eq_some_iff.1 HD.z).1,hpq,Nat.ne_of_lt (Array.getElem?_eq_some_iff.1 HD.box).1,Nat.ne_of_lt (Array.getElem?_eq_some_iff.1 HD.row).1⟩
   clear xy HD hal g hpq p1 q1
   go_wp2_with fail
   clear xy6 hlt
   go_loopw [62] (fun i wr => ∃ (j: Nat) (ys: List NL),j <= m /\ i = .int .i64 (j: Int) /\ Hid (ys.length = j) /\ Hid (FI w wr #[.string xo, .int .i64 xk, .int .i64 xn, .string xs, .string xv, .string xc, .slice xa m xp] xo m p q w3.heap.size kids f ys)) (fun i _ => m - (intOf i).toNat)
   case atStart => exact ⟨0,[],Nat.zero_le _,rfl,rfl,HI.out⟩
   case round =>
    obtain ⟨j,ys,hj,rfl,HY,HR⟩ := hrel
    clear HI
    by_cases hlt: j < m
    · obtain ⟨b,o,k,rfl,hb,hx,hc⟩ := (HIN.out.below HR.out.bel).at (j := j) (by rw [HKL.out]; exact hlt)
      have c0: wr.cell? ⟨b,o + j * 7,none⟩ = some (.string k.op) := hc 0 _ rfl
      have c1: wr.cell? ⟨b,o + j * 7 + 1,none⟩ = some (.int .i64 k.vk) := hc 1 _ rfl
      have c2: wr.cell? ⟨b,o + j * 7 + 2,none⟩ = some (.int .i64 k.vn) := hc 2 _ rfl
      have c3: wr.cell? ⟨b,o + j * 7 + 3,none⟩ = some (.string k.vs) := hc 3 _ rfl
      have c4: wr.cell? ⟨b,o + j * 7 + 4,none⟩ = some (.string k.var) := hc 4 _ rfl
      have c5: wr.cell? ⟨b,o + j * 7 + 5,none⟩ = some (.string k.col) := hc 5 _ rfl
      have c6: wr.cell? ⟨b,o + j * 7 + 6,none⟩ = some (.slice k.a k.kids.length k.c) := hc 6 _ rfl
      have hkm := List.mem_of_getElem? hx
      have HKX: Hid (kids[ys.length]? = some k) := by rw [Hid,HY.out]; exact hx
      have HKC := Rw.dh (HK.out k hkm)
      clear hc hx hkm
      go_wp2_with fail
      refine Rw.to_letter (F := fun U => FI w U #[.string xo, .int .i64 xk, .int .i64 xn, .string xs, .string xv, .string xc, .slice (some ⟨b,o,none⟩) m xp] xo m p q w3.heap.size kids f ys /\ U.heap[wr.heap.size]? = some (.cells (xC k).toArray 30 (0,0))) ⟨HR.out.on (Rw.below_alloc wr _),Rw.heap_new wr _⟩ ?_
      clear c0 c1 c2 c3 c4 c5 c6 hb
      rintro U ⟨hI,hkb⟩
      have HIU := Rw.dh hI
      have hkq: wr.heap.size ≠ q := Nat.ne_of_gt (Array.getElem?_eq_some_iff.1 HR.out.row).1
      clear HR
      have zlt: w.heap.size + 1 < U.heap.size := (Array.getElem?_eq_some_iff.1 hI.z).1
      have qlt: q < U.heap.size := (Array.getElem?_eq_some_iff.1 hI.row).1
      have tlt: w3.heap.size < U.heap.size := (Array.getElem?_eq_some_iff.1 hI.tys).1
      have plt: p < U.heap.size := (Array.getElem?_eq_some_iff.1 hI.box).1
      have klt: wr.heap.size < U.heap.size := (Array.getElem?_eq_some_iff.1 hkb).1
      have hF := HF.out
      refine Rw.wp_region_factsS (U := U) 13 kS kL (frF U p q w3.heap.size j m a l.length c k (f k) (ys ++ List.replicate (m - ys.length) zNL)) (JR U q j (ys ++ List.replicate (m - ys.length) zNL)) (w.heap.size + 2) ⟨⟨_,Or.inl rfl,hI.row⟩,fun _ _ _ => rfl⟩ (by kernel_rfl) (by kernel_rfl) (by kernel_rfl) (by simp) (Rw.lowO_of (by kernel_rfl)) (by kernel_rfl) ?_ ?_
      · intro i o' a2 w2 hi hi13 hfr hbw hsz hj' hdep
        have e0: a2.eval (.tmp 0) = .slice a l.length c := hfr.eval (by decide)
        have e8: a2.eval (.tmp 8) = .pointer (some ⟨p,0,none⟩) := hfr.eval (by decide)
        have e9: a2.eval (.tmp 9) = .pointer (some ⟨w3.heap.size,0,none⟩) := hfr.eval (by decide)
        have e10: a2.eval (.tmp 10) = .int .i64 (j: Int) := hfr.eval (by decide)
        have e11: a2.eval (.tmp 11) = .pointer (some ⟨wr.heap.size,0,none⟩) := hfr.eval (by decide)
        have hts: a2.tmps.size = 88 := hfr.size
        have hp2 := (hj'.2 p plt hF.2.2.2.1).trans hI.box
        have hk2 := (hj'.2 wr.heap.size klt hkq).trans hkb
        have dep: ∀ x,(o'.after.any fun e => Region.binds .any e && e.on == x) = true -> frF U p q w3.heap.size j m a l.length c k (f k) (ys ++ List.replicate (m - ys.length) zNL) x (a2.eval (.tmp (kS x))) w2 := fun x h => Rw.depO (F := fun x => frF U p q w3.heap.size j m a l.length c k (f k) (ys ++ List.replicate (m - ys.length) zNL) x (a2.eval (.tmp (kS x))) w2) x h hdep
        have same: ∀ (i: Nat) (hi: i < 13) (hin: kS i ∈ kL) (h88: kS i < 88) (v: Value),frF U p q w3.heap.size j m a l.length c k (f k) (ys ++ List.replicate (m - ys.length) zNL) i v w2 -> Rw.StpF 13 kS kL (frF U p q w3.heap.size j m a l.length c k (f k) (ys ++ List.replicate (m - ys.length) zNL)) (JR U q j (ys ++ List.replicate (m - ys.length) zNL)) (w.heap.size + 2) i a2 w2 (a2.put (some (kS i)) v) w2 := fun i hi hin h88 v h =>
         Rw.StpF.put kS_inj hi hin (by rw [hts]; exact h88) h (Below.refl _ _) (Nat.le_refl _) hj' fun _ _ _ h => h
        have hcs: i = 0 \/ i = 1 \/ i = 2 \/ i = 3 \/ i = 4 \/ i = 5 \/ i = 6 \/ i = 7 \/ i = 8 \/ i = 9 \/ i = 10 \/ i = 11 \/ i = 12 := by omega
        rcases hcs with rfl | rfl | rfl | rfl | rfl | rfl | rfl | rfl | rfl | rfl | rfl | rfl | rfl
        · obtain rfl := Option.some.inj hi
          exact ⟨rfl,fun K hK => nop_f4 rfl e8 (hK _ _ (same 0 (by decide) (by decide) (by decide) _ rfl))⟩
        · obtain rfl := Option.some.inj hi
          have d: a2.eval (.tmp 68) = .pointer (some ⟨p,6,none⟩) := dep 0 (by kernel_rfl)
          have y6: w2.cell? ⟨p,6,none⟩ = some (.slice (some ⟨q,0,none⟩) m m) := by rw [cell_of_row _ _ _ _ _ _ hp2]; simp [nC,NL.a,NL.kids,NL.c]
          exact ⟨rfl,fun K hK => iop_nodes rfl d y6 (hK _ _ (same 1 (by decide) (by decide) (by decide) _ rfl))⟩
        · obtain rfl := Option.some.inj hi
          exact ⟨rfl,fun K hK => kop_move rfl e10 (hK _ _ (same 2 (by decide) (by decide) (by decide) _ rfl))⟩
        · obtain rfl := Option.some.inj hi
          exact ⟨rfl,fun K hK => kop_move rfl e10 (hK _ _ (same 3 (by decide) (by decide) (by decide) _ rfl))⟩
        · obtain rfl := Option.some.inj hi
          exact ⟨rfl,fun K hK => kop_move rfl e0 (hK _ _ (same 4 (by decide) (by decide) (by decide) _ rfl))⟩
        · obtain rfl := Option.some.inj hi
          exact ⟨rfl,fun K hK => iop_loadX rfl e11 hk2 (hK _ _ (same 5 (by decide) (by decide) (by decide) _ rfl))⟩
        · obtain rfl := Option.some.inj hi
          have d0: a2.eval (.tmp 72) = .slice a l.length c := dep 4 (by kernel_rfl)
          have d1: a2.eval (.tmp 73) = xV k := dep 5 (by kernel_rfl)
          have hBw: Below w.heap.size w w2 := hI.bel.trans (hbw.mono (by omega))
          refine ⟨rfl,fun K hK => iop_found rfl d0 d1 (HKC.out w2 hBw) ?_⟩
          rintro e w4 ⟨hb4,⟨hz,y,rfl,hy1,hy2⟩ | ⟨hz,rfl⟩⟩
          · refine Or.inl ⟨_,rfl,hK _ _ ?_⟩
            exact Rw.StpF.put kS_inj (i := 6) (by decide) (by decide) (by rw [hts]; decide) ⟨y,rfl,hz,hy1,fun n => ⟨(hy2 n).1,(hy2 n).2.mono fun b hb => Nat.le_trans hsz hb⟩⟩ (hb4.mono (by omega)) hb4.size (hj'.on hsz hb4) fun j' u _ h => frF_mono hb4 j' u h
          · refine Or.inr ⟨_,rfl, ?_⟩
            have he := chk_err (xo := xo) (j := j) (k := k) (f := f) (by rw [HKL.out]; exact HM.out) (by rw [<- HY.out]; exact HKX.out) (fun i k' hi' hk' => by
             obtain ⟨y',hy'⟩: ∃ y',ys[i]? = some y' := ⟨ys[i]'(by rw [HY.out]; exact hi'),List.getElem?_eq_getElem _⟩
             exact (hI.ok i k' y' hk' hy').1) hz
            exact ⟨hfr.defers,hBw.trans (hb4.mono (by omega)),Or.inr ⟨by rw [he]; exact hz,by rw [he]⟩⟩
        · obtain rfl := Option.some.inj hi
          obtain ⟨y,d,hg⟩: ∃ y,a2.eval (.tmp 74) = .tuple #[nV y, .int .i64 (f k).2.1] /\ GoodK U w2 (f k) y := dep 6 (by kernel_rfl)
          exact ⟨rfl,fun K hK => kop_move rfl d (hK _ _ (same 7 (by decide) (by decide) (by decide) _ ⟨y,rfl,hg⟩))⟩
        · obtain rfl := Option.some.inj hi
          obtain ⟨y,d,hg⟩: ∃ y,a2.eval (.tmp 67) = .tuple #[nV y, .int .i64 (f k).2.1] /\ GoodK U w2 (f k) y := dep 7 (by kernel_rfl)
          exact ⟨rfl,fun K hK => iop_extract0 rfl d (hK _ _ (same 8 (by decide) (by decide) (by decide) _ ⟨y,rfl,hg⟩))⟩
        · obtain rfl := Option.some.inj hi
          obtain ⟨y,d,hg⟩: ∃ y,a2.eval (.tmp 67) = .tuple #[nV y, .int .i64 (f k).2.1] /\ GoodK U w2 (f k) y := dep 7 (by kernel_rfl)
          exact ⟨rfl,fun K hK => iop_extract1 rfl d (hK _ _ (same 9 (by decide) (by decide) (by decide) _ rfl))⟩
        · obtain rfl := Option.some.inj hi
          have d0: a2.eval (.tmp 69) = .slice (some ⟨q,0,none⟩) m m := dep 1 (by kernel_rfl)
          have d1: a2.eval (.tmp 70) = .int .i64 (j: Int) := dep 2 (by kernel_rfl)
          exact ⟨rfl,fun K hK => iop_indexN rfl d0 d1 hlt (hK _ _ (same 10 (by decide) (by decide) (by decide) _ rfl))⟩
        · obtain rfl := Option.some.inj hi
          have d0: a2.eval (.tmp 77) = .pointer (some ⟨q,j * 7,none⟩) := dep 10 (by kernel_rfl)
          obtain ⟨y,d1,hg⟩: ∃ y,a2.eval (.tmp 75) = nV y /\ GoodK U w2 (f k) y := dep 8 (by kernel_rfl)
          obtain ⟨⟨L,hL,hr⟩,hoth⟩ := hj'
          have hLl: L.length = m := by
           have e: (ys ++ List.replicate (m - ys.length) zNL).length = m := by rw [List.length_append,List.length_replicate,HY.out]; omega
           rcases hL with rfl | ⟨z,rfl⟩
           · exact e
           · rw [List.length_set]; exact e
          refine ⟨rfl,fun K hK => nop_storeR HM.out rfl rfl d0 d1 hLl hlt hr fun w4 g1 g2 g3 g4 => hK _ _ ?_⟩
          have hJ := JR.put (W' := w4) ⟨⟨L,hL,hr⟩,hoth⟩ hL g1 g2
          have hgb: ∀ b,b < w2.heap.size -> U.heap.size <= b -> w4.heap[b]? = w2.heap[b]? := fun b _ hb => g2 b (by omega)
          exact Rw.StpF.none (fun _ => ⟨y,hJ.2,hg.turn (by omega) hgb⟩) (g4.mono (by omega)) (by omega) hJ.1 fun j' u hj1 h => frF_turn (by omega) hgb j' u hj1 h
        · obtain rfl := Option.some.inj hi
          have d1: a2.eval (.tmp 71) = .int .i64 (j: Int) := dep 3 (by kernel_rfl)
          exact ⟨rfl,fun K hK => iop_indexT rfl e9 d1 (by omega) (hK _ _ (same 12 (by decide) (by decide) (by decide) _ rfl))⟩
      · intro a2 w2 hfr hbw hsz hj' hk
        obtain ⟨y,hr,hg⟩: ∃ y,w2.heap[q]? = some (.cells (rowN ((ys ++ List.replicate (m - ys.length) zNL).set j y)) 44 (0,0)) /\ GoodK U w2 (f k) y := hk 11 (by decide)
        have k9: a2.eval (.tmp 76) = .int .i64 (f k).2.1 := hk 9 (by decide)
        have k12: a2.eval (.tmp 78) = .pointer (some ⟨w3.heap.size,j,none⟩) := hk 12 (by decide)
        have ht2 := (hj'.2 _ tlt (Ne.symm hF.2.2.2.2.2)).trans hI.tys
        have ha := hfr.all (by intro t ht; simp [kL] at ht; show t < 88; omega)
        refine wpList_plain rfl fun K hK => iop_storeT rfl rfl k12 k9 (by omega) ht2 fun w4 g1 g2 g3 g4 => hK _ _ ?_
        have HI4: Hid (FI w w4 #[.string xo, .int .i64 xk, .int .i64 xn, .string xs, .string xv, .string xc, .slice (some ⟨b,o,none⟩) m xp] xo m p q w3.heap.size kids f (ys ++ [y])) :=
         HIU.out.step (by rw [HY.out]; exact hlt) HKX.out hF (hbw.trans (g4.mono (by omega))) (by omega) (fun b h1 h2 h3 => (g2 b h3).trans (hj'.2 b h1 h2)) ((g2 q hF.2.2.2.2.2).trans (by rw [HY.out] at hr ⊢; exact hr)) (by rw [HY.out] at g1 ⊢; exact g1) (by omega) (hg.turn (by omega) fun b _ hb => g2 b (by omega))
        have HY4: Hid ((ys ++ [y]).length = j + 1) := by rw [Hid,List.length_append,HY.out]; rfl
        clear hr hg k9 k12 ht2 g1 g2 g3 g4 hk hj' hbw hsz hI HIU HKX HKC hkb zlt qlt tlt plt klt hkq hF
        rw [ha]
        simp only [Rw.putAll,kL]
        clear ha hfr
        generalize a2.eval (.tmp 67) = u67,a2.eval (.tmp 68) = u68,a2.eval (.tmp 69) = u69,a2.eval (.tmp 70) = u70,a2.eval (.tmp 71) = u71,a2.eval (.tmp 72) = u72,a2.eval (.tmp 73) = u73,a2.eval (.tmp 74) = u74,a2.eval (.tmp 75) = u75,a2.eval (.tmp 76) = u76,a2.eval (.tmp 77) = u77,a2.eval (.tmp 78) = u78
        simp only [Act.put,List.setIfInBounds_toArray,List.set_cons_succ,List.set_cons_zero]
        go_wp2
        go_roundw
        case rel => exact ⟨j + 1,_,hlt,by go_num,HY4,HI4⟩
        case measure => simp [intOf]; omega
    · have hjm: j = m := by omega
      subst hjm
      have HKE := Rw.dh (fun h => chk_fine (xo := xo) (f := f) (kids := kids) (by rw [HKL.out]; exact HM.out) h)
      have HOK: Hid (∀ k' ∈ kids,(f k').2.2 = 0) := fun k' hk' => by
       obtain ⟨i,hi⟩ := List.getElem?_of_mem hk'
       have hil := (List.getElem?_eq_some_iff.1 hi).1
       have hyl: i < ys.length := by rw [HY.out]; have := HKL.out; omega
       exact (HR.out.ok i k' _ hi (List.getElem?_eq_getElem hyl)).1
      have HN := Rw.dh (HR.out.node HY.out HKL.out (by omega) HF.out.2.1 h3)
      go_wp2_with fail
      have hI := HR.out
      have zlt: w.heap.size + 1 < wr.heap.size := (Array.getElem?_eq_some_iff.1 hI.z).1
      have tlt: w3.heap.size < wr.heap.size := (Array.getElem?_eq_some_iff.1 hI.tys).1
      have plt: p < wr.heap.size := (Array.getElem?_eq_some_iff.1 hI.box).1
      have hF := HF.out
      have hpb: wr.heap[p]? = some (.cells (nC (.mk xo 0 0 ⟨#[]⟩ 0 0 (some ⟨q,0,none⟩) j ys)).toArray 44 (0,0)) := by
       rw [hI.box]; simp [nC,NL.op,NL.vk,NL.vn,NL.vs,NL.var,NL.col,NL.a,NL.c,NL.kids,HY.out]
      have htt := hI.tys
      generalize hN: (NL.mk xo 0 0 ⟨#[]⟩ 0 0 (some ⟨q,0,none⟩) j ys) = N at *
      rw [HY.out] at htt
      have HE: Hid (chkKids xo f kids = chkTyped xo (kids.map fun k => (f k).1) (typeO xo.toList (tyAt f kids j 0) (tyAt f kids j 1))) := by
       rw [Hid,HKE.out HOK.out,HKL.out]
      generalize tyAt f kids j 0 = t0,tyAt f kids j 1 = t1 at *
      refine Rw.wp_region_factsS (U := wr) 9 (fun i => 80 + i) [80,81,82,83,84,85,86,87] (feF w.heap.size (w.heap.size + 1) w3.heap.size xo N t0 t1) (fun W => NBox (w.heap.size + 1) W /\ ∀ b,b < wr.heap.size -> b ≠ w.heap.size + 1 -> W.heap[b]? = wr.heap[b]?) (w.heap.size + 1) ⟨⟨zNL,hI.z⟩,fun _ _ _ => rfl⟩ (by kernel_rfl) (by kernel_rfl) (by kernel_rfl) (by simp) (Rw.lowO_of (by kernel_rfl)) (by kernel_rfl) ?_ ?_
      · intro i o' a2 w2 hi hi9 hfr hbw hsz hj' hdep
        have hinj: ∀ i j: Nat,i < 9 -> j < 9 -> 80 + i = 80 + j -> i = j := fun i j _ _ h => by omega
        have e3: a2.eval (.tmp 3) = .pointer (some ⟨w.heap.size,0,none⟩) := hfr.eval (by decide)
        have e4: a2.eval (.tmp 4) = .pointer (some ⟨w.heap.size + 1,0,none⟩) := hfr.eval (by decide)
        have e8: a2.eval (.tmp 8) = .pointer (some ⟨p,0,none⟩) := hfr.eval (by decide)
        have e9: a2.eval (.tmp 9) = .pointer (some ⟨w3.heap.size,0,none⟩) := hfr.eval (by decide)
        have hts: a2.tmps.size = 88 := hfr.size
        have hp2 := (hj'.2 p plt (by omega)).trans hpb
        have hx2 := (hj'.2 w.heap.size (by omega) (by omega)).trans hI.x
        have ht2 := (hj'.2 w3.heap.size tlt (by omega)).trans htt
        have x0: w2.cell? ⟨w.heap.size,0,none⟩ = some (.string xo) := by rw [cell_of_row _ _ _ _ _ _ hx2]; rfl
        have y0: w2.cell? ⟨w3.heap.size,0,none⟩ = some (.int .i64 t0) := by rw [cell_of_row _ _ _ _ _ _ ht2]; rfl
        have y1: w2.cell? ⟨w3.heap.size,1,none⟩ = some (.int .i64 t1) := by rw [cell_of_row _ _ _ _ _ _ ht2]; rfl
        have dep: ∀ x,(o'.after.any fun e => Region.binds .any e && e.on == x) = true -> feF w.heap.size (w.heap.size + 1) w3.heap.size xo N t0 t1 x (a2.eval (.tmp (80 + x))) w2 := fun x h => Rw.depO (F := fun x => feF w.heap.size (w.heap.size + 1) w3.heap.size xo N t0 t1 x (a2.eval (.tmp (80 + x))) w2) x h hdep
        have same: ∀ (i: Nat) (hi: i < 8) (v: Value),feF w.heap.size (w.heap.size + 1) w3.heap.size xo N t0 t1 i v w2 -> Rw.StpF 9 (fun i => 80 + i) [80,81,82,83,84,85,86,87] (feF w.heap.size (w.heap.size + 1) w3.heap.size xo N t0 t1) (fun W => NBox (w.heap.size + 1) W /\ ∀ b,b < wr.heap.size -> b ≠ w.heap.size + 1 -> W.heap[b]? = wr.heap[b]?) (w.heap.size + 1) i a2 w2 (a2.put (some (80 + i)) v) w2 := fun i hi v h =>
         Rw.StpF.put hinj (by omega) (by simp; omega) (by rw [hts]; show 80 + i < 88; omega) h (Below.refl _ _) (Nat.le_refl _) hj' fun _ _ _ h => h
        have hcs: i = 0 \/ i = 1 \/ i = 2 \/ i = 3 \/ i = 4 \/ i = 5 \/ i = 6 \/ i = 7 \/ i = 8 := by omega
        rcases hcs with rfl | rfl | rfl | rfl | rfl | rfl | rfl | rfl | rfl
        · obtain rfl := Option.some.inj hi
          exact ⟨rfl,fun K hK => aop_load rfl e8 hp2 (hK _ _ (same 0 (by omega) _ rfl))⟩
        · obtain rfl := Option.some.inj hi
          exact ⟨rfl,fun K hK => xop_f0 rfl e3 (hK _ _ (same 1 (by omega) _ rfl))⟩
        · obtain rfl := Option.some.inj hi
          have d: a2.eval (.tmp 81) = .pointer (some ⟨w.heap.size,0,none⟩) := dep 1 (by kernel_rfl)
          exact ⟨rfl,fun K hK => cop_str rfl d x0 (hK _ _ (same 2 (by omega) _ rfl))⟩
        · obtain rfl := Option.some.inj hi
          exact ⟨rfl,fun K hK => iop_indexC (j := 0) rfl e9 (by omega) (hK _ _ (same 3 (by omega) _ rfl))⟩
        · obtain rfl := Option.some.inj hi
          have d: a2.eval (.tmp 83) = .pointer (some ⟨w3.heap.size,0,none⟩) := dep 3 (by kernel_rfl)
          exact ⟨rfl,fun K hK => cop_int rfl d y0 (hK _ _ (same 4 (by omega) _ rfl))⟩
        · obtain rfl := Option.some.inj hi
          exact ⟨rfl,fun K hK => iop_indexC (j := 1) rfl e9 (by omega) (hK _ _ (same 5 (by omega) _ rfl))⟩
        · obtain rfl := Option.some.inj hi
          have d: a2.eval (.tmp 85) = .pointer (some ⟨w3.heap.size,1,none⟩) := dep 5 (by kernel_rfl)
          exact ⟨rfl,fun K hK => cop_int rfl d y1 (hK _ _ (same 6 (by omega) _ rfl))⟩
        · obtain rfl := Option.some.inj hi
          have d0: a2.eval (.tmp 82) = .string xo := dep 2 (by kernel_rfl)
          have d1: a2.eval (.tmp 84) = .int .i64 t0 := dep 4 (by kernel_rfl)
          have d2: a2.eval (.tmp 86) = .int .i64 t1 := dep 6 (by kernel_rfl)
          refine ⟨rfl,fun K hK => iop_typeOf rfl d0 d1 d2 (fun u hu => hK _ _ (same 7 (by omega) _ ⟨u,rfl,hu⟩)) fun hu => ?_⟩
          exact ⟨hfr.defers,hI.bel.trans (hbw.mono (by omega)),Or.inr ⟨by rw [HE.out,hu]; rfl,by rw [HE.out,hu]; rfl⟩⟩
        · obtain rfl := Option.some.inj hi
          have d: a2.eval (.tmp 80) = nV N := dep 0 (by kernel_rfl)
          refine ⟨rfl,fun K hK => nop_store rfl rfl e4 d hj'.1 fun w4 g1 g2 g3 g4 => hK _ _ ?_⟩
          exact Rw.StpF.none (fun _ => g1) g4 (by omega) ⟨⟨N,g1⟩,fun b hb hn => (g2 b hn).trans (hj'.2 b hb hn)⟩ fun j' u hj1 h => feF_val j' u w2 w4 hj1 h
      · intro a2 w2 hfr hbw hsz hj' hk
        obtain ⟨u,k7,hu⟩: ∃ u,a2.eval (.tmp 87) = .int .i64 u /\ typeO xo.toList t0 t1 = some u := hk 7 (by decide)
        have k8: w2.heap[w.heap.size + 1]? = some (.cells (nC N).toArray 44 (0,0)) := hk 8 (by decide)
        have HEU: Hid (chkKids xo f kids = (.mk xo 0 0 ⟨#[]⟩ 0 0 none 0 (kids.map fun k => (f k).1),u,0)) := by rw [Hid,HE.out,hu]; rfl
        have HB2 := Rw.dh (hI.bel.trans (hbw.mono (Nat.le_succ _)))
        have HIN2: Hid (∀ n,InN n w2 N /\ OffN (fun b => w.heap.size <= b) n N) := fun n =>
         ⟨(HN.out n).2.1.turn (HN.out n).2.2 hsz fun b hb hp => hj'.2 b hb (by omega),(HN.out n).2.2.mono fun b hb => by omega⟩
        have ha := hfr.all (by intro t ht; simp at ht; show t < 88; omega)
        rw [ha]
        simp only [Rw.putAll]
        rw [k7]
        generalize a2.eval (.tmp 80) = u80,a2.eval (.tmp 81) = u81,a2.eval (.tmp 82) = u82,a2.eval (.tmp 83) = u83,a2.eval (.tmp 84) = u84,a2.eval (.tmp 85) = u85,a2.eval (.tmp 86) = u86
        simp only [Act.put,List.setIfInBounds_toArray,List.set_cons_succ,List.set_cons_zero]
        obtain ⟨z0,z1,z2,z3,z4,z5,z6⟩ := ncells2 k8
        clear k7 k8 hu ha hk hfr hbw hsz hj' hI hpb htt hF zlt tlt plt
        go_wp2
        refine bodyPost_ret (v := .tuple #[nV N, .int .i64 u]) (by simp [results,Tryz.results64,go_sem,z0,z1,z2,z3,z4,z5,z6,nV]) rfl ⟨HB2.out,Or.inl ⟨by rw [HEU.out],N,by rw [HEU.out],fun n => by rw [HEU.out]; exact (HN.out n).1,HIN2.out⟩⟩
theorem size_ops1 {s: ByteArray} (h: ops1.contains s.toList = true): s.size <= 1048576 := by
 have e: s.size = s.toList.length := by rw [ByteArray.toList_eq]; rfl
 rw [e]
 have h2: ∀ l ∈ ops1,l.length <= 4 := by decide
 have := h2 _ (List.contains_iff_mem.1 h)
 omega
theorem size_ops2 {s: ByteArray} (h: ops2.contains s.toList = true): s.size <= 1048576 := by
 have e: s.size = s.toList.length := by rw [ByteArray.toList_eq]; rfl
 rw [e]
 have h2: ∀ l ∈ ops2,l.length <= 4 := by decide
 have := h2 _ (List.contains_iff_mem.1 h)
 omega
theorem found_walk {l: List VarL} {a: Option Addr} {c: Nat} (hf: FewCols l): ∀ (n: Nat) (x: XL) (w: World),In n w x -> rightX n x = true -> VarsIn w a l -> Calls Tryz.prog 64 #[.slice a l.length c,xV x] w (FoP (chk n l x) w)
 | 0,_,_,_,h,_ => by cases h
 | n + 1, .mk xo xk xn xs xv xc xa xp kids,w,hi,hr,hl => by
  replace hr: (decide ((kids.length: Int) = kidsI xo) && (if xo.toList == oVALUE then xv.toList == [] && xc.toList == [] && rightB xk xn xs && decide (0 <= xn)
   else if xo.toList == oCOLUMN then noVal (.mk xo xk xn xs xv xc xa xp kids) && nameB xc && (xv.toList == [] || nameB xv)
   else noVal (.mk xo xk xn xs xv xc xa xp kids) && xv.toList == [] && xc.toList == [] && kids.all (rightX n))) = true := hr
  rw [Bool.and_eq_true] at hr
  obtain ⟨hk,hr⟩ := hr
  have hk := of_decide_eq_true hk
  rw [chk_mk]
  by_cases h1: (xo.toList == oVALUE) = true
  · rw [if_pos h1] at hr
    rw [if_pos h1]
    simp only [Bool.and_eq_true] at hr
    have hs: xs.size <= 24 := by
     have := hr.1.2
     unfold rightB at this
     (repeat' split at this) <;> simp only [Bool.and_eq_true,beq_iff_eq,decide_eq_true_eq] at this <;> omega
    exact found_value (by simpa using h1) hi.1.k hi.1.n hs
  · rw [if_neg h1] at hr
    rw [if_neg h1]
    by_cases h2: (xo.toList == oCOLUMN) = true
    · rw [if_pos h2]
      exact found_column (by simpa using h2) hl hf
    · rw [if_neg h2] at hr
      rw [if_neg h2]
      simp only [Bool.and_eq_true,List.all_eq_true] at hr
      have h1': (xo.toList == oVALUE) = false := by simpa using h1
      have h2': (xo.toList == oCOLUMN) = false := by simpa using h2
      unfold kidsI at hk
      rw [h1',h2'] at hk
      have key: (kids.length = 1 \/ kids.length = 2) /\ xo.size <= 1048576 := by
       simp only [Bool.or_false,Bool.false_eq_true,if_false] at hk
       split at hk
       · rename_i e; exact ⟨Or.inl (by omega),size_ops1 e⟩
       · split at hk
         · rename_i e; exact ⟨Or.inr (by omega),size_ops2 e⟩
         · omega
      exact found_kids h1' h2' key.2 key.1 hi.2.1 fun k hkm W hb => found_walk hf n k W ((hi.2.2 k hkm).on hb) (hr.2 k hkm) (hl.on hb)
def Ex1P (r: Chk) (pn pk: Nat) (w: World) (e: Ending) (W: World): Prop :=
 ((r.2.2 = 0 /\ e = .returned (.tuple #[]) /\ ∃ y,W.heap[pn]? = some (.cells (nC y).toArray 44 (0,0)) /\ W.heap[pk]? = some (.cells #[.int .i64 r.2.1] 3 (0,0)) /\ (∀ m,LikeN m r.1 y) /\ ∀ m,InN m W y /\ OffN (fun b => w.heap.size <= b) m y) \/
  ((r.2.2 != 0) = true /\ e = .panicked (stopped r.2.2 0) /\ W.heap[pn]? = some (.cells (nC zNL).toArray 44 (0,0)) /\ W.heap[pk]? = some (.cells #[.int .i64 0] 3 (0,0)))) /\ Only (fun k => k = pn \/ k = pk) w W
theorem expr1_walk {l: List VarL} {a: Option Addr} {c: Nat} {r: Chk} (x: XL) {w: World} (hC: ∀ W,Below w.heap.size w W -> Calls Tryz.prog 64 #[.slice a l.length c,xV x] W (FoP r W)) {pl pe pn pk: Nat}
 (h1: w.heap[pl]? = some (.cells #[.slice a l.length c] 32 (0,0))) (h2: w.heap[pe]? = some (.cells (xC x).toArray 30 (0,0))) (h3: w.heap[pn]? = some (.cells (nC zNL).toArray 44 (0,0))) (h4: w.heap[pk]? = some (.cells #[.int .i64 0] 3 (0,0))) :
 Calls Tryz.prog 63 #[.pointer (some ⟨pl,0,none⟩), .pointer (some ⟨pe,0,none⟩), .pointer (some ⟨pn,0,none⟩), .pointer (some ⟨pk,0,none⟩)] w (Ex1P r pn pk w) := by
 have c0: w.cell? ⟨pl,0,none⟩ = some (.slice a l.length c) := by rw [cell_of_row _ _ _ _ _ _ h1]; rfl
 obtain ⟨x0,x1,x2,x3,x4,x5,x6⟩ := xbox h2
 have hne: pk ≠ pn := fun e => by rw [e,h3] at h4; injection h4 with h4; injection h4 with _ h4 _; exact absurd h4 (by decide)
 have HC := Rw.dh (hC w (Below.refl _ _))
 have H3 := Rw.dh h3
 have H4 := Rw.dh h4
 clear hC h1 h2 h3 h4
 go_enter Tryz.func63,Tryz.ntmps63
 go_wp2_with fail
 refine HC.out.mono ?_
 clear HC
 rintro e w1 ⟨hb,⟨hz,y,rfl,hy1,hy2⟩ | ⟨hz,rfl⟩⟩
 · obtain ⟨⟨z0,z1,z2,z3,z4,z5,z6⟩,⟨f0,f1,f2,f3,f4,f5,f6⟩,zl⟩ := nzbox H3.out hb
   have k4 := (hb.block _ (Array.getElem?_eq_some_iff.1 H4.out).1).trans H4.out
   have HS: Hid (∀ z0 z1 z2 z3 z4 z5 z6: Value,(((((((w1.setCell ⟨pn,0,none⟩ z0).setCell ⟨pn,1,none⟩ z1).setCell ⟨pn,2,none⟩ z2).setCell ⟨pn,3,none⟩ z3).setCell ⟨pn,4,none⟩ z4).setCell ⟨pn,5,none⟩ z5).setCell ⟨pn,6,none⟩ z6).heap[pk]? = some (.cells #[.int .i64 0] 3 (0,0))) := fun z0 z1 z2 z3 z4 z5 z6 => by
    rw [nheap_set7 hne]; exact k4
   have hk7 := HS.out (.string y.op) (.int .i64 y.vk) (.int .i64 y.vn) (.string y.vs) (.int .i64 y.var) (.int .i64 y.col) (.slice y.a y.kids.length y.c)
   have e4: (((((((w1.setCell ⟨pn,0,none⟩ (.string y.op)).setCell ⟨pn,1,none⟩ (.int .i64 y.vk)).setCell ⟨pn,2,none⟩ (.int .i64 y.vn)).setCell ⟨pn,3,none⟩ (.string y.vs)).setCell ⟨pn,4,none⟩ (.int .i64 y.var)).setCell ⟨pn,5,none⟩ (.int .i64 y.col)).setCell ⟨pn,6,none⟩ (.slice y.a y.kids.length y.c)).cell? ⟨pk,0,none⟩ = some (.int .i64 0) := by rw [cell_of_row _ _ _ _ _ _ hk7]; rfl
   have e5: (((((((w1.setCell ⟨pn,0,none⟩ (.string y.op)).setCell ⟨pn,1,none⟩ (.int .i64 y.vk)).setCell ⟨pn,2,none⟩ (.int .i64 y.vn)).setCell ⟨pn,3,none⟩ (.string y.vs)).setCell ⟨pn,4,none⟩ (.int .i64 y.var)).setCell ⟨pn,5,none⟩ (.int .i64 y.col)).setCell ⟨pn,6,none⟩ (.slice y.a y.kids.length y.c)).frozen? ⟨pk,0,none⟩ = false := frozen_of_row _ _ _ _ _ hk7
   have n3 := (hb.block _ (Array.getElem?_eq_some_iff.1 H3.out).1).trans H3.out
   have HN: Hid (((((((((w1.setCell ⟨pn,0,none⟩ (.string y.op)).setCell ⟨pn,1,none⟩ (.int .i64 y.vk)).setCell ⟨pn,2,none⟩ (.int .i64 y.vn)).setCell ⟨pn,3,none⟩ (.string y.vs)).setCell ⟨pn,4,none⟩ (.int .i64 y.var)).setCell ⟨pn,5,none⟩ (.int .i64 y.col)).setCell ⟨pn,6,none⟩ (.slice y.a y.kids.length y.c)).setCell ⟨pk,0,none⟩ (.int .i64 r.2.1)).heap[pn]? = some (.cells (nC y).toArray 44 (0,0))) := by
    rw [Hid,heap_setCell_other _ _ _ _ (Ne.symm hne)]; exact nstore_heap n3
   have HP: Hid (((((((((w1.setCell ⟨pn,0,none⟩ (.string y.op)).setCell ⟨pn,1,none⟩ (.int .i64 y.vk)).setCell ⟨pn,2,none⟩ (.int .i64 y.vn)).setCell ⟨pn,3,none⟩ (.string y.vs)).setCell ⟨pn,4,none⟩ (.int .i64 y.var)).setCell ⟨pn,5,none⟩ (.int .i64 y.col)).setCell ⟨pn,6,none⟩ (.slice y.a y.kids.length y.c)).setCell ⟨pk,0,none⟩ (.int .i64 r.2.1)).heap[pk]? = some (.cells #[.int .i64 r.2.1] 3 (0,0))) := by
    have := heap_setCell_same _ pk 0 _ 3 (.int .i64 r.2.1) hk7
    rw [Hid]; simpa using this
   have HO: Hid (Only (fun k => k = pn \/ k = pk) w ((((((((w1.setCell ⟨pn,0,none⟩ (.string y.op)).setCell ⟨pn,1,none⟩ (.int .i64 y.vk)).setCell ⟨pn,2,none⟩ (.int .i64 y.vn)).setCell ⟨pn,3,none⟩ (.string y.vs)).setCell ⟨pn,4,none⟩ (.int .i64 y.var)).setCell ⟨pn,5,none⟩ (.int .i64 y.col)).setCell ⟨pn,6,none⟩ (.slice y.a y.kids.length y.c)).setCell ⟨pk,0,none⟩ (.int .i64 r.2.1))) :=
    ((((((((Only.of_below (S := fun k => k = pn \/ k = pk) hb).setCell (p := ⟨pn,0,none⟩) (Or.inr (Or.inl rfl)) _).setCell (p := ⟨pn,1,none⟩) (Or.inr (Or.inl rfl)) _).setCell (p := ⟨pn,2,none⟩) (Or.inr (Or.inl rfl)) _).setCell (p := ⟨pn,3,none⟩) (Or.inr (Or.inl rfl)) _).setCell (p := ⟨pn,4,none⟩) (Or.inr (Or.inl rfl)) _).setCell (p := ⟨pn,5,none⟩) (Or.inr (Or.inl rfl)) _).setCell (p := ⟨pn,6,none⟩) (Or.inr (Or.inl rfl)) _).setCell (p := ⟨pk,0,none⟩) (Or.inr (Or.inr rfl)) _
   have pnl := (Array.getElem?_eq_some_iff.1 H3.out).1
   have pkl := (Array.getElem?_eq_some_iff.1 H4.out).1
   have HI: Hid (∀ m,InN m ((((((((w1.setCell ⟨pn,0,none⟩ (.string y.op)).setCell ⟨pn,1,none⟩ (.int .i64 y.vk)).setCell ⟨pn,2,none⟩ (.int .i64 y.vn)).setCell ⟨pn,3,none⟩ (.string y.vs)).setCell ⟨pn,4,none⟩ (.int .i64 y.var)).setCell ⟨pn,5,none⟩ (.int .i64 y.col)).setCell ⟨pn,6,none⟩ (.slice y.a y.kids.length y.c)).setCell ⟨pk,0,none⟩ (.int .i64 r.2.1)) y /\ OffN (fun b => w.heap.size <= b) m y) := fun m =>
    ⟨(hy2 m).1.turn (hy2 m).2 (by simp) fun b _ hbb => by rw [heap_setCell_other _ _ _ _ (by show _ ≠ pk; omega),nheap_set7 (by omega)],(hy2 m).2⟩
   have HL := Rw.dh hy1
   have HZ := Rw.dh hz
   clear hk7 hb hy1 hy2 n3 pnl pkl HS k4
   unfold nV
   go_wp2
   go_end0
   exact ⟨Or.inl ⟨HZ.out,rfl,y,HN.out,HP.out,HL.out,HI.out⟩,HO.out⟩
 · go_wp2
   have n3 := (hb.block _ (Array.getElem?_eq_some_iff.1 H3.out).1).trans H3.out
   have n4 := (hb.block _ (Array.getElem?_eq_some_iff.1 H4.out).1).trans H4.out
   exact ⟨rfl,Or.inr ⟨hz,rfl,n3,n4⟩,Only.of_below hb⟩
theorem calls_expr1 (args: Array Value) (w: World): (callFunc 63 args).run Tryz.prog w = .ok (.enter 63 args) w := by
 simp [go_sem]
def CaP (r: Chk) (pn pk B: Nat) (W: World): Prop :=
 (r.2.2 = 0 /\ ∃ y,W.heap[pn]? = some (.cells (nC y).toArray 44 (0,0)) /\ W.heap[pk]? = some (.cells #[.int .i64 r.2.1] 3 (0,0)) /\ (∀ m,LikeN m r.1 y) /\ ∀ m,InN m W y /\ OffN (fun b => B <= b) m y) \/
 ((r.2.2 != 0) = true /\ W.heap[pn]? = some (.cells (nC zNL).toArray 44 (0,0)) /\ W.heap[pk]? = some (.cells #[.int .i64 0] 3 (0,0)))
theorem exprCatch_walk {l: List VarL} {a: Option Addr} {c: Nat} {r: Chk} (x: XL) {w: World} (hC: ∀ W,Below w.heap.size w W -> Calls Tryz.prog 64 #[.slice a l.length c,xV x] W (FoP r W)) {pl pe pn pk: Nat}
 (h1: w.heap[pl]? = some (.cells #[.slice a l.length c] 32 (0,0))) (h2: w.heap[pe]? = some (.cells (xC x).toArray 30 (0,0))) (h3: w.heap[pn]? = some (.cells (nC zNL).toArray 44 (0,0))) (h4: w.heap[pk]? = some (.cells #[.int .i64 0] 3 (0,0))) :
 Calls Tryz.prog 62 #[.func (.func 63) #[] #[.pointer (some ⟨pl,0,none⟩), .pointer (some ⟨pe,0,none⟩), .pointer (some ⟨pn,0,none⟩), .pointer (some ⟨pk,0,none⟩)]] w fun e w' => e = .returned (faultV r.2.2 0) /\ CaP r pn pk w.heap.size w' /\ Only (fun k => k = pn \/ k = pk) w w' := by
 have hb := below_catchW w
 have l3 := (Array.getElem?_eq_some_iff.1 h3).1
 have l4 := (Array.getElem?_eq_some_iff.1 h4).1
 have g: ∀ {b: Nat} {o: Obj},w.heap[b]? = some o -> (catchW w).heap[b]? = some o := fun {b o} e => (hb.block b (Array.getElem?_eq_some_iff.1 e).1).trans e
 have H := expr1_walk (r := r) x (fun W hW => hC W (below_on hb hW)) (g h1) (g h2) (g h3) (g h4)
 refine (catch_any 63 calls_expr1 _ w (fun k => k = pn \/ k = pk) (fun k hk e => by omega) (Ex1P r pn pk (catchW w)) (H.mono ?_)).mono ?_
 · rintro e w1 ⟨hE,ho⟩
   refine ⟨⟨hE,ho⟩,ho, ?_⟩
   rcases hE with ⟨_,rfl,_⟩ | ⟨_,rfl,_⟩
   · exact ⟨_,_,_, .done⟩
   · exact ⟨_,_,_, .stop _ _⟩
 · rintro e w' ⟨e1,w1,c,a,t,⟨hE,_⟩,hc,rfl,ho,hat⟩
   have hs := hb.size
   have hs1 := ho.size
   have h3s: w.heap.size + 3 <= (catchW w).heap.size := by simp [catchW,caughtW]
   have hp3: w'.heap[pn]? = w1.heap[pn]? := hat.block _ (by omega) (by omega)
   have hp4: w'.heap[pk]? = w1.heap[pk]? := hat.block _ (by omega) (by omega)
   rcases hE with ⟨h,he,y,v1,v2,v3,v4⟩ | ⟨h,he,v1,v2⟩
   · obtain ⟨rfl,rfl⟩ := came_ret hc he
     exact ⟨by rw [h],Or.inl ⟨h,y,hp3.trans v1,hp4.trans v2,v3,fun m => ⟨(v4 m).1.turn (v4 m).2 hat.size fun b hb1 hb2 => hat.block _ hb1 (by omega),(v4 m).2.mono fun b hb2 => by omega⟩⟩,Only.through hb ho hat⟩
   · obtain ⟨rfl,rfl⟩ := came_pan hc he
     exact ⟨rfl,Or.inr ⟨h,hp3.trans v1,hp4.trans v2⟩,Only.through hb ho hat⟩
section
variable {Q: Exit -> Act -> World -> Prop} {K: Act -> World -> Prop} {o: Oper} {a: Act} {w: World}
set_option maxRecDepth 100000
theorem pop_fault {s p: Nat} (ho: o.op = .fieldAddr 155 (.tmp s) 0) (hs: a.eval (.tmp s) = .pointer (some ⟨p,0,none⟩)) (hK: K (a.put o.dst (.pointer (some ⟨p,0,none⟩))) w): Oper.wp Tryz.prog o a w K Q := by
 have hs' := kslot_of hs
 unfold Oper.wp
 simp [execOp,ho,go_sem,hs',run_underlying Tryz.underlying155]
 exact hK
theorem pop_errno {s: Nat} {ad: Addr} {n: Int} (ho: o.op = .load 45 (.tmp s)) (hs: a.eval (.tmp s) = .pointer (some ad)) (hc: w.cell? ad = some (.int .i64 n)) (hK: K (a.put o.dst (.int .i64 n)) w): Oper.wp Tryz.prog o a w K Q := by
 have hs' := kslot_of hs
 unfold Oper.wp
 simp [execOp,ho,go_sem,hs',hc]
 exact hK
theorem pop_assign {s: Nat} {v: Value} (ho: o.op = .assign (.tmp s)) (hs: a.eval (.tmp s) = v) (hK: K (a.put o.dst v) w): Oper.wp Tryz.prog o a w K Q := by
 have hs' := kslot_of hs
 unfold Oper.wp
 simp [execOp,ho,go_sem,hs']
 exact hK
end
def fxF (z p: Nat) (y: NL) (t c: Int): Nat -> Value -> World -> Prop
 | 0,v,_ => v = nV y
 | 1,v,_ => v = .int .i64 t
 | 2,v,_ => v = .pointer (some ⟨p,0,none⟩)
 | 3,v,_ => v = .int .i64 c
 | 4,_,w => w.heap[z]? = some (.cells (nC y).toArray 44 (0,0))
 | 5,v,_ => v = .int .i64 t
 | _,_,_ => True
theorem fxF_val {z p: Nat} {y: NL} {t c: Int}: ∀ (i: Nat) (u: Value) (w w': World),i ≠ 4 -> fxF z p y t c i u w -> fxF z p y t c i u w'
 | 0,_,_,_,_,h | 1,_,_,_,_,h | 2,_,_,_,_,h | 3,_,_,_,_,h | 5,_,_,_,_,h => h
 | 4,_,_,_,h,_ => absurd rfl h
 | _ + 6,_,_,_,_,_ => trivial
def xS (i: Nat): Nat := if i < 4 then 16 + i else if i = 4 then 20 else 5
theorem xS_inj: ∀ i j: Nat,i < 6 -> j < 6 -> xS i = xS j -> i = j := fun i j hi hj h => by unfold xS at h; (repeat' split at h) <;> omega
def exprR (l: List VarL) (x: XL): Chk := if rightX 20 x = true then chk 20 l x else (zNL,0,15)
def ExP (r: Chk) (w: World) (e: Ending) (W: World): Prop := Below w.heap.size w W /\ ∃ y t,e = .returned (.tuple #[nV y, .int .i64 t, .int .i64 r.2.2]) /\
 ((r.2.2 = 0 /\ t = r.2.1 /\ (∀ m,LikeN m r.1 y) /\ ∀ m,InN m W y /\ OffN (fun b => w.heap.size <= b) m y) \/ ((r.2.2 != 0) = true /\ t = 0 /\ y = zNL))
theorem expr_walk {l: List VarL} {a: Option Addr} {c: Nat} (hf: FewCols l) (x: XL) {w: World} (hi: In 20 w x) (hl: VarsIn w a l) :
 Calls Tryz.prog 11 #[.slice a l.length c,xV x] w (ExP (exprR l x) w) := by
 have hmf: ∀ (fn: Fn) (first cap: Array Value) (w: World),(Instr.makeFunc fn first cap).run Tryz.prog w = .ok (.func fn first cap) w := fun _ _ _ _ => rfl
 have HR := Rw.dh (fun W (hb: Below w.heap.size w W) => rx_walk x W (hi.on hb))
 have HC := Rw.dh (fun (hr: rightX 20 x = true) (W0: World) (hb0: Below w.heap.size w W0) pl pe pn pk => exprCatch_walk (a := a) (c := c) (r := chk 20 l x) x (w := W0) (fun W hb => found_walk hf 20 x W (hi.on (below_on hb0 hb)) hr (hl.on (below_on hb0 hb))) (pl := pl) (pe := pe) (pn := pn) (pk := pk))
 have HE: Hid (∀ b,rightX 20 x = b -> exprR l x = if b = true then chk 20 l x else (zNL,0,15)) := fun b e => by unfold exprR; rw [e]
 have HB0 := Rw.dh (below_three w (.cells #[.slice a l.length c] 32) (.cells (xC x).toArray 30) (.cells (nC zNL).toArray 44))
 have h1 := (Below.heap_alloc ((w.alloc (.cells #[.slice a l.length c] 32)).alloc (.cells (xC x).toArray 30)) (.cells (nC zNL).toArray 44) w.heap.size (by simp; omega)).trans ((Below.heap_alloc (w.alloc (.cells #[.slice a l.length c] 32)) (.cells (xC x).toArray 30) w.heap.size (by simp)).trans (Rw.heap_new w _))
 have h2 := (Below.heap_alloc ((w.alloc (.cells #[.slice a l.length c] 32)).alloc (.cells (xC x).toArray 30)) (.cells (nC zNL).toArray 44) (w.heap.size + 1) (by simp)).trans (heap_two w (.cells #[.slice a l.length c] 32) (.cells (xC x).toArray 30))
 have h3 := heap_three w (.cells #[.slice a l.length c] 32) (.cells (xC x).toArray 30) (.cells (nC zNL).toArray 44)
 have H1 := Rw.dh h1
 have H2 := Rw.dh h2
 have H3 := Rw.dh h3
 clear h1 h2 h3 hi hl
 unfold xV at HR ⊢
 go_enter Tryz.func11,Tryz.ntmps11
 go_wp2_with fail
 refine (HR.out _ HB0.out).mono ?_
 rintro e w1 ⟨rfl,hb1⟩
 have HB := Rw.dh (below_on HB0.out hb1)
 have K1 := Rw.dh ((hb1.block _ (Array.getElem?_eq_some_iff.1 H1.out).1).trans H1.out)
 have K2 := Rw.dh ((hb1.block _ (Array.getElem?_eq_some_iff.1 H2.out).1).trans H2.out)
 have K3 := Rw.dh ((hb1.block _ (Array.getElem?_eq_some_iff.1 H3.out).1).trans H3.out)
 clear hb1 HR HB0 H1 H2 H3
 generalize hr: rightX 20 x = bb at *
 have HE' := Rw.dh (HE.out bb rfl)
 clear HE hr
 cases bb
 · clear HC
   obtain ⟨⟨z0,z1,z2,z3,z4,z5,z6⟩,⟨f0,f1,f2,f3,f4,f5,f6⟩,zl⟩ := nzbox K3.out (Below.refl _ _)
   go_wp2_with fail
   refine Rw.to_letter (F := fun W => Below w.heap.size w W /\ W.heap[w.heap.size + 1 + 1]? = some (.cells (nC zNL).toArray 44 (0,0))) ⟨nbelow_set7 (by omega) HB.out _ _ _ _ _ _ _,nstore_heap (z := zNL) K3.out⟩ ?_
   rintro W ⟨hB,hz⟩
   obtain ⟨y0,y1,y2,y3,y4,y5,y6⟩ := ncells2 hz
   have HX: Hid (exprR l x = (zNL,0,15)) := by have := HE'.out; rw [Hid,this]; simp
   clear z0 z1 z2 z3 z4 z5 z6 f0 f1 f2 f3 f4 f5 f6 HE' HB K1 K2 K3 zl hz
   refine bodyPost_ret (v := .tuple #[nV zNL, .int .i64 0, .int .i64 15]) (by simp [results,Tryz.results11,go_sem,y0,y1,y2,y3,y4,y5,y6,nV]) rfl ⟨hB,zNL,0,by rw [HX.out],Or.inr ⟨by rw [HX.out]; rfl,rfl,rfl⟩⟩
 · go_wp2_with fail
   have q1: w.heap.size + 1 + 1 < w1.heap.size := (Array.getElem?_eq_some_iff.1 K3.out).1
   refine (HC.out trivial _ ((HB.out.alloc HB.out.size _).alloc (by simp; have := HB.out.size; omega) _) _ _ _ _ ((Below.heap_alloc _ _ _ (by simp; omega)).trans ((Below.heap_alloc _ _ _ (by omega)).trans K1.out)) ((Below.heap_alloc _ _ _ (by simp; omega)).trans ((Below.heap_alloc _ _ _ (by omega)).trans K2.out)) ((Below.heap_alloc _ _ _ (by simp)).trans (Rw.heap_new w1 _)) (heap_two w1 _ _)).mono ?_
   rintro e w2 ⟨rfl,hP,ho⟩
   clear HC
   have HX: Hid (exprR l x = chk 20 l x) := by have := HE'.out; rw [Hid,this]; simp
   clear HE'
   generalize chk 20 l x = r at *
   have hsz := ho.size
   simp only [World.size_alloc] at hsz
   have K := Rw.dh ((ho.block (w.heap.size + 1 + 1) (by simp; omega) (by omega)).trans ((Below.heap_alloc _ _ _ (by simp; omega)).trans ((Below.heap_alloc _ _ _ (by omega)).trans K3.out)))
   have HB2: Hid (Below w.heap.size w w2) := ((HB.out.alloc HB.out.size (.cells (nC zNL).toArray 44)).alloc (by simp; have := HB.out.size; omega) (.cells #[.int .i64 0] 3)).trans (ho.below (by simp; omega) fun k hk e => by omega)
   obtain ⟨y,t,k1,k2,hres⟩: ∃ y t,w2.heap[w1.heap.size]? = some (.cells (nC y).toArray 44 (0,0)) /\ w2.heap[w1.heap.size + 1]? = some (.cells #[.int .i64 t] 3 (0,0)) /\ ((r.2.2 = 0 /\ t = r.2.1 /\ (∀ m,LikeN m r.1 y) /\ ∀ m,InN m w2 y /\ OffN (fun b => w1.heap.size + 2 <= b) m y) \/ ((r.2.2 != 0) = true /\ t = 0 /\ y = zNL)) := by
    rcases hP with ⟨h,y,v1,v2,v3,v4⟩ | ⟨h,v1,v2⟩
    · exact ⟨y,_,v1,v2,Or.inl ⟨h,rfl,v3,fun m => ⟨(v4 m).1,(v4 m).2.mono fun b hb => by simpa using hb⟩⟩⟩
    · exact ⟨_,_,v1,v2,Or.inr ⟨h,rfl,rfl⟩⟩
   have hal := Rw.below_alloc w2 (.cells #[.int .i64 r.2.2, .int .i64 0] 155)
   have g: ∀ {b: Nat} {o: Obj},w2.heap[b]? = some o -> (w2.alloc (.cells #[.int .i64 r.2.2, .int .i64 0] 155)).heap[b]? = some o := fun {b o} e => (hal.block b (Array.getElem?_eq_some_iff.1 e).1).trans e
   have HRes := Rw.dh hres
   have HL := Rw.dh (And.intro (g k1) (And.intro (g k2) (And.intro (g K.out) (Rw.heap_new w2 (.cells #[.int .i64 r.2.2, .int .i64 0] 155)))))
   have HB3 := Rw.dh (below_on HB2.out hal)
   have HAl := Rw.dh hal
   clear hP ho K1 K2 K3 k1 k2 hres g hal K
   unfold faultV
   go_wp2_with fail
   obtain ⟨k1,k2,k3,k4⟩ := HL.out
   refine Rw.to_letter (F := fun U => (U.heap[w1.heap.size]? = some (.cells (nC y).toArray 44 (0,0)) /\ U.heap[w1.heap.size + 1]? = some (.cells #[.int .i64 t] 3 (0,0)) /\ U.heap[w.heap.size + 1 + 1]? = some (.cells (nC zNL).toArray 44 (0,0)) /\ U.heap[w2.heap.size]? = some (.cells #[.int .i64 r.2.2, .int .i64 0] 155 (0,0))) /\ Below w.heap.size w U /\ Below w2.heap.size w2 U) ⟨HL.out,HB3.out,HAl.out⟩ ?_
   clear k1 k2 k3 k4 HL HB3 HAl HB2 HB
   rintro U ⟨⟨k1,k2,k3,k4⟩,hBU,h2U⟩
   have l1 := (Array.getElem?_eq_some_iff.1 k1).1
   have l2 := (Array.getElem?_eq_some_iff.1 k2).1
   have l4 := (Array.getElem?_eq_some_iff.1 k4).1
   refine Rw.wp_region_factsS (U := U) 6 xS [5,16,17,18,19] (fxF (w.heap.size + 1 + 1) w2.heap.size y t r.2.2) (fun W => NBox (w.heap.size + 1 + 1) W /\ ∀ b,b < U.heap.size -> b ≠ w.heap.size + 1 + 1 -> W.heap[b]? = U.heap[b]?) (w.heap.size + 1 + 1) ⟨⟨zNL,k3⟩,fun _ _ _ => rfl⟩ (by kernel_rfl) (by kernel_rfl) (by kernel_rfl) (by simp) (Rw.lowO_of (by kernel_rfl)) (by kernel_rfl) ?_ ?_
   · intro i o' a2 w4 hi hi6 hfr hbw hsz4 hj' hdep
     have e4: a2.eval (.tmp 4) = .pointer (some ⟨w.heap.size + 1 + 1,0,none⟩) := hfr.eval (by decide)
     have e7: a2.eval (.tmp 7) = .pointer (some ⟨w1.heap.size,0,none⟩) := hfr.eval (by decide)
     have e8: a2.eval (.tmp 8) = .pointer (some ⟨w1.heap.size + 1,0,none⟩) := hfr.eval (by decide)
     have e9: a2.eval (.tmp 9) = .pointer (some ⟨w2.heap.size,0,none⟩) := hfr.eval (by decide)
     have hts: a2.tmps.size = 20 := hfr.size
     have p1 := (hj'.2 _ l1 (by omega)).trans k1
     have p2 := (hj'.2 _ l2 (by omega)).trans k2
     have p4 := (hj'.2 _ l4 (by omega)).trans k4
     have y2: w4.cell? ⟨w1.heap.size + 1,0,none⟩ = some (.int .i64 t) := by rw [cell_of_row _ _ _ _ _ _ p2]; rfl
     have y4: w4.cell? ⟨w2.heap.size,0,none⟩ = some (.int .i64 r.2.2) := by rw [cell_of_row _ _ _ _ _ _ p4]; rfl
     have dep: ∀ x,(o'.after.any fun e => Region.binds .any e && e.on == x) = true -> fxF (w.heap.size + 1 + 1) w2.heap.size y t r.2.2 x (a2.eval (.tmp (xS x))) w4 := fun x h => Rw.depO (F := fun x => fxF (w.heap.size + 1 + 1) w2.heap.size y t r.2.2 x (a2.eval (.tmp (xS x))) w4) x h hdep
     have same: ∀ (i: Nat) (hi: i < 6) (hin: xS i ∈ [5,16,17,18,19]) (h20: xS i < 20) (v: Value),fxF (w.heap.size + 1 + 1) w2.heap.size y t r.2.2 i v w4 -> Rw.StpF 6 xS [5,16,17,18,19] (fxF (w.heap.size + 1 + 1) w2.heap.size y t r.2.2) (fun W => NBox (w.heap.size + 1 + 1) W /\ ∀ b,b < U.heap.size -> b ≠ w.heap.size + 1 + 1 -> W.heap[b]? = U.heap[b]?) (w.heap.size + 1 + 1) i a2 w4 (a2.put (some (xS i)) v) w4 := fun i hi hin h20 v h =>
      Rw.StpF.put xS_inj hi hin (by rw [hts]; exact h20) h (Below.refl _ _) (Nat.le_refl _) hj' fun _ _ _ h => h
     have hcs: i = 0 \/ i = 1 \/ i = 2 \/ i = 3 \/ i = 4 \/ i = 5 := by omega
     rcases hcs with rfl | rfl | rfl | rfl | rfl | rfl
     · obtain rfl := Option.some.inj hi
       exact ⟨rfl,fun K hK => aop_load rfl e7 p1 (hK _ _ (same 0 (by decide) (by decide) (by decide) _ rfl))⟩
     · obtain rfl := Option.some.inj hi
       exact ⟨rfl,fun K hK => cop_int rfl e8 y2 (hK _ _ (same 1 (by decide) (by decide) (by decide) _ rfl))⟩
     · obtain rfl := Option.some.inj hi
       exact ⟨rfl,fun K hK => pop_fault rfl e9 (hK _ _ (same 2 (by decide) (by decide) (by decide) _ rfl))⟩
     · obtain rfl := Option.some.inj hi
       have d: a2.eval (.tmp 18) = .pointer (some ⟨w2.heap.size,0,none⟩) := dep 2 (by kernel_rfl)
       exact ⟨rfl,fun K hK => pop_errno rfl d y4 (hK _ _ (same 3 (by decide) (by decide) (by decide) _ rfl))⟩
     · obtain rfl := Option.some.inj hi
       have d: a2.eval (.tmp 16) = nV y := dep 0 (by kernel_rfl)
       refine ⟨rfl,fun K hK => nop_store rfl rfl e4 d hj'.1 fun w5 g1 g2 g3 g4 => hK _ _ ?_⟩
       exact Rw.StpF.none (fun _ => g1) g4 (by omega) ⟨⟨y,g1⟩,fun b hb hn => (g2 b hn).trans (hj'.2 b hb hn)⟩ fun j' u hj1 h => fxF_val j' u w4 w5 hj1 h
     · obtain rfl := Option.some.inj hi
       have d: a2.eval (.tmp 17) = .int .i64 t := dep 1 (by kernel_rfl)
       exact ⟨rfl,fun K hK => pop_assign rfl d (hK _ _ (same 5 (by decide) (by decide) (by decide) _ rfl))⟩
   · intro a2 w4 hfr hbw hsz4 hj' hk
     have f3: a2.eval (.tmp 19) = .int .i64 r.2.2 := hk 3 (by decide)
     have f4: w4.heap[w.heap.size + 1 + 1]? = some (.cells (nC y).toArray 44 (0,0)) := hk 4 (by decide)
     have f5: a2.eval (.tmp 5) = .int .i64 t := hk 5 (by decide)
     have HRet: Hid (ExP (exprR l x) w (.returned (.tuple #[nV y, .int .i64 t, .int .i64 r.2.2])) w4) := by
      rw [Hid,HX.out]
      refine ⟨hBU.trans (hbw.mono (by omega)),y,t,rfl, ?_⟩
      rcases HRes.out with ⟨h1,h2,h3,h4⟩ | h
      · exact Or.inl ⟨h1,h2,h3,fun m => ⟨((h4 m).1.on h2U).turn (h4 m).2 hsz4 fun b hb hb2 => hj'.2 b hb (by omega),(h4 m).2.mono fun b hb => by omega⟩⟩
      · exact Or.inr h
     have ha := hfr.all (by intro t ht; simp at ht; show t < 20; omega)
     rw [ha]
     simp only [Rw.putAll]
     rw [f3,f5]
     generalize a2.eval (.tmp 16) = u16,a2.eval (.tmp 17) = u17,a2.eval (.tmp 18) = u18
     simp only [Act.put,List.setIfInBounds_toArray,List.set_cons_succ,List.set_cons_zero]
     obtain ⟨z0,z1,z2,z3,z4,z5,z6⟩ := ncells2 f4
     clear f3 f4 f5 ha hk hfr hbw hj' hBU h2U HRes
     go_wp2
     exact bodyPost_ret (v := .tuple #[nV y, .int .i64 t, .int .i64 r.2.2]) (by simp [results,Tryz.results11,go_sem,z0,z1,z2,z3,z4,z5,z6,nV]) rfl HRet.out
end Go.Proofs.YteibhbnlcpejpaaGreat
