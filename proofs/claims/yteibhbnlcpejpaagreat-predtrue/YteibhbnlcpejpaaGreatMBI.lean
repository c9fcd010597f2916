import Derived.Test.YteibhbnlcpejpaaGreatMBH
set_option maxRecDepth 100000
set_option maxHeartbeats 4000000
namespace Go.Proofs.YteibhbnlcpejpaaGreat
open Go.RowKit
def FoP (r: Chk) (w: World) (e: Ending) (W: World): Prop := Below w.heap.size w W /\ ((r.2.2 = 0 /\ ∃ y,e = .returned (.tuple #[nV y, .int .i64 r.2.1]) /\ (∀ m,LikeN m r.1 y) /\ ∀ m,InN m W y /\ OffN (fun b => w.heap.size <= b) m y) \/
 ((r.2.2 != 0) = true /\ e = .panicked (stopped r.2.2 0)))
theorem bytes_of {s: ByteArray} {l: List UInt8} (h: s.toList = l): s = ⟨l.toArray⟩ := by
 rw [ByteArray.toList_eq] at h
 apply ByteArray.ext
 rw [<- h]
theorem nzbox {W w1: World} {p: Nat} (h: W.heap[p]? = some (.cells (nC zNL).toArray 44 (0,0))) (hb: Below W.heap.size W w1): (w1.cell? ⟨p,0,none⟩ = some (.string ⟨#[]⟩) /\ w1.cell? ⟨p,1,none⟩ = some (.int .i64 0) /\ w1.cell? ⟨p,2,none⟩ = some (.int .i64 0) /\ w1.cell? ⟨p,3,none⟩ = some (.string ⟨#[]⟩) /\ w1.cell? ⟨p,4,none⟩ = some (.int .i64 0) /\ w1.cell? ⟨p,5,none⟩ = some (.int .i64 0) /\ w1.cell? ⟨p,6,none⟩ = some (.slice none 0 0)) /\
 (w1.frozen? ⟨p,0,none⟩ = false /\ w1.frozen? ⟨p,1,none⟩ = false /\ w1.frozen? ⟨p,2,none⟩ = false /\ w1.frozen? ⟨p,3,none⟩ = false /\ w1.frozen? ⟨p,4,none⟩ = false /\ w1.frozen? ⟨p,5,none⟩ = false /\ w1.frozen? ⟨p,6,none⟩ = false) /\ p < w1.heap.size := by
 have h1 := (hb.block p (Array.getElem?_eq_some_iff.1 h).1).trans h
 refine ⟨⟨?_, ?_, ?_, ?_, ?_, ?_, ?_⟩,⟨?_, ?_, ?_, ?_, ?_, ?_, ?_⟩,(Array.getElem?_eq_some_iff.1 h1).1⟩
 all_goals first | (rw [cell_of_row _ _ _ _ _ _ h1]; rfl) | exact frozen_of_row _ _ _ _ _ h1
theorem leafN_in {W: World} {op vs: ByteArray} {vk vn var col: Int} (h1: fits vk = true) (h2: fits vn = true) (h3: op.size <= 6) (h4: vs.size <= 24): ∀ m,InN m W (.mk op vk vn vs var col none 0 [])
 | 0 => trivial
 | m + 1 => ⟨⟨h1,h2,Nat.le_trans h3 (by omega),Nat.le_trans h4 (by omega),Nat.zero_le _⟩,Or.inl rfl,fun k hk => by cases hk⟩
theorem leafN_off {p: Nat -> Prop} {op vs: ByteArray} {vk vn var col: Int}: ∀ m,OffN p m (.mk op vk vn vs var col none 0 [])
 | 0 => trivial
 | m + 1 => ⟨Or.inl rfl,fun k hk => by cases hk⟩
theorem LikeN.rfl': ∀ (m: Nat) (x: NL),LikeN m x x
 | 0,_ => trivial
 | m + 1,x => ⟨rfl,rfl,rfl,rfl,rfl,rfl,rfl,fun j k k' h h' => by rw [h] at h'; cases h'; exact LikeN.rfl' m k⟩
theorem ncells2 {W: World} {p: Nat} {k: NL} (h: W.heap[p]? = some (.cells (nC k).toArray 44 (0,0))): W.cell? ⟨p,0,none⟩ = some (.string k.op) /\ W.cell? ⟨p,1,none⟩ = some (.int .i64 k.vk) /\ W.cell? ⟨p,2,none⟩ = some (.int .i64 k.vn) /\ W.cell? ⟨p,3,none⟩ = some (.string k.vs) /\ W.cell? ⟨p,4,none⟩ = some (.int .i64 k.var) /\ W.cell? ⟨p,5,none⟩ = some (.int .i64 k.col) /\ W.cell? ⟨p,6,none⟩ = some (.slice k.a k.kids.length k.c) := by
 refine ⟨?_, ?_, ?_, ?_, ?_, ?_, ?_⟩ <;> (rw [cell_of_row _ _ _ _ _ _ h]; rfl)
def fvF (p: Nat) (xk xn: Int) (xs: ByteArray): Nat -> Value -> World -> Prop
 | 0,v,_ => v = .pointer (some ⟨p,1,none⟩)
 | 1,v,_ => v = .pointer (some ⟨p,1,none⟩)
 | 2,v,_ => v = .int .i64 xk
 | 3,v,_ => v = .pointer (some ⟨p,1,none⟩)
 | 4,v,_ => v = .pointer (some ⟨p,2,none⟩)
 | 5,v,_ => v = .int .i64 xn
 | 6,v,_ => v = .pointer (some ⟨p,1,none⟩)
 | 7,v,_ => v = .pointer (some ⟨p,3,none⟩)
 | 8,v,_ => v = .string xs
 | 9,v,_ => v = .string xs
 | 10,v,_ => v = .agg #[.int .i64 xk, .int .i64 xn, .string xs]
 | 11,v,_ => v = nV (.mk ⟨#[118,97,108,117,101]⟩ xk xn xs 0 0 none 0 [])
 | 12,v,_ => v = .pointer (some ⟨p,1,none⟩)
 | 13,v,_ => v = .pointer (some ⟨p,1,none⟩)
 | 14,v,_ => v = .int .i64 xk
 | 15,_,w => w.heap[p + 1]? = some (.cells (nC (.mk ⟨#[118,97,108,117,101]⟩ xk xn xs 0 0 none 0 [])).toArray 44 (0,0))
 | _,_,_ => True
theorem fvF_val {p: Nat} {xk xn: Int} {xs: ByteArray}: ∀ (j: Nat) (u: Value) (w w': World),j ≠ 15 -> fvF p xk xn xs j u w -> fvF p xk xn xs j u w'
 | 0,_,_,_,_,h | 1,_,_,_,_,h | 2,_,_,_,_,h | 3,_,_,_,_,h | 4,_,_,_,_,h | 5,_,_,_,_,h | 6,_,_,_,_,h | 7,_,_,_,_,h | 8,_,_,_,_,h | 9,_,_,_,_,h | 10,_,_,_,_,h | 11,_,_,_,_,h | 12,_,_,_,_,h | 13,_,_,_,_,h | 14,_,_,_,_,h => h
 | 15,_,_,_,hj,_ => absurd rfl hj
 | _ + 16,_,_,_,_,_ => trivial
theorem fvF_mono {p: Nat} {xk xn: Int} {xs: ByteArray} (j: Nat) (u: Value) (w w': World) (h: fvF p xk xn xs j u w) (hb: w'.heap[p + 1]? = w.heap[p + 1]?): fvF p xk xn xs j u w' := by
 by_cases e: j = 15
 · subst e; exact hb.trans h
 · exact fvF_val j u w w' e h
theorem found_value {l: List VarL} {a: Option Addr} {c: Nat} {w: World} {xo: ByteArray} {xk xn: Int} {xs xv xc: ByteArray} {xa: Option Addr} {xp: Nat} {kids: List XL} (ho: xo.toList = oVALUE) (hk: fits xk = true) (hn: fits xn = true) (hs: xs.size <= 24) :
 Calls Tryz.prog 64 #[.slice a l.length c,xV (.mk xo xk xn xs xv xc xa xp kids)] w (FoP (.mk xo xk xn xs 0 0 none 0 [],xk,0) w) := by
 have hxo: xo = ⟨#[118,97,108,117,101]⟩ := bytes_of ho
 subst hxo
 have HB0 := Rw.dh (below_two w (.cells #[.string ⟨#[118,97,108,117,101]⟩, .int .i64 xk, .int .i64 xn, .string xs, .string xv, .string xc, .slice xa kids.length xp] 30) (.cells (nC zNL).toArray 44))
 have hx0 := (Below.heap_alloc (w.alloc (.cells #[.string ⟨#[118,97,108,117,101]⟩, .int .i64 xk, .int .i64 xn, .string xs, .string xv, .string xc, .slice xa kids.length xp] 30)) (.cells (nC zNL).toArray 44) w.heap.size (by simp)).trans (Rw.heap_new w _)
 have hz0 := heap_two w (.cells #[.string ⟨#[118,97,108,117,101]⟩, .int .i64 xk, .int .i64 xn, .string xs, .string xv, .string xc, .slice xa kids.length xp] 30) (.cells (nC zNL).toArray 44)
 unfold xV
 dsimp only [XL.op,XL.vk,XL.vn,XL.vs,XL.var,XL.col,XL.a,XL.c,XL.kids]
 have HI := Rw.dh (fun W => leafN_in (W := W) (op := ⟨#[118,97,108,117,101]⟩) (var := 0) (col := 0) hk hn (by decide) hs)
 clear ho hk hn
 go_enter Tryz.func64,Tryz.ntmps64
 go_wp2_with fail
 refine Rw.to_letter (F := fun W => Below w.heap.size w W /\ W.heap[w.heap.size]? = some (.cells #[.string ⟨#[118,97,108,117,101]⟩, .int .i64 xk, .int .i64 xn, .string xs, .string xv, .string xc, .slice xa kids.length xp] 30 (0,0)) /\ W.heap[w.heap.size + 1]? = some (.cells (nC zNL).toArray 44 (0,0))) ⟨HB0.out,hx0,hz0⟩ ?_
 clear HB0 hx0 hz0
 rintro W ⟨hbB,hx,hz⟩
 have HZ := Rw.dh hz
 clear hz
 refine Rw.wp_region_factsS (U := W) 16 (fun i => 16 + i) [16,17,18,19,20,21,22,23,24,25,26,27,28,29,30,31] (fvF w.heap.size xk xn xs) (NBox (w.heap.size + 1)) (w.heap.size + 1) ⟨zNL,HZ.out⟩ (by kernel_rfl) (by kernel_rfl) (by kernel_rfl) (by simp) (Rw.lowO_of (by kernel_rfl)) (by kernel_rfl) ?_ ?_
 · intro i o a2 w2 hi hi16 hfr hbw hsz hbx hdep
   have hinj: ∀ i j: Nat,i < 16 -> j < 16 -> 16 + i = 16 + j -> i = j := fun i j _ _ h => by omega
   have e3: a2.eval (.tmp 3) = .pointer (some ⟨w.heap.size,0,none⟩) := hfr.eval (by decide)
   have e4: a2.eval (.tmp 4) = .pointer (some ⟨w.heap.size + 1,0,none⟩) := hfr.eval (by decide)
   have hts: a2.tmps.size = 88 := hfr.size
   have hx2 := (hbw.block w.heap.size (Nat.lt_succ_self _)).trans hx
   obtain ⟨x0,x1,x2,x3,x4,x5,x6⟩ := xbox (x := .mk ⟨#[118,97,108,117,101]⟩ xk xn xs xv xc xa xp kids) hx2
   dsimp only [XL.op,XL.vk,XL.vn,XL.vs,XL.var,XL.col,XL.a,XL.c,XL.kids] at x0 x1 x2 x3 x4 x5 x6
   have dep: ∀ q,(o.after.any fun e => Region.binds .any e && e.on == q) = true -> fvF w.heap.size xk xn xs q (a2.eval (.tmp (16 + q))) w2 := fun q h => Rw.depO (F := fun q => fvF w.heap.size xk xn xs q (a2.eval (.tmp (16 + q))) w2) q h hdep
   have same: ∀ (i: Nat) (hi: i < 16) (v: Value),fvF w.heap.size xk xn xs i v w2 -> Rw.StpF 16 (fun i => 16 + i) [16,17,18,19,20,21,22,23,24,25,26,27,28,29,30,31] (fvF w.heap.size xk xn xs) (NBox (w.heap.size + 1)) (w.heap.size + 1) i a2 w2 (a2.put (some (16 + i)) v) w2 := fun i hi v h =>
    Rw.StpF.put hinj hi (by simp; omega) (by rw [hts]; show 16 + i < 88; omega) h (Below.refl _ _) (Nat.le_refl _) hbx fun _ _ _ h => h
   have hcs: i = 0 \/ i = 1 \/ i = 2 \/ i = 3 \/ i = 4 \/ i = 5 \/ i = 6 \/ i = 7 \/ i = 8 \/ i = 9 \/ i = 10 \/ i = 11 \/ i = 12 \/ i = 13 \/ i = 14 \/ i = 15 := by omega
   rcases hcs with rfl | rfl | rfl | rfl | rfl | rfl | rfl | rfl | rfl | rfl | rfl | rfl | rfl | rfl | rfl | rfl
   · obtain rfl := Option.some.inj hi
     exact ⟨rfl,fun K hK => xop_f1 rfl e3 (hK _ _ (same 0 (by omega) _ rfl))⟩
   · obtain rfl := Option.some.inj hi
     have d: a2.eval (.tmp 16) = .pointer (some ⟨w.heap.size,1,none⟩) := dep 0 (by kernel_rfl)
     exact ⟨rfl,fun K hK => vop_f0 rfl d (hK _ _ (same 1 (by omega) _ rfl))⟩
   · obtain rfl := Option.some.inj hi
     have d: a2.eval (.tmp 17) = .pointer (some ⟨w.heap.size,1,none⟩) := dep 1 (by kernel_rfl)
     exact ⟨rfl,fun K hK => cop_int rfl d x1 (hK _ _ (same 2 (by omega) _ rfl))⟩
   · obtain rfl := Option.some.inj hi
     exact ⟨rfl,fun K hK => xop_f1 rfl e3 (hK _ _ (same 3 (by omega) _ rfl))⟩
   · obtain rfl := Option.some.inj hi
     have d: a2.eval (.tmp 19) = .pointer (some ⟨w.heap.size,1,none⟩) := dep 3 (by kernel_rfl)
     exact ⟨rfl,fun K hK => vop_f1 rfl d (hK _ _ (same 4 (by omega) _ rfl))⟩
   · obtain rfl := Option.some.inj hi
     have d: a2.eval (.tmp 20) = .pointer (some ⟨w.heap.size,2,none⟩) := dep 4 (by kernel_rfl)
     exact ⟨rfl,fun K hK => cop_int rfl d x2 (hK _ _ (same 5 (by omega) _ rfl))⟩
   · obtain rfl := Option.some.inj hi
     exact ⟨rfl,fun K hK => xop_f1 rfl e3 (hK _ _ (same 6 (by omega) _ rfl))⟩
   · obtain rfl := Option.some.inj hi
     have d: a2.eval (.tmp 22) = .pointer (some ⟨w.heap.size,1,none⟩) := dep 6 (by kernel_rfl)
     exact ⟨rfl,fun K hK => vop_f2 rfl d (hK _ _ (same 7 (by omega) _ rfl))⟩
   · obtain rfl := Option.some.inj hi
     have d: a2.eval (.tmp 23) = .pointer (some ⟨w.heap.size,3,none⟩) := dep 7 (by kernel_rfl)
     exact ⟨rfl,fun K hK => cop_str rfl d x3 (hK _ _ (same 8 (by omega) _ rfl))⟩
   · obtain rfl := Option.some.inj hi
     have d: a2.eval (.tmp 24) = .string xs := dep 8 (by kernel_rfl)
     refine ⟨rfl,fun K hK => cop_clone rfl d (by omega) fun w3 hb3 => hK _ _ ?_⟩
     have hl2: w.heap.size + 1 < w2.heap.size := by obtain ⟨y,hy⟩ := hbx; exact (Array.getElem?_eq_some_iff.1 hy).1
     exact Rw.StpF.put hinj (by omega) (by simp) (by rw [hts]; show 25 < 88; omega) rfl (hb3.mono (by omega)) hb3.size (by obtain ⟨y,hy⟩ := hbx; exact ⟨y,(hb3.block _ hl2).trans hy⟩) fun j u _ h => fvF_mono j u w2 w3 h (hb3.block _ hl2)
   · obtain rfl := Option.some.inj hi
     have d0: a2.eval (.tmp 18) = .int .i64 xk := dep 2 (by kernel_rfl)
     have d1: a2.eval (.tmp 21) = .int .i64 xn := dep 5 (by kernel_rfl)
     have d2: a2.eval (.tmp 25) = .string xs := dep 9 (by kernel_rfl)
     exact ⟨rfl,fun K hK => vop_build rfl d0 d1 d2 (hK _ _ (same 10 (by omega) _ rfl))⟩
   · obtain rfl := Option.some.inj hi
     have d: a2.eval (.tmp 26) = .agg #[.int .i64 xk, .int .i64 xn, .string xs] := dep 10 (by kernel_rfl)
     exact ⟨rfl,fun K hK => nop_value rfl d (hK _ _ (same 11 (by omega) _ rfl))⟩
   · obtain rfl := Option.some.inj hi
     exact ⟨rfl,fun K hK => xop_f1 rfl e3 (hK _ _ (same 12 (by omega) _ rfl))⟩
   · obtain rfl := Option.some.inj hi
     have d: a2.eval (.tmp 28) = .pointer (some ⟨w.heap.size,1,none⟩) := dep 12 (by kernel_rfl)
     exact ⟨rfl,fun K hK => vop_f0 rfl d (hK _ _ (same 13 (by omega) _ rfl))⟩
   · obtain rfl := Option.some.inj hi
     have d: a2.eval (.tmp 29) = .pointer (some ⟨w.heap.size,1,none⟩) := dep 13 (by kernel_rfl)
     exact ⟨rfl,fun K hK => cop_int rfl d x1 (hK _ _ (same 14 (by omega) _ rfl))⟩
   · obtain rfl := Option.some.inj hi
     have d: a2.eval (.tmp 27) = nV (.mk ⟨#[118,97,108,117,101]⟩ xk xn xs 0 0 none 0 []) := dep 11 (by kernel_rfl)
     refine ⟨rfl,fun K hK => nop_store rfl rfl e4 d hbx fun w3 h1 _ h3 h4 => hK _ _ ?_⟩
     exact Rw.StpF.none (fun _ => h1) h4 (by omega) ⟨_,h1⟩ fun j u hj h => fvF_val j u w2 w3 hj h
 · intro a2 w2 hfr hbw hsz _ hk
   have k14: a2.eval (.tmp 30) = .int .i64 xk := hk 14 (by decide)
   have k15: w2.heap[w.heap.size + 1]? = some (.cells (nC (.mk ⟨#[118,97,108,117,101]⟩ xk xn xs 0 0 none 0 [])).toArray 44 (0,0)) := hk 15 (by decide)
   have ha := hfr.all (by intro t ht; simp at ht; show t < 88; omega)
   rw [ha]
   simp only [Rw.putAll]
   rw [k14]
   generalize a2.eval (.tmp 16) = u16,a2.eval (.tmp 17) = u17,a2.eval (.tmp 18) = u18,a2.eval (.tmp 19) = u19,a2.eval (.tmp 20) = u20,a2.eval (.tmp 21) = u21,a2.eval (.tmp 22) = u22,a2.eval (.tmp 23) = u23,a2.eval (.tmp 24) = u24,a2.eval (.tmp 25) = u25,a2.eval (.tmp 26) = u26,a2.eval (.tmp 27) = u27,a2.eval (.tmp 28) = u28,a2.eval (.tmp 29) = u29,a2.eval (.tmp 31) = u31
   simp only [Act.put,List.setIfInBounds_toArray,List.set_cons_succ,List.set_cons_zero]
   have HB2 := Rw.dh ((hbB.trans (hbw.mono (Nat.le_succ _))))
   obtain ⟨z0,z1,z2,z3,z4,z5,z6⟩ := ncells2 k15
   dsimp only [NL.op,NL.vk,NL.vn,NL.vs,NL.var,NL.col,NL.a,NL.c,NL.kids] at z0 z1 z2 z3 z4 z5 z6
   clear k14 k15 ha hk hfr hbw hsz HZ hx hbB
   go_wp2
   refine bodyPost_ret (v := .tuple #[nV (.mk ⟨#[118,97,108,117,101]⟩ xk xn xs 0 0 none 0 []), .int .i64 xk]) (by simp [results,Tryz.results64,go_sem,z0,z1,z2,z3,z4,z5,z6,nV,NL.op,NL.vk,NL.vn,NL.vs,NL.var,NL.col,NL.a,NL.c,NL.kids]) rfl ⟨HB2.out,Or.inl ⟨rfl,_,rfl,fun m => LikeN.rfl' m _,fun m => ⟨HI.out _ m,leafN_off m⟩⟩⟩
theorem placeO_some {l: List VarL} {var col: ByteArray} {j i: Nat} {cc: Col} (h: placeO l var col = some (j,i,cc)): ∃ v,l[j]? = some v /\ v.cols[i]? = some cc := by
 unfold placeO at h
 split at h
 · cases h
 split at h
 · cases h
 rename_i v hv
 split at h
 · cases h
 split at h
 · cases h
 rename_i k hk
 cases h
 exact ⟨v,hv,hk⟩
def fcF (b o b' o' j i n c nc cc: Nat) (t: Int) (p: Nat): Nat -> Value -> World -> Prop
 | 0,v,_ => v = .int .i64 (j: Int)
 | 1,v,_ => v = .int .i64 (i: Int)
 | 2,v,_ => v = nV (.mk ⟨#[99,111,108,117,109,110]⟩ 0 0 ⟨#[]⟩ (j: Int) (i: Int) none 0 [])
 | 3,v,_ => v = .slice (some ⟨b,o,none⟩) n c
 | 4,v,_ => v = .int .i64 (j: Int)
 | 5,v,_ => v = .pointer (some ⟨b,o + j * 5,none⟩)
 | 6,v,_ => v = .pointer (some ⟨b,o + j * 5 + 4,none⟩)
 | 7,v,_ => v = .slice (some ⟨b',o',none⟩) nc cc
 | 8,v,_ => v = .int .i64 (i: Int)
 | 9,v,_ => v = .pointer (some ⟨b',o' + i * 4,none⟩)
 | 10,v,_ => v = .pointer (some ⟨b',o' + i * 4 + 1,none⟩)
 | 11,v,_ => v = .int .i64 t
 | 12,_,w => w.heap[p]? = some (.cells (nC (.mk ⟨#[99,111,108,117,109,110]⟩ 0 0 ⟨#[]⟩ (j: Int) (i: Int) none 0 [])).toArray 44 (0,0))
 | _,_,_ => True
theorem fcF_val {b o b' o' j i n c nc cc: Nat} {t: Int} {p: Nat}: ∀ (q: Nat) (u: Value) (w w': World),q ≠ 12 -> fcF b o b' o' j i n c nc cc t p q u w -> fcF b o b' o' j i n c nc cc t p q u w'
 | 0,_,_,_,_,h | 1,_,_,_,_,h | 2,_,_,_,_,h | 3,_,_,_,_,h | 4,_,_,_,_,h | 5,_,_,_,_,h | 6,_,_,_,_,h | 7,_,_,_,_,h | 8,_,_,_,_,h | 9,_,_,_,_,h | 10,_,_,_,_,h | 11,_,_,_,_,h => h
 | 12,_,_,_,hj,_ => absurd rfl hj
 | _ + 13,_,_,_,_,_ => trivial
theorem found_column {l: List VarL} {a: Option Addr} {c: Nat} {w: World} {xo: ByteArray} {xk xn: Int} {xs xv xc: ByteArray} {xa: Option Addr} {xp: Nat} {kids: List XL} (ho: xo.toList = oCOLUMN) (hl: VarsIn w a l) (hf: FewCols l) :
 Calls Tryz.prog 64 #[.slice a l.length c,xV (.mk xo xk xn xs xv xc xa xp kids)] w (FoP (chkPlace xo (placeO l xv xc)) w) := by
 have hxo: xo = ⟨#[99,111,108,117,109,110]⟩ := bytes_of ho
 subst hxo
 have HB0 := Rw.dh (below_two w (.cells #[.string ⟨#[99,111,108,117,109,110]⟩, .int .i64 xk, .int .i64 xn, .string xs, .string xv, .string xc, .slice xa kids.length xp] 30) (.cells (nC zNL).toArray 44))
 have hz0 := heap_two w (.cells #[.string ⟨#[99,111,108,117,109,110]⟩, .int .i64 xk, .int .i64 xn, .string xs, .string xv, .string xc, .slice xa kids.length xp] 30) (.cells (nC zNL).toArray 44)
 have HPL := Rw.dh (fun W (hb: Below w.heap.size w W) => place_walk (.mk ⟨#[99,111,108,117,109,110]⟩ xk xn xs xv xc xa xp kids) (c := c) (hl.on hb) hf)
 have HL := Rw.dh hl
 have HPS := Rw.dh (fun j i cc h => placeO_some (l := l) (var := xv) (col := xc) (j := j) (i := i) (cc := cc) h)
 unfold xV at HPL ⊢
 dsimp only [XL.op,XL.vk,XL.vn,XL.vs,XL.var,XL.col,XL.a,XL.c,XL.kids] at HPL ⊢
 have hll := hf.1
 have HFc := Rw.dh hf.2
 clear ho hl hf
 generalize placeO l xv xc = P at *
 go_enter Tryz.func64,Tryz.ntmps64
 go_wp2_with fail
 refine (HPL.out _ HB0.out).mono ?_
 rintro e w1 ⟨he,hb1⟩
 have HB1 := Rw.dh (below_on HB0.out hb1)
 have HZ1 := Rw.dh ((hb1.block _ (Array.getElem?_eq_some_iff.1 hz0).1).trans hz0)
 clear hb1 HB0 hz0 HPL
 cases P with
 | none =>
  subst he
  unfold plE
  go_wp2
  exact ⟨rfl,HB1.out,Or.inr ⟨rfl,rfl⟩⟩
 | some r =>
  obtain ⟨j,i,cc⟩ := r
  subst he
  unfold plE
  obtain ⟨v,hv,hcc⟩ := HPS.out j i cc rfl
  have hjl := (List.getElem?_eq_some_iff.1 hv).1
  have hil := (List.getElem?_eq_some_iff.1 hcc).1
  have hvm := List.mem_of_getElem? hv
  have hi50 := HFc.out v hvm
  obtain ⟨b,o,v',rfl,hb,hx,hc⟩ := (HL.out.rows.below HB1.out).at hjl
  rw [hv] at hx
  cases hx
  have c4: w1.cell? ⟨b,o + j * 5 + 4,none⟩ = some (.slice v.a v.cols.length v.c) := hc 4 _ rfl
  obtain ⟨b',o',cc',hva,hb',hx',hc'⟩ := ((HL.out.cols v hvm).below HB1.out).at hil
  rw [hcc] at hx'
  cases hx'
  rw [hva] at c4
  have d1: w1.cell? ⟨b',o' + i * 4 + 1,none⟩ = some (.int .i64 cc.t) := hc' 1 _ rfl
  have hva0 := hva
  have HL0 := HL
  have HLc := Rw.dh (HL.out.cols v hvm)
  clear hc hc' hv hcc hvm hva HPS HFc HL
  have hlb: b < w.heap.size + 1 := by
   rcases HL0.out.rows with h | ⟨b1,o1,h,h',_⟩
   · rw [h] at hjl; simp at hjl
   · cases h; omega
  have hlb': b' < w.heap.size + 1 := by
   rcases HLc.out with h | ⟨b1,o1,h,h',_⟩
   · rw [h] at hil; simp at hil
   · rw [hva0] at h; cases h; omega
  go_wp2_with fail
  refine Rw.wp_region_factsS (U := w1) 13 (fun i => 39 + i) [39,40,41,42,43,44,45,46,47,48,49,50,51] (fcF b o b' o' j i l.length c v.cols.length v.c cc.t (w.heap.size + 1)) (NBox (w.heap.size + 1)) (w.heap.size + 1) ⟨zNL,HZ1.out⟩ (by kernel_rfl) (by kernel_rfl) (by kernel_rfl) (by simp) (Rw.lowO_of (by kernel_rfl)) (by kernel_rfl) ?_ ?_
  · intro i' o2 a2 w2 hi hi13 hfr hbw hsz hbx hdep
    have hinj: ∀ i j: Nat,i < 13 -> j < 13 -> 39 + i = 39 + j -> i = j := fun i j _ _ h => by omega
    have e0: a2.eval (.tmp 0) = .slice (some ⟨b,o,none⟩) l.length c := hfr.eval (by decide)
    have e4: a2.eval (.tmp 4) = .pointer (some ⟨w.heap.size + 1,0,none⟩) := hfr.eval (by decide)
    have e6: a2.eval (.tmp 6) = .int .i64 (j: Int) := hfr.eval (by decide)
    have e7: a2.eval (.tmp 7) = .int .i64 (i: Int) := hfr.eval (by decide)
    have hts: a2.tmps.size = 88 := hfr.size
    have y4: w2.cell? ⟨b,o + j * 5 + 4,none⟩ = some (.slice (some ⟨b',o',none⟩) v.cols.length v.c) := by rw [hbw.cell (p := ⟨b,o + j * 5 + 4,none⟩) hlb]; exact c4
    have y1: w2.cell? ⟨b',o' + i * 4 + 1,none⟩ = some (.int .i64 cc.t) := by rw [hbw.cell (p := ⟨b',o' + i * 4 + 1,none⟩) hlb']; exact d1
    have dep: ∀ q,(o2.after.any fun e => Region.binds .any e && e.on == q) = true -> (fcF b o b' o' j i l.length c v.cols.length v.c cc.t (w.heap.size + 1)) q (a2.eval (.tmp (39 + q))) w2 := fun q h => Rw.depO (F := fun q => (fcF b o b' o' j i l.length c v.cols.length v.c cc.t (w.heap.size + 1)) q (a2.eval (.tmp (39 + q))) w2) q h hdep
    have same: ∀ (i': Nat) (hi: i' < 13) (u: Value),(fcF b o b' o' j i l.length c v.cols.length v.c cc.t (w.heap.size + 1)) i' u w2 -> Rw.StpF 13 (fun i => 39 + i) [39,40,41,42,43,44,45,46,47,48,49,50,51] (fcF b o b' o' j i l.length c v.cols.length v.c cc.t (w.heap.size + 1)) (NBox (w.heap.size + 1)) (w.heap.size + 1) i' a2 w2 (a2.put (some (39 + i')) u) w2 := fun i' hi u h =>
     Rw.StpF.put hinj hi (by simp; omega) (by rw [hts]; show 39 + i' < 88; omega) h (Below.refl _ _) (Nat.le_refl _) hbx fun _ _ _ h => h
    have hcs: i' = 0 \/ i' = 1 \/ i' = 2 \/ i' = 3 \/ i' = 4 \/ i' = 5 \/ i' = 6 \/ i' = 7 \/ i' = 8 \/ i' = 9 \/ i' = 10 \/ i' = 11 \/ i' = 12 := by omega
    rcases hcs with rfl | rfl | rfl | rfl | rfl | rfl | rfl | rfl | rfl | rfl | rfl | rfl | rfl
    · obtain rfl := Option.some.inj hi
      exact ⟨rfl,fun K hK => kop_move rfl e6 (hK _ _ (same 0 (by omega) _ rfl))⟩
    · obtain rfl := Option.some.inj hi
      exact ⟨rfl,fun K hK => kop_move rfl e7 (hK _ _ (same 1 (by omega) _ rfl))⟩
    · obtain rfl := Option.some.inj hi
      have d0: a2.eval (.tmp 39) = .int .i64 (j: Int) := dep 0 (by kernel_rfl)
      have d1: a2.eval (.tmp 40) = .int .i64 (i: Int) := dep 1 (by kernel_rfl)
      exact ⟨rfl,fun K hK => nop_column rfl d0 d1 (hK _ _ (same 2 (by omega) _ rfl))⟩
    · obtain rfl := Option.some.inj hi
      exact ⟨rfl,fun K hK => kop_move rfl e0 (hK _ _ (same 3 (by omega) _ rfl))⟩
    · obtain rfl := Option.some.inj hi
      exact ⟨rfl,fun K hK => kop_move rfl e6 (hK _ _ (same 4 (by omega) _ rfl))⟩
    · obtain rfl := Option.some.inj hi
      have d0: a2.eval (.tmp 42) = .slice (some ⟨b,o,none⟩) l.length c := dep 3 (by kernel_rfl)
      have d1: a2.eval (.tmp 43) = .int .i64 (j: Int) := dep 4 (by kernel_rfl)
      exact ⟨rfl,fun K hK => kop_indexV rfl d0 d1 hjl (hK _ _ (same 5 (by omega) _ rfl))⟩
    · obtain rfl := Option.some.inj hi
      have d0: a2.eval (.tmp 44) = .pointer (some ⟨b,o + j * 5,none⟩) := dep 5 (by kernel_rfl)
      exact ⟨rfl,fun K hK => rop_f2 rfl d0 (hK _ _ (same 6 (by omega) _ rfl))⟩
    · obtain rfl := Option.some.inj hi
      have d0: a2.eval (.tmp 45) = .pointer (some ⟨b,o + j * 5 + 4,none⟩) := dep 6 (by kernel_rfl)
      exact ⟨rfl,fun K hK => kop_cols rfl d0 y4 (hK _ _ (same 7 (by omega) _ rfl))⟩
    · obtain rfl := Option.some.inj hi
      exact ⟨rfl,fun K hK => kop_move rfl e7 (hK _ _ (same 8 (by omega) _ rfl))⟩
    · obtain rfl := Option.some.inj hi
      have d0: a2.eval (.tmp 46) = .slice (some ⟨b',o',none⟩) v.cols.length v.c := dep 7 (by kernel_rfl)
      have d1: a2.eval (.tmp 47) = .int .i64 (i: Int) := dep 8 (by kernel_rfl)
      exact ⟨rfl,fun K hK => kop_indexC rfl d0 d1 hil (hK _ _ (same 9 (by omega) _ rfl))⟩
    · obtain rfl := Option.some.inj hi
      have d0: a2.eval (.tmp 48) = .pointer (some ⟨b',o' + i * 4,none⟩) := dep 9 (by kernel_rfl)
      exact ⟨rfl,fun K hK => colop_f1 rfl d0 (hK _ _ (same 10 (by omega) _ rfl))⟩
    · obtain rfl := Option.some.inj hi
      have d0: a2.eval (.tmp 49) = .pointer (some ⟨b',o' + i * 4 + 1,none⟩) := dep 10 (by kernel_rfl)
      exact ⟨rfl,fun K hK => cop_int rfl d0 y1 (hK _ _ (same 11 (by omega) _ rfl))⟩
    · obtain rfl := Option.some.inj hi
      have d: a2.eval (.tmp 41) = nV (.mk ⟨#[99,111,108,117,109,110]⟩ 0 0 ⟨#[]⟩ (j: Int) (i: Int) none 0 []) := dep 2 (by kernel_rfl)
      refine ⟨rfl,fun K hK => nop_store rfl rfl e4 d hbx fun w3 h1 _ h3 h4 => hK _ _ ?_⟩
      exact Rw.StpF.none (fun _ => h1) h4 (by omega) ⟨_,h1⟩ fun j u hj h => fcF_val j u w2 w3 hj h
  · intro a2 w2 hfr hbw hsz _ hk
    have k11: a2.eval (.tmp 50) = .int .i64 cc.t := hk 11 (by decide)
    have k12: w2.heap[w.heap.size + 1]? = some (.cells (nC (.mk ⟨#[99,111,108,117,109,110]⟩ 0 0 ⟨#[]⟩ (j: Int) (i: Int) none 0 [])).toArray 44 (0,0)) := hk 12 (by decide)
    have ha := hfr.all (by intro t ht; simp at ht; show t < 88; omega)
    rw [ha]
    simp only [Rw.putAll]
    rw [k11]
    generalize a2.eval (.tmp 39) = u39,a2.eval (.tmp 40) = u40,a2.eval (.tmp 41) = u41,a2.eval (.tmp 42) = u42,a2.eval (.tmp 43) = u43,a2.eval (.tmp 44) = u44,a2.eval (.tmp 45) = u45,a2.eval (.tmp 46) = u46,a2.eval (.tmp 47) = u47,a2.eval (.tmp 48) = u48,a2.eval (.tmp 49) = u49,a2.eval (.tmp 51) = u51
    simp only [Act.put,List.setIfInBounds_toArray,List.set_cons_succ,List.set_cons_zero]
    have HB2 := Rw.dh (HB1.out.trans (hbw.mono (Nat.le_succ _)))
    obtain ⟨z0,z1,z2,z3,z4,z5,z6⟩ := ncells2 k12
    dsimp only [NL.op,NL.vk,NL.vn,NL.vs,NL.var,NL.col,NL.a,NL.c,NL.kids] at z0 z1 z2 z3 z4 z5 z6
    clear k11 k12 ha hk hfr hbw hsz HZ1 HB1
    go_wp2
    refine bodyPost_ret (v := .tuple #[nV (.mk ⟨#[99,111,108,117,109,110]⟩ 0 0 ⟨#[]⟩ (j: Int) (i: Int) none 0 []), .int .i64 cc.t]) (by simp [results,Tryz.results64,go_sem,z0,z1,z2,z3,z4,z5,z6,nV,NL.op,NL.vk,NL.vn,NL.vs,NL.var,NL.col,NL.a,NL.c,NL.kids]) rfl ⟨HB2.out,Or.inl ⟨rfl,_,rfl,fun m => LikeN.rfl' m _,fun m => ⟨leafN_in (by decide) (by decide) (by decide) (by decide) m,leafN_off m⟩⟩⟩
end Go.Proofs.YteibhbnlcpejpaaGreat
