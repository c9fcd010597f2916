import Derived.Test.YtdaikppppkbfoaaMBQ
set_option maxRecDepth 100000
set_option maxHeartbeats 4000000
namespace Go.Proofs.Ytdaikppppkbfoaa
open Go.RowKit
theorem calls_expr1 (args: Array Value) (w: World): (callFunc 52 args).run Try.prog w = .ok (.enter 52 args) w := by
 simp [go_sem]
def CaP (r: Chk) (pn pk B: Nat) (W: World): Prop :=
 (r.2.2 = 0 /\ ∃ y,W.heap[pn]? = some (.cells (nC y).toArray 67 (0,0)) /\ W.heap[pk]? = some (.cells #[.int .i64 r.2.1] 3 (0,0)) /\ (∀ m,LikeN m r.1 y) /\ ∀ m,InN m W y /\ OffN (fun b => B <= b) m y) \/
 ((r.2.2 != 0) = true /\ W.heap[pn]? = some (.cells (nC zNL).toArray 67 (0,0)) /\ W.heap[pk]? = some (.cells #[.int .i64 0] 3 (0,0)))
theorem exprCatch_walk {l: List VarL} {a: Option Addr} {c: Nat} {r: Chk} (x: XL) {w: World} (hC: ∀ W,Below w.heap.size w W -> Calls Try.prog 53 #[.slice a l.length c,xV x] W (FoP r W)) {pl pe pn pk: Nat}
 (h1: w.heap[pl]? = some (.cells #[.slice a l.length c] 28 (0,0))) (h2: w.heap[pe]? = some (.cells (xC x).toArray 46 (0,0))) (h3: w.heap[pn]? = some (.cells (nC zNL).toArray 67 (0,0))) (h4: w.heap[pk]? = some (.cells #[.int .i64 0] 3 (0,0))) :
 Calls Try.prog 51 #[.func (.func 52) #[] #[.pointer (some ⟨pl,0,none⟩), .pointer (some ⟨pe,0,none⟩), .pointer (some ⟨pn,0,none⟩), .pointer (some ⟨pk,0,none⟩)]] w fun e w' => e = .returned (faultV r.2.2 0) /\ CaP r pn pk w.heap.size w' /\ Only (fun k => k = pn \/ k = pk) w w' := by
 have hb := below_catchW w
 have l3 := (Array.getElem?_eq_some_iff.1 h3).1
 have l4 := (Array.getElem?_eq_some_iff.1 h4).1
 have g: ∀ {b: Nat} {o: Obj},w.heap[b]? = some o -> (catchW w).heap[b]? = some o := fun {b o} e => (hb.block b (Array.getElem?_eq_some_iff.1 e).1).trans e
 have H := expr1_walk (r := r) x (fun W hW => hC W (below_on hb hW)) (g h1) (g h2) (g h3) (g h4)
 refine (catch_any 52 calls_expr1 _ w (fun k => k = pn \/ k = pk) (fun k hk e => by omega) (Ex1P r pn pk (catchW w)) (H.mono ?_)).mono ?_
 · rintro e w1 ⟨hE,ho⟩
   refine ⟨⟨hE,ho⟩,ho, ?_⟩
   rcases hE with ⟨_,rfl,_⟩ | ⟨_,rfl,_⟩
   · exact ⟨_,_,_, .done⟩
   · exact ⟨_,_,_, .stop _ _⟩
 · rintro e w' ⟨e1,w1,c,a,t,⟨hE,_⟩,hc,rfl,ho,hat⟩
   have hs := hb.size
   have hs1 := ho.size
   have h3s: w.heap.size + 3 <= (catchW w).heap.size := by simp [catchW,caughtW]
   have hp3: w'.heap[pn]? = w1.heap[pn]? := hat.block _ (by omega) (by omega)
   have hp4: w'.heap[pk]? = w1.heap[pk]? := hat.block _ (by omega) (by omega)
   rcases hE with ⟨h,he,y,v1,v2,v3,v4⟩ | ⟨h,he,v1,v2⟩
   · obtain ⟨rfl,rfl⟩ := came_ret hc he
     exact ⟨by rw [h],Or.inl ⟨h,y,hp3.trans v1,hp4.trans v2,v3,fun m => ⟨(v4 m).1.turn (v4 m).2 hat.size fun b hb1 hb2 => hat.block _ hb1 (by omega),(v4 m).2.mono fun b hb2 => by omega⟩⟩,Only.through hb ho hat⟩
   · obtain ⟨rfl,rfl⟩ := came_pan hc he
     exact ⟨rfl,Or.inr ⟨h,hp3.trans v1,hp4.trans v2⟩,Only.through hb ho hat⟩
section
variable {Q: Exit -> Act -> World -> Prop} {K: Act -> World -> Prop} {o: Oper} {a: Act} {w: World}
set_option maxRecDepth 100000
theorem pop_fault {s p: Nat} (ho: o.op = .fieldAddr 123 (.tmp s) 0) (hs: a.eval (.tmp s) = .pointer (some ⟨p,0,none⟩)) (hK: K (a.put o.dst (.pointer (some ⟨p,0,none⟩))) w): Oper.wp Try.prog o a w K Q := by
 have hs' := kslot_of hs
 unfold Oper.wp
 simp [execOp,ho,go_sem,hs',run_underlying Try.underlying123]
 exact hK
theorem pop_errno {s: Nat} {ad: Addr} {n: Int} (ho: o.op = .load 39 (.tmp s)) (hs: a.eval (.tmp s) = .pointer (some ad)) (hc: w.cell? ad = some (.int .i64 n)) (hK: K (a.put o.dst (.int .i64 n)) w): Oper.wp Try.prog o a w K Q := by
 have hs' := kslot_of hs
 unfold Oper.wp
 simp [execOp,ho,go_sem,hs',hc]
 exact hK
theorem pop_assign {s: Nat} {v: Value} (ho: o.op = .assign (.tmp s)) (hs: a.eval (.tmp s) = v) (hK: K (a.put o.dst v) w): Oper.wp Try.prog o a w K Q := by
 have hs' := kslot_of hs
 unfold Oper.wp
 simp [execOp,ho,go_sem,hs']
 exact hK
end
def fxF (z p: Nat) (y: NL) (t c: Int): Nat -> Value -> World -> Prop
 | 0,v,_ => v = nV y
 | 1,v,_ => v = .int .i64 t
 | 2,v,_ => v = .pointer (some ⟨p,0,none⟩)
 | 3,v,_ => v = .int .i64 c
 | 4,_,w => w.heap[z]? = some (.cells (nC y).toArray 67 (0,0))
 | 5,v,_ => v = .int .i64 t
 | _,_,_ => True
theorem fxF_val {z p: Nat} {y: NL} {t c: Int}: ∀ (i: Nat) (u: Value) (w w': World),i ≠ 4 -> fxF z p y t c i u w -> fxF z p y t c i u w'
 | 0,_,_,_,_,h | 1,_,_,_,_,h | 2,_,_,_,_,h | 3,_,_,_,_,h | 5,_,_,_,_,h => h
 | 4,_,_,_,h,_ => absurd rfl h
 | _ + 6,_,_,_,_,_ => trivial
def xS (i: Nat): Nat := if i < 4 then 16 + i else if i = 4 then 20 else 5
theorem xS_inj: ∀ i j: Nat,i < 6 -> j < 6 -> xS i = xS j -> i = j := fun i j hi hj h => by unfold xS at h; (repeat' split at h) <;> omega
def exprR (l: List VarL) (x: XL): Chk := if rightX 20 x = true then chk 20 l x else (zNL,0,15)
def ExP (r: Chk) (w: World) (e: Ending) (W: World): Prop := Below w.heap.size w W /\ ∃ y t,e = .returned (.tuple #[nV y, .int .i64 t, .int .i64 r.2.2]) /\
 ((r.2.2 = 0 /\ t = r.2.1 /\ (∀ m,LikeN m r.1 y) /\ ∀ m,InN m W y /\ OffN (fun b => w.heap.size <= b) m y) \/ ((r.2.2 != 0) = true /\ t = 0 /\ y = zNL))
theorem expr_walk {l: List VarL} {a: Option Addr} {c: Nat} (hf: FewCols l) (x: XL) {w: World} (hi: In 20 w x) (hl: VarsIn w a l) :
 Calls Try.prog 18 #[.slice a l.length c,xV x] w (ExP (exprR l x) w) := by
 have hmf: ∀ (fn: Fn) (first cap: Array Value) (w: World),(Instr.makeFunc fn first cap).run Try.prog w = .ok (.func fn first cap) w := fun _ _ _ _ => rfl
 have HR := Rw.dh (fun W (hb: Below w.heap.size w W) => rx_walk x W (hi.on hb))
 have HC := Rw.dh (fun (hr: rightX 20 x = true) (W0: World) (hb0: Below w.heap.size w W0) pl pe pn pk => exprCatch_walk (a := a) (c := c) (r := chk 20 l x) x (w := W0) (fun W hb => found_walk hf 20 x W (hi.on (below_on hb0 hb)) hr (hl.on (below_on hb0 hb))) (pl := pl) (pe := pe) (pn := pn) (pk := pk))
 have HE: Hid (∀ b,rightX 20 x = b -> exprR l x = if b = true then chk 20 l x else (zNL,0,15)) := fun b e => by unfold exprR; rw [e]
 have HB0 := Rw.dh (below_three w (.cells #[.slice a l.length c] 28) (.cells (xC x).toArray 46) (.cells (nC zNL).toArray 67))
 have h1 := (Below.heap_alloc ((w.alloc (.cells #[.slice a l.length c] 28)).alloc (.cells (xC x).toArray 46)) (.cells (nC zNL).toArray 67) w.heap.size (by simp; omega)).trans ((Below.heap_alloc (w.alloc (.cells #[.slice a l.length c] 28)) (.cells (xC x).toArray 46) w.heap.size (by simp)).trans (Rw.heap_new w _))
 have h2 := (Below.heap_alloc ((w.alloc (.cells #[.slice a l.length c] 28)).alloc (.cells (xC x).toArray 46)) (.cells (nC zNL).toArray 67) (w.heap.size + 1) (by simp)).trans (heap_two w (.cells #[.slice a l.length c] 28) (.cells (xC x).toArray 46))
 have h3 := heap_three w (.cells #[.slice a l.length c] 28) (.cells (xC x).toArray 46) (.cells (nC zNL).toArray 67)
 have H1 := Rw.dh h1
 have H2 := Rw.dh h2
 have H3 := Rw.dh h3
 clear h1 h2 h3 hi hl
 unfold xV at HR ⊢
 go_enter Try.func18,Try.ntmps18
 go_wp2_with fail
 refine (HR.out _ HB0.out).mono ?_
 rintro e w1 ⟨rfl,hb1⟩
 have HB := Rw.dh (below_on HB0.out hb1)
 have K1 := Rw.dh ((hb1.block _ (Array.getElem?_eq_some_iff.1 H1.out).1).trans H1.out)
 have K2 := Rw.dh ((hb1.block _ (Array.getElem?_eq_some_iff.1 H2.out).1).trans H2.out)
 have K3 := Rw.dh ((hb1.block _ (Array.getElem?_eq_some_iff.1 H3.out).1).trans H3.out)
 clear hb1 HR HB0 H1 H2 H3
 generalize hr: rightX 20 x = bb at *
 have HE' := Rw.dh (HE.out bb rfl)
 clear HE hr
 cases bb
 · clear HC
   obtain ⟨⟨z0,z1,z2,z3,z4,z5,z6⟩,⟨f0,f1,f2,f3,f4,f5,f6⟩,zl⟩ := nzbox K3.out (Below.refl _ _)
   go_wp2_with fail
   refine Rw.to_letter (F := fun W => Below w.heap.size w W /\ W.heap[w.heap.size + 1 + 1]? = some (.cells (nC zNL).toArray 67 (0,0))) ⟨nbelow_set7 (by omega) HB.out _ _ _ _ _ _ _,nstore_heap (z := zNL) K3.out⟩ ?_
   rintro W ⟨hB,hz⟩
   obtain ⟨y0,y1,y2,y3,y4,y5,y6⟩ := ncells2 hz
   have HX: Hid (exprR l x = (zNL,0,15)) := by have := HE'.out; rw [Hid,this]; simp
   clear z0 z1 z2 z3 z4 z5 z6 f0 f1 f2 f3 f4 f5 f6 HE' HB K1 K2 K3 zl hz
   refine bodyPost_ret (v := .tuple #[nV zNL, .int .i64 0, .int .i64 15]) (by simp [results,Try.results18,go_sem,y0,y1,y2,y3,y4,y5,y6,nV]) rfl ⟨hB,zNL,0,by rw [HX.out],Or.inr ⟨by rw [HX.out]; rfl,rfl,rfl⟩⟩
 · go_wp2_with fail
   have q1: w.heap.size + 1 + 1 < w1.heap.size := (Array.getElem?_eq_some_iff.1 K3.out).1
   refine (HC.out trivial _ ((HB.out.alloc HB.out.size _).alloc (by simp; have := HB.out.size; omega) _) _ _ _ _ ((Below.heap_alloc _ _ _ (by simp; omega)).trans ((Below.heap_alloc _ _ _ (by omega)).trans K1.out)) ((Below.heap_alloc _ _ _ (by simp; omega)).trans ((Below.heap_alloc _ _ _ (by omega)).trans K2.out)) ((Below.heap_alloc _ _ _ (by simp)).trans (Rw.heap_new w1 _)) (heap_two w1 _ _)).mono ?_
   rintro e w2 ⟨rfl,hP,ho⟩
   clear HC
   have HX: Hid (exprR l x = chk 20 l x) := by have := HE'.out; rw [Hid,this]; simp
   clear HE'
   generalize chk 20 l x = r at *
   have hsz := ho.size
   simp only [World.size_alloc] at hsz
   have K := Rw.dh ((ho.block (w.heap.size + 1 + 1) (by simp; omega) (by omega)).trans ((Below.heap_alloc _ _ _ (by simp; omega)).trans ((Below.heap_alloc _ _ _ (by omega)).trans K3.out)))
   have HB2: Hid (Below w.heap.size w w2) := ((HB.out.alloc HB.out.size (.cells (nC zNL).toArray 67)).alloc (by simp; have := HB.out.size; omega) (.cells #[.int .i64 0] 3)).trans (ho.below (by simp; omega) fun k hk e => by omega)
   obtain ⟨y,t,k1,k2,hres⟩: ∃ y t,w2.heap[w1.heap.size]? = some (.cells (nC y).toArray 67 (0,0)) /\ w2.heap[w1.heap.size + 1]? = some (.cells #[.int .i64 t] 3 (0,0)) /\ ((r.2.2 = 0 /\ t = r.2.1 /\ (∀ m,LikeN m r.1 y) /\ ∀ m,InN m w2 y /\ OffN (fun b => w1.heap.size + 2 <= b) m y) \/ ((r.2.2 != 0) = true /\ t = 0 /\ y = zNL)) := by
    rcases hP with ⟨h,y,v1,v2,v3,v4⟩ | ⟨h,v1,v2⟩
    · exact ⟨y,_,v1,v2,Or.inl ⟨h,rfl,v3,fun m => ⟨(v4 m).1,(v4 m).2.mono fun b hb => by simpa using hb⟩⟩⟩
    · exact ⟨_,_,v1,v2,Or.inr ⟨h,rfl,rfl⟩⟩
   have hal := Rw.below_alloc w2 (.cells #[.int .i64 r.2.2, .int .i64 0] 123)
   have g: ∀ {b: Nat} {o: Obj},w2.heap[b]? = some o -> (w2.alloc (.cells #[.int .i64 r.2.2, .int .i64 0] 123)).heap[b]? = some o := fun {b o} e => (hal.block b (Array.getElem?_eq_some_iff.1 e).1).trans e
   have HRes := Rw.dh hres
   have HL := Rw.dh (And.intro (g k1) (And.intro (g k2) (And.intro (g K.out) (Rw.heap_new w2 (.cells #[.int .i64 r.2.2, .int .i64 0] 123)))))
   have HB3 := Rw.dh (below_on HB2.out hal)
   have HAl := Rw.dh hal
   clear hP ho K1 K2 K3 k1 k2 hres g hal K
   unfold faultV
   go_wp2_with fail
   obtain ⟨k1,k2,k3,k4⟩ := HL.out
   refine Rw.to_letter (F := fun U => (U.heap[w1.heap.size]? = some (.cells (nC y).toArray 67 (0,0)) /\ U.heap[w1.heap.size + 1]? = some (.cells #[.int .i64 t] 3 (0,0)) /\ U.heap[w.heap.size + 1 + 1]? = some (.cells (nC zNL).toArray 67 (0,0)) /\ U.heap[w2.heap.size]? = some (.cells #[.int .i64 r.2.2, .int .i64 0] 123 (0,0))) /\ Below w.heap.size w U /\ Below w2.heap.size w2 U) ⟨HL.out,HB3.out,HAl.out⟩ ?_
   clear k1 k2 k3 k4 HL HB3 HAl HB2 HB
   rintro U ⟨⟨k1,k2,k3,k4⟩,hBU,h2U⟩
   have l1 := (Array.getElem?_eq_some_iff.1 k1).1
   have l2 := (Array.getElem?_eq_some_iff.1 k2).1
   have l4 := (Array.getElem?_eq_some_iff.1 k4).1
   refine Rw.wp_region_factsS (U := U) 6 xS [5,16,17,18,19] (fxF (w.heap.size + 1 + 1) w2.heap.size y t r.2.2) (fun W => NBox (w.heap.size + 1 + 1) W /\ ∀ b,b < U.heap.size -> b ≠ w.heap.size + 1 + 1 -> W.heap[b]? = U.heap[b]?) (w.heap.size + 1 + 1) ⟨⟨zNL,k3⟩,fun _ _ _ => rfl⟩ (by kernel_rfl) (by kernel_rfl) (by kernel_rfl) (by simp) (Rw.lowO_of (by kernel_rfl)) (by kernel_rfl) ?_ ?_
   · intro i o' a2 w4 hi hi6 hfr hbw hsz4 hj' hdep
     have e4: a2.eval (.tmp 4) = .pointer (some ⟨w.heap.size + 1 + 1,0,none⟩) := hfr.eval (by decide)
     have e7: a2.eval (.tmp 7) = .pointer (some ⟨w1.heap.size,0,none⟩) := hfr.eval (by decide)
     have e8: a2.eval (.tmp 8) = .pointer (some ⟨w1.heap.size + 1,0,none⟩) := hfr.eval (by decide)
     have e9: a2.eval (.tmp 9) = .pointer (some ⟨w2.heap.size,0,none⟩) := hfr.eval (by decide)
     have hts: a2.tmps.size = 20 := hfr.size
     have p1 := (hj'.2 _ l1 (by omega)).trans k1
     have p2 := (hj'.2 _ l2 (by omega)).trans k2
     have p4 := (hj'.2 _ l4 (by omega)).trans k4
     have y2: w4.cell? ⟨w1.heap.size + 1,0,none⟩ = some (.int .i64 t) := by rw [cell_of_row _ _ _ _ _ _ p2]; rfl
     have y4: w4.cell? ⟨w2.heap.size,0,none⟩ = some (.int .i64 r.2.2) := by rw [cell_of_row _ _ _ _ _ _ p4]; rfl
     have dep: ∀ x,(o'.after.any fun e => Region.binds .any e && e.on == x) = true -> fxF (w.heap.size + 1 + 1) w2.heap.size y t r.2.2 x (a2.eval (.tmp (xS x))) w4 := fun x h => Rw.depO (F := fun x => fxF (w.heap.size + 1 + 1) w2.heap.size y t r.2.2 x (a2.eval (.tmp (xS x))) w4) x h hdep
     have same: ∀ (i: Nat) (hi: i < 6) (hin: xS i ∈ [5,16,17,18,19]) (h20: xS i < 20) (v: Value),fxF (w.heap.size + 1 + 1) w2.heap.size y t r.2.2 i v w4 -> Rw.StpF 6 xS [5,16,17,18,19] (fxF (w.heap.size + 1 + 1) w2.heap.size y t r.2.2) (fun W => NBox (w.heap.size + 1 + 1) W /\ ∀ b,b < U.heap.size -> b ≠ w.heap.size + 1 + 1 -> W.heap[b]? = U.heap[b]?) (w.heap.size + 1 + 1) i a2 w4 (a2.put (some (xS i)) v) w4 := fun i hi hin h20 v h =>
      Rw.StpF.put xS_inj hi hin (by rw [hts]; exact h20) h (Below.refl _ _) (Nat.le_refl _) hj' fun _ _ _ h => h
     have hcs: i = 0 \/ i = 1 \/ i = 2 \/ i = 3 \/ i = 4 \/ i = 5 := by omega
     rcases hcs with rfl | rfl | rfl | rfl | rfl | rfl
     · obtain rfl := Option.some.inj hi
       exact ⟨rfl,fun K hK => aop_load rfl e7 p1 (hK _ _ (same 0 (by decide) (by decide) (by decide) _ rfl))⟩
     · obtain rfl := Option.some.inj hi
       exact ⟨rfl,fun K hK => cop_int rfl e8 y2 (hK _ _ (same 1 (by decide) (by decide) (by decide) _ rfl))⟩
     · obtain rfl := Option.some.inj hi
       exact ⟨rfl,fun K hK => pop_fault rfl e9 (hK _ _ (same 2 (by decide) (by decide) (by decide) _ rfl))⟩
     · obtain rfl := Option.some.inj hi
       have d: a2.eval (.tmp 18) = .pointer (some ⟨w2.heap.size,0,none⟩) := dep 2 (by kernel_rfl)
       exact ⟨rfl,fun K hK => pop_errno rfl d y4 (hK _ _ (same 3 (by decide) (by decide) (by decide) _ rfl))⟩
     · obtain rfl := Option.some.inj hi
       have d: a2.eval (.tmp 16) = nV y := dep 0 (by kernel_rfl)
       refine ⟨rfl,fun K hK => nop_store rfl rfl e4 d hj'.1 fun w5 g1 g2 g3 g4 => hK _ _ ?_⟩
       exact Rw.StpF.none (fun _ => g1) g4 (by omega) ⟨⟨y,g1⟩,fun b hb hn => (g2 b hn).trans (hj'.2 b hb hn)⟩ fun j' u hj1 h => fxF_val j' u w4 w5 hj1 h
     · obtain rfl := Option.some.inj hi
       have d: a2.eval (.tmp 17) = .int .i64 t := dep 1 (by kernel_rfl)
       exact ⟨rfl,fun K hK => pop_assign rfl d (hK _ _ (same 5 (by decide) (by decide) (by decide) _ rfl))⟩
   · intro a2 w4 hfr hbw hsz4 hj' hk
     have f3: a2.eval (.tmp 19) = .int .i64 r.2.2 := hk 3 (by decide)
     have f4: w4.heap[w.heap.size + 1 + 1]? = some (.cells (nC y).toArray 67 (0,0)) := hk 4 (by decide)
     have f5: a2.eval (.tmp 5) = .int .i64 t := hk 5 (by decide)
     have HRet: Hid (ExP (exprR l x) w (.returned (.tuple #[nV y, .int .i64 t, .int .i64 r.2.2])) w4) := by
      rw [Hid,HX.out]
      refine ⟨hBU.trans (hbw.mono (by omega)),y,t,rfl, ?_⟩
      rcases HRes.out with ⟨h1,h2,h3,h4⟩ | h
      · exact Or.inl ⟨h1,h2,h3,fun m => ⟨((h4 m).1.on h2U).turn (h4 m).2 hsz4 fun b hb hb2 => hj'.2 b hb (by omega),(h4 m).2.mono fun b hb => by omega⟩⟩
      · exact Or.inr h
     have ha := hfr.all (by intro t ht; simp at ht; show t < 20; omega)
     rw [ha]
     simp only [Rw.putAll]
     rw [f3,f5]
     generalize a2.eval (.tmp 16) = u16,a2.eval (.tmp 17) = u17,a2.eval (.tmp 18) = u18
     simp only [Act.put,List.setIfInBounds_toArray,List.set_cons_succ,List.set_cons_zero]
     obtain ⟨z0,z1,z2,z3,z4,z5,z6⟩ := ncells2 f4
     clear f3 f4 f5 ha hk hfr hbw hj' hBU h2U HRes
     go_wp2
     exact bodyPost_ret (v := .tuple #[nV y, .int .i64 t, .int .i64 r.2.2]) (by simp [results,Try.results18,go_sem,z0,z1,z2,z3,z4,z5,z6,nV]) rfl HRet.out
end Go.Proofs.Ytdaikppppkbfoaa
