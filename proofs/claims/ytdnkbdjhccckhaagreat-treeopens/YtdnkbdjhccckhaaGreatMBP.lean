import Derived.Test.YtdnkbdjhccckhaaGreatMBI
set_option maxRecDepth 100000
set_option maxHeartbeats 4000000
namespace Go.Proofs.YtdnkbdjhccckhaaGreat
open Go.RowKit
open L4 (Ar ArP Abs arV nv)
def leafN (n: L5.No): Nat := if n.leaf then n.recs.length else 0
structure Teller {σ β: Type} (A: L4.St σ) (bt: σ -> β) (tl: β -> Nat -> L5.No -> β) (en: β -> Bool) (wt: β -> Nat) (M: Nat) (g g': FuncId) (f1 c1 f2 c2: Array Value): Prop where
 gt: ∀ args w,(callFunc g args).run Tryz.prog w = .ok (.enter g args) w
 ge: ∀ args w,(callFunc g' args).run Tryz.prog w = .ok (.enter g' args) w
 tell: ∀ (b: σ) (W: World) (at_: Nat) (n: L5.No) (a: Option Addr) (c: Nat) (a': Option Addr) (c': Nat),A.P b W -> L5.NR W n a c a' c' -> (∀ q o,a = some ⟨q,o,none⟩ -> ¬ A.own b q) -> n.small -> n.shaped = true -> wt (bt b) + leafN n + 1 <= M -> Calls Tryz.prog g (f1 ++ (#[.int .i64 (at_: Int),L5.nodeV n a c a' c'] ++ c1)) W fun e W' => e = .returned (.tuple #[]) /\ ∃ b',A.P b' W' /\ bt b' = tl (bt b) at_ n /\ L4.Moves A b b' W W'
 enough: ∀ (b: σ) (W: World),A.P b W -> Calls Tryz.prog g' (f2 ++ c2) W fun e W' => e = .returned (.bool (en (bt b))) /\ Below W.heap.size W W'
 wts: ∀ (b: β) (at_: Nat) (n: L5.No),wt (tl b at_ n) <= wt b + leafN n + 1
theorem only_join {S S': Nat -> Prop} {a b c: World} (h: Only S a b) (k: Only S' b c) (hs: ∀ q,S' q -> S q \/ a.heap.size <= q): Only S a c :=
 ⟨k.os.trans h.os,k.tape.trans h.tape,k.output.trans h.output,Nat.le_trans h.size k.size,fun q hq hn => (k.block q (Nat.lt_of_lt_of_le hq h.size) fun x => by
  rcases hs q x with y | y
  · exact hn y
  · omega).trans (h.block q hq hn)⟩
theorem owns_from {W: World} {B: Nat} {e: TypeId} {m n c: Nat} {a: Option Addr} {xs: List Value} (h: W.ownsRow B e m (.slice a n c) n xs) {q o: Nat} (ha: a = some ⟨q,o,none⟩): B <= q := by
 rcases h.2 with ⟨e,_⟩ | ⟨g,cap,cur,e,hb,_⟩
 · rw [ha] at e; cases e
 · rw [ha] at e; cases e; exact hb
section
variable {σ β: Type} {A: L4.St σ} {bt: σ -> β} {tl: β -> Nat -> L5.No -> β} {en: β -> Bool} {wt: β -> Nat} {M: Nat} {g g': FuncId} {f1 k1 f2 k2: Array Value} {s: Ar} {t r h l: Nat} {fr: ByteArray} {n0 n1 n2 n3 n4 n5: Nat}
def visV (n0 n1 n2 n3 n4 n5: Nat): Value := .func (.func 92) #[] #[.pointer (some ⟨n4,0,none⟩), .pointer (some ⟨n0,0,none⟩), .pointer (some ⟨n2,0,none⟩), .pointer (some ⟨n1,0,none⟩), .pointer (some ⟨n5,0,none⟩), .pointer (some ⟨n3,0,none⟩)]
def Vis (A: L4.St σ) (bt: σ -> β) (tl: β -> Nat -> L5.No -> β) (en: β -> Bool) (wt: β -> Nat) (g g': FuncId) (f1 k1 f2 k2: Array Value) (s: Ar) (t r h l: Nat) (fr: ByteArray) (n0 n1 n2 n3 n4 n5: Nat) (hh at_: Nat) (es ps: Nat) (b: σ) (left: Nat) (W W': World): Prop :=
 ∃ b' left',Vs s.abs fr tl en hh at_ (bt b) (bt b') /\ left <= left' + ps /\ left' <= left /\ wt (bt b') <= wt (bt b) + es + ps /\ Vw A s t r h l fr (.func (.func g) f1 k1) (.func (.func g') f2 k2) (visV n0 n1 n2 n3 n4 n5) n0 n1 n2 n3 n4 n5 b' left' W' /\ Only (fun q => A.own b q \/ q = n4) W W' /\ (∀ q,A.own b' q -> A.own b q \/ W.heap.size <= q)
theorem visit_any (T: Teller A bt tl en wt M g g' f1 k1 f2 k2) (ho: s.abs.Ok): ∀ (hh at_: Nat) (lo hi: ByteArray) (es: List ByteArray) (ps: List Nat) (b: σ) (left: Nat) (W: World),Sub s.abs hh at_ lo hi es ps -> hh <= 4096 -> Vw A s t r h l fr (.func (.func g) f1 k1) (.func (.func g') f2 k2) (visV n0 n1 n2 n3 n4 n5) n0 n1 n2 n3 n4 n5 b left W -> ps.length <= left -> left <= 4096 -> wt (bt b) + es.length + ps.length <= M ->
 Calls Tryz.prog 92 #[.int .i64 (at_: Int), .int .i64 (hh: Int), .pointer (some ⟨n4,0,none⟩), .pointer (some ⟨n0,0,none⟩), .pointer (some ⟨n2,0,none⟩), .pointer (some ⟨n1,0,none⟩), .pointer (some ⟨n5,0,none⟩), .pointer (some ⟨n3,0,none⟩)] W fun e W' => e = .returned (.int .i64 0) /\ Vis A bt tl en wt g g' f1 k1 f2 k2 s t r h l fr n0 n1 n2 n3 n4 n5 hh at_ es.length ps.length b left W W' := by
 intro hh
 induction hh with
 | zero => intro _ _ _ _ _ _ _ _ k; exact k.elim
 | succ hh ih =>
  intro at_ lo hi es ps b left W hS hh4 hV hl1 hl2 hw
  obtain ⟨n,ps',hn,rfl,hb,hc⟩ := hS
  have hpos: 1 <= left := by simp at hl1; omega
  obtain ⟨left',rfl⟩: ∃ left',left = left' + 1 := ⟨left - 1,by omega⟩
  obtain ⟨hV1,hO1⟩ := hV.set left'
  have HV0 := thid hV
  have HV1 := thid hV1
  have HO1 := thid hO1
  have HIH := thid ih
  have HT := thid T
  have HN := thid hn
  have d4: W.cell? ⟨n4,0,none⟩ = some (.int .i64 ((left' + 1: Nat): Int)) := by rw [cell_of_row _ _ _ _ _ _ hV.c4]; rfl
  have f4: ∀ i,W.frozen? ⟨n4,i,none⟩ = false := fun i => frozen_of_row _ _ _ _ _ hV.c4
  have l4 := (Array.getElem?_eq_some_iff.1 hV.c4).1
  have d0: (W.setCell ⟨n4,0,none⟩ (.int .i64 (left': Int))).cell? ⟨n0,0,none⟩ = some (.pointer (some ⟨t,0,none⟩)) := by rw [cell_of_row _ _ _ _ _ _ hV1.c0]; rfl
  have hlz: (((left' + 1: Nat): Int) == 0) = false := by simp; omega
  have hl3: IntKind.i64.wrap (((left' + 1: Nat): Int) - 1) = (left': Int) := by rw [IntKind.wrap_i64]; omega
  have hleaf: ((((hh + 1: Nat): Int)) == 1) = n.leaf := by
   rcases hc with ⟨e,e2,_⟩ | ⟨e,e2,_⟩
   · rw [e2]; simp; omega
   · rw [e2]; simp; omega
  have HRD := thid (read_ok hV1.ar ho hV1.tr hn.page hn.shaped hn.size)
  clear hV hV1 hO1 ih T
  go_enter Tryz.func92,Tryz.ntmps92
  go_wp2_with fail
  rw [show (((hh: Int) + 1) == 1) = n.leaf by rw [<- hleaf]; simp]
  refine HRD.out.mono ?_
  rintro e w2 ⟨v,rfl,a,c,a',c',rfl,o1,o2,B2⟩
  have HR2 := thid o1
  have HK2 := thid o2
  have HB2 := thid B2
  have HV2 := thid (HV1.out.on B2)
  clear HRD o1 o2 B2 d4 f4 l4 d0 hlz hl3 hleaf
  unfold L5.nodeV
  have hb3 := tbelow w2 (.cells #[.bool n.leaf, .slice a n.recs.length c, .slice a' n.kids.length c'] 69)
  have a3 := heap_alloc_new w2 (.cells #[.bool n.leaf, .slice a n.recs.length c, .slice a' n.kids.length c'] 69)
  have HV3 := thid (HV2.out.on hb3)
  have d2: (w2.alloc (.cells #[.bool n.leaf, .slice a n.recs.length c, .slice a' n.kids.length c'] 69)).cell? ⟨n2,0,none⟩ = some (.func (.func g) f1 k1) := by rw [cell_of_row _ _ _ _ _ _ HV3.out.c2]; rfl
  have HNR := thid (L5.NR.mk (L5.owns_rd_slice (L5.owns_below HR2.out hb3)) (L5.owns_rd_slice (L5.owns_below HK2.out hb3)): L5.NR (w2.alloc (.cells #[.bool n.leaf, .slice a n.recs.length c, .slice a' n.kids.length c'] 69)) n a c a' c')
  have own1: ∀ q,A.own b q -> q < W.heap.size := fun q hq => A.lt b W q HV0.out.p hq
  have zz: (W.setCell ⟨n4,0,none⟩ (.int .i64 (left': Int))).heap.size = W.heap.size := by simp [World.setCell]
  have HR2' := thid HR2.out
  rw [zz] at HR2 HK2
  have hleaf2: leafN n <= es.length := by
   unfold leafN
   rcases hc with ⟨_,e2,e3,_⟩ | ⟨_,e2,_⟩
   · rw [e2,e3]; simp
   · rw [e2]; simp
  have HTL := thid (HT.out.tell b _ at_ n a c a' c' HV3.out.p HNR.out (fun q o hq hown => by
   have hlt := own1 q hown
   have := owns_from HR2.out hq
   omega) hn.small hn.shaped (by simp at hw; omega))
  unfold L5.nodeV at HTL
  have hgt := HT.out.gt
  go_wp2_with fail
  have HB3 := thid (tbelow_on HB2.out hb3)
  have hW3 := hb3
  clear HNR d2 hb3
  generalize w2.alloc (.cells #[.bool n.leaf, .slice a n.recs.length c, .slice a' n.kids.length c'] 69) = W3 at *
  refine HTL.out.mono ?_
  rintro e w4 ⟨rfl,b4,hp4,hbt4,hm4⟩
  have z3 := HB3.out.size
  rw [zz] at z3
  have l23 := (Array.getElem?_eq_some_iff.1 a3).1
  have h2w: W.heap.size <= w2.heap.size := by have := HB2.out.size; omega
  have a4 := (hm4.only.block w2.heap.size l23 (fun x => by have := own1 _ x; omega)).trans a3
  have HV4 := thid (HV3.out.moves hp4 hm4)
  have hw24: w2.heap.size <= w4.heap.size := by have := hm4.only.size; omega
  have HO4: Hid (Only (fun q => A.own b q \/ q = n4) W w4) := HO1.out.trans ((Only.of_below HB3.out).trans (hm4.only.weaken fun _ _ y => Or.inl y))
  have HW4: Hid (∀ q,A.own b4 q -> A.own b q \/ W.heap.size <= q) := fun q hq => (hm4.own q hq).imp id fun y => by omega
  have HX4: Hid (∀ q,A.own b4 q -> q < W.heap.size \/ W3.heap.size <= q) := fun q hq => (hm4.own q hq).imp (own1 q) id
  have row4: ∀ {e: TypeId} {v: Value} {k: Nat} {xs: List Value},w2.ownsRow W.heap.size e 1 v k xs -> w4.ownsRow W.heap.size e 1 v k xs := fun hr => L5.owns_of_block hr fun q hq => by
   have hq2 := hr.lt q hq
   rw [hm4.only.block q (by omega) (fun x => by have := own1 _ x; omega),hW3.block q hq2.2]
  have HKA := thid HK2.out
  have HR4 := thid (row4 HR2.out)
  have HK4 := thid (row4 HK2.out)
  have hwt := HT.out.wts (bt b) at_ n
  have l24 := (Array.getElem?_eq_some_iff.1 a4).1
  have e0: w4.cell? ⟨w2.heap.size,0,none⟩ = some (.bool n.leaf) := (L5.node_cells a4).1
  have e1: w4.cell? ⟨w2.heap.size,1,none⟩ = some (.slice a n.recs.length c) := (L5.node_cells a4).2.1
  have e2: w4.cell? ⟨w2.heap.size,2,none⟩ = some (.slice a' n.kids.length c') := (L5.node_cells a4).2.2
  clear HTL hp4 hm4 a3 HV3 HB3 hW3 row4 HR2 HK2 HR2' HV2 HV1 HO1 HB2 hgt
  rcases hc with ⟨h0,hlf,hes,hps⟩ | ⟨h0,hlf,hsu⟩
  · rw [hlf] at e0
    go_wp2
    go_ret
    refine ⟨rfl,b4,left',⟨n,hn,Or.inl ⟨h0,hlf,hbt4⟩⟩,by simp,by omega, ?_,HV4.out,HO4.out,HW4.out⟩
    rw [hbt4]
    have: (at_ :: ps').length = ps'.length + 1 := rfl
    omega
  · rw [hlf] at e0
    go_wp2_with fail
    have HG2 := thid (shaped_kids hn.shaped hlf)
    have g2 := HG2.out.2
    have hk0 := List.countP_le_length (p := L5.leB fr) (l := n.recs)
    have hsk := hn.small
    obtain ⟨k0,hk0e⟩: ∃ k0,Hid (n.recs.countP (L5.leB fr) = k0) := ⟨_,rfl⟩
    rw [hk0e.out] at hk0
    obtain ⟨kb,kc,hkv,hkb⟩: ∃ kb kc,(Value.slice a' n.kids.length c' = .slice (some ⟨kb,0,none⟩) n.kids.length kc) /\ kb < w2.heap.size := by
     rcases HKA.out.2 with ⟨_,e⟩ | ⟨gb,cap,cur,e,_,hgb,_⟩
     · omega
     · exact ⟨gb,cap,e,(Array.getElem?_eq_some_iff.1 hgb).1⟩
    cases hkv
    have hkb2 := hkb
    have hcap: n.kids.length <= c' := by
     obtain ⟨_,_,e,_,hc⟩ := L4.owns_slice HK4.out
     injection e with _ e1 e2
     omega
    have HNR4 := thid (L5.NR.mk (L5.owns_rd_slice HR4.out) (L5.owns_rd_slice HK4.out): L5.NR w4 n a c (some ⟨kb,0,none⟩) c')
    have HA4 := thid a4
    have y0: ∀ q: L4.BelowW w4,q.w.cell? ⟨w2.heap.size,0,none⟩ = some (.bool false) := fun q => (q.below.cell (p := ⟨w2.heap.size,0,none⟩) l24).trans e0
    have y1: ∀ q: L4.BelowW w4,q.w.cell? ⟨w2.heap.size,1,none⟩ = some (.slice a n.recs.length c) := fun q => (q.below.cell (p := ⟨w2.heap.size,1,none⟩) l24).trans e1
    have y2: ∀ q: L4.BelowW w4,q.w.cell? ⟨w2.heap.size,2,none⟩ = some (.slice (some ⟨kb,0,none⟩) n.kids.length c') := fun q => (q.below.cell (p := ⟨w2.heap.size,2,none⟩) l24).trans e2
    have x1: ∀ q: L4.BelowW w4,q.w.cell? ⟨n1,0,none⟩ = some (.string fr) := fun q => by rw [cell_of_row _ _ _ _ _ _ (HV4.out.on q.below).c1]; rfl
    have HFN: ∀ q: L4.BelowW w4,Calls Tryz.prog 85 #[.agg #[.bool false, .slice a n.recs.length c, .slice (some ⟨kb,0,none⟩) n.kids.length c'], .string fr] q.w fun e w' => e = .returned (.int .i64 (k0: Int)) /\ Below q.w.heap.size q.w w' := fun q => by
     have := L5.kid_walk (n := n) (HNR4.out.below q.below) hsk.recs fr
     unfold L5.nodeV at this
     rw [hlf,hk0e.out] at this
     exact this
    have hkl: k0 < n.kids.length := by omega
    have hkl2: ¬ c' = k0 := by omega
    have HKL := thid hkl
    have hkp: (k0: Int) <= (n.kids.length: Int) := by omega
    have hkq: ((n.kids.length: Int) <= (c': Int)) := by omega
    clear e0 e1 e2 g2 hkl
    refine L4.wp_region_below (by kernel_rfl) (by kernel_rfl) (fun _ => ?_)
    repeat (go_big_quiet_step (first | (go_at_call 85; exact L4.quiet_of_below (HFN _))))
    refine wpQuiet_nil ?_
    rintro _ ⟨q,rfl⟩
    have HV5 := thid (HV4.out.on q.below)
    have HB5 := thid q.below
    have HK5 := thid (L5.owns_below HK4.out q.below)
    generalize q.w = w5 at *
    clear y0 y1 y2 x1 HFN q HNR4 HR4 HV4 HA4 a4 l24
    obtain ⟨kl,hkl⟩: ∃ kl,Hid (n.kids.length - k0 = kl) := ⟨_,rfl⟩
    rw [hkl.out]
    have hkl1: k0 + kl = n.kids.length := by have := HKL.out; have := hkl.out; omega
    have HKL1 := thid hkl1
    have hkl9: kl <= 1000 := by have := hsk.kids; omega
    obtain ⟨es0,ps0,hsa0,hle1,hle2⟩ := hsu.all.drop k0
    have HSA0 := thid hsa0
    have n4lt := (Array.getElem?_eq_some_iff.1 HV0.out.c4).1
    have kb1: W.heap.size <= kb := owns_from HK5.out rfl
    have kb2: kb < w2.heap.size := hkb2
    have HF5: Hid (∀ (b': β),Vl (Vs s.abs fr tl en hh) en (n.kids.drop k0) (bt b4) b' -> Vs s.abs fr tl en (hh + 1) at_ (bt b) b') := fun b' hv => ⟨n,hn,Or.inr ⟨h0,hlf,by rw [hk0e.out, <- hbt4]; exact hv⟩⟩
    have hb4w: wt (bt b4) + es0.length + ps0.length <= wt (bt b) + es.length + (at_ :: ps').length := by
     rw [hbt4]
     have: (at_ :: ps').length = ps'.length + 1 := rfl
     have e5: leafN n = 0 := by unfold leafN; rw [hlf]; rfl
     omega
    have HJ5: Hid (∀ wr,Only (fun q => A.own b4 q \/ q = n4) w5 wr -> Only (fun q => A.own b q \/ q = n4) W wr) := fun wr ho => only_join (HO4.out.trans (Only.of_below HB5.out)) ho fun q hq => by
     rcases hq with hq | hq
     · exact (HW4.out q hq).imp Or.inl id
     · exact Or.inl (Or.inr hq)
    have hkq2: (k0: Int) + (kl: Int) <= (c': Int) := by omega
    clear hsu hkl1 hsa0 hb hlf hkp hkq hkl2 HG2 hwt hbt4
    go_wp2_with fail
    go_loopw [44] (fun i wr => ∃ j: Nat,j <= kl /\ i = .int .i64 (j: Int) /\ ∃ (b5: σ) (left5: Nat) (es5: List ByteArray) (ps5: List Nat),Hid (SubA s.abs hh (n.kids.drop (k0 + j)) es5 ps5 /\ (∀ b',Vl (Vs s.abs fr tl en hh) en (n.kids.drop (k0 + j)) (bt b5) b' -> Vl (Vs s.abs fr tl en hh) en (n.kids.drop k0) (bt b4) b') /\ ps5.length <= left5 /\ left5 <= left' /\ left' + ps5.length <= left5 + ps0.length /\ wt (bt b5) + es5.length + ps5.length <= wt (bt b4) + es0.length + ps0.length /\ Vw A s t r h l fr (.func (.func g) f1 k1) (.func (.func g') f2 k2) (visV n0 n1 n2 n3 n4 n5) n0 n1 n2 n3 n4 n5 b5 left5 wr /\ Only (fun q => A.own b4 q \/ q = n4) w5 wr /\ (∀ q,A.own b5 q -> A.own b4 q \/ w5.heap.size <= q))) (fun i _ => kl - (intOf i).toNat)
    case atStart => exact ⟨0,Nat.zero_le _,rfl,b4,left',es0,ps0,HSA0.out,fun _ hv => hv,by simp at hl1; omega,Nat.le_refl _,by omega,by omega,HV5.out,Only.refl _ _,fun _ hq => Or.inl hq⟩
    case round =>
     obtain ⟨j,hj,rfl,b5,left5,es5,ps5,HI⟩ := hrel
     by_cases hlt: j < kl
     · have hlt': (j: Int) < (kl: Int) := by omega
       obtain ⟨i1,i2,i3,i4,i5,i6,i7,i8,i9⟩ := HI.out
       have hidx: k0 + j < n.kids.length := by have := HKL1.out; omega
       have hdrop: n.kids.drop (k0 + j) = n.kids[k0 + j] :: n.kids.drop (k0 + j + 1) := List.drop_eq_getElem_cons hidx
       have hkc: w5.cell? ⟨kb,0 + (k0 + j),none⟩ = some (.int .i64 n.kids[k0 + j]) := by
        obtain ⟨q',o',e,_,hcell⟩ := (L5.owns_rd_slice HK5.out).2.2 (k0 + j) (.int .i64 n.kids[k0 + j]) (by simp [L5.ivs,L5.iv,hidx])
        cases e
        exact hcell
       rw [hdrop] at i1 i2
       generalize n.kids[k0 + j] = ci at *
       cases i1 with
       | @cons cc _ lo2 hi2 es1 es2 ps1 ps2 ksub krest =>
       rw [List.length_append] at i3 i5 i6
       rw [List.length_append] at i6
       have hkr: wr.cell? ⟨kb,k0 + j,none⟩ = some (.int .i64 (cc: Int)) := by
        rw [Nat.zero_add] at hkc
        rw [<- hkc]
        refine i8.cell (p := ⟨kb,k0 + j,none⟩) (by have := HB5.out.size; have := HO4.out.size; show kb < _; omega) (fun x => ?_)
        rcases x with x | x
        · rcases HX4.out kb x with x | x <;> omega
        · have x': kb = n4 := x
          omega
       have lkb: kb < wr.heap.size := by have := i8.size; have := HB5.out.size; omega
       have d5: wr.cell? ⟨n5,0,none⟩ = some (visV n0 n1 n2 n3 n4 n5) := by rw [cell_of_row _ _ _ _ _ _ i7.c5]; rfl
       unfold visV at d5
       have HVI := thid (HIH.out cc lo2 hi2 es1 ps1 b5 left5 wr ksub (by omega) i7 (by omega) (by omega) (by have: (at_ :: ps').length = ps'.length + 1 := rfl; omega))
       have HI2 := thid i2
       have HI8 := thid i8
       have HI9 := thid i9
       have HKR := thid krest
       have hhw: IntKind.i64.wrap ((hh: Int) + 1 - 1) = (hh: Int) := by rw [IntKind.wrap_i64]; omega
       have hidx2: ((k0: Int) + (j: Int)) < (c': Int) := by omega
       clear i2 i8 i9 i7 krest hkc hdrop HI ksub
       go_wp2_with fail
       refine HVI.out.mono ?_
       rintro e w6 ⟨rfl,b6,left6,v1,v2,v3,v4,v5,v6,v7⟩
       have d3: w6.cell? ⟨n3,0,none⟩ = some (.func (.func g') f2 k2) := by rw [cell_of_row _ _ _ _ _ _ v5.c3]; rfl
       have HEN := thid (HT.out.enough b6 w6 v5.p)
       have hge := HT.out.ge
       have HV6 := thid v5
       have HO6 := thid (only_join HI8.out v6 fun q hq => by
        rcases hq with hq | hq
        · exact (HI9.out q hq).imp Or.inl id
        · exact Or.inl (Or.inr hq))
       have HW6: Hid (∀ q,A.own b6 q -> A.own b4 q \/ w5.heap.size <= q) := fun q hq => by
        rcases v7 q hq with hq | hq
        · exact HI9.out q hq
        · right; have := HI8.out.size; omega
       have HV1' := thid v1
       clear v1 v5 v6 v7 HVI hkr lkb d5
       go_wp2_with fail
       refine HEN.out.mono ?_
       rintro e w7 ⟨rfl,B7⟩
       have HB7 := thid B7
       clear HEN hge d3 B7
       cases hen: en (bt b6) with
       | true =>
        have HF: Hid (Vis A bt tl en wt g g' f1 k1 f2 k2 s t r h l fr n0 n1 n2 n3 n4 n5 (hh + 1) at_ es.length (at_ :: ps').length b (left' + 1) W w7) := by
         refine ⟨b6,left6,HF5.out _ (HI2.out _ (.stop HV1'.out hen)),by simp; omega,by omega,by omega,HV6.out.on HB7.out,HJ5.out w7 (HO6.out.trans (Only.of_below HB7.out)),fun q hq => ?_⟩
         rcases HW6.out q hq with hq | hq
         · exact HW4.out q hq
         · right; have := HB5.out.size; have := HO4.out.size; omega
        clear HI2 HI8 HI9 HKR HV6 HO6 HW6 HV1' HB7
        go_wp2
        go_ret
        exact ⟨rfl,HF.out⟩
       | false =>
        have HD: Hid (SubA s.abs hh (n.kids.drop (k0 + (j + 1))) es2 ps2 /\ (∀ b',Vl (Vs s.abs fr tl en hh) en (n.kids.drop (k0 + (j + 1))) (bt b6) b' -> Vl (Vs s.abs fr tl en hh) en (n.kids.drop k0) (bt b4) b') /\ ps2.length <= left6 /\ left6 <= left' /\ left' + ps2.length <= left6 + ps0.length /\ wt (bt b6) + es2.length + ps2.length <= wt (bt b4) + es0.length + ps0.length /\ Vw A s t r h l fr (.func (.func g) f1 k1) (.func (.func g') f2 k2) (visV n0 n1 n2 n3 n4 n5) n0 n1 n2 n3 n4 n5 b6 left6 w7 /\ Only (fun q => A.own b4 q \/ q = n4) w5 w7 /\ (∀ q,A.own b6 q -> A.own b4 q \/ w5.heap.size <= q)) :=
         ⟨HKR.out,fun b' hv => HI2.out _ (.more HV1'.out hen hv),by omega,by omega,by omega,by omega,HV6.out.on HB7.out,HO6.out.trans (Only.of_below HB7.out),HW6.out⟩
        clear HI2 HI8 HI9 HKR HV6 HO6 HW6 HV1' HB7
        go_wp2
        exact ⟨⟨j + 1,by omega,by go_num,b6,left6,es2,ps2,HD⟩,by simp [intOf]; omega⟩
     · have hlt': (kl: Int) <= (j: Int) := by omega
       have hjk: j = kl := by omega
       subst hjk
       obtain ⟨i1,i2,i3,i4,i5,i6,i7,i8,i9⟩ := HI.out
       have HF: Hid (Vis A bt tl en wt g g' f1 k1 f2 k2 s t r h l fr n0 n1 n2 n3 n4 n5 (hh + 1) at_ es.length (at_ :: ps').length b (left' + 1) W wr) := by
        rw [HKL1.out,List.drop_of_length_le (Nat.le_refl _)] at i1 i2
        cases i1
        simp only [List.length_nil,Nat.add_zero] at i5 i6
        have hpl: (at_ :: ps').length = ps'.length + 1 := rfl
        refine ⟨b5,left5,HF5.out _ (i2 _ .nil),by omega,by omega,by omega,i7,HJ5.out wr i8,fun q hq => ?_⟩
        · rcases i9 q hq with hq | hq
          · exact HW4.out q hq
          · right; have := HB5.out.size; have := HO4.out.size; omega
       clear i1 i2 i3 i4 i5 i6 i7 i8 i9 HI
       go_wp2
       go_ret
       exact ⟨rfl,HF.out⟩
end
end Go.Proofs.YtdnkbdjhccckhaaGreat
