import Derived.Laws.AppendOwnNone
import Derived.Test.YtdnkbdjhccckhaaGreatMAO
import Derived.Deep.AppendSrc
import Derived.Lib.ConvBytes
set_option maxRecDepth 100000
set_option maxHeartbeats 4000000
namespace Go.Proofs.YtdnkbdjhccckhaaGreat.L5
open Go.RowKit
theorem step_row {ops: Array Oper} {o: Oper} {a: Act} {K: Act -> World -> Prop} {Q: Exit -> Act -> World -> Prop} {E: Prop} {W1: World} {t e: TypeId} {z: Value} {by_: Nat} (ht: Tryz.prog.underlying t = some (.slice e)) (hinfo: (Tryz.prog.info? e).map (fun i => (i.zero,i.size,i.bytes)) = some (some z,1,by_)) (hby: by_ <= 16) (hzs: z.cells.size = 1) (base: Nat) (hbase: base <= W1.heap.size) (hgd: o.guard = none) (s x: Operand) (ho: o.op = .call { callee := .builtin .append,args := #[s,x],argTypes := #[t,t] })
 (v: Value) (n: Nat) (ys xs: List Value) (hs: a.eval s = v) (h: W1.ownsRow base e 1 v n ys) (hn: n <= 100000) (ad: Addr) (m cap: Nat) (hx: a.eval x = .slice (some ad) m cap) (hm: xs.length = m) (hml: m <= 100000) (hc: ∀ j u,xs[j]? = some u -> W1.cell? (ad.add j) = some u) (h1: ∀ u ∈ xs,u.oneCell' = true)
 (hK: ∀ v' W',W'.ownsRow base e 1 v' (n + m) (ys ++ xs) -> W1.grownBy W' v.ownBlock -> K (a.put o.dst v') W') :
 if Region.wanted o (yielded ops a.tmps) = true then Oper.wp Tryz.prog o a W1 K Q else E := by
 have hw: Region.wanted o (yielded ops a.tmps) = true := by simp [Region.wanted,hgd]
 rw [if_pos hw]
 obtain ⟨i,hi,hz⟩ := Option.map_eq_some_iff.1 hinfo
 simp only [Prod.mk.injEq] at hz
 obtain ⟨h3,h4,h5⟩ := hz
 have hby2: (n + m) * by_ <= 140737488355328 := by
  have := Nat.mul_le_mul (show n + m <= 200000 by omega) hby
  omega
 exact wp_append_own (P := Tryz.prog) W1 s x t ho base e i z 1 by_ ht hi h3 h4 h5 hzs (by decide) v n ys hs h ad m cap xs hx (by omega) hc h1 (by unfold maxLen; omega) hby2 hbase fun v' W' hown hg _ => hK v' W' hown hg
theorem hidf {p: Prop} (h: p): Hid p := h
theorem over_whole (L t: List UInt8) (h: t.length = L.length): over L 0 t = t := by
 unfold over
 rw [Nat.zero_add,h]
 simp
theorem made_bytes (W: World) (m: Nat): Blk (W.alloc (.cells (madeCells #[.int .u8 0] m) 5)) W.heap.size (List.replicate m 0) := by
 have e: (madeCells #[.int .u8 0] m: Array Value) = (bcs (List.replicate m 0)).toArray := by
  apply Array.ext'
  rw [toList_madeCells_one,List.toList_toArray]
  unfold bcs
  rw [List.map_replicate]
  rfl
 unfold Blk
 rw [<- e]
 exact heap_alloc_last _ _
theorem refnum_walk {n m: Nat} {w: World} (hm: m <= 4) (hn: n < 9223372036854775808) :
 Calls Tryz.prog 83 #[.int .i64 (n: Int), .int .i64 (m: Int)] w fun e w' => ∃ p,e = .returned (.slice (some ⟨p,0,none⟩) m m) /\ w.heap.size <= p /\ Blk w' p (be n m) /\ Below w.heap.size w w' := by
 go_enter Tryz.func83,Tryz.ntmps83
 go_wp2
 have hmk: (Instr.makeSlice 81 (.int .i64 (m: Int)) (.int .i64 (m: Int))).run Tryz.prog w = .ok (.slice (some ⟨w.heap.size,0,none⟩) m m) (w.alloc (.cells (madeCells #[.int .u8 0] m) 5)) :=
  run_make_row' 81 5 (.int .u8 0) 1 Tryz.underlying81 (by kernel_rfl) rfl .i64 .i64 m (by omega) (by omega) w
 rw [hmk]
 clear hmk
 have H0 := hidf (made_bytes w m)
 have HB := hidf (below_alloc w (.cells (madeCells #[.int .u8 0] m) 5))
 generalize w.alloc (.cells (madeCells #[.int .u8 0] m) 5) = w1 at H0 HB ⊢
 go_wp2
 go_loopw [0,6] (fun q i wr => ∃ j: Nat,j <= m /\ i = .int .i64 ((m: Int) - 1 - (j: Int)) /\ q = .int .i64 ((n / 256 ^ j: Nat): Int) /\ Hid (Blk wr w.heap.size (over (List.replicate m 0) (m - j) (be n j))) /\ Hid (Below w.heap.size w wr)) (fun _ i _ => (intOf i + 1).toNat)
 case atStart => exact ⟨0,Nat.zero_le _,by go_num,by simp,by show Blk _ _ _; rw [show be n 0 = [] from rfl,over_nil]; exact H0.out,HB⟩
 case round =>
  obtain ⟨j,hj,rfl,rfl,HK,HO⟩ := hrel
  by_cases hlt: j < m
  · have hle := over_length (List.replicate m 0) (m - j) (be n j) (by rw [be_length]; simp; omega)
    obtain ⟨old,hc⟩: ∃ old,wr.cell? ⟨w.heap.size,m - 1 - j,none⟩ = some (Value.int .u8 old) := ⟨_,HK.out.cell (m - 1 - j) (by rw [hle]; simp; omega)⟩
    have hf := HK.out.frozen (m - 1 - j)
    have hx: ((m: Int) - 1 - (j: Int)).toNat = m - 1 - j := by omega
    have hx1: (0: Int) <= (m: Int) - 1 - (j: Int) := by omega
    have hx2: (m: Int) - 1 - (j: Int) < (m: Int) := by omega
    have hqq: n / 256 ^ j <= n := Nat.div_le_self _ _
    have HQ: Hid (n / 256 ^ j / 256 = n / 256 ^ (j + 1)) := by show _ = _; rw [Nat.div_div_eq_div_mul,Nat.pow_succ]
    have HV: Hid ((UInt8.ofNat (n / 256 ^ j)).toNat = n / 256 ^ j % 256) := ofNat_toNat _
    generalize hq: n / 256 ^ j = q at hqq HQ HV ⊢
    clear hle
    go_wp2
    have hv: Value.int .u8 ((q: Int) % 256) = .int .u8 ((UInt8.ofNat q).toNat: Int) := by rw [HV.out]; simp
    rw [hv]
    have ht := HK.out.set (m - 1 - j) (UInt8.ofNat q)
    have hs := over_set (List.replicate m 0) 0 m j n hlt (by simp)
    rw [Nat.zero_add,hq] at hs
    rw [hs] at ht
    refine ⟨⟨j + 1,by omega,by go_num,by rw [<- HQ.out]; simp,ht,HO.out.setCell (Nat.le_refl _) _⟩, ?_⟩
    simp only [intOf]
    omega
  · have hjm: j = m := by omega
    subst hjm
    have hx1: (j: Int) - 1 - (j: Int) < 0 := by omega
    go_wp2
    go_ret
    refine ⟨_,rfl,Nat.le_refl _, ?_,HO.out⟩
    have := HK.out
    rwa [Nat.sub_self,over_whole _ _ (by rw [be_length]; simp)] at this
theorem one_bcs (l: List UInt8): ∀ u ∈ bcs l,u.oneCell' = true := by
 intro u hu
 obtain ⟨c,_,rfl⟩ := List.mem_map.1 hu
 rfl
theorem Blk.cells {W: World} {b: Nat} {L: List UInt8} (h: Blk W b L): ∀ j u,(bcs L)[j]? = some u -> W.cell? ((⟨b,0,none⟩: Addr).add j) = some u := fun j u hj => by
 have hlt: j < L.length := by
  have := (List.getElem?_eq_some_iff.1 hj).1
  rwa [bcs_length] at this
 have e: u = .int .u8 (L[j].toNat: Int) := by
  unfold bcs at hj
  rw [List.getElem?_map,List.getElem?_eq_getElem hlt] at hj
  simpa using hj.symm
 subst e
 rw [show (⟨b,0,none⟩: Addr).add j = ⟨b,j,none⟩ by unfold Addr.add; split <;> simp_all]
 exact h.cell j hlt
structure Pw (w: World) (n: No) (a: Option Addr) (c: Nat) (a': Option Addr) (c': Nat) (v: Value) (o: List UInt8) (wr: World): Prop where
 nq: Nq w n a c a' c' wr
 row: wr.ownsRow (w.heap.size + 1) 5 1 v o.length (bcs o)
theorem Pw.on {w: World} {n: No} {a: Option Addr} {c: Nat} {a': Option Addr} {c': Nat} {v: Value} {o: List UInt8} {wr wr': World} (h: Pw w n a c a' c' v o wr) (hb: Below wr.heap.size wr wr'): Pw w n a c a' c' v o wr' :=
 ⟨h.nq.on hb,owns_below h.row hb⟩
theorem Nq.grown {w: World} {n: No} {a: Option Addr} {c: Nat} {a': Option Addr} {c': Nat} {wr w': World} (h: Nq w n a c a' c' wr) (hr: NR w n a c a' c') {row: Option Nat} (hg: wr.grownBy w' row) (hk: ∀ k,row = some k -> w.heap.size + 1 <= k): Nq w n a c a' c' w' := by
 have hlt := h.bx.lt
 have hb: Below w.heap.size w w' := h.bx.below.grown hg (by omega) (fun k hk' => by have := hk k hk'; omega)
 have hblk: w'.heap[w.heap.size]? = wr.heap[w.heap.size]? := hg.block _ hlt (fun e => by have := hk _ e.symm; omega)
 have hc: ∀ o,w'.cell? ⟨w.heap.size,o,none⟩ = wr.cell? ⟨w.heap.size,o,none⟩ := fun o => World.cell?_of_block hblk
 exact ⟨⟨hb,by rw [hc]; exact h.bx.c0,by rw [hc]; exact h.bx.c1,by rw [hc]; exact h.bx.c2,(Array.getElem?_eq_some_iff.1 (hblk.trans (Array.getElem?_eq_getElem hlt))).1⟩,hr.below hb⟩
theorem Pw.grow {w: World} {n: No} {a: Option Addr} {c: Nat} {a': Option Addr} {c': Nat} {v v': Value} {o o': List UInt8} {wr w': World} (h: Pw w n a c a' c' v o wr) (hr: NR w n a c a' c') (hg: wr.grownBy w' v.ownBlock) {m: Nat} (hm: m = o'.length) (ho: w'.ownsRow (w.heap.size + 1) 5 1 v' m (bcs o')): Pw w n a c a' c' v' o' w' := by
 subst hm
 exact ⟨h.nq.grown hr hg (fun k hk => (h.row.lt k hk).1),ho⟩
def Tl (W: World) (B: Nat) (v: Value) (t: List UInt8): Prop := ∃ k cap,v = .slice (some ⟨k,0,none⟩) t.length cap /\ B <= k /\ k < W.heap.size /\ ∀ j u,(bcs t)[j]? = some u -> W.cell? ⟨k,j,none⟩ = some u
theorem Tl.lt {W: World} {B: Nat} {v: Value} {t: List UInt8} (h: Tl W B v t): ∀ k,v.ownBlock = some k -> B <= k /\ k < W.heap.size := by
 obtain ⟨k,cap,rfl,h1,h2,_⟩ := h
 intro k' hk
 cases hk
 exact ⟨h1,h2⟩
theorem Tl.of_block {W W': World} {B: Nat} {v: Value} {t: List UInt8} (h: Tl W B v t) (hs: W.heap.size <= W'.heap.size) (hb: ∀ k,v.ownBlock = some k -> W'.heap[k]? = W.heap[k]?): Tl W' B v t := by
 obtain ⟨k,cap,rfl,h1,h2,h3⟩ := h
 exact ⟨k,cap,rfl,h1,by omega,fun j u hj => by rw [World.cell?_of_block (hb k rfl)]; exact h3 j u hj⟩
theorem Tl.below {W W': World} {B: Nat} {v: Value} {t: List UInt8} (h: Tl W B v t) (hb: Below W.heap.size W W'): Tl W' B v t :=
 h.of_block hb.size fun k hk => hb.block k (h.lt k hk).2
theorem Tl.base {W: World} {B B': Nat} {v: Value} {t: List UInt8} (h: Tl W B v t) (hB: B' <= B): Tl W B' v t := by
 obtain ⟨k,cap,rfl,h1,h2,h3⟩ := h
 exact ⟨k,cap,rfl,by omega,h2,h3⟩
structure Pt (w: World) (n: No) (a: Option Addr) (c: Nat) (a': Option Addr) (c': Nat) (v vt: Value) (o t: List UInt8) (wr: World): Prop where
 pw: Pw w n a c a' c' v o wr
 tl: Tl wr (w.heap.size + 1) vt t
 ap: ∀ k,v.ownBlock = some k -> vt.ownBlock ≠ some k
theorem Pt.on {w: World} {n: No} {a: Option Addr} {c: Nat} {a': Option Addr} {c': Nat} {v vt: Value} {o t: List UInt8} {wr wr': World} (h: Pt w n a c a' c' v vt o t wr) (hb: Below wr.heap.size wr wr'): Pt w n a c a' c' v vt o t wr' :=
 ⟨h.pw.on hb,h.tl.below hb,h.ap⟩
theorem Pt.grow {w: World} {n: No} {a: Option Addr} {c: Nat} {a': Option Addr} {c': Nat} {v v' vt: Value} {o o' t: List UInt8} {wr w': World} (h: Pt w n a c a' c' v vt o t wr) (hr: NR w n a c a' c') (hg: wr.grownBy w' v.ownBlock) (hat: ∀ k,v'.ownBlock = some k -> v.ownBlock = some k \/ wr.heap.size <= k) {m: Nat} (hm: m = o'.length) (ho: w'.ownsRow (w.heap.size + 1) 5 1 v' m (bcs o')): Pt w n a c a' c' v' vt o' t w' := by
 refine ⟨h.pw.grow hr hg hm ho,h.tl.of_block hg.size fun k hk => hg.block k (h.tl.lt k hk).2 (fun e => h.ap k e.symm hk),fun k hk hk' => ?_⟩
 rcases hat k hk with e | e
 · exact h.ap k e hk'
 · have := (h.tl.lt k hk').2
   omega
theorem Pt.tail {w: World} {n: No} {a: Option Addr} {c: Nat} {a': Option Addr} {c': Nat} {v vt vt': Value} {o t t': List UInt8} {wr w': World} (h: Pt w n a c a' c' v vt o t wr) (hb: Below wr.heap.size wr w') (ht: Tl w' wr.heap.size vt' t'): Pt w n a c a' c' v vt' o t' w' := by
 have hlt := h.pw.nq.bx.lt
 refine ⟨h.pw.on hb,ht.base (by omega),fun k hk hk' => ?_⟩
 have h3 := (h.pw.row.lt k hk).2
 have h4 := (ht.lt k hk').1
 omega
structure Cv (W1: World) (k0: Nat) (S: List UInt8) (cap: Nat): Prop where
 lt: k0 < W1.heap.size
 le: S.length <= cap
 cells: ∀ j u,(bcs S)[j]? = some u -> W1.cell? ⟨k0,j,none⟩ = some u
 some: ∀ j,j < cap -> (W1.cell? ⟨k0,j,none⟩).isSome = true
 free: ∀ j,j < cap -> W1.frozen? ⟨k0,j,none⟩ = false
theorem bytesCells_size (w: World) (e: TypeId) (s: ByteArray): (Lib.bytesCells w e s).size = grownCap w s.size 0 e := by
 have := grownCap_ge w s.size 0 e
 simp [Lib.bytesCells]
 have: s.data.size = s.size := rfl
 omega
theorem cv_of_conv (w: World) (e: TypeId) (s: ByteArray): Cv (Lib.bytesWorld w e s) w.heap.size s.data.toList (grownCap w s.size 0 e) := by
 have hz := bytesCells_size w e s
 refine ⟨by rw [Lib.bytesWorld_size]; omega, ?_,fun j u hj => ?_,fun j hj => ?_,fun j hj => ?_⟩
 · have := grownCap_ge w s.size 0 e
   have: s.data.toList.length = s.size := rfl
   omega
 · have hlt: j < s.data.toList.length := by
    have := (List.getElem?_eq_some_iff.1 hj).1
    rwa [bcs_length] at this
   rw [Lib.bytesWorld_cell w e s j hlt]
   unfold bcs at hj
   rw [List.getElem?_map,List.getElem?_eq_getElem hlt] at hj
   rw [<- hj,List.getD_eq_getElem?_getD,List.getElem?_eq_getElem hlt]
   rfl
 · simp only [World.cell?, Lib.bytesWorld_at_new]
   simp
   omega
 · simp only [World.frozen?, Lib.bytesWorld_at_new]
   simp
   omega
theorem below_conv (w: World) (e: TypeId) (s: ByteArray): Below w.heap.size w (Lib.bytesWorld w e s) :=
 ⟨rfl,rfl,rfl,by rw [Lib.bytesWorld_size]; omega,fun k hk => Lib.bytesWorld_at_old w e s k hk⟩
theorem append_conv {ops: Array Oper} {rest: List Oper} {o: Oper} {a: Act} {Q: Exit -> Act -> World -> Prop} {W1: World} (hgd: o.guard = none) (s x: Operand) (ho: o.op = .call { callee := .builtin .append,args := #[s,x],argTypes := #[81,81] })
 (k0 cap: Nat) (S t: List UInt8) (n: Nat) (hn: n = S.length) (hs: a.eval s = .slice (some ⟨k0,0,none⟩) n cap) (hcv: Cv W1 k0 S cap) (B: Nat) (v: Value) (hx: a.eval x = v) (ht: Tl W1 B v t) (hS: S.length <= 100000) (hT: t.length <= 100000) (B0: Nat) (hB: B0 <= k0)
 (hK: ∀ v' W',Tl W' B0 v' (S ++ t) -> Below B0 W1 W' -> wpList Tryz.prog ops Q rest (a.put o.dst v') W'): wpList Tryz.prog ops Q (o :: rest) a W1 := by
 subst hn
 obtain ⟨k,c,rfl,h1,h2,h3⟩ := ht
 have hinfo: (Tryz.prog.info? 5).map (fun i => (i.zero,i.size,i.bytes)) = some (some (.int .u8 0),1,1) := by kernel_rfl
 obtain ⟨i,hi,hz⟩ := Option.map_eq_some_iff.1 hinfo
 simp only [Prod.mk.injEq] at hz
 obtain ⟨z3,z4,z5⟩ := hz
 have hadd: ∀ (g j: Nat),(⟨g,0,none⟩: Addr).add j = ⟨g,j,none⟩ := fun g j => by unfold Addr.add; split <;> simp_all
 have hsrc: Src Tryz.prog i.size 81 (.slice (some ⟨k,0,none⟩) t.length c) t.length (bcs t) W1 :=
  Src.ofSlice W1 Tryz.underlying81 _ _ _ _ (by rw [z4,bcs_length]; omega) (fun j u hj => by rw [hadd]; exact h3 j u hj) (one_bcs t)
 have hlt := hcv.lt
 by_cases hroom: S.length + t.length <= cap
 · have hrun := run_append_room_src (P := Tryz.prog) W1 81 81 o.type 5 i Tryz.underlying81 hi k0 0 S.length cap _ _ _ hsrc hroom
    (fun j hj => by rw [z4,Nat.mul_one,Nat.zero_add]; rw [bcs_length] at hj; exact hcv.some _ (by omega)) (fun j hj => by rw [z4,Nat.mul_one,Nat.zero_add]; rw [bcs_length] at hj; exact hcv.free _ (by omega))
   rw [z4,Nat.mul_one,Nat.zero_add] at hrun
   refine wpList_plain hgd fun K hK' => ?_
   unfold Oper.wp execOp
   simp only [ho,resolve,invoke,builtin,Sem.run_bind,Sem.run_pure,Result.andThen_ok,List.map_toArray,List.map_cons,List.map_nil,hs,hx,hrun]
   refine hK' _ _ (hK _ _ ⟨k0,cap,by rw [List.length_append],hB, ?_,fun j u hj => ?_⟩ (below_setCells hB _ _ _ (Below.refl _ _)))
   · exact Nat.lt_of_lt_of_le hlt (below_setCells hB _ _ _ (Below.refl B0 W1)).size
   · unfold bcs at hj
     rw [List.map_append] at hj
     by_cases hj1: j < S.length
     · rw [List.getElem?_append_left (by simpa using hj1)] at hj
       rw [World.cell?_setCells_out k0 _ _ _ _ (fun _ _ => Or.inl hj1)]
       exact hcv.cells j u hj
     · rw [List.getElem?_append_right (by simp; omega)] at hj
       simp only [List.length_map] at hj
       have hl: j - S.length < (bcs t).length := (List.getElem?_eq_some_iff.1 hj).1
       have := World.cell?_setCells_in k0 (bcs t) S.length W1 (fun j' hj' => hcv.some _ (by rw [bcs_length] at hj'; omega)) (j - S.length) hl
       rw [show S.length + (j - S.length) = j by omega] at this
       rw [this]
       exact hj ▸ (List.getElem?_eq_getElem hl).symm
 · have hold: (Builtin.firstCells i.size S.length (.slice (some ⟨k0,0,none⟩) S.length cap)).run Tryz.prog W1.drew = .ok (bcs S).toArray W1.drew :=
    run_firstCells_some _ _ _ _ _ _ _ (by rw [z4,bcs_length]; omega) (fun j u hj => by rw [hadd]; simpa using hcv.cells j u hj)
   have hrun := run_append_grow_src (P := Tryz.prog) W1 81 81 o.type 5 i (.int .u8 0) Tryz.underlying81 hi z3 (some ⟨k0,0,none⟩) S.length cap (bcs S) hold _ _ _ hsrc (by omega) (by omega) (growslice_fits (by omega) (by rw [z5]; omega))
   refine wpList_plain hgd fun K hK' => ?_
   unfold Oper.wp execOp
   simp only [ho,resolve,invoke,builtin,Sem.run_bind,Sem.run_pure,Result.andThen_ok,List.map_toArray,List.map_cons,List.map_nil,hs,hx,hrun]
   refine hK' _ _ (hK _ _ ⟨W1.heap.size,_,by rw [List.length_append],by omega,by simp,fun j u hj => ?_⟩ (((Below.refl _ _).drew).alloc (by simp; omega) _))
   have hl := (List.getElem?_eq_some_iff.1 hj).1
   rw [bcs_length,List.length_append] at hl
   have e: bcs (S ++ t) = bcs S ++ bcs t := by unfold bcs; rw [List.map_append]
   rw [e] at hj
   simp only [World.cell?]
   rw [show (W1.drew.alloc (.cells ((bcs S ++ bcs t).toArray ++ Builtin.zeroCells (Value.int .u8 0).cells (grownCap W1 (S.length + t.length) cap 5 - (S.length + t.length))) 5)).heap[W1.heap.size]? = some (.cells ((bcs S ++ bcs t).toArray ++ Builtin.zeroCells (Value.int .u8 0).cells (grownCap W1 (S.length + t.length) cap 5 - (S.length + t.length))) 5) from heap_alloc_new W1.drew _]
   have hl2: j < (bcs S ++ bcs t).length := by rw [List.length_append,bcs_length,bcs_length]; exact hl
   show ((bcs S ++ bcs t).toArray ++ _)[j]? = some u
   rw [Array.getElem?_append_left (by simpa using hl2)]
   simpa using hj
theorem owns_one (w: World) (B: Nat) (hB: B <= w.heap.size) (x: UInt8): World.ownsRow (w.alloc (.cells #[.int .u8 (x.toNat: Int)] 5)) B 5 1 (.slice (some ⟨w.heap.size,0,none⟩) 1 1) 1 (bcs [x]) :=
 ⟨rfl,Or.inr ⟨w.heap.size,1,_,rfl,hB,heap_alloc_last _ _,Nat.le_refl _,by unfold maxLen; omega,rfl,rfl⟩⟩
def lenV: Value -> Nat
 | .slice _ m _ => m
 | _ => 0
theorem owns_slice {W: World} {B: Nat} {e: TypeId} {v: Value} {m: Nat} {l: List Value} (h: W.ownsRow B e 1 v m l): ∃ ad cp,v = .slice ad m cp /\ m <= cp /\ cp <= maxLen := by
 rcases h.2 with ⟨rfl,rfl⟩ | ⟨g,cap,cur,rfl,h1,h2,h3,h4,h5⟩
 · exact ⟨none,0,rfl,Nat.le_refl _,Nat.zero_le _⟩
 · exact ⟨_,_,rfl,h3,h4⟩
theorem Tl.read {W: World} {B k m c: Nat} {t: List UInt8} (h: Tl W B (.slice (some ⟨k,0,none⟩) m c) t): ∀ j u,(bcs t)[j]? = some u -> W.cell? ⟨k,j,none⟩ = some u := by
 obtain ⟨k',c',e,_,_,h3⟩ := h
 cases e
 exact h3
def markL (n: No): UInt8 := if n.leaf then 1 else 2
theorem markHz {w: World} {n: No} {a: Option Addr} {c: Nat} {a': Option Addr} {c': Nat} {v: Value} {x: UInt8} {wr: World} (h: Hid (Pw w n a c a' c' v [x] wr)) (e: markL n = x): Hid (Pw w n a c a' c' v [markL n] wr) := by rw [e]; exact h
theorem refpage_walk {n: No} {a: Option Addr} {c: Nat} {a': Option Addr} {c': Nat} {w: World} (hr: NR w n a c a' c') (hs: n.small) (hb: n.shaped = true) (hl: n.size <= 1024) :
 Calls Tryz.prog 62 #[nodeV n a c a' c'] w fun e w' => ∃ v,e = .returned v /\ w'.ownsRow w.heap.size 5 1 v 1024 (bcs (pageL n.toNd)) /\ Below w.heap.size w w' := by
 have HN: Hid (Nq w n a c a' c' (w.alloc (.cells #[.bool n.leaf, .slice a n.recs.length c, .slice a' n.kids.length c'] 91))) := Nq.new hr _
 have HR: Hid (NR w n a c a' c') := hr
 have hcap: n.recs.length <= c := by have := hr.recs.1; rwa [svs_length] at this
 have hcm := hr.recs.2.1
 have hcap': n.kids.length <= c' := by have := hr.kids.1; rwa [ivs_length] at this
 have hcm' := hr.kids.2.1
 have h1 := hs.recs
 have h2 := hs.kids
 unfold maxLen at hcm hcm'
 clear hr
 have HZ: Hid (Pw w n a c a' c' (.slice (some ⟨w.heap.size + 1,0,none⟩) 1 1) [markL n] ((w.alloc (.cells #[.bool n.leaf, .slice a n.recs.length c, .slice a' n.kids.length c'] 91)).alloc (.cells #[.int .u8 ((markL n).toNat: Int)] 5))) := by
  refine ⟨HN.out.on (below_alloc _ _), ?_⟩
  have := owns_one (w.alloc (.cells #[.bool n.leaf, .slice a n.recs.length c, .slice a' n.kids.length c'] 91)) (w.heap.size + 1) (by simp) (markL n)
  rw [show (w.alloc (.cells #[.bool n.leaf, .slice a n.recs.length c, .slice a' n.kids.length c'] 91)).heap.size = w.heap.size + 1 by simp] at this
  exact this
 clear HN
 go_enter Tryz.func62,Tryz.ntmps62
 unfold nodeV
 unfold markL at HZ
 cases hlf: n.leaf
 all_goals
  rw [hlf] at HZ
  simp only [if_true,if_false,Bool.false_eq_true] at HZ
  go_wp2_with fail
 all_goals
  first
   | (have HP0: Hid (Pw w n a c a' c' (.slice (some ⟨w.heap.size + 1,0,none⟩) 1 1) [markL n] ((w.alloc (.cells #[.bool false, .slice a n.recs.length c, .slice a' n.kids.length c'] 91)).alloc (.cells #[.int .u8 2] 5))) := markHz HZ (by unfold markL; rw [hlf]; rfl)
      generalize (w.alloc (.cells #[.bool false, .slice a n.recs.length c, .slice a' n.kids.length c'] 91)).alloc (.cells #[.int .u8 2] 5) = w0 at HP0 ⊢)
   | (have HP0: Hid (Pw w n a c a' c' (.slice (some ⟨w.heap.size + 1,0,none⟩) 1 1) [markL n] ((w.alloc (.cells #[.bool true, .slice a n.recs.length c, .slice a' n.kids.length c'] 91)).alloc (.cells #[.int .u8 1] 5))) := markHz HZ (by unfold markL; rw [hlf]; rfl)
      generalize (w.alloc (.cells #[.bool true, .slice a n.recs.length c, .slice a' n.kids.length c'] 91)).alloc (.cells #[.int .u8 1] 5) = w0 at HP0 ⊢)
  clear HZ
  refine (refnum_walk (n := n.recs.length) (m := 2) (by omega) (by omega)).mono ?_
  rintro e w1 ⟨p1,rfl,hp1,K1,B1⟩
  have HP1: Hid (Pw w n a c a' c' (.slice (some ⟨w.heap.size + 1,0,none⟩) 1 1) [markL n] w1) := HP0.out.on B1
  have HK1: Hid (Blk w1 p1 (be n.recs.length 2)) := K1
  clear HP0 B1 K1
  go_wp2_with (first
   | (at_builtin
      revert HP1)
   | fail)
  intro HP1
  refine append_row (z := .int .u8 0) (by_ := 1) Tryz.underlying81 (by kernel_rfl) (by decide) rfl (w.heap.size + 1) HP1.out.nq.bx.lt rfl _ _ rfl (.slice (some ⟨w.heap.size + 1,0,none⟩) 1 1) 1 (bcs [markL n]) (bcs (be n.recs.length 2)) rfl HP1.out.row (by omega) 2 (by omega) ⟨p1,0,none⟩ 2 rfl (by rw [bcs_length,be_length]) HK1.out.cells (one_bcs _) ?_
  intro v2 w2 hown hg _
  have HP2: Hid (Pw w n a c a' c' v2 ([markL n] ++ be n.recs.length 2) w2) := HP1.out.grow HR.out hg (m := 1 + 2) (by simp [be_length]) (by unfold bcs at hown ⊢; rw [List.map_append]; exact hown)
  clear hown hg HP1 HK1
  go_wp2
  go_loopw [3,4] (fun v i wr => ∃ j: Nat,j <= n.kids.length /\ i = .int .i64 (j: Int) /\ Hid (Pw w n a c a' c' v (front n j 0) wr)) (fun _ i _ => n.kids.length - (intOf i).toNat)
  case atStart =>
   refine ⟨0,Nat.zero_le _,rfl, ?_⟩
   have := HP2.out
   rw [be_two] at this
   show Pw _ _ _ _ _ _ _ _ _
   have e: front n 0 0 = [markL n] ++ n2 n.recs.length := by unfold front markL; simp [slots]
   rw [e]
   exact this
  case round =>
   clear HP2
   obtain ⟨j,hj,rfl,HP⟩ := hrel
   have c2 := HP.out.nq.bx.c2
   have xl := HP.out.nq.bx.lt
   by_cases hlt: j < n.kids.length
   · have hlt': (j: Int) < (n.kids.length: Int) := by omega
     obtain ⟨b,o,rfl,hbn,hce⟩ := HP.out.nq.nr.kids.int j hlt
     have hk1: 1 <= n.kids[j] /\ n.kids[j] <= 4096 := by
      unfold No.shaped at hb
      simp only [Bool.and_eq_true,List.all_eq_true] at hb
      have := hb.1.2 n.kids[j] (List.getElem_mem hlt)
      unfold kidOk at this
      simpa using this
     have HF: Hid (front n (j + 1) 0 = front n j 0 ++ n4 n.kids[j].toNat) := front_kid n j hlt
     obtain ⟨kk,hkk⟩: ∃ kk: Nat,n.kids[j] = (kk: Int) := ⟨n.kids[j].toNat,by omega⟩
     rw [hkk] at hce HF hk1
     rw [Int.toNat_natCast] at HF
     clear hkk
     have HFL: Hid ((front n j 0).length <= 100000) := by show _ <= _; rw [front_length n j 0 (by omega) (by omega)]; omega
     go_wp2_with fail
     refine (refnum_walk (n := kk) (m := 4) (by omega) (by omega)).mono ?_
     rintro e w3 ⟨p3,rfl,hp3,K3,B3⟩
     have HP3: Hid (Pw w n a c (some ⟨b,o,none⟩) c' u3 (front n j 0) w3) := HP.out.on B3
     have HK3: Hid (Blk w3 p3 (be kk 4)) := K3
     clear HP B3 K3 c2 xl hce hbn hp3
     go_wp2_with (first
      | (at_builtin
         revert HP3)
      | fail)
     intro HP3
     refine append_row (z := .int .u8 0) (by_ := 1) Tryz.underlying81 (by kernel_rfl) (by decide) rfl (w.heap.size + 1) HP3.out.nq.bx.lt rfl _ _ rfl u3 (front n j 0).length (bcs (front n j 0)) (bcs (be kk 4)) rfl HP3.out.row (by have := HFL.out; omega) 4 (by omega) ⟨p3,0,none⟩ 4 rfl (by rw [bcs_length,be_length]) HK3.out.cells (one_bcs _) ?_
     intro v4 w4 hown hg _
     have HP4: Hid (Pw w n a c (some ⟨b,o,none⟩) c' v4 (front n (j + 1) 0) w4) := HP3.out.grow HR.out hg (m := (front n j 0).length + 4) (by rw [HF.out,List.length_append]; rfl) (by rw [HF.out, <- be_four]; unfold bcs at hown ⊢; rw [List.map_append]; exact hown)
     clear hown hg HP3 HK3
     go_wp2
     exact ⟨⟨j + 1,by omega,by go_num,HP4⟩,by simp [intOf]; omega⟩
   · have hlt': (n.kids.length: Int) <= (j: Int) := by omega
     have hjm: j = n.kids.length := by omega
     subst hjm
     have HT0: Hid (Pt w n a c a' c' u3 (.slice (some ⟨wr.heap.size,0,none⟩) 0 0) (front n n.kids.length 0) [] (wr.alloc (.cells #[] 5))) :=
      ⟨HP.out.on (below_alloc _ _),⟨wr.heap.size,0,rfl,HP.out.nq.bx.lt,by simp,fun j u hj => by simp [bcs] at hj⟩,fun k hk hk' => by
       have := (HP.out.row.lt k hk).2
       simp [Value.ownBlock] at hk'
       omega⟩
     clear HP
     go_wp2_with fail
     generalize wr.alloc (.cells #[] 5) = w5 at HT0 ⊢
     go_loopw [3,5,6,7] (fun v d vt i wx => ∃ j: Nat,j <= n.recs.length /\ i = .int .i64 (j: Int) /\ d = .int .i64 ((1024 - lens (n.toNd.recs.take j): Nat): Int) /\ Hid (Pt w n a c a' c' v vt (front n n.kids.length j) (tailL (n.toNd.recs.take j)) wx)) (fun _ _ _ i _ => n.recs.length - (intOf i).toNat)
     case atStart => exact ⟨0,Nat.zero_le _,rfl,by simp [lens],by simpa [tailL] using HT0⟩
     case round =>
      clear HT0 c2 xl
      obtain ⟨j,hj,rfl,rfl,HT⟩ := hrel
      have c1 := HT.out.pw.nq.bx.c1
      have xl := HT.out.pw.nq.bx.lt
      by_cases hlt: j < n.recs.length
      · have hlt': (j: Int) < (n.recs.length: Int) := by omega
        obtain ⟨b,o,rfl,hbn,hce⟩ := HT.out.pw.nq.nr.recs.str j hlt
        have hll := lens_le n (j + 1)
        have HLS: Hid (lens (n.toNd.recs.take (j + 1)) = lens (n.toNd.recs.take j) + n.recs[j].size) := by
         show _ = _
         rw [recs_take n j hlt,lens_append,lens_cons]
         simp [lens]
        rw [HLS.out] at hll
        have HF := hidf (front_rec n j hlt)
        rw [HLS.out] at HF
        have HTL: Hid (tailL (n.toNd.recs.take (j + 1)) = n.recs[j].data.toList ++ tailL (n.toNd.recs.take j)) := by show _ = _; rw [recs_take n j hlt,tailL_snoc]
        have HFL: Hid ((front n n.kids.length j).length <= 5000) := by show _ <= _; rw [front_length n n.kids.length j (by omega) (by omega)]; omega
        generalize hS: n.recs[j] = S at hce HLS HF HTL hll
        generalize lens (n.toNd.recs.take j) = e0 at HLS HF hll ⊢
        have hS1: (S.size: Int) <= 1024 := by omega
        have hsub: ((1024 - e0: Nat): Int) - (S.size: Int) = ((1024 - (e0 + S.size): Nat): Int) := by omega
        go_wp2_with fail
        refine (refnum_walk (n := 1024 - (e0 + S.size)) (m := 2) (by omega) (by omega)).mono ?_
        rintro e w6 ⟨p6,rfl,hp6,K6,B6⟩
        have HT6 := hidf (HT.out.on B6)
        have HK6: Hid (Blk w6 p6 (be (1024 - (e0 + S.size)) 2)) := K6
        clear HT B6 K6 c1 xl hce hbn hp6
        go_wp2_with (first
         | (at_builtin
            revert HT6)
         | fail)
        intro HT6
        refine append_row (z := .int .u8 0) (by_ := 1) Tryz.underlying81 (by kernel_rfl) (by decide) rfl (w.heap.size + 1) HT6.out.pw.nq.bx.lt rfl _ _ rfl u3 (front n n.kids.length j).length (bcs (front n n.kids.length j)) (bcs (be (1024 - (e0 + S.size)) 2)) rfl HT6.out.pw.row (by have := HFL.out; omega) 2 (by omega) ⟨p6,0,none⟩ 2 rfl (by rw [bcs_length,be_length]) HK6.out.cells (one_bcs _) ?_
        intro v7 w7 hown hg hat
        have HT7 := hidf (HT6.out.grow HR.out hg hat (o' := front n n.kids.length j ++ n2 (1024 - (e0 + S.size))) (m := (front n n.kids.length j).length + 2) (by rw [List.length_append]; rfl) (by rw [<- be_two]; unfold bcs at hown ⊢; rw [List.map_append]; exact hown))
        clear hown hg hat HT6 HK6
        have c1 := HT7.out.pw.nq.bx.c1
        have xl := HT7.out.pw.nq.bx.lt
        obtain ⟨b',o',eb,hbn,hce⟩ := HT7.out.pw.nq.nr.recs.str j hlt
        cases eb
        rw [hS] at hce
        go_wp2_with fail
        refine (refnum_walk (n := S.size) (m := 2) (by omega) (by omega)).mono ?_
        rintro e w8 ⟨p8,rfl,hp8,K8,B8⟩
        have HT8 := hidf (HT7.out.on B8)
        have HK8: Hid (Blk w8 p8 (be S.size 2)) := K8
        clear HT7 B8 K8 c1 xl hce hbn hp8
        go_wp2_with (first
         | (at_builtin
            revert HT8)
         | fail)
        intro HT8
        refine append_row (z := .int .u8 0) (by_ := 1) Tryz.underlying81 (by kernel_rfl) (by decide) rfl (w.heap.size + 1) HT8.out.pw.nq.bx.lt rfl _ _ rfl v7 (front n n.kids.length j ++ n2 (1024 - (e0 + S.size))).length (bcs (front n n.kids.length j ++ n2 (1024 - (e0 + S.size)))) (bcs (be S.size 2)) rfl HT8.out.pw.row (by have := HFL.out; rw [List.length_append]; simp [n2]; omega) 2 (by omega) ⟨p8,0,none⟩ 2 rfl (by rw [bcs_length,be_length]) HK8.out.cells (one_bcs _) ?_
        intro v9 w9 hown hg hat
        have HT9 := hidf (HT8.out.grow HR.out hg hat (o' := front n n.kids.length (j + 1)) (m := (front n n.kids.length j ++ n2 (1024 - (e0 + S.size))).length + 2) (by rw [HF.out,List.length_append (bs := n2 S.size)]; rfl) (by rw [HF.out, <- be_two S.size]; unfold bcs at hown ⊢; rw [List.map_append]; exact hown))
        clear hown hg hat HT8 HK8
        have c1 := HT9.out.pw.nq.bx.c1
        have xl := HT9.out.pw.nq.bx.lt
        obtain ⟨b',o',eb,hbn,hce⟩ := HT9.out.pw.nq.nr.recs.str j hlt
        cases eb
        rw [hS] at hce
        go_wp2_with fail
        rw [Lib.run_convert_string_bytes (P := Tryz.prog) w9 9 81 5 S Tryz.underlying9 Tryz.underlying81 Tryz.underlying5]
        have HCV := hid (cv_of_conv w9 5 S)
        have HBC := hid (below_conv w9 5 S)
        generalize Lib.bytesWorld w9 5 S = w10 at HCV HBC ⊢
        generalize grownCap w9 S.size 0 5 = cp at HCV ⊢
        have HTX := hidf (HT9.out.on HBC.out)
        clear c1 xl hbn hce
        have hT: (tailL (n.toNd.recs.take j)).length <= 100000 := by rw [tailL_length]; have := lens_le n j; omega
        go_wp2_with (first
         | (at_builtin
            revert HTX)
         | fail)
        intro HTX
        refine append_conv rfl _ _ rfl w9.heap.size cp S.data.toList _ S.size rfl rfl HCV.out _ u6 rfl HTX.out.tl (by have: S.data.toList.length = S.size := rfl; omega) hT w9.heap.size (Nat.le_refl _) ?_
        intro v11 w11 htl hbl
        rw [<- HTL.out] at htl
        have HT11 := hidf (HT9.out.tail (HBC.out.trans hbl) htl)
        clear HTX HCV HBC hbl htl HT9
        go_wp2
        exact ⟨⟨j + 1,by omega,by go_num,by rw [HLS.out],HT11⟩,by simp [intOf]; omega⟩
      · have hlt': (n.recs.length: Int) <= (j: Int) := by omega
        have hjm: j = n.recs.length := by omega
        subst hjm
        have HX := hidf HT.out
        rw [front_all,List.take_of_length_le (by simp [No.toNd])] at HX
        have hHL: (headL n.toNd).length + lens n.toNd.recs <= 1024 := by
         have h3 := lens_le n n.recs.length
         rw [List.take_of_length_le (by simp [No.toNd])] at h3
         have h4 := front_length n n.kids.length n.recs.length (Nat.le_refl _) (Nat.le_refl _)
         rw [front_all] at h4
         omega
        have HG: Hid (pageL n.toNd = headL n.toNd ++ List.replicate (1024 - (headL n.toNd).length - lens n.toNd.recs) 0 ++ tailL n.toNd.recs) := by show _ = _; rw [<- tailL_length]; rfl
        have HTLn: Hid ((tailL n.toNd.recs).length = lens n.toNd.recs) := tailL_length _
        generalize headL n.toNd = H at HX hHL HG
        generalize tailL n.toNd.recs = T at HX HG HTLn
        generalize lens n.toNd.recs = E at HG HTLn hHL
        obtain ⟨kt,ct,eu,hk1,hk2,hk3⟩ := HX.out.tl
        rw [HTLn.out] at eu
        subst eu
        clear HT hk1 hk2 hk3
        go_wp2_with fail
        clear c1 xl
        go_loopw [3] (fun v wx => ∃ k: Nat,k <= 1024 - H.length - E /\ Hid (Pt w n a c a' c' v (.slice (some ⟨kt,0,none⟩) E ct) (H ++ List.replicate k 0) T wx)) (fun v _ => 1024 - lenV v)
        case atStart => exact ⟨0,Nat.zero_le _,by simpa using HX⟩
        case round =>
         clear HX
         obtain ⟨k,hk,HQ⟩ := hrel
         obtain ⟨ad,cp,ev,hcp,hcpm⟩ := owns_slice HQ.out.pw.row
         rw [show (H ++ List.replicate k (0: UInt8)).length = H.length + k by simp] at ev hcp
         subst ev
         by_cases hlt: k < 1024 - H.length - E
         · have hlt': (H.length: Int) + (k: Int) < 1024 - (E: Int) := by omega
           go_wp2_with (first
            | (at_builtin
               revert HQ)
            | fail)
           intro HQ
           have HQ2 := hidf (HQ.out.on (below_alloc wr (.cells #[.int .u8 0] 5)))
           refine append_row (z := .int .u8 0) (by_ := 1) Tryz.underlying81 (by kernel_rfl) (by decide) rfl (w.heap.size + 1) HQ2.out.pw.nq.bx.lt rfl _ _ rfl (.slice ad (H.length + k) cp) (H.length + k) (bcs (H ++ List.replicate k 0)) (bcs [0]) rfl (by have := HQ2.out.pw.row; rwa [show (H ++ List.replicate k (0: UInt8)).length = H.length + k by simp] at this) (by omega) 1 (by omega) ⟨wr.heap.size,0,none⟩ 1 rfl rfl (fun j u hj => by
            match j with
            | 0 => cases hj; simp [go_sem]
            | j + 1 => cases hj) (one_bcs _) ?_
           intro v4 w4 hown hg hat
           have HP4 := hidf (HQ2.out.grow HR.out hg hat (o' := H ++ List.replicate (k + 1) 0) (m := H.length + k + 1) (by simp; omega) (by
            rw [show H ++ List.replicate (k + 1) (0: UInt8) = (H ++ List.replicate k 0) ++ [0] by rw [List.replicate_succ',List.append_assoc]]
            unfold bcs at hown ⊢
            rw [List.map_append (l₂ := [0])]
            exact hown))
           obtain ⟨ad4,cp4,ev4, -, -⟩ := owns_slice hown
           clear hown hg hat HQ HQ2
           subst ev4
           go_wp2
           exact ⟨⟨k + 1,by omega,HP4⟩,by simp [lenV]; omega⟩
         · have hlt': 1024 - (E: Int) <= (H.length: Int) + (k: Int) := by omega
           have hkm: k = 1024 - H.length - E := by omega
           subst hkm
           go_wp2_with (first
            | (at_builtin
               revert HQ)
            | fail)
           intro HQ
           have hk3 := HQ.out.tl.read
           have hadd: ∀ (g j: Nat),(⟨g,0,none⟩: Addr).add j = ⟨g,j,none⟩ := fun g j => by unfold Addr.add; split <;> simp_all
           refine append_row (z := .int .u8 0) (by_ := 1) Tryz.underlying81 (by kernel_rfl) (by decide) rfl (w.heap.size + 1) HQ.out.pw.nq.bx.lt rfl _ _ rfl (.slice ad (H.length + (1024 - H.length - E)) cp) (H.length + (1024 - H.length - E)) (bcs (H ++ List.replicate (1024 - H.length - E) 0)) (bcs T) rfl (by have := HQ.out.pw.row; rwa [show (H ++ List.replicate (1024 - H.length - E) (0: UInt8)).length = H.length + (1024 - H.length - E) by simp] at this) (by omega) E (by omega) ⟨kt,0,none⟩ ct rfl (by rw [bcs_length,HTLn.out]) (fun j u hj => by rw [hadd]; exact hk3 j u hj) (one_bcs _) ?_
           intro v4 w4 hown hg hat
           have HQF := hidf (HQ.out.pw.nq.grown HR.out hg (fun k hk => (HQ.out.pw.row.lt k hk).1))
           go_wp2
           go_ret
           refine ⟨_,rfl, ?_,HQF.out.bx.below⟩
           rw [HG.out]
           rw [show H.length + (1024 - H.length - E) + E = 1024 by omega] at hown
           have := owns_base hown (show w.heap.size <= w.heap.size + 1 by omega)
           unfold bcs at this ⊢
           rw [List.map_append (l₂ := T)]
           exact this
theorem rput3_block {W: World} {p: Nat} {u v t: Value} (hp: W.heap[p]? = some (.cells #[u,v,t] 91 (0,0))) (x y z: Value): (put3 W p x y z).heap[p]? = some (.cells #[x,y,z] 91 (0,0)) := by
 unfold put3
 have h1 := heap_setCell_same W p 0 _ _ x hp
 have h2 := heap_setCell_same _ p 1 _ _ y h1
 exact heap_setCell_same _ p 2 _ _ z h2
def RBg (W: World) (b: Nat) (L: List UInt8): Prop := b < W.heap.size /\ ∀ i (hi: i < L.length),W.cell? ⟨b,i,none⟩ = some (.int .u8 (L[i].toNat: Int))
theorem RBg.cell {W: World} {b: Nat} {L: List UInt8} (h: RBg W b L) (i: Nat) (hi: i < L.length): W.cell? ⟨b,i,none⟩ = some (.int .u8 (L[i].toNat: Int)) := h.2 i hi
theorem RBg.lt {W: World} {b: Nat} {L: List UInt8} (h: RBg W b L): b < W.heap.size := h.1
theorem RBg.eq {W W': World} {b: Nat} {L: List UInt8} (h: RBg W b L) (e: W'.heap[b]? = W.heap[b]?): RBg W' b L := by
 refine ⟨?_,fun i hi => ?_⟩
 · have h1 := h.1
   have: (W'.heap[b]?).isSome := by rw [e]; simp [h1]
   simpa using this
 · rw [<- h.2 i hi]
   simp only [World.cell?, e]
theorem RBlk.g {W: World} {b: Nat} {L: List UInt8} (h: RBlk W b L): RBg W b L := ⟨h.lt,h.cell⟩
theorem conv_rbg {W: World} {b: Nat} {L: List UInt8} (h: RBg W b L) (o m cap: Nat) (hl: o + m <= L.length): (convert 81 9 (.slice (some ⟨b,o,none⟩) m cap)).run Tryz.prog W = .ok (.string ⟨(cut L o m).toArray⟩) W := by
 have hm: (cut L o m).length = m := by unfold cut; simp; omega
 have := run_convert_bytes_back (P := Tryz.prog) W 81 9 5 ⟨b,o,none⟩ cap (cut L o m) Tryz.underlying81 Tryz.underlying5 Tryz.underlying9 (fun j hj => by
  rw [show (⟨b,o,none⟩: Addr).add j = ⟨b,o + j,none⟩ by unfold Addr.add; split <;> simp_all,h.cell (o + j) (by omega)]
  have e: (cut L o m)[j] = L[o + j]'(by omega) := by
   have h1: (cut L o m)[j]? = L[o + j]? := by
    unfold cut
    rw [List.getElem?_take,if_pos (by omega),List.getElem?_drop]
   rw [List.getElem?_eq_getElem hj,List.getElem?_eq_getElem (by omega)] at h1
   exact Option.some.inj h1
  rw [e])
 rwa [hm] at this
structure Rg (w: World) (b: Nat) (L: List UInt8) (p: Nat) (lf: Bool) (r k: Value) (l: List ByteArray) (ks: List Int) (wr: World): Prop where
 below: Below w.heap.size w wr
 ge: w.heap.size < p
 blk: RBg wr b L
 n: wr.heap[p]? = some (.cells #[.bool lf,r,k] 91 (0,0))
 z: wr.heap[w.heap.size]? = some (.cells #[.bool false, .slice none 0 0, .slice none 0 0] 91 (0,0))
 rr: wr.ownsRow w.heap.size 9 1 r l.length (svs l)
 kk: wr.ownsRow w.heap.size 3 1 k ks.length (ivs ks)
theorem Rg.on {w: World} {b: Nat} {L: List UInt8} {p: Nat} {lf: Bool} {r k: Value} {l: List ByteArray} {ks: List Int} {wr wr': World} (h: Rg w b L p lf r k l ks wr) (hb: Below wr.heap.size wr wr'): Rg w b L p lf r k l ks wr' :=
 ⟨h.below.trans (hb.mono h.below.size),h.ge,h.blk.eq (hb.block b h.blk.lt),(hb.block _ (Array.getElem?_eq_some_iff.1 h.n).1).trans h.n,(hb.block _ (Array.getElem?_eq_some_iff.1 h.z).1).trans h.z,owns_below h.rr hb,owns_below h.kk hb⟩
theorem Rg.new {w: World} {b: Nat} {L: List UInt8} (h: RBg w b L) (lf: Bool): Rg w b L (w.heap.size + 1) lf (.slice none 0 0) (.slice none 0 0) [] [] ((w.alloc (.cells #[.bool false, .slice none 0 0, .slice none 0 0] 91)).alloc (.cells #[.bool lf, .slice none 0 0, .slice none 0 0] 91)) := by
 have B1 := below_alloc w (.cells #[.bool false, .slice none 0 0, .slice none 0 0] 91)
 have B2 := below_alloc (w.alloc (.cells #[.bool false, .slice none 0 0, .slice none 0 0] 91)) (.cells #[.bool lf, .slice none 0 0, .slice none 0 0] 91)
 have hs: (w.alloc (.cells #[.bool false, .slice none 0 0, .slice none 0 0] 91)).heap.size = w.heap.size + 1 := by simp
 refine ⟨below_on B1 B2,by omega,h.eq ((below_on B1 B2).block b h.lt), ?_,(B2.block _ (by omega)).trans (heap_alloc_last _ _),⟨rfl,Or.inl ⟨rfl,rfl⟩⟩,⟨rfl,Or.inl ⟨rfl,rfl⟩⟩⟩
 rw [<- hs]
 exact heap_alloc_last _ _
theorem Rg.more {w: World} {b: Nat} {L: List UInt8} {p: Nat} {lf: Bool} {r k r': Value} {l: List ByteArray} {ks: List Int} {wr w1 w2: World} {m: Nat} {x: ByteArray} (h: Rg w b L p lf r k l ks wr) (hw: RBg w b L) (hb: Below wr.heap.size wr w1) (hg: w1.grownBy w2 r.ownBlock) (ho: w2.ownsRow w.heap.size 9 1 r' m (svs l ++ svs [x])) (hm: m = l.length + 1) :
 Rg w b L p lf r' k (l ++ [x]) ks (w2.setCell ⟨p,1,none⟩ r') /\ w2.heap[p]? = some (.cells #[.bool lf,r,k] 91 (0,0)) := by
 subst hm
 have h1 := h.on hb
 have hge := h.ge
 have nt: ∀ q,w1.heap[q]? = some (.cells #[.bool lf,r,k] 91 (0,0)) -> some q ≠ r.ownBlock := fun q hq e => by
  rcases h1.rr.2 with ⟨rfl,_⟩ | ⟨g,cap,cur,rfl,_,hc,_⟩
  · simp [Value.ownBlock] at e
  · simp [Value.ownBlock] at e
    subst e
    rw [hq] at hc
    cases hc
 have n2: w2.heap[p]? = some (.cells #[.bool lf,r,k] 91 (0,0)) := (hg.block p (Array.getElem?_eq_some_iff.1 h1.n).1 (nt p h1.n)).trans h1.n
 have z2: w2.heap[w.heap.size]? = some (.cells #[.bool false, .slice none 0 0, .slice none 0 0] 91 (0,0)) := by
  refine (hg.block _ (Array.getElem?_eq_some_iff.1 h1.z).1 fun e => ?_).trans h1.z
  rcases h1.rr.2 with ⟨rfl,_⟩ | ⟨g,cap,cur,rfl,_,hc,_⟩
  · simp [Value.ownBlock] at e
  · simp [Value.ownBlock] at e
    subst e
    rw [h1.z] at hc
    cases hc
 have k2: w2.ownsRow w.heap.size 3 1 k ks.length (ivs ks) := owns_of_block h1.kk fun q hq => hg.block q (h1.kk.lt q hq).2 fun e => by
  rcases h1.rr.2 with ⟨rfl,_⟩ | ⟨g,cap,cur,rfl,_,hc,_⟩
  · simp [Value.ownBlock] at e
  · simp [Value.ownBlock] at e
    subst e
    rcases h1.kk.2 with ⟨rfl,_⟩ | ⟨g',cap',cur',rfl,_,hc',_⟩
    · simp [Value.ownBlock] at hq
    · simp [Value.ownBlock] at hq
      subst hq
      rw [hc] at hc'
      cases hc'
 have b2: Below w.heap.size w w2 := h1.below.grown hg h1.below.size (fun q hq => (h1.rr.lt q hq).1)
 have bs: (w2.setCell ⟨p,1,none⟩ r').heap.size = w2.heap.size := by simp [World.setCell]
 have oth: ∀ q,q ≠ p -> (w2.setCell ⟨p,1,none⟩ r').heap[q]? = w2.heap[q]? := fun q hq => heap_setCell_other _ _ _ _ hq
 refine ⟨⟨b2.setCell (show w.heap.size <= p by omega) r',hge, ?_,heap_setCell_same w2 p 1 _ _ r' n2,(oth _ (by omega)).trans z2, ?_, ?_⟩,n2⟩
 · exact hw.eq ((oth b (by have := hw.lt; omega)).trans (b2.block b hw.lt))
 · have e: svs (l ++ [x]) = svs l ++ svs [x] := by unfold svs; rw [List.map_append]
   rw [e,List.length_append]
   refine owns_of_block ho fun q hq => oth q fun e => ?_
   subst e
   rcases ho.2 with ⟨rfl,_⟩ | ⟨g,cap,cur,rfl,_,hc,_⟩
   · simp [Value.ownBlock] at hq
   · simp [Value.ownBlock] at hq
     subst hq
     rw [n2] at hc
     cases hc
 · refine owns_of_block k2 fun q hq => oth q fun e => ?_
   subst e
   rcases k2.2 with ⟨rfl,_⟩ | ⟨g,cap,cur,rfl,_,hc,_⟩
   · simp [Value.ownBlock] at hq
   · simp [Value.ownBlock] at hq
     subst hq
     rw [n2] at hc
     cases hc
theorem Rg.moreK {w: World} {b: Nat} {L: List UInt8} {p: Nat} {lf: Bool} {r k k': Value} {l: List ByteArray} {ks: List Int} {wr w1 w2: World} {m: Nat} {x: Int} (h: Rg w b L p lf r k l ks wr) (hw: RBg w b L) (hb: Below wr.heap.size wr w1) (hg: w1.grownBy w2 k.ownBlock) (ho: w2.ownsRow w.heap.size 3 1 k' m (ivs ks ++ ivs [x])) (hm: m = ks.length + 1) :
 Rg w b L p lf r k' l (ks ++ [x]) (w2.setCell ⟨p,2,none⟩ k') /\ w2.heap[p]? = some (.cells #[.bool lf,r,k] 91 (0,0)) := by
 subst hm
 have h1 := h.on hb
 have hge := h.ge
 have nt: ∀ q,w1.heap[q]? = some (.cells #[.bool lf,r,k] 91 (0,0)) -> some q ≠ k.ownBlock := fun q hq e => by
  rcases h1.kk.2 with ⟨rfl,_⟩ | ⟨g,cap,cur,rfl,_,hc,_⟩
  · simp [Value.ownBlock] at e
  · simp [Value.ownBlock] at e
    subst e
    rw [hq] at hc
    cases hc
 have n2: w2.heap[p]? = some (.cells #[.bool lf,r,k] 91 (0,0)) := (hg.block p (Array.getElem?_eq_some_iff.1 h1.n).1 (nt p h1.n)).trans h1.n
 have z2: w2.heap[w.heap.size]? = some (.cells #[.bool false, .slice none 0 0, .slice none 0 0] 91 (0,0)) := by
  refine (hg.block _ (Array.getElem?_eq_some_iff.1 h1.z).1 fun e => ?_).trans h1.z
  rcases h1.kk.2 with ⟨rfl,_⟩ | ⟨g,cap,cur,rfl,_,hc,_⟩
  · simp [Value.ownBlock] at e
  · simp [Value.ownBlock] at e
    subst e
    rw [h1.z] at hc
    cases hc
 have k2: w2.ownsRow w.heap.size 9 1 r l.length (svs l) := owns_of_block h1.rr fun q hq => hg.block q (h1.rr.lt q hq).2 fun e => by
  rcases h1.kk.2 with ⟨rfl,_⟩ | ⟨g,cap,cur,rfl,_,hc,_⟩
  · simp [Value.ownBlock] at e
  · simp [Value.ownBlock] at e
    subst e
    rcases h1.rr.2 with ⟨rfl,_⟩ | ⟨g',cap',cur',rfl,_,hc',_⟩
    · simp [Value.ownBlock] at hq
    · simp [Value.ownBlock] at hq
      subst hq
      rw [hc] at hc'
      cases hc'
 have b2: Below w.heap.size w w2 := h1.below.grown hg h1.below.size (fun q hq => (h1.kk.lt q hq).1)
 have bs: (w2.setCell ⟨p,2,none⟩ k').heap.size = w2.heap.size := by simp [World.setCell]
 have oth: ∀ q,q ≠ p -> (w2.setCell ⟨p,2,none⟩ k').heap[q]? = w2.heap[q]? := fun q hq => heap_setCell_other _ _ _ _ hq
 refine ⟨⟨b2.setCell (show w.heap.size <= p by omega) k',hge, ?_,heap_setCell_same w2 p 2 _ _ k' n2,(oth _ (by omega)).trans z2, ?_, ?_⟩,n2⟩
 · exact hw.eq ((oth b (by have := hw.lt; omega)).trans (b2.block b hw.lt))
 · refine owns_of_block k2 fun q hq => oth q fun e => ?_
   subst e
   rcases k2.2 with ⟨rfl,_⟩ | ⟨g,cap,cur,rfl,_,hc,_⟩
   · simp [Value.ownBlock] at hq
   · simp [Value.ownBlock] at hq
     subst hq
     rw [n2] at hc
     cases hc
 · have e: ivs (ks ++ [x]) = ivs ks ++ ivs [x] := by unfold ivs; rw [List.map_append]
   rw [e,List.length_append]
   refine owns_of_block ho fun q hq => oth q fun e => ?_
   subst e
   rcases ho.2 with ⟨rfl,_⟩ | ⟨g,cap,cur,rfl,_,hc,_⟩
   · simp [Value.ownBlock] at hq
   · simp [Value.ownBlock] at hq
     subst hq
     rw [n2] at hc
     cases hc
theorem Rg.fail {w: World} {b: Nat} {L: List UInt8} {p: Nat} {lf: Bool} {r k: Value} {l: List ByteArray} {ks: List Int} {W: World} (h: Rg w b L p lf r k l ks W) (x y z: Value): ROut w x y z (put3 W w.heap.size x y z) := by
 obtain ⟨c0,c1,c2⟩ := node_cells (rput3_block h.z x y z)
 exact ⟨c0,c1,c2,put3_below h.below (Nat.le_refl _) x y z⟩
theorem Rg.done {w: World} {b: Nat} {L: List UInt8} {p: Nat} {lf: Bool} {r k: Value} {l: List ByteArray} {ks: List Int} {W: World} (h: Rg w b L p lf r k l ks W) (x y z: Value): RRes w x y z l.length (svs l) ks.length (ivs ks) (put3 W w.heap.size x y z) \/ ¬ (y = r /\ z = k) := by
 by_cases e: y = r /\ z = k
 · obtain ⟨rfl,rfl⟩ := e
   refine Or.inl ⟨h.fail x y z,owns_of_block h.rr fun q hq => put3_other (fun e => ?_) x y z,owns_of_block h.kk fun q hq => put3_other (fun e => ?_) x y z⟩
   · subst e
     rcases h.rr.2 with ⟨rfl,_⟩ | ⟨g,cap,cur,rfl,_,hc,_⟩
     · simp [Value.ownBlock] at hq
     · simp [Value.ownBlock] at hq
       subst hq
       rw [h.z] at hc
       cases hc
   · subst e
     rcases h.kk.2 with ⟨rfl,_⟩ | ⟨g,cap,cur,rfl,_,hc,_⟩
     · simp [Value.ownBlock] at hq
     · simp [Value.ownBlock] at hq
       subst hq
       rw [h.z] at hc
       cases hc
 · exact Or.inr e
theorem Rg.all {w: World} {b: Nat} {L: List UInt8} {p: Nat} {lf: Bool} {r k: Value} {l: List ByteArray} {ks: List Int} {W: World} (h: Rg w b L p lf r k l ks W) (x: Value): RRes w x r k l.length (svs l) ks.length (ivs ks) (put3 W w.heap.size x r k) := by
 rcases h.done x r k with h | h
 · exact h
 · exact absurd ⟨rfl,rfl⟩ h
end Go.Proofs.YtdnkbdjhccckhaaGreat.L5
