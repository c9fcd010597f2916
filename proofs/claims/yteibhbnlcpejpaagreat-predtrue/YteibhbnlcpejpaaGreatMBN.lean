import Derived.Deep.RegionHeld
import Derived.Test.YteibhbnlcpejpaaGreatMAX
set_option maxRecDepth 100000
set_option maxHeartbeats 4000000
namespace Go.Proofs.YteibhbnlcpejpaaGreat
open Go.RowKit
def Off (p: Nat -> Prop): Nat -> XL -> Prop
 | 0,_ => True
 | n + 1,x => (x.kids = [] \/ ∀ b o,x.a = some ⟨b,o,none⟩ -> p b) /\ ∀ k ∈ x.kids,Off p n k
theorem Off.mono {p q: Nat -> Prop} (hpq: ∀ b,p b -> q b): ∀ {n: Nat} {x: XL},Off p n x -> Off q n x
 | 0,_,_ => trivial
 | _ + 1,_,h => ⟨h.1.imp id fun h b o e => hpq b (h b o e),fun k hk => (h.2 k hk).mono hpq⟩
theorem In.turn {p: Nat -> Prop}: ∀ {n: Nat} {w W: World} {x: XL},In n w x -> Off p n x -> w.heap.size <= W.heap.size -> (∀ b,b < w.heap.size -> p b -> W.heap[b]? = w.heap[b]?) -> In n W x
 | 0,_,_,_,_,_,_,_ => trivial
 | _ + 1,_,_,_,h,ho,hs,hb => ⟨h.1,by
  rcases ho.1 with e | e
  · rw [e]; exact Or.inl rfl
  · exact h.2.1.turn hs fun b o ea hlt => hb b hlt (e b o ea),fun k hk => (h.2.2 k hk).turn (ho.2 k hk) hs hb⟩
theorem In.off {p: Nat -> Prop}: ∀ {n: Nat} {w: World} {x: XL},In n w x -> Off p n x -> Off (fun b => p b /\ b < w.heap.size) n x
 | 0,_,_,_,_ => trivial
 | _ + 1,_,_,h,ho => ⟨by
  rcases ho.1 with e | e
  · exact Or.inl e
  · rcases h.2.1 with e' | ⟨b,o,e',hlt,_⟩
    · exact Or.inl e'
    · exact Or.inr fun b' o' e'' => ⟨e b' o' e'',by rw [e'] at e''; cases e''; exact hlt⟩,fun k hk => (h.2.2 k hk).off (ho.2 k hk)⟩
theorem append_big {P: Program} {ops: Array Oper} {rest: List Oper} {o: Oper} {a: Act} {Q: Exit -> Act -> World -> Prop} {W1: World} {t e: TypeId} {z: Value} {size bytes: Nat} (ht: P.underlying t = some (.slice e)) (hinfo: (P.info? e).map (fun i => (i.zero,i.size,i.bytes)) = some (some z,size,bytes)) (hzs: z.cells.size = size) (hsz: 0 < size)
 (hgd: o.guard = none) (s x: Operand) (ho: o.op = .call { callee := .builtin .append,args := #[s,x],argTypes := #[t,t] })
 (base: Nat) (hbase: base <= W1.heap.size) (v: Value) (n: Nat) (xs: List Value) (hs: a.eval s = v) (h: W1.ownsRow base e size v n xs) (b: Option Addr) (m cap: Nat) (news: List Value) (hx: a.eval x = .slice b m cap) (hm: Rw.Src W1 b m cap news)
 (hl: news.length = m * size) (h1: ∀ u ∈ news,u.oneCell' = true) (hn: n + m <= maxLen) (hn2: (n + m) * bytes <= 140737488355328)
 (hK: ∀ v' W',W'.ownsRow base e size v' (n + m) (xs ++ news) -> W1.grownBy W' v.ownBlock -> (v'.ownBlock = v.ownBlock \/ v'.ownBlock = some W1.heap.size) -> wpList P ops Q rest (a.put o.dst v') W'): wpList P ops Q (o :: rest) a W1 := by
 obtain ⟨i,hi,hz⟩ := Option.map_eq_some_iff.1 hinfo
 simp only [Prod.mk.injEq] at hz
 obtain ⟨h3,h4,h5⟩ := hz
 rcases hm with ⟨rfl,rfl,rfl,rfl⟩ | ⟨ad,rfl,hc⟩
 · exact wpList_append_own_none hgd s x t ho base e i size ht hi v n xs hs h hx (hK v W1 (by rw [List.append_nil]; exact h) ⟨rfl,rfl,rfl,Nat.le_refl _,fun _ _ _ => rfl⟩ (Or.inl rfl))
 · exact wpList_append_own_at (P := P) W1 hgd s x t ho base e i z size bytes ht hi h3 h4 h5 hzs hsz v n xs hs h ad m cap news hx hl hc h1 hn hn2 hbase fun v' W' g1 g2 _ g4 => hK v' W' g1 g2 g4
theorem infoRX: (Tryz.prog.info? 51).map (fun i => (i.zero,i.size,i.bytes)) = some (some (xV zXL),7,104) := by kernel_rfl
def PlainP (n: Nat) (x: XL) (w: World) (e: Ending) (W: World): Prop := ∃ y,e = .returned (xV y) /\ Like n x y /\ (∀ m,In m W y /\ Off (fun b => w.heap.size <= b) m y) /\ Below w.heap.size w W
def PlainsP (n: Nat) (l: List XL) (w: World) (e: Ending) (W: World): Prop := ∃ a c l',e = .returned (.slice a l.length c) /\ l'.length = l.length /\ Rw.SlG xC 7 W a l' /\ (l' = [] \/ ∀ b o,a = some ⟨b,o,none⟩ -> w.heap.size <= b) /\ (∀ k ∈ l',∀ m,In m W k /\ Off (fun b => w.heap.size <= b) m k) /\ (∀ (j: Nat) k k',l[j]? = some k -> l'[j]? = some k' -> Like n k k') /\ Below w.heap.size w W
structure PlI (n: Nat) (l: List XL) (w wr: World) (v: Value) (j: Nat) (l': List XL): Prop where
 len: l'.length = j
 own: wr.ownsRow w.heap.size 51 7 v j (Rw.flat xC l')
 ins: ∀ k ∈ l',∀ m,In m wr k /\ Off (fun b => w.heap.size <= b /\ v.ownBlock ≠ some b) m k
 like: ∀ (i: Nat) k k',l[i]? = some k -> l'[i]? = some k' -> Like n k k'
 bel: Below w.heap.size w wr
theorem PlI.step {n: Nat} {l: List XL} {w wr w0 w1 U W2: World} {v v2: Value} {j: Nat} {l': List XL} {k y: XL} (h: PlI n l w wr v j l') (hk: l[j]? = some k) (b0: Below wr.heap.size wr w0) (hL: Like n k y) (hI: ∀ m,In m w1 y /\ Off (fun b => w0.heap.size <= b) m y) (b1: Below w0.heap.size w0 w1) (bU: Below w1.heap.size w1 U)
 (O2: W2.ownsRow w.heap.size 51 7 v2 (j + 1) (Rw.flat xC (l' ++ [y]))) (G2: U.grownBy W2 v.ownBlock) (hv: v2.ownBlock = v.ownBlock \/ v2.ownBlock = some U.heap.size): PlI n l w W2 v2 (j + 1) (l' ++ [y]) := by
 have bA := dig_below_on (dig_below_on b0 b1) bU
 have bB := dig_below_on h.bel bA
 have key: ∀ z m,In m U z -> Off (fun b => w.heap.size <= b /\ v.ownBlock ≠ some b) m z -> In m W2 z /\ Off (fun b => w.heap.size <= b /\ v2.ownBlock ≠ some b) m z := fun z m i1 o1 => by
  refine ⟨i1.turn o1 G2.size fun b hb hp => G2.block b hb fun e => hp.2 e.symm,(i1.off o1).mono fun b hb => ⟨hb.1.1, ?_⟩⟩
  rcases hv with e | e
  · rw [e]; exact hb.1.2
  · rw [e]; intro e'; cases e'; exact absurd hb.2 (Nat.lt_irrefl _)
 refine ⟨by simp [h.len],O2, ?_, ?_,bB.grown G2 bB.size fun p hp => (Rw.owns_on h.own bA |>.lt p hp).1⟩
 · intro z hz m
   rcases List.mem_append.1 hz with hz | hz
   · exact key z m ((h.ins z hz m).1.on bA) (h.ins z hz m).2
   · simp at hz
     subst hz
     refine key z m ((hI m).1.on bU) ((hI m).2.mono fun b hb => ⟨?_,fun e => ?_⟩)
     · have := h.bel.size; have := b0.size; omega
     · have := (h.own.lt b e).2; have := b0.size; omega
 · intro i p p' h1 h2
   by_cases hij: i < l'.length
   · rw [List.getElem?_append_left hij] at h2
     exact h.like i p p' h1 h2
   · rw [List.getElem?_append_right (by omega)] at h2
     have hi0: i - l'.length = 0 := by
      have := (List.getElem?_eq_some_iff.1 h2).1
      simp at this; omega
     rw [hi0] at h2
     simp at h2
     subst h2
     have: i = j := by have := h.len; omega
     subst this
     rw [hk] at h1
     cases h1
     exact hL
theorem plains_walk (n: Nat) (IH0: ∀ (x: XL) (w: World),In n w x -> deepB n x = false -> Calls Tryz.prog 13 #[xV x] w (PlainP n x w)) {l: List XL} {a: Option Addr} {c: Nat} {w: World} (hS: Rw.SlG xC 7 w a l) (hI: ∀ k ∈ l,In n w k) (hd: ∀ k ∈ l,deepB n k = false) (hl: l.length <= 1353245080300) :
 Calls Tryz.prog 68 #[.slice a l.length c] w (PlainsP n l w) := by
 have IH := Rw.dh IH0
 have HS := Rw.dh hS
 have HK := Rw.dh hI
 have HD := Rw.dh hd
 clear IH0 hS hI hd
 go_enter Tryz.func68,Tryz.ntmps68
 go_wp2_with fail
 go_loopw [3,8] (fun v i wr => ∃ (j: Nat) (l': List XL),j <= l.length /\ i = .int .i64 (j: Int) /\ Hid (PlI n l w wr v j l')) (fun _ i _ => l.length - (intOf i).toNat)
 case atStart => exact ⟨0,[],Nat.zero_le _,rfl,rfl,World.ownsRow_nil _ _ _ _,fun k hk => (by cases hk),fun i k k' _ h => (by cases h),Below.refl _ _⟩
 case round =>
  obtain ⟨j,l',hj,rfl,HR⟩ := hrel
  by_cases hlt: j < l.length
  · obtain ⟨b,o,k,rfl,hb,hx,hc⟩ := (HS.out.below HR.out.bel).at hlt
    have HX := Rw.dh hx
    have HKk := Rw.dh ((HK.out k (List.mem_of_getElem? hx)).on HR.out.bel)
    have HDk := Rw.dh (HD.out k (List.mem_of_getElem? hx))
    have c0: wr.cell? ⟨b,o + j * 7,none⟩ = some (.string k.op) := hc 0 _ rfl
    have c1: wr.cell? ⟨b,o + j * 7 + 1,none⟩ = some (.int .i64 k.vk) := hc 1 _ rfl
    have c2: wr.cell? ⟨b,o + j * 7 + 2,none⟩ = some (.int .i64 k.vn) := hc 2 _ rfl
    have c3: wr.cell? ⟨b,o + j * 7 + 3,none⟩ = some (.string k.vs) := hc 3 _ rfl
    have c4: wr.cell? ⟨b,o + j * 7 + 4,none⟩ = some (.string k.var) := hc 4 _ rfl
    have c5: wr.cell? ⟨b,o + j * 7 + 5,none⟩ = some (.string k.col) := hc 5 _ rfl
    have c6: wr.cell? ⟨b,o + j * 7 + 6,none⟩ = some (.slice k.a k.kids.length k.c) := hc 6 _ rfl
    clear hc hx
    go_wp2_with fail
    refine (IH.out k _ (HKk.out.on (Rw.below_alloc _ _)) HDk.out).mono ?_
    rintro e w1 ⟨y,rfl,hL,hIy,hb1⟩
    have HL := Rw.dh hL
    have HIy := Rw.dh hIy
    have HB1 := Rw.dh hb1
    clear hL hIy hb1 c0 c1 c2 c3 c4 c5 c6 hb
    unfold xV
    go_wp2_with (at_builtin; revert HR)
    intro HR
    refine Rw.to_letter (F := fun W => Below w1.heap.size w1 W /\ Rw.Src W (some ⟨w1.heap.size,0,none⟩) 1 1 (xC y)) ⟨Rw.below_alloc _ _,Rw.src_new _ (xC y) _ 1 1 rfl⟩ ?_
    rintro U ⟨bU,sU⟩
    have bA := dig_below_on (dig_below_on (Rw.below_alloc wr _) HB1.out) bU
    have o1 := Rw.owns_on HR.out.own bA
    refine append_big Tryz.underlying49 infoRX rfl (by decide) rfl _ _ rfl w.heap.size (dig_below_on HR.out.bel bA).size _ j (Rw.flat xC l') rfl o1 _ 1 1 (xC y) rfl sU rfl (xC_one _) (by unfold maxLen; omega) (by omega) ?_
    intro v2 W2 O2 G2 hv2
    have HR2: Hid (PlI n l w W2 v2 (j + 1) (l' ++ [y])) := HR.out.step HX.out (Rw.below_alloc wr _) HL.out HIy.out HB1.out bU (by rw [Rw.flat_append]; simpa [Rw.flat] using O2) G2 hv2
    clear O2 G2 hv2 o1 bA sU bU HR HL HIy HB1
    go_wp2_with fail
    exact ⟨⟨j + 1,_,hlt,by go_num,HR2⟩,by simp [intOf]; omega⟩
  · have hjs: j = l.length := by omega
    subst hjs
    have ho := HR.out.own
    obtain ⟨a',c',rfl⟩ := Rw.owns_slice ho
    have hs := Rw.owns_slg xC_len (by decide) ho
    have HE: Hid (PlainsP n l w (.returned (.slice a' l.length c')) wr) := by
     refine ⟨a',c',l',rfl,hs.1,hs.2.1, ?_,fun k hk m => ⟨(HR.out.ins k hk m).1,(HR.out.ins k hk m).2.mono fun b h => h.1⟩,HR.out.like,HR.out.bel⟩
     rcases Rw.owns_addr ho with ⟨rfl,_,_⟩ | ⟨g,rfl⟩
     · exact Or.inr fun b o e => by cases e
     · exact Or.inr fun b o e => by cases e; exact (ho.lt g rfl).1
    clear ho hs
    go_wp2
    go_ret
    exact HE.out
def zRX: Obj := (.cells #[.string ⟨#[]⟩, .int .i64 0, .int .i64 0, .string ⟨#[]⟩, .string ⟨#[]⟩, .string ⟨#[]⟩, .slice none 0 0] 51 (0,0))
def ZRX (W: World) (p: Nat): Prop := W.cell? ⟨p,0,none⟩ = some (.string ⟨#[]⟩) /\ W.cell? ⟨p,1,none⟩ = some (.int .i64 0) /\ W.cell? ⟨p,2,none⟩ = some (.int .i64 0) /\ W.cell? ⟨p,3,none⟩ = some (.string ⟨#[]⟩) /\ W.cell? ⟨p,4,none⟩ = some (.string ⟨#[]⟩) /\ W.cell? ⟨p,5,none⟩ = some (.string ⟨#[]⟩) /\ W.cell? ⟨p,6,none⟩ = some (.slice none 0 0) /\
 W.frozen? ⟨p,0,none⟩ = false /\ W.frozen? ⟨p,1,none⟩ = false /\ W.frozen? ⟨p,2,none⟩ = false /\ W.frozen? ⟨p,3,none⟩ = false /\ W.frozen? ⟨p,4,none⟩ = false /\ W.frozen? ⟨p,5,none⟩ = false /\ W.frozen? ⟨p,6,none⟩ = false
theorem zRX_at {W: World} {p: Nat} (h: W.heap[p]? = some zRX): ZRX W p :=
 ⟨by rw [cell_of_row _ _ _ _ _ _ h]; rfl,by rw [cell_of_row _ _ _ _ _ _ h]; rfl,by rw [cell_of_row _ _ _ _ _ _ h]; rfl,by rw [cell_of_row _ _ _ _ _ _ h]; rfl,by rw [cell_of_row _ _ _ _ _ _ h]; rfl,by rw [cell_of_row _ _ _ _ _ _ h]; rfl,by rw [cell_of_row _ _ _ _ _ _ h]; rfl,
  frozen_of_row _ _ _ _ _ h,frozen_of_row _ _ _ _ _ h,frozen_of_row _ _ _ _ _ h,frozen_of_row _ _ _ _ _ h,frozen_of_row _ _ _ _ _ h,frozen_of_row _ _ _ _ _ h,frozen_of_row _ _ _ _ _ h⟩
theorem below_set7 {B p: Nat} {a w: World} (hb: B <= p) (h: Below B a w) (v0 v1 v2 v3 v4 v5 v6: Value): Below B a (((((((w.setCell ⟨p,0,none⟩ v0).setCell ⟨p,1,none⟩ v1).setCell ⟨p,2,none⟩ v2).setCell ⟨p,3,none⟩ v3).setCell ⟨p,4,none⟩ v4).setCell ⟨p,5,none⟩ v5).setCell ⟨p,6,none⟩ v6) :=
 ((((((h.setCell hb v0).setCell hb v1).setCell hb v2).setCell hb v3).setCell hb v4).setCell hb v5).setCell hb v6
theorem heap_set7 {p q: Nat} (hq: q ≠ p) (w: World) (v0 v1 v2 v3 v4 v5 v6: Value): (((((((w.setCell ⟨p,0,none⟩ v0).setCell ⟨p,1,none⟩ v1).setCell ⟨p,2,none⟩ v2).setCell ⟨p,3,none⟩ v3).setCell ⟨p,4,none⟩ v4).setCell ⟨p,5,none⟩ v5).setCell ⟨p,6,none⟩ v6).heap[q]? = w.heap[q]? := by
 rw [heap_setCell_other _ _ _ _ hq,heap_setCell_other _ _ _ _ hq,heap_setCell_other _ _ _ _ hq,heap_setCell_other _ _ _ _ hq,heap_setCell_other _ _ _ _ hq,heap_setCell_other _ _ _ _ hq,heap_setCell_other _ _ _ _ hq]
theorem plain_end {n: Nat} {xo: ByteArray} {xk xn: Int} {xs xv xc: ByteArray} {xa: Option Addr} {xp: Nat} {l: List XL} {w W0 w1 W3: World} {a': Option Addr} {c': Nat} (HX: XOk (.mk xo xk xn xs xv xc xa xp l)) (B0: Below w.heap.size w W0) (hsz: W0.heap.size = w.heap.size + 2) (HY: PlainsP n l W0 (.returned (.slice a' l.length c')) w1)
 (b3: Below (w.heap.size + 1) W0 W3) (h3: ∀ q,q ≠ w.heap.size + 1 -> W3.heap[q]? = w1.heap[q]?) (hs: w1.heap.size <= W3.heap.size): PlainP (n + 1) (.mk xo xk xn xs xv xc xa xp l) w (.returned (.agg #[.string xo, .int .i64 xk, .int .i64 xn, .string xs, .string xv, .string xc, .slice a' l.length c'])) W3 := by
 obtain ⟨a1,c1,l',e,hl',hS',ho',hk',hL',hb'⟩ := HY
 cases e
 have key: ∀ b,W0.heap.size <= b -> W3.heap[b]? = w1.heap[b]? := fun b hb => h3 b (by omega)
 refine ⟨.mk xo xk xn xs xv xc a' c' l', ?_, ?_, ?_, ?_⟩
 · show Ending.returned (.agg #[.string xo, .int .i64 xk, .int .i64 xn, .string xs, .string xv, .string xc, .slice a' l.length c']) = .returned (.agg #[.string xo, .int .i64 xk, .int .i64 xn, .string xs, .string xv, .string xc, .slice a' l'.length c'])
   rw [hl']
 · exact ⟨rfl,rfl,rfl,rfl,rfl,rfl,hl'.symm,hL'⟩
 · intro m
   cases m with
   | zero => exact ⟨trivial,trivial⟩
   | succ m =>
    refine ⟨⟨⟨HX.k,HX.n,HX.op,HX.vs,HX.var,HX.col, ?_⟩, ?_,fun k hk => (hk' k hk m).1.turn (hk' k hk m).2 hs fun b _ hb => key b hb⟩, ?_,fun k hk => (hk' k hk m).2.mono fun b hb => ?_⟩
    · show l'.length <= _
      rw [hl']; exact HX.kids
    · show Rw.SlG xC 7 W3 a' l'
      rcases ho' with e | e
      · rw [e]; exact Or.inl rfl
      · exact hS'.turn hs fun b o ea _ => key b (e b o ea)
    · rcases ho' with e | e
      · exact Or.inl e
      · exact Or.inr fun b o ea => by have := e b o ea; omega
    · omega
 · exact B0.trans (b3.mono (by omega))
theorem plain_walk: ∀ (n: Nat) (x: XL) (w: World),In n w x -> deepB n x = false -> Calls Tryz.prog 13 #[xV x] w (PlainP n x w)
 | 0,_,_,_,h => by cases h
 | n + 1, .mk xo xk xn xs xv xc xa xp l,w,hi,hd => by
  have hd': ∀ k ∈ l,deepB n k = false := fun k hk => by
   have: l.any (deepB n) = false := hd
   exact Bool.eq_false_iff.2 (List.any_eq_false.1 this k hk)
  have HC: Hid (∀ W,Below w.heap.size w W -> Calls Tryz.prog 68 #[.slice xa l.length xp] W (PlainsP n l W)) := fun W hb => plains_walk n (plain_walk n) (c := xp) (hi.2.1.below hb) (fun k hk => (hi.2.2 k hk).on hb) hd' hi.1.kids
  have HX := Rw.dh hi.1
  clear hi hd hd'
  show Calls Tryz.prog 13 #[.agg #[.string xo, .int .i64 xk, .int .i64 xn, .string xs, .string xv, .string xc, .slice xa l.length xp]] w _
  go_enter Tryz.func13,Tryz.ntmps13
  go_wp2_with fail
  refine Rw.to_letter (F := fun W => Below w.heap.size w W /\ W.heap.size = w.heap.size + 2 /\ W.heap[w.heap.size + 1]? = some zRX /\ W.cell? ⟨w.heap.size,0,none⟩ = some (.string xo) /\ W.cell? ⟨w.heap.size,1,none⟩ = some (.int .i64 xk) /\ W.cell? ⟨w.heap.size,2,none⟩ = some (.int .i64 xn) /\ W.cell? ⟨w.heap.size,3,none⟩ = some (.string xs) /\ W.cell? ⟨w.heap.size,4,none⟩ = some (.string xv) /\ W.cell? ⟨w.heap.size,5,none⟩ = some (.string xc) /\ W.cell? ⟨w.heap.size,6,none⟩ = some (.slice xa l.length xp)) ⟨(Rw.below_alloc _ _).alloc (by simp) _,by simp,by rw [show w.heap.size + 1 = (w.alloc (.cells #[.string xo, .int .i64 xk, .int .i64 xn, .string xs, .string xv, .string xc, .slice xa l.length xp] 30)).heap.size by simp]; exact heap_alloc_new _ _,by simp [go_sem],by simp [go_sem],by simp [go_sem],by simp [go_sem],by simp [go_sem],by simp [go_sem],by simp [go_sem]⟩ ?_
  rintro W0 ⟨B0,hsz,Z0,d0,d1,d2,d3,d4,d5,d6⟩
  have KS: Hid (∀ W,Below (w.heap.size + 1) W0 W -> W.cell? ⟨w.heap.size,0,none⟩ = some (.string xo) /\ W.cell? ⟨w.heap.size,1,none⟩ = some (.int .i64 xk) /\ W.cell? ⟨w.heap.size,2,none⟩ = some (.int .i64 xn) /\ W.cell? ⟨w.heap.size,3,none⟩ = some (.string xs) /\ W.cell? ⟨w.heap.size,4,none⟩ = some (.string xv) /\ W.cell? ⟨w.heap.size,5,none⟩ = some (.string xc) /\ W.cell? ⟨w.heap.size,6,none⟩ = some (.slice xa l.length xp)) := fun W hb => by
   refine ⟨?_, ?_, ?_, ?_, ?_, ?_, ?_⟩ <;> rw [hb.cell (Nat.lt_succ_self _)] <;> assumption
  have KZ: Hid (∀ W,Below W0.heap.size W0 W -> ZRX W (w.heap.size + 1)) := fun W hb => zRX_at (by rw [hb.block _ (by omega)]; exact Z0)
  have HC2: Hid (Calls Tryz.prog 68 #[.slice xa l.length xp] W0.drew fun e w1 => ∃ a' c',e = .returned (.slice a' l.length c') /\ (Hid (PlainsP n l W0 (.returned (.slice a' l.length c')) w1) /\ Hid (Below (w.heap.size + 1) W0 w1)) /\ ZRX w1 (w.heap.size + 1)) := (HC.out _ B0.drew).mono (by
   rintro e w1 ⟨a',c',l',rfl,hl',hS',ho',hk',hL',hb'⟩
   have hb1: Below W0.heap.size W0 w1 := (Below.refl _ W0).drew.trans (hb'.mono (Nat.le_refl _))
   exact ⟨a',c',rfl,⟨⟨a',c',l',rfl,hl',hS',ho',hk',hL',hb1⟩,hb1.mono (by omega)⟩,KZ.out _ hb1⟩)
  go_region_held (fun W => W.cell? ⟨w.heap.size,0,none⟩ = some (.string xo) /\ W.cell? ⟨w.heap.size,1,none⟩ = some (.int .i64 xk) /\ W.cell? ⟨w.heap.size,2,none⟩ = some (.int .i64 xn) /\ W.cell? ⟨w.heap.size,3,none⟩ = some (.string xs) /\ W.cell? ⟨w.heap.size,4,none⟩ = some (.string xv) /\ W.cell? ⟨w.heap.size,5,none⟩ = some (.string xc) /\ W.cell? ⟨w.heap.size,6,none⟩ = some (.slice xa l.length xp)) (exact KS.out _ (by with_reducible (first | exact Below.refl _ _ | exact (Below.refl _ _).drew | exact HBb.out | exact below_set7 (Nat.le_refl _) HBb.out _ _ _ _ _ _ _))) (first
   | (go_at_call 68
      refine HC2.out.mono ?_
      rintro e w1 ⟨a',c',rfl,⟨HY,HBb⟩,z0,z1,z2,z3,z4,z5,z6,f0,f1,f2,f3,f4,f5,f6⟩))
  have HP := Rw.dh (fun (W3: World) b3 h3 hs => plain_end (W3 := W3) HX.out B0 hsz HY.out b3 h3 hs)
  have hlt1: w.heap.size + 1 < w1.heap.size := by have := HBb.out.size; omega
  go_wp2
  refine bodyPost_ret (v := .agg #[.string xo, .int .i64 xk, .int .i64 xn, .string xs, .string xv, .string xc, .slice a' l.length c']) ?_ rfl (HP.out _ (below_set7 (Nat.le_refl _) HBb.out _ _ _ _ _ _ _) (fun q hq => heap_set7 hq _ _ _ _ _ _ _ _) (by simp))
  simp [results,Tryz.results13,go_sem,z0,z1,z2,z3,z4,z5,z6]
end Go.Proofs.YteibhbnlcpejpaaGreat
