import Derived.Test.YtdnkbdjhccckhaaGreatMAW
set_option maxRecDepth 100000
set_option maxHeartbeats 4000000
namespace Go.Proofs.YtdnkbdjhccckhaaGreat
open Go.RowKit
open L4 (Ar ArP Abs arV nv)
def laidA (a: Abs) (Ld: List Lay): Abs := Ld.foldl (fun a y => a.lay y.at_ (some (L5.pageL y.n.toNd))) a
theorem laidA_snoc (a: Abs) (Ld: List Lay) (y: Lay): laidA a (Ld ++ [y]) = layN (laidA a Ld) y.at_ y.n := by
 unfold laidA layN
 rw [List.foldl_append]
 rfl
theorem laidA_next (Ld: List Lay): ∀ a: Abs,(laidA a Ld).next = a.next := by
 induction Ld with
 | nil => intro a; rfl
 | cons y l ih => intro a; exact (ih (layN a y.at_ y.n)).trans (layN_next a y.at_ y.n)
theorem laidA_alloc (Ld: List Lay): ∀ a: Abs,a.Ok -> (∀ y ∈ Ld,∃ c,a.at (y.at_: Int) = some c) -> (∀ y ∈ Ld,y.n.size <= 1024) -> (laidA a Ld).alloc = laidA a.alloc Ld := by
 induction Ld with
 | nil => intro a _ _ _; rfl
 | cons y l ih =>
  intro a ho hat hz
  obtain ⟨c,hc⟩ := hat y (by simp)
  have e: laidA a (y :: l) = laidA (layN a y.at_ y.n) l := rfl
  have e': laidA a.alloc (y :: l) = laidA (layN a.alloc y.at_ y.n) l := rfl
  rw [e,e', <- lay_alloc ho hc]
  refine ih _ (layN_ok ho hc (hz y (by simp))) (fun z hz' => ?_) (fun z hz' => hz z (by simp [hz']))
  obtain ⟨d,hd⟩ := hat z (by simp [hz'])
  by_cases he: z.at_ = y.at_
  · rw [he]; exact ⟨_,at_lay_same hc _⟩
  · exact ⟨d,by unfold layN; rw [at_lay_ne he (at_pos hc)]; exact hd⟩
theorem grows_fit {ups: List Pl} {a: Abs} {at_: Nat} {n: L5.No} (h: n.size <= 1024): grows ups a at_ n = (layN a at_ n,none) := by
 cases ups <;> (unfold grows; rw [if_pos h])
theorem alloc_keeps {a: Abs} (ho: a.Ok) {p: Nat} (h: ∃ c,a.at (p: Int) = some c): ∃ c,a.alloc.at (p: Int) = some c := by
 obtain ⟨c,hc⟩ := h
 refine ⟨c, ?_⟩
 rw [(at_alloc ho).2 p fun e => ?_]
 · exact hc
 · rw [e,(next_pos ho).2] at hc; cases hc
def headR (o: Option Nat) (xr: Nat): Nat := o.getD xr
def headH (o: Option Nat) (xh: Nat): Nat := xh + if o.isSome then 1 else 0
def GrowP (N t x r h l xl: Nat) (gn: Value) (m: Nat): Prop := ∀ (B: Nat) (s: Ar) (xr xh: Nat) (tk ld: Value) (T: List Nat) (Ld Lw: List Lay) (w: World) (n: L5.No) (at_ g cp kid: Nat) (ra ka: Option Addr) (rc kc: Nat),Lw.length = m -> m <= 4096 -> N <= B -> Es B s t x r h l xr xh xl tk ld gn T Ld [] w -> Ld.length + 2 * m + 3 <= 10000 -> T.length + m + 2 <= 10000 -> WayS N B s g Lw w -> WayL w m g cp at_ n (.slice ra n.recs.length rc) (.slice ka n.kids.length kc) kid ->
 w.ownsRow N 9 1 (.slice ra n.recs.length rc) n.recs.length (L5.svs n.recs) -> w.ownsRow N 3 1 (.slice ka n.kids.length kc) n.kids.length (L5.ivs n.kids) -> (∀ q,s.own q -> (Value.slice ka n.kids.length kc).ownBlock ≠ some q) -> (∀ q,tk.ownBlock = some q -> (Value.slice ka n.kids.length kc).ownBlock ≠ some q) -> (∀ q,gn.ownBlock = some q -> (Value.slice ka n.kids.length kc).ownBlock ≠ some q) ->
 s.abs.Ok -> m + 2 <= s.abs.left -> (∀ y ∈ Ld,y.n.small /\ y.n.shaped = true /\ y.n.size <= 1024) -> (∀ y ∈ Ld,∃ c,s.abs.at (y.at_: Int) = some c) -> (∃ c,s.abs.at (at_: Int) = some c) -> (∀ y ∈ Lw,∃ c,s.abs.at (y.at_: Int) = some c) -> GrowOk (Lw.reverse.map Lay.pl) (laidA s.abs Ld) at_ n -> xh <= 1000000 ->
 Calls Tryz.prog 66 #[.pointer (some ⟨x,0,none⟩), .slice (some ⟨g,0,none⟩) (m + 1) cp] w fun e w' => e = .returned (.tuple #[]) /\ Done N s t x r h l (headR (grows (Lw.reverse.map Lay.pl) (laidA s.abs Ld) at_ n).2 xr) (headH (grows (Lw.reverse.map Lay.pl) (laidA s.abs Ld) at_ n).2 xh) xl (grows (Lw.reverse.map Lay.pl) (laidA s.abs Ld) at_ n).1 w w'
theorem grow_fits {N t x r h l xl: Nat} {gn: Value} {m: Nat} (B: Nat) (s: Ar) (xr xh: Nat) (tk ld: Value) (T: List Nat) (Ld: List Lay) (ups: List Pl) (w: World) (n: L5.No) (at_ g cp kid: Nat) (ra ka: Option Addr) (rc kc: Nat) (hm: m <= 4096) (hN: N <= B) (hE: Es B s t x r h l xr xh xl tk ld gn T Ld [] w) (hL: Ld.length <= 9999) (hW: WayL w m g cp at_ n (.slice ra n.recs.length rc) (.slice ka n.kids.length kc) kid)
 (yr: w.ownsRow N 9 1 (.slice ra n.recs.length rc) n.recs.length (L5.svs n.recs)) (yk: w.ownsRow N 3 1 (.slice ka n.kids.length kc) n.kids.length (L5.ivs n.kids)) (b1: ∀ q,s.own q -> (Value.slice ka n.kids.length kc).ownBlock ≠ some q) (b2: ∀ q,tk.ownBlock = some q -> (Value.slice ka n.kids.length kc).ownBlock ≠ some q) (b3: ∀ q,gn.ownBlock = some q -> (Value.slice ka n.kids.length kc).ownBlock ≠ some q)
 (ho: s.abs.Ok) (h1: ∀ y ∈ Ld,y.n.small /\ y.n.shaped = true /\ y.n.size <= 1024) (h2: ∀ y ∈ Ld,∃ c,s.abs.at (y.at_: Int) = some c) (h3: ∃ c,s.abs.at (at_: Int) = some c) (hsm: n.small) (hsh: n.shaped = true) (hz: n.size <= 1024) :
 Calls Tryz.prog 66 #[.pointer (some ⟨x,0,none⟩), .slice (some ⟨g,0,none⟩) (m + 1) cp] w fun e w' => e = .returned (.tuple #[]) /\ Done N s t x r h l (headR (grows ups (laidA s.abs Ld) at_ n).2 xr) (headH (grows ups (laidA s.abs Ld) at_ n).2 xh) xl (grows ups (laidA s.abs Ld) at_ n).1 w w' := by
 refine (grow_fit_any (hE.weaken hN) (by omega) hm hW yr yk b1 b2 b3 hsm hz).mono ?_
 rintro e w' ⟨rfl,ld',hE',hS'⟩
 rw [grows_fit hz]
 refine ⟨rfl,s,tk,ld',gn,T,_,rfl,ho,hE',by simp; omega,fun y hy => ?_,fun y hy => ?_,laidA_snoc _ _ _,hS'⟩
 · rcases List.mem_append.1 hy with hy | hy
   · exact h1 y hy
   · cases List.mem_singleton.1 hy
     exact ⟨hsm,hsh,hz⟩
 · rcases List.mem_append.1 hy with hy | hy
   · exact h2 y hy
   · cases List.mem_singleton.1 hy
     exact h3
theorem GrowOk.cuts {ups: List Pl} {a: Abs} {at_: Nat} {n: L5.No} (h: GrowOk ups a at_ n) (hz: ¬ n.size <= 1024): Cuts n (sepOf n) := by
 cases ups with
 | nil => exact (h.2.2.resolve_left hz).1
 | cons u us => exact (h.2.2.resolve_left hz).1
theorem added_way {N B: Nat} {s: Ar} {t x r h l xr xh xl: Nat} {tk ld gn: Value} {T: List Nat} {Ld: List Lay} {G: List Nat} {g cp nx m': Nat} {Lw': List Lay} {y: Lay} {sep: ByteArray} {cs: Array Value} {w w8: World} {vr8 vk8: Value} (hE: Es B s t x r h l xr xh xl tk ld gn T Ld G w) (hW: WayS N B s g (Lw' ++ [y]) w) (hl: Lw'.length = m') (hcap: m' + 1 <= cp) (hb: w.heap[g]? = some (.cells cs 104 (0,0))) (hc: ∀ i z,(Lw' ++ [y])[i]? = some z -> cs[i * 5]? = some (nv z.at_) /\ cs[i * 5 + 1]? = some (.bool z.n.leaf) /\ cs[i * 5 + 2]? = some z.vr /\ cs[i * 5 + 3]? = some z.vk /\ cs[i * 5 + 4]? = some (nv z.kid)) (hA: Added N g cs (m' * 5) y.pl sep nx y.vr y.vk w vr8 vk8 w8) :
 Es B s t x r h l xr xh xl tk ld gn T Ld G w8 /\ WayS N B s g Lw' w8 /\ WayL w8 m' g cp y.at_ (addK y.pl sep nx) vr8 vk8 y.kid /\ Stp N s s t x w w8 /\ (∀ q,s.own q -> vk8.ownBlock ≠ some q) /\ (∀ q,tk.ownBlock = some q -> vk8.ownBlock ≠ some q) /\ (∀ q,gn.ownBlock = some q -> vk8.ownBlock ≠ some q) := by
 have hy: y ∈ Lw' ++ [y] := by simp
 have hyr := hW.rr y hy
 have hyk := hW.rk y hy
 have blk: ∀ q,q < w.heap.size -> q ≠ g -> y.vr.ownBlock ≠ some q -> y.vk.ownBlock ≠ some q -> w8.heap[q]? = w.heap[q]? := fun q h0 h1 h2 h3 => hA.only.block q h0 fun z => by
  rcases z with z | z | z
  · exact h1 z
  · exact h2 z
  · exact h3 z
 obtain ⟨c0,c1,c2,c3,c4⟩ := hc m' y (by rw [List.getElem?_append_right (by omega),hl]; simp)
 have k2: m' * 5 + 2 < cs.size := by
  rcases Nat.lt_or_ge (m' * 5 + 2) cs.size with h | h
  · exact h
  · rw [Array.getElem?_eq_none h] at c2; cases c2
 have k3: m' * 5 + 3 < cs.size := by
  rcases Nat.lt_or_ge (m' * 5 + 3) cs.size with h | h
  · exact h
  · rw [Array.getElem?_eq_none h] at c3; cases c3
 have gl8 := (Array.getElem?_eq_some_iff.1 hA.blk).1
 refine ⟨hE.keep hA.only.size (fun q h0 hz => hA.only.block q h0 hz) (fun q hz => ?_) (fun q hz => ?_) (fun q hz => ?_) (fun q hz cs' hq => ?_),⟨⟨_,hA.blk,fun i z hi => ?_⟩,hW.g1,hW.g2,fun z hz => ?_,fun z hz => ?_,fun z hz => hW.r1 z (by simp [hz]),fun z hz => hW.r2 z (by simp [hz]),(List.pairwise_append.1 hW.ap).1⟩,⟨gl8,hcap, ?_, ?_, ?_, ?_, ?_⟩,⟨hA.only.weaken fun k _ hz => ?_,fun _ hq => Or.inl hq⟩,fun q hq e => ?_,fun q hq e => ?_,fun q hq e => ?_⟩
 · rcases hz with rfl | hz | hz
   · exact hW.g2
   · exact hW.r1 y hy q hz
   · exact (hW.r2 y hy q hz).1
 · rcases hz with rfl | hz | hz
   · exact not_own hE.ar hb (by decide) (by decide) (by decide)
   · exact row_not_own hE.ar hyr (by decide) (by decide) (by decide) hz
   · exact (hW.r2 y hy q hz).2
 · rcases hz with rfl | hz | hz
   · exact ⟨tag_ne hb hE.tr.blk (by decide),tag_ne hb hE.ed (by decide)⟩
   · exact ⟨fun e => row_ne hE.tr.blk hyr (by decide) (e ▸ hz),fun e => row_ne hE.ed hyr (by decide) (e ▸ hz)⟩
   · exact ⟨fun e => row_ne hE.tr.blk hyk (by decide) (e ▸ hz),fun e => row_ne hE.ed hyk (by decide) (e ▸ hz)⟩
 · rcases hz with rfl | hz | hz
   · exact tag_ne hb hq (by decide) rfl
   · exact row_ne hq hyr (by decide) hz
   · exact row_ne hq hyk (by decide) hz
 · have hil: i < m' := by have := (List.getElem?_eq_some_iff.1 hi).1; omega
   have := hc i z (by rw [List.getElem?_append_left (by omega)]; exact hi)
   refine ⟨?_, ?_, ?_, ?_, ?_⟩ <;> rw [Array.getElem?_setIfInBounds_ne (by omega),Array.getElem?_setIfInBounds_ne (by omega)]
   · exact this.1
   · exact this.2.1
   · exact this.2.2.1
   · exact this.2.2.2.1
   · exact this.2.2.2.2
 · have hap := (List.pairwise_append.1 hW.ap).2.2 z hz y (by simp)
   have hzr := hW.rr z (by simp [hz])
   exact L5.owns_of_block hzr fun q hq => blk q (hzr.lt q hq).2 (fun e => row_ne hb hzr (by decide) (e ▸ hq)) (fun e => hap.1 q hq e) (fun e => rows_ne hzr hyk (by decide) q hq e)
 · have hap := (List.pairwise_append.1 hW.ap).2.2 z hz y (by simp)
   have hzk := hW.rk z (by simp [hz])
   exact L5.owns_of_block hzk fun q hq => blk q (hzk.lt q hq).2 (fun e => row_ne hb hzk (by decide) (e ▸ hq)) (fun e => rows_ne hzk hyr (by decide) q hq e) (fun e => hap.2 q hq e)
 · rw [cell_of_row _ _ _ _ _ _ hA.blk,Array.getElem?_setIfInBounds_ne (by omega),Array.getElem?_setIfInBounds_ne (by omega)]; exact c0
 · rw [cell_of_row _ _ _ _ _ _ hA.blk,Array.getElem?_setIfInBounds_ne (by omega),Array.getElem?_setIfInBounds_ne (by omega)]; exact c1
 · rw [cell_of_row _ _ _ _ _ _ hA.blk,Array.getElem?_setIfInBounds_ne (by omega),Array.getElem?_setIfInBounds_self_of_lt k2]
 · rw [cell_of_row _ _ _ _ _ _ hA.blk,Array.getElem?_setIfInBounds_self_of_lt (by simp; exact k3)]
 · rw [cell_of_row _ _ _ _ _ _ hA.blk,Array.getElem?_setIfInBounds_ne (by omega),Array.getElem?_setIfInBounds_ne (by omega)]; exact c4
 · right; right; right
   rcases hz with rfl | hz | hz
   · exact hW.g1
   · exact (hyr.lt k hz).1
   · exact (hyk.lt k hz).1
 · rcases hA.nk q e with e | e
   · exact (hW.r2 y hy q e).2 hq
   · have := L4.arSt.lt s w q hE.ar hq; omega
 · rcases hA.nk q e with e | e
   · have := (hW.r2 y hy q e).1; have := (hE.rt.lt q hq).1; omega
   · have := (hE.rt.lt q hq).2; omega
 · rcases hA.nk q e with e | e
   · have := (hW.r2 y hy q e).1; have := (hE.rg.lt q hq).1; omega
   · have := (hE.rg.lt q hq).2; omega
theorem Done.from {N: Nat} {s s5: Ar} {t x r h l xr xh xl: Nat} {A: Abs} {w w8 w9: World} (hd: Done N s5 t x r h l xr xh xl A w8 w9) (hp: s5.p = s.p) (hS: Stp N s s5 t x w w8): Done N s t x r h l xr xh xl A w w9 := by
 obtain ⟨s',tk,ld,gn,T,Ld,h1,h2,h3,h4,h5,h6,h7,h8⟩ := hd
 exact ⟨s',tk,ld,gn,T,Ld,h1.trans hp,h2,h3,h4,h5,h6,h7,hS.trans h8⟩
theorem root_done {N B: Nat} {s s5 s8: Ar} {t x r h l xr xh xl: Nat} {tk8 ld11 gn vr vk: Value} {T8: List Nat} {Ld Ld7: List Lay} {n: L5.No} {at_ nx rt: Nat} {sep: ByteArray} {w w11: World} (hz: ¬ n.size <= 1024) (hG: GrowOk [] (laidA s.abs Ld) at_ n) (hN: N <= B) (hp5: s5.p = s.p) (hp8: s8.p = s5.p) (hok5: s5.abs.Ok) (hl5: 0 < s5.abs.left) (hab8: s8.abs = s5.abs.alloc) (hM: laidA s5.abs Ld7 = layN (layN (laidA s.abs Ld).alloc at_ (n.lo n.cut)) (laidA s.abs Ld).next (n.hi n.cut)) (hL5: ∀ y ∈ Ld7,(y.n.small /\ y.n.shaped = true /\ y.n.size <= 1024) /\ ∃ c,s5.abs.at (y.at_: Int) = some c) (hlen: Ld7.length <= 9999) (hnx: s.abs.next = nx) (hrt: s5.abs.next = rt) (hsep: sepOf n = sep)
 (hE: Es B s8 t x r h l rt (xh + 1) xl tk8 ld11 gn T8 (Ld7 ++ [⟨rt,⟨false,[sep],[(at_: Int),(nx: Int)]⟩,vr,vk,0⟩]) [] w11) (hS: Stp B s s8 t x w w11) :
 Done N s t x r h l (headR (grows [] (laidA s.abs Ld) at_ n).2 xr) (headH (grows [] (laidA s.abs Ld) at_ n).2 xh) xl (grows [] (laidA s.abs Ld) at_ n).1 w w11 := by
 have e: grows [] (laidA s.abs Ld) at_ n = (layN (laidA s5.abs Ld7).alloc rt ⟨false,[sep],[(at_: Int),(nx: Int)]⟩,some rt) := by
  rw [grows,if_neg hz, <- hM,laidA_next,laidA_next,hnx,hrt,hsep]
 obtain ⟨g1,g2⟩ := (hG.2.2.resolve_left hz).2
 rw [laidA_next,hnx,hsep] at g1 g2
 rw [e]
 refine ⟨s8,tk8,ld11,gn,T8,_,hp8.trans hp5,by rw [hab8]; exact (hok5.alloc hl5).1,hE.weaken hN,by simp; omega,fun y hy => ?_,fun y hy => ?_, ?_,hS.weaken hN⟩
 · rcases List.mem_append.1 hy with hy | hy
   · exact (hL5 y hy).1
   · cases List.mem_singleton.1 hy
     exact ⟨small_of g1 (Nat.le_trans g2 (by decide)),g1,g2⟩
 · rw [hab8]
   rcases List.mem_append.1 hy with hy | hy
   · exact alloc_keeps hok5 (hL5 y hy).2
   · cases List.mem_singleton.1 hy
     show ∃ c,s5.abs.alloc.at (rt: Int) = some c
     rw [<- hrt]
     exact (at_alloc hok5).1
 · show laidA s8.abs (Ld7 ++ [_]) = _
   rw [laidA_snoc,hab8,laidA_alloc Ld7 s5.abs hok5 (fun y hy => (hL5 y hy).2) (fun y hy => (hL5 y hy).1.2.2)]
theorem two_new (w: World) (o o': Obj): (((w.alloc o).alloc o').drew).heap[w.heap.size]? = some o /\ (((w.alloc o).alloc o').drew).heap[w.heap.size + 1]? = some o' := by
 refine ⟨((tbelow (w.alloc o) o').block w.heap.size (by simp)).trans (heap_alloc_new w o), ?_⟩
 have h := heap_alloc_new (w.alloc o) o'
 rw [show (w.alloc o).heap.size = w.heap.size + 1 by simp] at h
 exact h
theorem Es.rooted {B: Nat} {s: Ar} {t x r h l xr xh xl: Nat} {tk ld gn: Value} {T: List Nat} {Ld: List Lay} {G: List Nat} {w: World} (k: Es B s t x r h l xr xh xl tk ld gn T Ld G w) (xr' xh': Nat) :
 Es B s t x r h l xr' xh' xl tk ld gn T Ld G ((w.setCell ⟨x,1,none⟩ (.int .i64 (xr': Int))).setCell ⟨x,2,none⟩ (.int .i64 (xh': Int))) /\ Stp B s s t x w ((w.setCell ⟨x,1,none⟩ (.int .i64 (xr': Int))).setCell ⟨x,2,none⟩ (.int .i64 (xh': Int))) := by
 have oth: ∀ q,q ≠ x -> ((w.setCell ⟨x,1,none⟩ (.int .i64 (xr': Int))).setCell ⟨x,2,none⟩ (.int .i64 (xh': Int))).heap[q]? = w.heap[q]? := fun q hq => by
  rw [heap_setCell_other _ _ _ _ hq,heap_setCell_other _ _ _ _ hq]
 have e1 := heap_setCell_same w x 1 _ _ (.int .i64 (xr': Int)) k.ed
 have e2 := heap_setCell_same _ x 2 _ _ (.int .i64 (xh': Int)) e1
 exact ⟨k.edset (by simp [World.setCell]) oth e2,⟨⟨rfl,rfl,rfl,by simp [World.setCell],fun q _ hn => oth q fun e => hn (Or.inr (Or.inr (Or.inl e)))⟩,fun _ x => Or.inl x⟩⟩
theorem grow_step {N t x r h l xl: Nat} {gn: Value} (m: Nat) (IH: ∀ m',m' < m -> GrowP N t x r h l xl gn m'): GrowP N t x r h l xl gn m := by
 intro B s xr xh tk ld T Ld Lw w n at_ g cp kid ra ka rc kc hlw hm hN hE hL hT hWS hW yr yk b1 b2 b3 ho hleft h1 h2 h3 h4 hG hxh
 obtain ⟨hsh,hsm⟩ := hG.head
 by_cases hz: n.size <= 1024
 · exact grow_fits B s xr xh tk ld T Ld _ w n at_ g cp kid ra ka rc kc hm hN hE (by omega) hW yr yk b1 b2 b3 ho h1 h2 h3 hsm hsh hz
 have hC := hG.cuts hz
 have HG := thid hG
 have HK := thid hE
 have HW := thid hW
 have HWS := thid hWS
 have HR := thid yr
 have HKK := thid yk
 have HIH := thid IH
 have HB0 := thid (And.intro b1 (And.intro b2 b3))
 have HCAP := thid hW.cap
 clear hE hW yr yk hWS IH hG b1 b2 b3
 go_enter Tryz.func66,Tryz.ntmps66
 go_wp2_with fail
 refine (parted_any hm HW.out).mono ?_
 rintro e w1 ⟨rfl,hb1⟩
 have HB1 := thid hb1
 clear hb1
 have HA1 := thid (tbelow w1 (.cells #[.int .i64 (at_: Int), .bool n.leaf, .slice ra n.recs.length rc, .slice ka n.kids.length kc, .int .i64 (kid: Int)] 104))
 have a1: (w1.alloc (.cells #[.int .i64 (at_: Int), .bool n.leaf, .slice ra n.recs.length rc, .slice ka n.kids.length kc, .int .i64 (kid: Int)] 104)).heap[w1.heap.size]? = some (.cells #[.int .i64 (at_: Int), .bool n.leaf, .slice ra n.recs.length rc, .slice ka n.kids.length kc, .int .i64 (kid: Int)] 104 (0,0)) := heap_alloc_new _ _
 have HB2 := thid (tbelow_on HB1.out HA1.out)
 go_wp2_with fail
 generalize w1.alloc (.cells #[.int .i64 (at_: Int), .bool n.leaf, .slice ra n.recs.length rc, .slice ka n.kids.length kc, .int .i64 (kid: Int)] 104) = W1 at *
 refine (L5.size_walk (n := n) (L5.NR.mk (L5.owns_rd_slice (L5.owns_below HR.out HB2.out)) (L5.owns_rd_slice (L5.owns_below HKK.out HB2.out))) hsm).mono ?_
 rintro e w2 ⟨rfl,hb2⟩
 have HB3 := thid (tbelow_on HB2.out hb2)
 have a2: w2.heap[w1.heap.size]? = some (.cells #[.int .i64 (at_: Int), .bool n.leaf, .slice ra n.recs.length rc, .slice ka n.kids.length kc, .int .i64 (kid: Int)] 104 (0,0)) := (hb2.block _ (Array.getElem?_eq_some_iff.1 a1).1).trans a1
 have HL1 := thid (HB1.out.size)
 clear hb2 a1 HA1 HB1 HB2
 have la: w1.heap.size < w2.heap.size := (Array.getElem?_eq_some_iff.1 a2).1
 have z0: w2.cell? ⟨w1.heap.size,0,none⟩ = some (.int .i64 (at_: Int)) := by rw [cell_of_row _ _ _ _ _ _ a2]; rfl
 have z1: w2.cell? ⟨w1.heap.size,1,none⟩ = some (.bool n.leaf) := by rw [cell_of_row _ _ _ _ _ _ a2]; rfl
 have z2: w2.cell? ⟨w1.heap.size,2,none⟩ = some (.slice ra n.recs.length rc) := by rw [cell_of_row _ _ _ _ _ _ a2]; rfl
 have z3: w2.cell? ⟨w1.heap.size,3,none⟩ = some (.slice ka n.kids.length kc) := by rw [cell_of_row _ _ _ _ _ _ a2]; rfl
 have hzb: ¬ ((n.size: Int) <= 1024) := by omega
 have HSP := thid (L5.split_walk (n := n) (L5.NR.mk (L5.owns_rd_slice (L5.owns_below HR.out HB3.out)) (L5.owns_rd_slice (L5.owns_below HKK.out HB3.out))) hsm hC.len (fun hl => (shaped_kids hsh hl).2) (sepOf n) hC.at_)
 unfold L5.nodeV at HSP
 go_wp2_with fail
 refine HSP.out.mono ?_
 rintro e w3 ⟨r1,k1,r2,k2,rfl,hh⟩
 obtain ⟨y1,t1,y2,t2,y3,t3,y4,t4,rfl,rfl,rfl,rfl⟩ := hh.slices
 have HH := thid hh
 have a3 := (hh.below.block _ la).trans a2
 have HB4 := thid (tbelow_on HB3.out hh.below)
 have l3 := Nat.lt_of_lt_of_le la hh.below.size
 clear hh HSP z0 z1 z2 z3 a2 HR HKK HW HB0
 have x0: w3.cell? ⟨w1.heap.size,0,none⟩ = some (.int .i64 (at_: Int)) := by rw [cell_of_row _ _ _ _ _ _ a3]; rfl
 generalize eq1: (n.lo n.cut).recs.length = q1 at *
 generalize eq2: (n.lo n.cut).kids.length = q2 at *
 generalize eq3: (n.hi n.cut).recs.length = q3 at *
 generalize eq4: (n.hi n.cut).kids.length = q4 at *
 obtain ⟨sep,hsep⟩: ∃ sep,Hid (sepOf n = sep) := ⟨_,rfl⟩
 rw [hsep.out]
 go_wp2_with fail
 have hb5: Below w3.heap.size w3 ((w3.alloc (.cells #[.bool n.leaf, .slice y1 q1 t1, .slice y2 q2 t2] 69)).alloc (.cells #[.bool n.leaf, .slice y3 q3 t3, .slice y4 q4 t4] 69)) := (tbelow w3 _).alloc (by simp) _
 have bA: ((w3.alloc (.cells #[.bool n.leaf, .slice y1 q1 t1, .slice y2 q2 t2] 69)).alloc (.cells #[.bool n.leaf, .slice y3 q3 t3, .slice y4 q4 t4] 69)).heap[w3.heap.size]? = some (.cells #[.bool n.leaf, .slice y1 q1 t1, .slice y2 q2 t2] 69 (0,0)) := ((tbelow _ _).block _ (by simp)).trans (heap_alloc_new w3 _)
 have bB: ((w3.alloc (.cells #[.bool n.leaf, .slice y1 q1 t1, .slice y2 q2 t2] 69)).alloc (.cells #[.bool n.leaf, .slice y3 q3 t3, .slice y4 q4 t4] 69)).heap[w3.heap.size + 1]? = some (.cells #[.bool n.leaf, .slice y3 q3 t3, .slice y4 q4 t4] 69 (0,0)) := by
  have hq := heap_alloc_new (w3.alloc (.cells #[.bool n.leaf, .slice y1 q1 t1, .slice y2 q2 t2] 69)) (.cells #[.bool n.leaf, .slice y3 q3 t3, .slice y4 q4 t4] 69)
  rw [show (w3.alloc (.cells #[.bool n.leaf, .slice y1 q1 t1, .slice y2 q2 t2] 69)).heap.size = w3.heap.size + 1 by simp] at hq
  exact hq
 have zz: ((w3.alloc (.cells #[.bool n.leaf, .slice y1 q1 t1, .slice y2 q2 t2] 69)).alloc (.cells #[.bool n.leaf, .slice y3 q3 t3, .slice y4 q4 t4] 69)).heap.size = w3.heap.size + 2 := by simp
 generalize (w3.alloc (.cells #[.bool n.leaf, .slice y1 q1 t1, .slice y2 q2 t2] 69)).alloc (.cells #[.bool n.leaf, .slice y3 q3 t3, .slice y4 q4 t4] 69) = W4 at *
 have HB5 := thid hb5
 have aL := (hb5.block _ l3).trans a3
 have HBW := thid (tbelow_on HB4.out hb5)
 have HE4 := thid (HK.out.below HBW.out)
 have HS4 := thid (HWS.out.on HBW.out)
 have HT := thid (take_ok2 HE4.out ho (by omega) (by omega))
 have s23 := HH.out.below.size
 have s02 := HB3.out.size
 have hl1 := HL1.out
 have old1: ∀ q,s.own q -> q < w.heap.size := fun q hq => L4.arSt.lt s w q HK.out.ar hq
 have old2: ∀ q,tk.ownBlock = some q -> q < w.heap.size := fun q hq => (HK.out.rt.lt q hq).2
 have old3: ∀ q,gn.ownBlock = some q -> q < w.heap.size := fun q hq => (HK.out.rg.lt q hq).2
 have old4: ∀ q,ld.ownBlock = some q -> q < w.heap.size := fun q hq => (HK.out.rl.lt q hq).2
 have xlt: x < w.heap.size := (Array.getElem?_eq_some_iff.1 HK.out.ed).1
 have hBw := HK.out.bs
 clear hb5 x0 a3 HB4
 refine HT.out.mono ?_
 rintro e w5 ⟨rfl,s5,tk5,hp5,hab5,hE5,hS5,hO5,hn5,hw5⟩
 have FR5: ∀ p,w.heap.size <= p -> p < W4.heap.size -> w5.heap[p]? = W4.heap[p]? := fun p hp1 hp2 => hO5.block p hp2 fun hq => by
  rcases hq with hq | hq | hq
  · have := old1 p hq; omega
  · omega
  · have := old2 p hq; omega
 have sz5 := hO5.size
 have HE5 := thid hE5
 have HW5 := thid (HS4.out.step HE4.out.ar HE4.out.tr HE4.out.ed hS5)
 have HST5 := thid ((Stp.below (B := B) (s := s) (t := t) (x := x) HBW.out).trans hS5)
 have own5: ∀ q,s5.own q -> q < w.heap.size \/ W4.heap.size <= q := fun q hq => (hw5 q hq).imp (old1 q) id
 have tk5o: ∀ q,tk5.ownBlock = some q -> q < w.heap.size \/ W4.heap.size <= q := fun q hq => (hn5 q hq).imp (old2 q) id
 clear HT hE5 hS5 hO5 hn5 hw5
 have y0: w5.cell? ⟨w1.heap.size,0,none⟩ = some (.int .i64 (at_: Int)) := by rw [cell_of_row _ _ _ _ _ _ ((FR5 _ hl1 (by omega)).trans aL)]; rfl
 have bA5 := (FR5 w3.heap.size (by omega) (by omega)).trans bA
 have yA0 := (L5.node_cells bA5).1
 have yA1 := (L5.node_cells bA5).2.1
 have yA2 := (L5.node_cells bA5).2.2
 have lA5 := (Array.getElem?_eq_some_iff.1 bA5).1
 have l15: w1.heap.size < w5.heap.size := by omega
 obtain ⟨nx,hnx⟩: ∃ nx,Hid (s.abs.next = nx) := ⟨_,rfl⟩
 rw [hnx.out] at HE5 ⊢
 have row4: ∀ {e: TypeId} {v: Value} {k: Nat} {xs: List Value},w3.ownsRow w2.heap.size e 1 v k xs -> W4.ownsRow w2.heap.size e 1 v k xs := fun hr => L5.owns_below hr HB5.out
 have rows: ∀ {W: World} {e: TypeId} {v: Value} {k: Nat} {xs: List Value},(∀ p,w.heap.size <= p -> p < W4.heap.size -> W.heap[p]? = W4.heap[p]?) -> w3.ownsRow w2.heap.size e 1 v k xs -> W.ownsRow B e 1 v k xs := fun hF hr => owns_low (L5.owns_of_block (row4 hr) fun q hq => hF q (by have := ((row4 hr).lt q hq).1; omega) ((row4 hr).lt q hq).2) (by omega)
 have inn: ∀ {e: TypeId} {v: Value} {k: Nat} {xs: List Value},w3.ownsRow w2.heap.size e 1 v k xs -> ∀ q,v.ownBlock = some q -> w.heap.size <= q /\ q < W4.heap.size := fun hr q hq => ⟨by have := ((row4 hr).lt q hq).1; omega,((row4 hr).lt q hq).2⟩
 have HP1 := thid (put_ok2 HE5.out (by omega) (n := n.lo n.cut) (at_ := at_) (ra := y1) (ka := y2) (rc := t1) (kc := t2) (by rw [eq1]; have := rows FR5 HH.out.a1; rw [eq1] at this; exact this) (by rw [eq2]; have := rows FR5 HH.out.a2; rw [eq2] at this; exact this) (fun q hq e => by
  rw [eq2] at e
  have := inn HH.out.a2 q e
  rcases own5 q hq with hq | hq <;> omega) (fun q hq e => by
  rw [eq2] at e
  have := inn HH.out.a2 q e
  rcases tk5o q hq with hq | hq <;> omega) (fun q hq e => by
  rw [eq2] at e
  have := inn HH.out.a2 q e
  have := old3 q hq
  omega))
 rw [eq1,eq2] at HP1
 unfold nv
 go_wp2_with fail
 refine HP1.out.mono ?_
 rintro e w6 ⟨rfl,ld6,hE6,hS6,hO6,hn6⟩
 have FR6: ∀ p,w.heap.size <= p -> p < W4.heap.size -> w6.heap[p]? = W4.heap[p]? := fun p hp1 hp2 => (hO6.block p (by omega) fun hq => by
  rcases hq with hq | hq
  · omega
  · have := old4 p hq; omega).trans (FR5 p hp1 hp2)
 have sz6 := hO6.size
 have HE6 := thid hE6
 have HW6 := thid (HW5.out.step HE5.out.ar HE5.out.tr HE5.out.ed hS6)
 have HST6 := thid (HST5.out.trans hS6)
 have ld6o: ∀ q,ld6.ownBlock = some q -> q < w.heap.size \/ w5.heap.size <= q := fun q hq => (hn6 q hq).imp (old4 q) id
 clear HP1 hE6 hS6 hO6 hn6 HE5 HW5 HST5 FR5 y0 bA5 yA0 yA1 yA2 lA5 l15
 have bB6 := (FR6 (w3.heap.size + 1) (by omega) (by omega)).trans bB
 have yB0 := (L5.node_cells bB6).1
 have yB1 := (L5.node_cells bB6).2.1
 have yB2 := (L5.node_cells bB6).2.2
 have lB6 := (Array.getElem?_eq_some_iff.1 bB6).1
 have HP2 := thid (put_ok2 HE6.out (by simp; omega) (n := n.hi n.cut) (at_ := nx) (ra := y3) (ka := y4) (rc := t3) (kc := t4) (by rw [eq3]; have := rows FR6 HH.out.b1; rw [eq3] at this; exact this) (by rw [eq4]; have := rows FR6 HH.out.b2; rw [eq4] at this; exact this) (fun q hq e => by
  rw [eq4] at e
  have := inn HH.out.b2 q e
  rcases own5 q hq with hq | hq <;> omega) (fun q hq e => by
  rw [eq4] at e
  have := inn HH.out.b2 q e
  rcases tk5o q hq with hq | hq <;> omega) (fun q hq e => by
  rw [eq4] at e
  have := inn HH.out.b2 q e
  have := old3 q hq
  omega))
 rw [eq3,eq4] at HP2
 go_wp2_with fail
 refine HP2.out.mono ?_
 rintro e w7 ⟨rfl,ld7,hE7,hS7,hO7,hn7⟩
 have FR7: ∀ p,w.heap.size <= p -> p < W4.heap.size -> w7.heap[p]? = W4.heap[p]? := fun p hp1 hp2 => (hO7.block p (by omega) fun hq => by
  rcases hq with hq | hq
  · omega
  · rcases ld6o p hq with hq | hq <;> omega).trans (FR6 p hp1 hp2)
 have sz7 := hO7.size
 have HE7 := thid hE7
 have HW7 := thid (HW6.out.step HE6.out.ar HE6.out.tr HE6.out.ed hS7)
 have HST7 := thid (HST6.out.trans hS7)
 clear HP2 hE7 hS7 hO7 hn7 HE6 HW6 HST6 FR6 bB6 yB0 yB1 yB2 lB6 ld6o
 have y0: w7.cell? ⟨w1.heap.size,0,none⟩ = some (.int .i64 (at_: Int)) := by rw [cell_of_row _ _ _ _ _ _ ((FR7 _ hl1 (by omega)).trans aL)]; rfl
 have l17: w1.heap.size < w7.heap.size := by omega
 have HM: Hid (laidA s5.abs (Ld ++ [⟨at_,n.lo n.cut, .slice y1 q1 t1, .slice y2 q2 t2,0⟩] ++ [⟨nx,n.hi n.cut, .slice y3 q3 t3, .slice y4 q4 t4,0⟩]) = layN (layN (laidA s.abs Ld).alloc at_ (n.lo n.cut)) (laidA s.abs Ld).next (n.hi n.cut)) := by
  show _ = _
  rw [laidA_snoc,laidA_snoc,hab5,laidA_alloc Ld s.abs ho h2 (fun y hy => (h1 y hy).2.2),laidA_next,hnx.out]
 have HOK5: Hid s5.abs.Ok := by show s5.abs.Ok; rw [hab5]; exact (ho.alloc (by omega)).1
 have HLF5: Hid (s5.abs.left = s.abs.left - 1) := by show _ = _; rw [hab5,left_alloc ho]
 have HU5: Hid (∀ p: Nat,(∃ c,s.abs.at (p: Int) = some c) -> ∃ c,s5.abs.at (p: Int) = some c) := fun p hp => by rw [hab5]; exact alloc_keeps ho hp
 have HX5: Hid (∃ c,s5.abs.at (nx: Int) = some c) := by show ∃ c,_; rw [hab5, <- hnx.out]; exact (at_alloc ho).1
 have HL5: Hid (∀ y ∈ Ld ++ [(⟨at_,n.lo n.cut, .slice y1 q1 t1, .slice y2 q2 t2,0⟩: Lay)] ++ [(⟨nx,n.hi n.cut, .slice y3 q3 t3, .slice y4 q4 t4,0⟩: Lay)],(y.n.small /\ y.n.shaped = true /\ y.n.size <= 1024) /\ ∃ c,s5.abs.at (y.at_: Int) = some c) := fun y hy => by
  rcases List.mem_append.1 hy with hy | hy
  · rcases List.mem_append.1 hy with hy | hy
    · exact ⟨h1 y hy,HU5.out _ (h2 y hy)⟩
    · cases List.mem_singleton.1 hy
      exact ⟨⟨hC.lo.2.2,hC.lo.1,hC.lo.2.1⟩,HU5.out _ h3⟩
  · cases List.mem_singleton.1 hy
    exact ⟨⟨hC.hi.2.2,hC.hi.1,hC.hi.2.1⟩,HX5.out⟩
 have hLen: (Ld ++ [(⟨at_,n.lo n.cut, .slice y1 q1 t1, .slice y2 q2 t2,0⟩: Lay)] ++ [(⟨nx,n.hi n.cut, .slice y3 q3 t3, .slice y4 q4 t4,0⟩: Lay)]).length = Ld.length + 2 := by simp
 generalize Ld ++ [(⟨at_,n.lo n.cut, .slice y1 q1 t1, .slice y2 q2 t2,0⟩: Lay)] ++ [(⟨nx,n.hi n.cut, .slice y3 q3 t3, .slice y4 q4 t4,0⟩: Lay)] = Ld7 at *
 clear aL bA bB row4 rows inn HE4 HS4 HBW HB5 HH HB3
 rcases Nat.eq_zero_or_pos m with hm0 | hm0
 · subst hm0
   have HT := thid (take_ok2 HE7.out HOK5.out (by have := HLF5.out; omega) (by simp; omega))
   go_wp2_with fail
   refine HT.out.mono ?_
   rintro e w8 ⟨rfl,s8,tk8,hp8,hab8,hE8,hS8,hO8,hn8,hw8⟩
   have FR8: ∀ p,w.heap.size <= p -> p < W4.heap.size -> w8.heap[p]? = W4.heap[p]? := fun p hp1 hp2 => (hO8.block p (by omega) fun hq => by
    rcases hq with hq | hq | hq
    · rcases own5 p hq with hq | hq <;> omega
    · omega
    · rcases tk5o p hq with hq | hq <;> omega).trans (FR7 p hp1 hp2)
   obtain ⟨rt,hrt⟩: ∃ rt,Hid (s5.abs.next = rt) := ⟨_,rfl⟩
   rw [hrt.out] at hE8 ⊢
   have HE8 := thid hE8
   obtain ⟨d0,d1,d2,d3,d4,d5,d6,dl,df⟩ := hE8.ed.cells
   have HST8 := thid (HST7.out.trans hS8)
   have sz8 := hO8.size
   have own8: ∀ q,s8.own q -> q < w8.heap.size := fun q hq => L4.arSt.lt s8 w8 q hE8.ar hq
   have tk8o: ∀ q,tk8.ownBlock = some q -> q < w8.heap.size := fun q hq => (hE8.rt.lt q hq).2
   have hxw: IntKind.i64.wrap ((xh: Int) + 1) = ((xh + 1: Nat): Int) := by rw [IntKind.wrap_i64]; omega
   have y8: w8.cell? ⟨w1.heap.size,0,none⟩ = some (.int .i64 (at_: Int)) := by rw [World.cell?_of_block ((FR8 _ hl1 (by omega)).trans (FR7 _ hl1 (by omega)).symm)]; exact y0
   have hx1: w1.heap.size ≠ x := by omega
   clear HT hE8 hS8 hO8 hn8 hw8 HST7 HE7 HW7 y0
   unfold nv
   go_wp2_with fail
   rw [show (xh: Int) + 1 = ((xh + 1: Nat): Int) by omega]
   have hE9 := HE8.out.rooted rt (xh + 1)
   have y9: ((w8.setCell ⟨x,1,none⟩ (.int .i64 (rt: Int))).setCell ⟨x,2,none⟩ (.int .i64 ((xh + 1: Nat): Int))).cell? ⟨w1.heap.size,0,none⟩ = some (.int .i64 (at_: Int)) := by rw [World.cell?_of_block (heap_setCell_other _ _ _ _ hx1),World.cell?_of_block (heap_setCell_other _ _ _ _ hx1)]; exact y8
   have z9: ((w8.setCell ⟨x,1,none⟩ (.int .i64 (rt: Int))).setCell ⟨x,2,none⟩ (.int .i64 ((xh + 1: Nat): Int))).heap.size = w8.heap.size := by simp [World.setCell]
   clear d0 d1 d2 d3 d4 d5 d6 dl df y8
   generalize (w8.setCell ⟨x,1,none⟩ (.int .i64 (rt: Int))).setCell ⟨x,2,none⟩ (.int .i64 ((xh + 1: Nat): Int)) = W9 at *
   obtain ⟨hE9,hS9⟩ := hE9
   have HE9 := thid hE9
   have HST9 := thid (HST8.out.trans hS9)
   have d1 := hE9.ed.cells.2.1
   have dl := hE9.ed.cells.2.2.2.2.2.2.2.1
   have l19: w1.heap.size < W9.heap.size := by omega
   rw [<- z9] at own8 tk8o sz8
   clear hE9 hS9 HE8 HST8 z9
   have HBA := thid (((tbelow W9 (.cells #[.string sep] 9)).alloc (by simp) (.cells #[.int .i64 (at_: Int), .int .i64 (nx: Int)] 3)).drew)
   have HBB := thid (((tbelow W9 (.cells #[.int .i64 (at_: Int), .int .i64 (nx: Int)] 3)).alloc (by simp) (.cells #[.string sep] 9)).drew)
   have hbs := HE9.out.bs
   have HPA: Hid (Calls Tryz.prog 23 #[.pointer (some ⟨x,0,none⟩), .int .i64 (rt: Int), .agg #[.bool false, .slice (some ⟨W9.heap.size,0,none⟩) 1 1, .slice (some ⟨W9.heap.size + 1,0,none⟩) 2 2]] (((W9.alloc (.cells #[.string sep] 9)).alloc (.cells #[.int .i64 (at_: Int), .int .i64 (nx: Int)] 3)).drew) fun e w' => e = .returned (.tuple #[]) /\ ∃ ld',Es B s8 t x r h l rt (xh + 1) xl tk8 ld' gn (T ++ [nx] ++ [rt]) (Ld7 ++ [⟨rt,⟨false,[sep],[(at_: Int),(nx: Int)]⟩,(.slice (some ⟨W9.heap.size,0,none⟩) 1 1),(.slice (some ⟨W9.heap.size + 1,0,none⟩) 2 2),0⟩]) [] w' /\ Stp B s8 s8 t x (((W9.alloc (.cells #[.string sep] 9)).alloc (.cells #[.int .i64 (at_: Int), .int .i64 (nx: Int)] 3)).drew) w') := (put_ok (HE9.out.below HBA.out) (by omega) (n := ⟨false,[sep],[(at_: Int),(nx: Int)]⟩) (at_ := rt) (ra := some ⟨W9.heap.size,0,none⟩) (ka := some ⟨W9.heap.size + 1,0,none⟩) (rc := 1) (kc := 2) (own_row (L := [.string sep]) hbs (two_new W9 _ _).1 (Nat.le_refl _) (by decide) rfl rfl) (own_row (L := [.int .i64 (at_: Int), .int .i64 (nx: Int)]) (by omega) (two_new W9 _ _).2 (Nat.le_refl _) (by decide) rfl rfl) (fun q hq e => by
    simp [Value.ownBlock] at e
    have := own8 q hq
    omega) (fun q hq e => by
    simp [Value.ownBlock] at e
    have := tk8o q hq
    omega) (fun q hq e => by
    simp [Value.ownBlock] at e
    have := old3 q hq
    omega))
   have HPB: Hid (Calls Tryz.prog 23 #[.pointer (some ⟨x,0,none⟩), .int .i64 (rt: Int), .agg #[.bool false, .slice (some ⟨W9.heap.size + 1,0,none⟩) 1 1, .slice (some ⟨W9.heap.size,0,none⟩) 2 2]] (((W9.alloc (.cells #[.int .i64 (at_: Int), .int .i64 (nx: Int)] 3)).alloc (.cells #[.string sep] 9)).drew) fun e w' => e = .returned (.tuple #[]) /\ ∃ ld',Es B s8 t x r h l rt (xh + 1) xl tk8 ld' gn (T ++ [nx] ++ [rt]) (Ld7 ++ [⟨rt,⟨false,[sep],[(at_: Int),(nx: Int)]⟩,(.slice (some ⟨W9.heap.size + 1,0,none⟩) 1 1),(.slice (some ⟨W9.heap.size,0,none⟩) 2 2),0⟩]) [] w' /\ Stp B s8 s8 t x (((W9.alloc (.cells #[.int .i64 (at_: Int), .int .i64 (nx: Int)] 3)).alloc (.cells #[.string sep] 9)).drew) w') := (put_ok (HE9.out.below HBB.out) (by omega) (n := ⟨false,[sep],[(at_: Int),(nx: Int)]⟩) (at_ := rt) (ra := some ⟨W9.heap.size + 1,0,none⟩) (ka := some ⟨W9.heap.size,0,none⟩) (rc := 1) (kc := 2) (own_row (L := [.string sep]) (by omega) (two_new W9 _ _).2 (Nat.le_refl _) (by decide) rfl rfl) (own_row (L := [.int .i64 (at_: Int), .int .i64 (nx: Int)]) hbs (two_new W9 _ _).1 (Nat.le_refl _) (by decide) rfl rfl) (fun q hq e => by
    simp [Value.ownBlock] at e
    have := own8 q hq
    omega) (fun q hq e => by
    simp [Value.ownBlock] at e
    have := tk8o q hq
    omega) (fun q hq e => by
    simp [Value.ownBlock] at e
    have := old3 q hq
    omega))
   have hlz: Lw = [] := List.length_eq_zero_iff.1 hlw
   subst hlz
   have HFIN: Hid (∀ (ld11 vr vk: Value) (w11: World),Es B s8 t x r h l rt (xh + 1) xl tk8 ld11 gn (T ++ [nx] ++ [rt]) (Ld7 ++ [⟨rt,⟨false,[sep],[(at_: Int),(nx: Int)]⟩,vr,vk,0⟩]) [] w11 -> Stp B s s8 t x w w11 -> Done N s t x r h l (headR (grows [] (laidA s.abs Ld) at_ n).2 xr) (headH (grows [] (laidA s.abs Ld) at_ n).2 xh) xl (grows [] (laidA s.abs Ld) at_ n).1 w w11) := fun ld11 vr vk w11 hE hS => root_done hz HG.out hN hp5 hp8 HOK5.out (by have := HLF5.out; omega) hab8 HM.out HL5.out (by omega) hnx.out hrt.out hsep.out hE hS
   clear h1 h2 h3 h4 hC hsh hsm hz HG ho hleft hL hT hlw hm hxh hzb eq1 eq2 eq3 eq4 old1 old2 old3 old4 own5 tk5o own8 tk8o FR7 FR8 hab5 hab8 hp5 hp8 hLen HM HL5 HX5 HU5 HLF5 HOK5 hnx hrt hsep HIH HWS HK HL1 hl1 la l3 zz s23 s02 xlt hBw sz5 sz6 sz7 sz8 l17 hx1 hxw hbs HE9
   go_region_with (first
    | (go_at_call 23
       with_reducible refine HPA.out.mono ?_
       rintro e w11 ⟨rfl,ld11,hE11,hS11⟩
       have HF := thid (HFIN.out _ _ _ _ hE11 (HST9.out.trans ((Stp.below HBA.out).trans hS11)))
       clear hE11 hS11)
    | (go_at_call 23
       with_reducible refine HPB.out.mono ?_
       rintro e w11 ⟨rfl,ld11,hE11,hS11⟩
       have HF := thid (HFIN.out _ _ _ _ hE11 (HST9.out.trans ((Stp.below HBB.out).trans hS11)))
       clear hE11 hS11))
   all_goals
    clear HPA HPB HFIN HST9 HBA HBB y9 d1 dl l19
    go_wp2
    refine bodyPost_ret (v := .tuple #[]) (by simp [results,Tryz.results66,go_sem]) rfl ⟨rfl,HF.out⟩
 · obtain ⟨m',rfl⟩: ∃ m',m = m' + 1 := ⟨m - 1,by omega⟩
   have hmz: (((m' + 1: Nat): Int) == 0) = false := by simp; omega
   obtain ⟨Lw',y,rfl⟩: ∃ Lw' y,Lw = Lw' ++ [y] := ⟨Lw.dropLast,Lw.getLast (by intro e; rw [e] at hlw; simp at hlw),(List.dropLast_concat_getLast _).symm⟩
   have hlw': Lw'.length = m' := by simpa using hlw
   have hrv: (Lw' ++ [y]).reverse.map Lay.pl = y.pl :: Lw'.reverse.map Lay.pl := by simp
   rw [hrv] at HG
   have HRV := thid hrv
   clear hrv
   obtain ⟨_,k1,k2,k3,k4⟩ := HG.out.2.2.resolve_left hz
   rw [<- HM.out,laidA_next,hnx.out,hsep.out] at k4
   have HGR: Hid (grows (y.pl :: Lw'.reverse.map Lay.pl) (laidA s.abs Ld) at_ n = grows (Lw'.reverse.map Lay.pl) (laidA s5.abs Ld7) y.at_ (addK y.pl sep nx)) := by
    show _ = _
    rw [grows,if_neg hz, <- HM.out,laidA_next,hnx.out,hsep.out]
    rfl
   obtain ⟨cs,hb,hc⟩ := HW7.out.blk
   obtain ⟨c0,c1,c2,c3,c4⟩ := hc m' y (by rw [List.getElem?_append_right (by omega),hlw']; simp)
   have HAD := thid (add_ok (N := N) (off := m' * 5) (nx := nx) (u := y.pl) (sep := sep) (by omega) hb c2 c3 c4 (HW7.out.rr y (by simp)) (HW7.out.rk y (by simp)) k1 k2 k3)
   have HCS := thid (And.intro hb hc)
   have HK4 := thid k4
   have hcap := HCAP.out
   clear hb hc c0 c1 c2 c3 c4 k4 HG
   go_wp2_with fail
   refine HAD.out.mono ?_
   rintro e w8 ⟨rfl,vr8,vk8,hAd⟩
   obtain ⟨hE8,hW8,hL8,hS8,e1,e2,e3⟩ := added_way (cp := cp) HE7.out HW7.out hlw' (by omega) HCS.out.1 HCS.out.2 hAd
   obtain ⟨ra8,rc8,rfl⟩ := own_slice hAd.rr
   obtain ⟨ka8,kc8,rfl⟩ := own_slice hAd.rk
   have HI := thid (HIH.out m' (by omega) B s5 xr xh tk5 ld7 (T ++ [nx]) Ld7 Lw' w8 (addK y.pl sep nx) y.at_ g cp y.kid ra8 ka8 rc8 kc8 hlw' (by omega) hN hE8 (by omega) (by simp; omega) hW8 hL8 hAd.rr hAd.rk e1 e2 e3 HOK5.out (by have := HLF5.out; omega) (fun z hz => (HL5.out z hz).1) (fun z hz => (HL5.out z hz).2) (HU5.out _ (h4 y (by simp))) (fun z hz => HU5.out _ (h4 z (by simp [hz]))) HK4.out hxh)
   have HST8 := thid ((HST7.out.weaken hN).trans hS8)
   clear hE8 hW8 hL8 hS8 e1 e2 e3 hAd HAD HCS HK4 h1 h2 h3 h4 hC hsh hsm hz old1 old2 old3 old4 own5 tk5o FR7 hab5 HM HL5 HX5 HU5 HLF5 HOK5 HE7 HW7 HIH y0 l17
   go_wp2_with fail
   refine HI.out.mono ?_
   rintro e w9 ⟨rfl,hd⟩
   have HF := thid (hd.from hp5 HST8.out)
   clear hd HI HST8
   go_wp2
   go_end0
   exact ⟨rfl,by rw [HRV.out,HGR.out]; exact HF.out⟩
theorem grow_any {N t x r h l xl: Nat} {gn: Value} (m: Nat): GrowP N t x r h l xl gn m := Nat.strongRecOn m fun m ih => grow_step m ih
end Go.Proofs.YtdnkbdjhccckhaaGreat
