import Derived.Test.YtdnkbdjhccckhaaGreatMAB
import Derived.Test.YtdnkbdjhccckhaaGreatProg
import Derived.Defers
import Derived.Recover
namespace Go.Proofs.YtdnkbdjhccckhaaGreat.L4
open Go.RowKit
def Pk (W W': World): Prop := ∀ (k: Nat) (cs: Array Value),W.heap[k]? = some (Obj.cells cs 109 (0,0)) -> W'.heap[k]? = W.heap[k]?
theorem Pk.of_below {W W': World} (h: Below W.heap.size W W'): Pk W W' := fun k _ hk => h.block k (Array.getElem?_eq_some_iff.1 hk).1
structure St (σ: Type) where
 own: σ -> Nat -> Prop
 P: σ -> World -> Prop
 keep: ∀ s w w',P s w -> (∀ k,own s k -> w'.heap[k]? = w.heap[k]?) -> Pk w w' -> P s w'
 lt: ∀ s w k,P s w -> own s k -> k < w.heap.size
 tag: ∀ s w k cs,P s w -> own s k -> w.heap[k]? ≠ some (Obj.cells cs 109 (0,0))
theorem St.pk {σ: Type} (A: St σ) {s: σ} {w w': World} (h: A.P s w) (o: Only (A.own s) w w'): Pk w w' := fun k cs hk =>
 o.block k (Array.getElem?_eq_some_iff.1 hk).1 fun x => A.tag s w k cs h x hk
structure Moves {σ: Type} (A: St σ) (s s': σ) (w w': World): Prop where
 only: Only (A.own s) w w'
 own: ∀ k,A.own s' k -> A.own s k \/ w.heap.size <= k
theorem Moves.refl {σ: Type} (A: St σ) (s: σ) (w: World): Moves A s s w w := ⟨Only.refl _ _,fun _ h => Or.inl h⟩
theorem Moves.trans {σ: Type} {A: St σ} {s s' s'': σ} {w w1 w2: World} (h: Moves A s s' w w1) (h': Moves A s' s'' w1 w2): Moves A s s'' w w2 := by
 have z := h.only.size
 refine ⟨⟨h'.only.os.trans h.only.os,h'.only.tape.trans h.only.tape,h'.only.output.trans h.only.output,Nat.le_trans z h'.only.size,fun k hk hs => ?_⟩,fun k hk => ?_⟩
 · rw [h'.only.block k (by omega) fun x => by rcases h.own k x with y | y; exact hs y; omega]
   exact h.only.block k hk hs
 · rcases h'.own k hk with x | x
   · exact h.own k x
   · exact Or.inr (by omega)
theorem St.below {σ: Type} (A: St σ) {s: σ} {w w': World} (h: A.P s w) (hb: Below w.heap.size w w'): A.P s w' :=
 A.keep s w w' h (fun k hk => hb.block k (A.lt s w k h hk)) (Pk.of_below hb)
theorem Moves.below {σ: Type} {A: St σ} {s: σ} {w w': World} (hb: Below w.heap.size w w'): Moves A s s w w' :=
 ⟨Only.of_below hb,fun _ h => Or.inl h⟩
theorem below_alloc (w: World) (o: Obj): Below w.heap.size w (w.alloc o) := (Below.refl _ _).alloc (Nat.le_refl _) o
theorem below_on {a b c: World} (h: Below a.heap.size a b) (k: Below b.heap.size b c): Below a.heap.size a c := h.trans (k.mono h.size)
def bcs (l: List UInt8): List Value := l.map fun c => Value.int .u8 (c.toNat: Int)
theorem bcs_length (l: List UInt8): (bcs l).length = l.length := by simp [bcs]
def zeroP: List UInt8 := List.replicate 1024 0
structure Abs where
 pg: List (Option (List UInt8))
 fr: List Nat
 q: Nat
structure Abs.Ok (a: Abs): Prop where
 low: ∀ n ∈ a.fr,1 <= n /\ a.pg[n - 1]? = some none
 nodup: a.fr.Nodup
 count: a.pg.countP Option.isNone = a.fr.length
 len: ∀ c,some c ∈ a.pg -> c.length = 1024
 small: a.pg.length <= 4096
 quota: a.q <= 4096
def Abs.at (a: Abs) (n: Int): Option (List UInt8) := if 1 <= n then (a.pg[n.toNat - 1]?).join else none
def Abs.used (a: Abs): Nat := a.pg.length - a.fr.length
def Abs.left (a: Abs): Nat := a.q - a.used
def Abs.next (a: Abs): Nat := match a.fr.getLast? with | none => a.pg.length + 1 | some n => n
def Abs.take (a: Abs): Abs := match a.fr.getLast? with | none => { a with pg := a.pg ++ [none] } | some _ => { a with fr := a.fr.dropLast }
def Abs.lay (a: Abs) (n: Nat) (c: Option (List UInt8)): Abs := { a with pg := a.pg.set (n - 1) c }
def Abs.alloc (a: Abs): Abs := a.take.lay a.next (some zeroP)
def Abs.free (a: Abs) (n: Nat): Abs := { a.lay n none with fr := a.fr ++ [n] }
theorem Abs.Ok.le {a: Abs} (h: a.Ok): a.fr.length <= a.pg.length := by
 rw [<- h.count]; exact List.countP_le_length
theorem Abs.at_some {a: Abs} {n: Int} {c: List UInt8} (h: a.at n = some c): 1 <= n /\ n.toNat - 1 < a.pg.length /\ a.pg[n.toNat - 1]? = some (some c) := by
 unfold Abs.at at h
 split at h
 · rename_i h1
   have h2: a.pg[n.toNat - 1]? = some (some c) := by
    cases hx: a.pg[n.toNat - 1]? with
    | none => simp [hx] at h
    | some y => simp [hx] at h; rw [h]
   exact ⟨h1,(List.getElem?_eq_some_iff.1 h2).1,h2⟩
 · cases h
theorem Abs.Ok.lay {a: Abs} (h: a.Ok) {n: Int} {c d: List UInt8} (hn: a.at n = some c) (hd: d.length = 1024): (a.lay n.toNat (some d)).Ok := by
 obtain ⟨h1,h2,h3⟩ := Abs.at_some hn
 have hv: a.pg[n.toNat - 1] = some c := by simpa [List.getElem?_eq_getElem h2] using h3
 refine ⟨fun m hm => ?_,h.nodup, ?_,fun e he => ?_,by simpa [Abs.lay] using h.small,h.quota⟩
 · have := h.low m hm
   refine ⟨this.1, ?_⟩
   show (a.pg.set (n.toNat - 1) (some d))[m - 1]? = _
   rw [List.getElem?_set_ne]
   · exact this.2
   · intro e
     rw [e,this.2] at h3
     cases h3
 · show (a.pg.set (n.toNat - 1) (some d)).countP _ = _
   rw [List.countP_set h2,hv]
   show _ = a.fr.length
   simpa using h.count
 · rcases List.mem_or_eq_of_mem_set he with he | he
   · exact h.len e he
   · cases he; exact hd
theorem Abs.Ok.free {a: Abs} (h: a.Ok) {n: Int} {c: List UInt8} (hn: a.at n = some c): (a.free n.toNat).Ok := by
 obtain ⟨h1,h2,h3⟩ := Abs.at_some hn
 have hv: a.pg[n.toNat - 1] = some c := by simpa [List.getElem?_eq_getElem h2] using h3
 refine ⟨fun m hm => ?_, ?_, ?_,fun e he => ?_,by simpa [Abs.free,Abs.lay] using h.small,h.quota⟩
 · show 1 <= m /\ (a.pg.set (n.toNat - 1) none)[m - 1]? = _
   rcases List.mem_append.1 hm with hm | hm
   · have := h.low m hm
     refine ⟨this.1, ?_⟩
     rw [List.getElem?_set_ne]
     · exact this.2
     · intro e
       rw [e,this.2] at h3
       cases h3
   · simp at hm
     subst hm
     exact ⟨by omega,by simp [h2]⟩
 · show (a.fr ++ [n.toNat]).Nodup
   rw [List.nodup_append]
   refine ⟨h.nodup,by simp, ?_⟩
   intro x hx y hy e
   simp at hy
   rw [hy] at e
   rw [<- e,(h.low x hx).2] at h3
   cases h3
 · show (a.pg.set (n.toNat - 1) none).countP _ = (a.fr ++ [n.toNat]).length
   rw [List.countP_set h2,hv,List.length_append, <- h.count]
   simp
 · rcases List.mem_or_eq_of_mem_set he with he | he
   · exact h.len e he
   · cases he
theorem zeroP_length: zeroP.length = 1024 := List.length_replicate
theorem Abs.Ok.alloc {a: Abs} (h: a.Ok) (hl: 0 < a.left): a.alloc.Ok /\ a.used < a.q := by
 have hq: a.used < a.q := by unfold Abs.left at hl; omega
 refine ⟨?_,hq⟩
 have h0 := h.quota
 unfold Abs.alloc Abs.take Abs.next
 cases hg: a.fr.getLast? with
 | none =>
  have hf: a.fr = [] := by simpa using hg
  have hc: a.pg.countP Option.isNone = 0 := by rw [h.count,hf]; rfl
  have hu: a.used = a.pg.length := by unfold Abs.used; rw [hf]; rfl
  have hset: ((a.pg ++ [none]).set (a.pg.length + 1 - 1) (some zeroP)) = a.pg ++ [some zeroP] := by
   rw [Nat.add_sub_cancel,List.set_append_right _ _ (Nat.le_refl _)]; simp
  refine ⟨fun m hm => ?_,h.nodup, ?_,fun e he => ?_, ?_,h.quota⟩
  · rw [show a.fr = [] from hf] at hm; cases hm
  · show ((a.pg ++ [none]).set (a.pg.length + 1 - 1) (some zeroP)).countP _ = a.fr.length
    rw [hset,List.countP_append,hc,hf]; rfl
  · have he: some e ∈ ((a.pg ++ [none]).set (a.pg.length + 1 - 1) (some zeroP)) := he
    rw [hset] at he
    rcases List.mem_append.1 he with he | he
    · exact h.len e he
    · simp at he; subst he; exact zeroP_length
  · show ((a.pg ++ [none]).set (a.pg.length + 1 - 1) (some zeroP)).length <= 4096
    rw [hset,List.length_append]
    simp
    omega
 | some n =>
  have hmem: n ∈ a.fr := List.mem_of_getLast? hg
  have hd: a.fr = a.fr.dropLast ++ [n] := by
   obtain ⟨ys,hy⟩ := List.getLast?_eq_some_iff.1 hg
   rw [hy,List.dropLast_concat]
  have hnd := h.nodup
  rw [hd,List.nodup_append] at hnd
  obtain ⟨h1,h3⟩ := h.low n hmem
  have h2: n - 1 < a.pg.length := (List.getElem?_eq_some_iff.1 h3).1
  have hv: a.pg[n - 1] = none := by simpa [List.getElem?_eq_getElem h2] using h3
  have hcl := h.count
  rw [hd,List.length_append] at hcl
  refine ⟨fun m hm => ?_,hnd.1, ?_,fun e he => ?_,by simpa [Abs.lay] using h.small,h.quota⟩
  · have hm': m ∈ a.fr.dropLast := hm
    have := h.low m (by rw [hd]; exact List.mem_append_left _ hm')
    refine ⟨this.1, ?_⟩
    show (a.pg.set (n - 1) (some zeroP))[m - 1]? = _
    rw [List.getElem?_set_ne]
    · exact this.2
    · have hne: m ≠ n := hnd.2.2 m hm' n (by simp)
      have := this.1
      omega
  · show (a.pg.set (n - 1) (some zeroP)).countP _ = a.fr.dropLast.length
    rw [List.countP_set h2,hv]
    simp at hcl ⊢
    omega
  · rcases List.mem_or_eq_of_mem_set he with he | he
    · exact h.len e he
    · cases he; exact zeroP_length
structure Ar where
 p: Nat
 vp: Value
 vf: Value
 pg: List (Option (Nat × List UInt8))
 fr: List Nat
 q: Nat
def Ar.abs (s: Ar): Abs := ⟨s.pg.map (Option.map Prod.snd),s.fr,s.q⟩
def pgv: Option (Nat × List UInt8) -> Value
 | none => .pointer none
 | some (b,_) => .pointer (some ⟨b,0,none⟩)
def nv (n: Nat): Value := .int .i64 (n: Int)
structure ArP (s: Ar) (W: World): Prop where
 blk: W.heap[s.p]? = some (.cells #[s.vp,s.vf,nv s.q] 59 (0,0))
 rp: W.ownsRow 0 107 1 s.vp s.pg.length (s.pg.map pgv)
 rf: W.ownsRow 0 3 1 s.vf s.fr.length (s.fr.map nv)
 pgs: ∀ b c,some (b,c) ∈ s.pg -> W.heap[b]? = some (.cells (bcs c).toArray 109 (0,0))
def Ar.own (s: Ar) (k: Nat): Prop := k = s.p \/ s.vp.ownBlock = some k \/ s.vf.ownBlock = some k
theorem owns_of_block {W W': World} {b: Nat} {e: TypeId} {size: Nat} {v: Value} {n: Nat} {xs: List Value} (h: W.ownsRow b e size v n xs) (hk: ∀ k,v.ownBlock = some k -> W'.heap[k]? = W.heap[k]?): W'.ownsRow b e size v n xs := by
 refine ⟨h.1, ?_⟩
 rcases h.2 with hn | ⟨g,cap,cur,rfl,hb,hgg,rest⟩
 · exact .inl hn
 · exact .inr ⟨g,cap,cur,rfl,hb,(hk g rfl).trans hgg,rest⟩
theorem owns_tag {W: World} {b: Nat} {e: TypeId} {size: Nat} {v: Value} {n: Nat} {xs: List Value} (h: W.ownsRow b e size v n xs) {k: Nat} (hk: v.ownBlock = some k): ∃ cur,W.heap[k]? = some (.cells cur e (0,0)) := by
 rcases h.2 with ⟨rfl,_⟩ | ⟨g,cap,cur,rfl,hb,hgg,rest⟩
 · simp [Value.ownBlock] at hk
 · simp [Value.ownBlock] at hk
   subst hk
   exact ⟨cur,hgg⟩
theorem ArP.tag {s: Ar} {W: World} (h: ArP s W) {k: Nat} (hk: s.own k): ∃ cur t,W.heap[k]? = some (.cells cur t (0,0)) /\ (t = 59 \/ t = 107 \/ t = 3) := by
 rcases hk with rfl | hk | hk
 · exact ⟨_,_,h.blk,Or.inl rfl⟩
 · obtain ⟨cur,h1⟩ := owns_tag h.rp hk
   exact ⟨_,_,h1,Or.inr (Or.inl rfl)⟩
 · obtain ⟨cur,h1⟩ := owns_tag h.rf hk
   exact ⟨_,_,h1,Or.inr (Or.inr rfl)⟩
def arSt: St Ar where
 own := Ar.own
 P := ArP
 keep s w w' h hk hp := ⟨(hk _ (Or.inl rfl)).trans h.blk,owns_of_block h.rp fun k x => hk k (Or.inr (Or.inl x)),owns_of_block h.rf fun k x => hk k (Or.inr (Or.inr x)),fun b c x => (hp b _ (h.pgs b c x)).trans (h.pgs b c x)⟩
 lt s w k h hk := by
  obtain ⟨cur,t,h1,_⟩ := h.tag hk
  exact (Array.getElem?_eq_some_iff.1 h1).1
 tag s w k cs h hk e := by
  obtain ⟨cur,t,h1,h2⟩ := h.tag hk
  rw [e] at h1
  simp only [Option.some.injEq,Obj.cells.injEq] at h1
  rcases h2 with h2 | h2 | h2 <;> (rw [h2] at h1; simp at h1)
def Goes (s: Ar) (W: World) (a: Abs) (W': World): Prop := ∃ s',ArP s' W' /\ s'.p = s.p /\ s'.abs = a /\ Moves arSt s s' W W'
theorem ArP.cell {s: Ar} {W: World} (h: ArP s W): W.cell? ⟨s.p,0,none⟩ = some s.vp /\ W.cell? ⟨s.p,1,none⟩ = some s.vf /\ W.cell? ⟨s.p,2,none⟩ = some (nv s.q) /\ s.p < W.heap.size /\ (∀ j,W.frozen? ⟨s.p,j,none⟩ = false) := by
 refine ⟨?_, ?_, ?_,(Array.getElem?_eq_some_iff.1 h.blk).1,fun j => frozen_of_row _ _ _ _ _ h.blk⟩ <;> rw [cell_of_row _ _ _ _ _ _ h.blk] <;> rfl
theorem ArP.rp_ne {s: Ar} {w: World} (h: ArP s w) {k: Nat} (hk: s.vp.ownBlock = some k): k ≠ s.p /\ s.vf.ownBlock ≠ some k /\ ∀ b c,some (b,c) ∈ s.pg -> b ≠ k := by
 obtain ⟨cur,h1⟩ := owns_tag h.rp hk
 refine ⟨fun e => ?_,fun e => ?_,fun b c hb e => ?_⟩
 · rw [e,h.blk] at h1
   simp at h1
 · obtain ⟨cur',h2⟩ := owns_tag h.rf e
   rw [h2] at h1
   simp at h1
 · rw [<- e,h.pgs b c hb] at h1
   simp at h1
theorem ArP.rf_ne {s: Ar} {w: World} (h: ArP s w) {k: Nat} (hk: s.vf.ownBlock = some k): k ≠ s.p /\ s.vp.ownBlock ≠ some k /\ ∀ b c,some (b,c) ∈ s.pg -> b ≠ k := by
 obtain ⟨cur,h1⟩ := owns_tag h.rf hk
 refine ⟨fun e => ?_,fun e => ?_,fun b c hb e => ?_⟩
 · rw [e,h.blk] at h1
   simp at h1
 · obtain ⟨cur',h2⟩ := owns_tag h.rp e
   rw [h2] at h1
   simp at h1
 · rw [<- e,h.pgs b c hb] at h1
   simp at h1
theorem ArP.pg_ne {s: Ar} {w: World} (h: ArP s w) {b: Nat} {c: List UInt8} (hb: some (b,c) ∈ s.pg): b ≠ s.p := by
 intro e
 have := h.pgs b c hb
 rw [e,h.blk] at this
 simp at this
theorem ArP.setq {s: Ar} {w: World} (h: ArP s w) (n: Nat): ArP { s with q := n } (w.setCell ⟨s.p,2,none⟩ (.int .i64 (n: Int))) /\ Moves arSt s { s with q := n } w (w.setCell ⟨s.p,2,none⟩ (.int .i64 (n: Int))) := by
 refine ⟨⟨?_, ?_, ?_, ?_⟩,(Only.refl _ _).setCell (Or.inr (Or.inl rfl)) _,fun k hk => Or.inl hk⟩
 · exact heap_setCell_same w s.p 2 _ _ _ h.blk
 · exact owns_of_block h.rp fun k hk => heap_setCell_other _ _ _ _ (h.rp_ne hk).1
 · exact owns_of_block h.rf fun k hk => heap_setCell_other _ _ _ _ (h.rf_ne hk).1
 · exact fun b c hb => (heap_setCell_other _ _ _ _ (h.pg_ne hb)).trans (h.pgs b c hb)
theorem ArP.newp {s: Ar} {w w': World} (h: ArP s w) {v': Value} {pg': List (Option (Nat × List UInt8))} (hg: w.grownBy w' s.vp.ownBlock) (ho: w'.ownsRow 0 107 1 v' pg'.length (pg'.map pgv)) (hat: ∀ k,v'.ownBlock = some k -> s.vp.ownBlock = some k \/ w.heap.size <= k) (hpg: ∀ b c,some (b,c) ∈ pg' -> some (b,c) ∈ s.pg) :
 ArP { s with vp := v',pg := pg' } (w'.setCell ⟨s.p,0,none⟩ v') /\ Moves arSt s { s with vp := v',pg := pg' } w (w'.setCell ⟨s.p,0,none⟩ v') := by
 have hp := (Array.getElem?_eq_some_iff.1 h.blk).1
 have hpp: some s.p ≠ s.vp.ownBlock := fun e => (h.rp_ne e.symm).1 rfl
 have hb': w'.heap[s.p]? = some (.cells #[s.vp,s.vf,nv s.q] 59 (0,0)) := (hg.block _ hp hpp).trans h.blk
 refine ⟨⟨?_, ?_, ?_, ?_⟩, ?_,fun k hk => ?_⟩
 · exact heap_setCell_same w' s.p 0 _ _ _ hb'
 · refine owns_of_block ho fun k hk => heap_setCell_other _ _ _ _ fun e => ?_
   obtain ⟨cur,h1⟩ := owns_tag ho hk
   rw [show k = s.p from e,hb'] at h1
   simp at h1
 · refine owns_of_block h.rf fun k hk => (heap_setCell_other _ _ _ _ (h.rf_ne hk).1).trans (hg.block _ (arSt.lt s w k h (Or.inr (Or.inr hk))) fun e => (h.rf_ne hk).2.1 e.symm)
 · exact fun b c hb => ((heap_setCell_other _ _ _ _ (h.pg_ne (hpg b c hb))).trans (hg.block _ (Array.getElem?_eq_some_iff.1 (h.pgs b c (hpg b c hb))).1 fun e => (h.rp_ne e.symm).2.2 b c (hpg b c hb) rfl)).trans (h.pgs b c (hpg b c hb))
 · exact ((Only.refl s.own w).grown hg fun k hk => Or.inr (Or.inr (Or.inl hk))).setCell (Or.inr (Or.inl rfl)) _
 · rcases hk with rfl | hk | hk
   · exact Or.inl (Or.inl rfl)
   · exact (hat k hk).imp (fun x => Or.inr (Or.inl x)) id
   · exact Or.inl (Or.inr (Or.inr hk))
theorem ArP.newf {s: Ar} {w w': World} (h: ArP s w) {v': Value} {fr': List Nat} (hg: w.grownBy w' s.vf.ownBlock) (ho: w'.ownsRow 0 3 1 v' fr'.length (fr'.map nv)) (hat: ∀ k,v'.ownBlock = some k -> s.vf.ownBlock = some k \/ w.heap.size <= k) :
 ArP { s with vf := v',fr := fr' } (w'.setCell ⟨s.p,1,none⟩ v') /\ Moves arSt s { s with vf := v',fr := fr' } w (w'.setCell ⟨s.p,1,none⟩ v') := by
 have hp := (Array.getElem?_eq_some_iff.1 h.blk).1
 have hpp: some s.p ≠ s.vf.ownBlock := fun e => (h.rf_ne e.symm).1 rfl
 have hb': w'.heap[s.p]? = some (.cells #[s.vp,s.vf,nv s.q] 59 (0,0)) := (hg.block _ hp hpp).trans h.blk
 refine ⟨⟨?_, ?_, ?_, ?_⟩, ?_,fun k hk => ?_⟩
 · exact heap_setCell_same w' s.p 1 _ _ _ hb'
 · refine owns_of_block h.rp fun k hk => (heap_setCell_other _ _ _ _ (h.rp_ne hk).1).trans (hg.block _ (arSt.lt s w k h (Or.inr (Or.inl hk))) fun e => (h.rp_ne hk).2.1 e.symm)
 · refine owns_of_block ho fun k hk => heap_setCell_other _ _ _ _ fun e => ?_
   obtain ⟨cur,h1⟩ := owns_tag ho hk
   rw [show k = s.p from e,hb'] at h1
   simp at h1
 · exact fun b c hb => ((heap_setCell_other _ _ _ _ (h.pg_ne hb)).trans (hg.block _ (Array.getElem?_eq_some_iff.1 (h.pgs b c hb)).1 fun e => (h.rf_ne e.symm).2.2 b c hb rfl)).trans (h.pgs b c hb)
 · exact ((Only.refl s.own w).grown hg fun k hk => Or.inr (Or.inr (Or.inr hk))).setCell (Or.inr (Or.inl rfl)) _
 · rcases hk with rfl | hk | hk
   · exact Or.inl (Or.inl rfl)
   · exact Or.inl (Or.inr (Or.inl hk))
   · exact (hat k hk).imp (fun x => Or.inr (Or.inr x)) id
theorem ArP.setp {s: Ar} {w: World} (h: ArP s w) {g cap: Nat} (hv: s.vp = .slice (some ⟨g,0,none⟩) s.pg.length cap) (m: Nat) (x: Option (Nat × List UInt8)) (hx: ∀ b c,x = some (b,c) -> w.heap[b]? = some (.cells (bcs c).toArray 109 (0,0))) :
 ArP { s with pg := s.pg.set m x } (w.setCell ⟨g,m,none⟩ (pgv x)) /\ Moves arSt s { s with pg := s.pg.set m x } w (w.setCell ⟨g,m,none⟩ (pgv x)) := by
 have hk: s.vp.ownBlock = some g := by rw [hv]; rfl
 have hr := h.rp
 rw [hv] at hr
 refine ⟨⟨?_, ?_, ?_, ?_⟩,(Only.refl _ _).setCell (Or.inr (Or.inr (Or.inl hk))) _,fun k hk => Or.inl hk⟩
 · exact (heap_setCell_other _ _ _ _ fun e => (h.rp_ne hk).1 e.symm).trans h.blk
 · have := (hr.stored m (pgv x)).1
   rw [<- List.map_set] at this
   show World.ownsRow _ 0 107 1 s.vp (s.pg.set m x).length _
   rw [List.length_set,hv]
   exact this
 · exact owns_of_block h.rf fun k hk' => heap_setCell_other _ _ _ _ fun e => (h.rp_ne hk).2.1 (by rw [hk',show k = g from e])
 · intro b c hb
   have hb0: w.heap[b]? = some (.cells (bcs c).toArray 109 (0,0)) := by
    rcases List.mem_or_eq_of_mem_set hb with hb | hb
    · exact h.pgs b c hb
    · exact hx b c hb.symm
   refine (heap_setCell_other _ _ _ _ fun e => ?_).trans hb0
   obtain ⟨cur,h1⟩ := owns_tag h.rp hk
   rw [<- show b = g from e,hb0] at h1
   simp at h1
theorem owns_slice {W: World} {b: Nat} {e: TypeId} {size: Nat} {v: Value} {n: Nat} {xs: List Value} (h: W.ownsRow b e size v n xs): ∃ a cap,v = .slice a n cap /\ (0 < n -> ∃ g,a = some ⟨g,0,none⟩ /\ g < W.heap.size) /\ n <= cap := by
 rcases h.2 with ⟨rfl,h0⟩ | ⟨g,cap,cur,rfl,hb,hgg,hc,_⟩
 · subst h0; exact ⟨none,0,rfl,fun h => absurd h (by omega),Nat.le_refl _⟩
 · exact ⟨_,cap,rfl,fun _ => ⟨g,rfl,(Array.getElem?_eq_some_iff.1 hgg).1⟩,hc⟩
end Go.Proofs.YtdnkbdjhccckhaaGreat.L4
namespace Go.Proofs.YtdnkbdjhccckhaaGreat.L1
open Go.RowKit
def faultV (c a: Int): Value := .agg #[.int .i64 c, .int .i64 a]
def stopped (c a: Int): List PanicEntry := [{ v := .iface 98 (faultV c a),recovered := false }]
theorem stop_ok (a: Int) (w: World) :
 Calls Tryz.prog 78 #[.int .i64 0, .int .i64 a] w fun e w' => e = .returned (.tuple #[]) /\ w' = w := by
 go_enter Tryz.func78,Tryz.ntmps78
 go_wp2
 go_end0
 exact ⟨rfl,rfl⟩
theorem stop_no (c a: Int) (hc: (c != 0) = true) (w: World) :
 Calls Tryz.prog 78 #[.int .i64 c, .int .i64 a] w fun e w' => e = .panicked (stopped c a) /\ w' = w := by
 go_enter Tryz.func78,Tryz.ntmps78
 go_wp2
 exact ⟨rfl,rfl,rfl⟩
theorem check_ok (w: World) :
 Calls Tryz.prog 53 #[.int .i64 0] w fun e w' => e = .returned (.tuple #[]) /\ w' = w := by
 go_enter Tryz.func53,Tryz.ntmps53
 go_wp2_with (go_at_call 78; refine (stop_ok _ _).mono ?_; rintro e w' ⟨rfl,rfl⟩)
 go_end0
 exact ⟨rfl,rfl⟩
theorem check_no (c: Int) (hc: (c != 0) = true) (w: World) :
 Calls Tryz.prog 53 #[.int .i64 c] w fun e w' => e = .panicked (stopped c 0) /\ w' = w := by
 go_enter Tryz.func53,Tryz.ntmps53
 go_wp2_with (go_at_call 78; refine (stop_no _ _ hc _).mono ?_; rintro e w' ⟨rfl,rfl⟩)
 exact ⟨rfl,rfl,rfl⟩
theorem met_idle (p q: Addr) (w: World) :
 CallsD Tryz.prog 96 #[.pointer (some p), .pointer (some q)] .returning w fun e u' w' => e = .returned (.tuple #[]) /\ u' = .returning /\ w' = w := by
 refine callsD_of_wpS Tryz.func96 rfl fun c₀ cs hu => ?_
 apply wpS_seq
 apply wpS_region
 simp [wpOpsS,go_sem,recoverD,hu,Tryz.ntmps96,Exit.thenS]
 apply wpS_of_wp
 simp only [Array.replicate_succ,Array.replicate_zero,List.push_toArray,List.append_toArray,List.nil_append,List.cons_append,List.setIfInBounds_toArray,List.set_cons_succ,List.set_cons_zero]
 go_wp2
 exact ⟨rfl, .returning,by cases c₀; simp_all, .tuple #[],results_none rfl _ _ _,rfl,rfl,rfl⟩
theorem assert_fault (v: Value) (w: World): (Instr.typeAssert (.iface 98 v) 20 98 true).run Tryz.prog w = .ok (.tuple #[v, .bool true]) w := by
 simp [Instr.typeAssert,run_underlying Tryz.underlying98]
theorem met_stop (b d: Nat) (c a: Int) (x0 x1 x2: Value) (older: List PanicEntry) (w: World) (h0: w.cell? ⟨b,0,none⟩ = some x0) (h1: w.cell? ⟨b,1,none⟩ = some x1)
 (h2: w.cell? ⟨d,0,none⟩ = some x2) (f0: w.frozen? ⟨b,0,none⟩ = false) (f1: w.frozen? ⟨b,1,none⟩ = false) (f2: w.frozen? ⟨d,0,none⟩ = false) (hbd: b ≠ d) :
 CallsD Tryz.prog 96 #[.pointer (some ⟨b,0,none⟩), .pointer (some ⟨d,0,none⟩)] (.panicking ({ v := .iface 98 (faultV c a),recovered := false } :: older)) w fun e u' w' =>
  e = .returned (.tuple #[]) /\ u' = .panicking ({ v := .iface 98 (faultV c a),recovered := true } :: older) /\ w' = ((w.setCell ⟨b,0,none⟩ (.int .i64 c)).setCell ⟨b,1,none⟩ (.int .i64 a)).setCell ⟨d,0,none⟩ (.bool true) := by
 refine callsD_of_wpS Tryz.func96 rfl fun c₀ cs hu => ?_
 apply wpS_seq
 apply wpS_region
 simp [wpOpsS,go_sem,recoverD,hu,Tryz.ntmps96,Exit.thenS]
 apply wpS_of_wp
 simp only [Array.replicate_succ,Array.replicate_zero,List.push_toArray,List.append_toArray,List.nil_append,List.cons_append,List.setIfInBounds_toArray,List.set_cons_succ,List.set_cons_zero,faultV]
 have hta := assert_fault
 go_wp2
 trace_state
 exact ⟨rfl,_,rfl, .tuple #[],results_none rfl _ _ _,rfl,rfl,rfl⟩
abbrev caughtW (w: World): World := (w.alloc (.cells #[.int .i64 0, .int .i64 0] 98)).alloc (.cells #[.bool false] 4)
inductive Came: Ending -> Int -> Int -> Bool -> Prop
 | done: Came (.returned (.tuple #[])) 0 0 false
 | stop (c a: Int): Came (.panicked (stopped c a)) c a true
theorem hide {p: Prop} (h: p): Hid p := h
theorem unhide {p: Prop} (h: Hid p): p := h
theorem caughtW_cells {w w1: World} {S: Nat -> Prop} (ho: Only S (caughtW w) w1) (hS: ¬ S w.heap.size) (hS': ¬ S (w.heap.size + 1)) :
 w1.cell? ⟨w.heap.size,0,none⟩ = some (.int .i64 0) /\ w1.cell? ⟨w.heap.size,1,none⟩ = some (.int .i64 0) /\ w1.cell? ⟨w.heap.size + 1,0,none⟩ = some (.bool false) /\
 w1.frozen? ⟨w.heap.size,0,none⟩ = false /\ w1.frozen? ⟨w.heap.size,1,none⟩ = false /\ w1.frozen? ⟨w.heap.size + 1,0,none⟩ = false /\ w.heap.size + 1 < w1.heap.size := by
 have hz := ho.size
 simp at hz
 refine ⟨?_, ?_, ?_, ?_, ?_, ?_,by omega⟩
 · rw [ho.cell (by simp; omega) hS]; simp [go_sem]
 · rw [ho.cell (by simp; omega) hS]; simp [go_sem]
 · rw [ho.cell (by simp) hS']; simp [go_sem]
 · rw [ho.frozen (by simp; omega) hS]; simp [go_sem]
 · rw [ho.frozen (by simp; omega) hS]; simp [go_sem]
 · rw [ho.frozen (by simp) hS']; simp [go_sem]
theorem caught_any (g: FuncId) (hg: ∀ args w,(callFunc g args).run Tryz.prog w = .ok (.enter g args) w) (cap: Array Value) (w: World) (S: Nat -> Prop) (hS: ¬ S w.heap.size) (hS': ¬ S (w.heap.size + 1)) (R: Ending -> World -> Prop)
 (h: Calls Tryz.prog g cap (caughtW w) fun e w1 => R e w1 /\ Only S (caughtW w) w1 /\ ∃ c a t,Came e c a t) :
 Calls Tryz.prog 72 #[.func (.func g) #[] cap] w fun e w' => ∃ e1 w1 c a t,R e1 w1 /\ Came e1 c a t /\ e = .returned (.tuple #[faultV c a, .bool t]) /\ Only S (caughtW w) w1 /\
  w'.heap.size = w1.heap.size /\ Only (fun k => k = w.heap.size \/ k = w.heap.size + 1) w1 w' := by
 have hmf: ∀ (fn: Fn) (first cap: Array Value) (w: World),(Instr.makeFunc fn first cap).run Tryz.prog w = .ok (.func fn first cap) w := fun _ _ _ _ => rfl
 go_enter_defers Tryz.func72,Tryz.ntmps72
 have H := hide h
 clear h
 go_wp2_with fail
 refine (unhide H).mono ?_
 rintro e w1 ⟨hR,ho,c,a,t,hc⟩
 obtain ⟨z0,z1,z2,y0,y1,y2,hz⟩ := caughtW_cells ho hS hS'
 cases hc with
 | done =>
  go_wp2
  refine leaves_cons (f := 96) (args := #[.pointer (some ⟨w.heap.size,0,none⟩), .pointer (some ⟨w.heap.size + 1,0,none⟩)]) (by simp) (by simp [go_sem]) ?_
  refine (met_idle _ _ _).mono ?_
  rintro e u' w'' ⟨rfl,rfl,rfl⟩
  refine ⟨.tuple #[faultV 0 0, .bool false], ?_,_,w1,0,0,false,hR, .done,rfl,ho,by simp, ?_⟩
  · simp [results,Tryz.results72,go_sem,z0,z1,z2,faultV]
  · exact (((Only.refl _ _).setCell (Or.inr (Or.inl rfl)) _).setCell (Or.inr (Or.inl rfl)) _).setCell (Or.inr (Or.inr rfl)) _
 | stop =>
  refine leaves_cons (f := 96) (args := #[.pointer (some ⟨w.heap.size,0,none⟩), .pointer (some ⟨w.heap.size + 1,0,none⟩)]) (by simp) (by simp [go_sem]) ?_
  refine (met_stop _ _ c a _ _ _ [] _ z0 z1 z2 y0 y1 y2 (by omega)).mono ?_
  rintro e u' w'' ⟨rfl,rfl,rfl⟩
  refine ⟨.tuple #[faultV c a, .bool true], ?_,_,w1,c,a,true,hR, .stop c a,rfl,ho,by simp, ?_⟩
  · simp [results,Tryz.results72,go_sem,z0,z1,z2,faultV]
  · exact (((Only.refl _ _).setCell (Or.inr (Or.inl rfl)) _).setCell (Or.inr (Or.inl rfl)) _).setCell (Or.inr (Or.inr rfl)) _
abbrev catchW (w: World): World := caughtW (w.alloc (.cells #[.int .i64 0, .int .i64 0] 98))
theorem below_catchW (w: World): Below w.heap.size w (catchW w) :=
 (((Below.refl _ _).alloc (Nat.le_refl _) _).alloc (by simp) _).alloc (by simp; omega) _
abbrev OnlyAt (b n: Nat) (w w': World): Prop := Only (fun k => b <= k /\ k < b + n) w w'
theorem Only.through {S: Nat -> Prop} {w W w1 w': World} {n: Nat} (hb: Below w.heap.size w W) (ho: Only S W w1) (hat: OnlyAt w.heap.size n w1 w'): Only S w w' := by
 refine ⟨hat.os.trans (ho.os.trans hb.os),hat.tape.trans (ho.tape.trans hb.tape),hat.output.trans (ho.output.trans hb.output), ?_,fun k hk hs => ?_⟩
 · have := hb.size; have := ho.size; have := hat.size; omega
 · have h1 := hb.size
   have h2 := ho.size
   rw [hat.block k (by omega) (by omega),ho.block k (by omega) hs,hb.block k hk]
end Go.Proofs.YtdnkbdjhccckhaaGreat.L1
namespace Go.Proofs.YtdnkbdjhccckhaaGreat.L1
open Go.RowKit
abbrev undoW (w: World): World := caughtW (w.alloc (.cells #[.int .i64 0, .int .i64 0] 98))
theorem below_caughtW (w: World): Below w.heap.size w (caughtW w) := ((Below.refl _ _).alloc (Nat.le_refl _) _).alloc (by simp) _
theorem caught_bound (g: FuncId) (hg: ∀ args w,(callFunc g args).run Tryz.prog w = .ok (.enter g args) w) (r: Value) (w: World) (S: Nat -> Prop) (hS: ¬ S w.heap.size) (hS': ¬ S (w.heap.size + 1)) (R: Ending -> World -> Prop)
 (h: Calls Tryz.prog g #[r] (caughtW w) fun e w1 => R e w1 /\ Only S (caughtW w) w1 /\ ∃ c a t,Came e c a t) :
 Calls Tryz.prog 72 #[.func (.func g) #[r] #[]] w fun e w' => ∃ e1 w1 c a t,R e1 w1 /\ Came e1 c a t /\ e = .returned (.tuple #[faultV c a, .bool t]) /\ Only S (caughtW w) w1 /\
  w'.heap.size = w1.heap.size /\ Only (fun k => k = w.heap.size \/ k = w.heap.size + 1) w1 w' := by
 have hmf: ∀ (fn: Fn) (first cap: Array Value) (w: World),(Instr.makeFunc fn first cap).run Tryz.prog w = .ok (.func fn first cap) w := fun _ _ _ _ => rfl
 go_enter_defers Tryz.func72,Tryz.ntmps72
 have H := hide h
 clear h
 go_wp2_with fail
 refine (unhide H).mono ?_
 rintro e w1 ⟨hR,ho,c,a,t,hc⟩
 obtain ⟨z0,z1,z2,y0,y1,y2,hz⟩ := caughtW_cells ho hS hS'
 cases hc with
 | done =>
  go_wp2
  refine leaves_cons (f := 96) (args := #[.pointer (some ⟨w.heap.size,0,none⟩), .pointer (some ⟨w.heap.size + 1,0,none⟩)]) (by simp) (by simp [go_sem]) ?_
  refine (met_idle _ _ _).mono ?_
  rintro e u' w'' ⟨rfl,rfl,rfl⟩
  refine ⟨.tuple #[faultV 0 0, .bool false], ?_,_,w1,0,0,false,hR, .done,rfl,ho,by simp, ?_⟩
  · simp [results,Tryz.results72,go_sem,z0,z1,z2,faultV]
  · exact (((Only.refl _ _).setCell (Or.inr (Or.inl rfl)) _).setCell (Or.inr (Or.inl rfl)) _).setCell (Or.inr (Or.inr rfl)) _
 | stop =>
  refine leaves_cons (f := 96) (args := #[.pointer (some ⟨w.heap.size,0,none⟩), .pointer (some ⟨w.heap.size + 1,0,none⟩)]) (by simp) (by simp [go_sem]) ?_
  refine (met_stop _ _ c a _ _ _ [] _ z0 z1 z2 y0 y1 y2 (by omega)).mono ?_
  rintro e u' w'' ⟨rfl,rfl,rfl⟩
  refine ⟨.tuple #[faultV c a, .bool true], ?_,_,w1,c,a,true,hR, .stop c a,rfl,ho,by simp, ?_⟩
  · simp [results,Tryz.results72,go_sem,z0,z1,z2,faultV]
  · exact (((Only.refl _ _).setCell (Or.inr (Or.inl rfl)) _).setCell (Or.inr (Or.inl rfl)) _).setCell (Or.inr (Or.inr rfl)) _
end Go.Proofs.YtdnkbdjhccckhaaGreat.L1
namespace Go.Proofs.YtdnkbdjhccckhaaGreat.L4
open Go.RowKit
open L1 (caughtW caught_any caught_bound catchW below_catchW undoW below_caughtW Came faultV stopped hide unhide OnlyAt)
theorem pk_of_only {S: Nat -> Prop} {w w': World} (ho: Only S w w') (h: ∀ k,S k -> k < w.heap.size -> ∃ cs t,w.heap[k]? = some (.cells cs t (0,0)) /\ t ≠ 109): Pk w w' := fun k cs hk => by
 have hlt := (Array.getElem?_eq_some_iff.1 hk).1
 by_cases hs: S k
 · obtain ⟨cs',t,h1,h2⟩ := h k hs hlt
   rw [hk] at h1
   cases h1
   exact absurd rfl h2
 · exact ho.block k hlt hs
theorem Moves.after {σ: Type} {A: St σ} {s s': σ} {w W w1 w': World} {n: Nat} (hP: A.P s w) (hb: Below w.heap.size w W) (hn: w.heap.size + n <= W.heap.size) (hP1: A.P s' w1)
 (hm: Moves A s s' W w1) (hat: OnlyAt w.heap.size n w1 w') (hpk: Pk w1 w'): A.P s' w' /\ Moves A s s' w w' := by
 refine ⟨A.keep s' w1 w' hP1 (fun k hk => hat.block k (A.lt _ _ _ hP1 hk) fun x => ?_) hpk,L1.Only.through hb hm.only hat,fun k hk => ?_⟩
 · rcases hm.own k hk with y | y
   · have := A.lt _ _ _ hP y; omega
   · omega
 · rcases hm.own k hk with y | y
   · exact Or.inl y
   · exact Or.inr (by omega)
theorem Moves.tail {σ: Type} {A: St σ} {s s': σ} {w w1 w': World} {S: Nat -> Prop} (hP: A.P s' w1) (hm: Moves A s s' w w1) (ho: Only S w1 w') (hS: ∀ k,S k -> w.heap.size <= k /\ ¬ A.own s' k) (hpk: Pk w1 w'): A.P s' w' /\ Moves A s s' w w' := by
 refine ⟨A.keep s' w1 w' hP (fun k hk => ho.block k (A.lt _ _ _ hP hk) fun x => (hS k x).2 hk) hpk,⟨ho.os.trans hm.only.os,ho.tape.trans hm.only.tape,ho.output.trans hm.only.output,Nat.le_trans hm.only.size ho.size,fun k hk hs => ?_⟩,hm.own⟩
 have := hm.only.size
 rw [ho.block k (by omega) fun x => by have := (hS k x).1; omega]
 exact hm.only.block k hk hs
theorem caughtW_tags {w w1: World} {S: Nat -> Prop} (ho: Only S (caughtW w) w1) (hS: ¬ S w.heap.size) (hS': ¬ S (w.heap.size + 1)) (k: Nat) (hk: k = w.heap.size \/ k = w.heap.size + 1): ∃ cs t,w1.heap[k]? = some (.cells cs t (0,0)) /\ t ≠ 109 := by
 have e0: (caughtW w).heap[w.heap.size]? = some (.cells #[.int .i64 0, .int .i64 0] 98 (0,0)) := by simp [World.alloc,Array.getElem?_push, -World.alloc_eq]
 have e1: (caughtW w).heap[w.heap.size + 1]? = some (.cells #[.bool false] 4 (0,0)) := by
  have h := heap_alloc_new (w.alloc (.cells #[.int .i64 0, .int .i64 0] 98)) (.cells #[.bool false] 4)
  rw [show (w.alloc (.cells #[.int .i64 0, .int .i64 0] 98)).heap.size = w.heap.size + 1 by simp] at h
  exact h
 rcases hk with rfl | rfl
 · exact ⟨_,_,(ho.block _ (by simp; omega) hS).trans e0,by decide⟩
 · exact ⟨_,_,(ho.block _ (by simp) hS').trans e1,by decide⟩
theorem caught_st {σ: Type} (A: St σ) (g: FuncId) (hg: ∀ args w,(callFunc g args).run Tryz.prog w = .ok (.enter g args) w) (cap: Array Value) (w: World) (s: σ) (hP: A.P s w) (T: Ending -> σ -> Prop)
 (h: Calls Tryz.prog g cap (caughtW w) fun e w1 => ∃ s',T e s' /\ A.P s' w1 /\ Moves A s s' (caughtW w) w1 /\ ∃ c a t,Came e c a t) :
 Calls Tryz.prog 72 #[.func (.func g) #[] cap] w fun e w' => ∃ e1 s' c a t,T e1 s' /\ Came e1 c a t /\ e = .returned (.tuple #[faultV c a, .bool t]) /\ A.P s' w' /\ Moves A s s' w w' := by
 have hno: ∀ k,w.heap.size <= k -> ¬ A.own s k := fun k hk ho => by have := A.lt _ _ _ hP ho; omega
 refine (caught_any g hg cap w (A.own s) (hno _ (Nat.le_refl _)) (hno _ (by omega)) (fun e w1 => ∃ s',T e s' /\ A.P s' w1 /\ Moves A s s' (caughtW w) w1) (h.mono ?_)).mono ?_
 · rintro e w1 ⟨s',hT,hP',hm,hc⟩
   exact ⟨⟨s',hT,hP',hm⟩,hm.only,hc⟩
 · rintro e w' ⟨e1,w1,c,a,t,⟨s',hT,hP',hm⟩,hc,he,ho,hsz,hat⟩
   have hb: Below w.heap.size w (caughtW w) := ((Below.refl _ _).alloc (Nat.le_refl _) _).alloc (by simp) _
   obtain ⟨x,y⟩ := Moves.after (n := 2) hP hb (by simp) hP' hm (hat.weaken fun k _ hk => by omega) (pk_of_only hat fun k hk _ => caughtW_tags ho (hno _ (Nat.le_refl _)) (hno _ (by omega)) k hk)
   exact ⟨e1,s',c,a,t,hT,hc,he,x,y⟩
theorem caught_stM {σ: Type} (A: St σ) (g: FuncId) (hg: ∀ args w,(callFunc g args).run Tryz.prog w = .ok (.enter g args) w) (r: Value) (w: World) (s: σ) (hP: A.P s w) (T: Ending -> σ -> Prop)
 (h: Calls Tryz.prog g #[r] (caughtW w) fun e w1 => ∃ s',T e s' /\ A.P s' w1 /\ Moves A s s' (caughtW w) w1 /\ ∃ c a t,Came e c a t) :
 Calls Tryz.prog 72 #[.func (.func g) #[r] #[]] w fun e w' => ∃ e1 s' c a t,T e1 s' /\ Came e1 c a t /\ e = .returned (.tuple #[faultV c a, .bool t]) /\ A.P s' w' /\ Moves A s s' w w' := by
 have hno: ∀ k,w.heap.size <= k -> ¬ A.own s k := fun k hk ho => by have := A.lt _ _ _ hP ho; omega
 refine (caught_bound g hg r w (A.own s) (hno _ (Nat.le_refl _)) (hno _ (by omega)) (fun e w1 => ∃ s',T e s' /\ A.P s' w1 /\ Moves A s s' (caughtW w) w1) (h.mono ?_)).mono ?_
 · rintro e w1 ⟨s',hT,hP',hm,hc⟩
   exact ⟨⟨s',hT,hP',hm⟩,hm.only,hc⟩
 · rintro e w' ⟨e1,w1,c,a,t,⟨s',hT,hP',hm⟩,hc,he,ho,hsz,hat⟩
   have hb: Below w.heap.size w (caughtW w) := ((Below.refl _ _).alloc (Nat.le_refl _) _).alloc (by simp) _
   obtain ⟨x,y⟩ := Moves.after (n := 2) hP hb (by simp) hP' hm (hat.weaken fun k _ hk => by omega) (pk_of_only hat fun k hk _ => caughtW_tags ho (hno _ (Nat.le_refl _)) (hno _ (by omega)) k hk)
   exact ⟨e1,s',c,a,t,hT,hc,he,x,y⟩
theorem undo_st {σ: Type} (A: St σ) (g: FuncId) (hg: ∀ args w,(callFunc g args).run Tryz.prog w = .ok (.enter g args) w) (cap: Array Value)
 (g2: FuncId) (hg2: ∀ args w,(callFunc g2 args).run Tryz.prog w = .ok (.enter g2 args) w) (r2: Value) (w: World) (s: σ) (hP: A.P s w) (T: Ending -> σ -> Prop) (T2: σ -> Ending -> σ -> Prop)
 (h: Calls Tryz.prog g cap (undoW w) fun e w1 => ∃ s',T e s' /\ A.P s' w1 /\ Moves A s s' (undoW w) w1 /\ ∃ c a t,Came e c a t)
 (h2: ∀ W s' c a,T (.panicked (stopped c a)) s' -> A.P s' W -> Moves A s s' w W -> Calls Tryz.prog g2 #[r2] W fun e w1 => ∃ s'',T2 s' e s'' /\ A.P s'' w1 /\ Moves A s' s'' W w1 /\ ∃ c a t,Came e c a t) :
 Calls Tryz.prog 48 #[.func (.func g) #[] cap, .func (.func g2) #[r2] #[]] w fun e w' => ∃ s',A.P s' w' /\ Moves A s s' w w' /\
  ((T (.returned (.tuple #[])) s' /\ e = .returned (faultV 0 0)) \/
   ∃ c a s1 e2 c2 a2 t2,T (.panicked (stopped c a)) s1 /\ T2 s1 e2 s' /\ Came e2 c2 a2 t2 /\ e = .returned (if t2 then faultV c2 a2 else faultV c a)) := by
 have hb0: Below w.heap.size w (w.alloc (.cells #[.int .i64 0, .int .i64 0] 98)) := (Below.refl _ _).alloc (Nat.le_refl _) _
 have H := hide (caught_st A g hg cap (w.alloc (.cells #[.int .i64 0, .int .i64 0] 98)) s (A.below hP hb0) T h)
 have H2 := hide h2
 clear h h2 hg
 go_enter Tryz.func48,Tryz.ntmps48
 go_wp2_with fail
 refine (unhide H).mono ?_
 rintro e w2 ⟨e1,s',c,a,t,hT,hc,rfl,hP',hm⟩
 clear H
 have hz := hm.only.size
 simp at hz
 have hl: w.heap.size < w2.heap.size := by omega
 have hno: ¬ A.own s w.heap.size := fun x => by have := A.lt _ _ _ hP x; omega
 have q0: w2.cell? ⟨w.heap.size,0,none⟩ = some (.int .i64 0) := by rw [hm.only.cell (by simp) hno]; simp [go_sem]
 have q1: w2.cell? ⟨w.heap.size,1,none⟩ = some (.int .i64 0) := by rw [hm.only.cell (by simp) hno]; simp [go_sem]
 have f0: w2.frozen? ⟨w.heap.size,0,none⟩ = false := by rw [hm.only.frozen (by simp) hno]; simp [go_sem]
 have f1: w2.frozen? ⟨w.heap.size,1,none⟩ = false := by rw [hm.only.frozen (by simp) hno]; simp [go_sem]
 have hno': ¬ A.own s' w.heap.size := fun x => by
  rcases hm.own _ x with y | y
  · exact hno y
  · simp at y; omega
 have hm2: Moves A s s' w w2 := (Moves.below hb0).trans hm
 have tagw2: ∃ cs t,w2.heap[w.heap.size]? = some (.cells cs t (0,0)) /\ t ≠ 109 := ⟨#[.int .i64 0, .int .i64 0],98,(hm.only.block _ (by simp) hno).trans (heap_alloc_new _ _),by decide⟩
 cases hc with
 | done =>
  simp only [faultV]
  go_wp2
  refine bodyPost_ret (v := faultV 0 0) (by simp [results,Tryz.results48,go_sem,q0,q1,hl,faultV]) rfl ?_
  have hO := ((((Only.refl (· = w.heap.size) w2).setCell (p := ⟨w.heap.size,0,none⟩) (Or.inr rfl) (.int .i64 0)).setCell (p := ⟨w.heap.size,1,none⟩) (Or.inr rfl) (.int .i64 0)).alloc (.cells #[.int .i64 0, .int .i64 0] 98))
  obtain ⟨x,y⟩ := Moves.tail (S := (· = w.heap.size)) hP' hm2 hO (by rintro k rfl; exact ⟨Nat.le_refl _,hno'⟩) (pk_of_only hO fun k hk _ => by subst hk; exact tagw2)
  exact ⟨s',x,y,Or.inl ⟨hT,rfl⟩⟩
 | stop =>
  simp only [faultV]
  go_wp2_with fail
  have hb2: Below w2.heap.size w2 (w2.alloc (.cells #[.int .i64 c, .int .i64 a] 98)) := (Below.refl _ _).alloc (Nat.le_refl _) _
  have hm3: Moves A s s' w (w2.alloc (.cells #[.int .i64 c, .int .i64 a] 98)) := hm2.trans (Moves.below hb2)
  have hP3 := A.below hP' hb2
  have hb3 := below_caughtW (w2.alloc (.cells #[.int .i64 c, .int .i64 a] 98))
  refine (caught_stM A g2 hg2 r2 _ s' hP3 (T2 s') (unhide H2 _ s' c a hT (A.below hP3 hb3) (hm3.trans (Moves.below hb3)))).mono ?_
  rintro e w4 ⟨e2,s2,c2,a2,t2,hT2,hc2,rfl,hP4,hm4⟩
  have hz4 := hm4.only.size
  simp at hz4
  have hl4: w.heap.size < w4.heap.size := by omega
  have hl5: w2.heap.size < w4.heap.size := by omega
  have hx: ¬ A.own s' w2.heap.size := fun x => by have := A.lt _ _ _ hP' x; omega
  have r0: w4.cell? ⟨w.heap.size,0,none⟩ = some (.int .i64 0) := by rw [hm4.only.cell (by simp; omega) hno']; simp [go_sem,hl,q0]
  have r1: w4.cell? ⟨w.heap.size,1,none⟩ = some (.int .i64 0) := by rw [hm4.only.cell (by simp; omega) hno']; simp [go_sem,hl,q1]
  have x0: w4.cell? ⟨w2.heap.size,0,none⟩ = some (.int .i64 c) := by rw [hm4.only.cell (by simp) hx]; simp [go_sem]
  have x1: w4.cell? ⟨w2.heap.size,1,none⟩ = some (.int .i64 a) := by rw [hm4.only.cell (by simp) hx]; simp [go_sem]
  have g0: w4.frozen? ⟨w.heap.size,0,none⟩ = false := by rw [hm4.only.frozen (by simp; omega) hno']; simp [go_sem,hl,f0]
  have g1: w4.frozen? ⟨w.heap.size,1,none⟩ = false := by rw [hm4.only.frozen (by simp; omega) hno']; simp [go_sem,hl,f1]
  have hno4: ¬ A.own s2 w.heap.size := fun x => by
   rcases hm4.own _ x with y | y
   · exact hno' y
   · simp at y; omega
  have tagw4: ∃ cs t,w4.heap[w.heap.size]? = some (.cells cs t (0,0)) /\ t ≠ 109 := by
   obtain ⟨cs,t,h1,h2⟩ := tagw2
   exact ⟨cs,t,(hm4.only.block _ (by simp; omega) hno').trans (((below_alloc w2 _).block _ hl).trans h1),h2⟩
  have hm5 := hm3.trans hm4
  clear hm3 hP3 hb3 hb2 hm4 hm2 hm q0 q1 f0 f1 H2 hg2
  cases hc2 with
  | done =>
   simp only [faultV]
   go_wp2
   refine bodyPost_ret (v := faultV c a) (by simp [results,Tryz.results48,go_sem,r0,r1,hl4,faultV]) rfl ?_
   have hO := ((((Only.refl (· = w.heap.size) w4).setCell (p := ⟨w.heap.size,0,none⟩) (Or.inr rfl) (.int .i64 c)).setCell (p := ⟨w.heap.size,1,none⟩) (Or.inr rfl) (.int .i64 a)).alloc (.cells #[.int .i64 0, .int .i64 0] 98))
   obtain ⟨x,y⟩ := Moves.tail (S := (· = w.heap.size)) hP4 hm5 hO (by rintro k rfl; exact ⟨Nat.le_refl _,hno4⟩) (pk_of_only hO fun k hk _ => by subst hk; exact tagw4)
   exact ⟨s2,x,y,Or.inr ⟨c,a,s',_,0,0,false,hT,hT2, .done,rfl⟩⟩
  | stop =>
   simp only [faultV]
   go_wp2
   refine bodyPost_ret (v := faultV c2 a2) (by simp [results,Tryz.results48,go_sem,r0,r1,hl4,faultV]) rfl ?_
   have hO := ((((Only.refl (· = w.heap.size) w4).setCell (p := ⟨w.heap.size,0,none⟩) (Or.inr rfl) (.int .i64 c2)).setCell (p := ⟨w.heap.size,1,none⟩) (Or.inr rfl) (.int .i64 a2)).alloc (.cells #[.int .i64 c2, .int .i64 a2] 98))
   obtain ⟨x,y⟩ := Moves.tail (S := (· = w.heap.size)) hP4 hm5 hO (by rintro k rfl; exact ⟨Nat.le_refl _,hno4⟩) (pk_of_only hO fun k hk _ => by subst hk; exact tagw4)
   exact ⟨s2,x,y,Or.inr ⟨c,a,s',_,c2,a2,true,hT,hT2, .stop c2 a2,rfl⟩⟩
end Go.Proofs.YtdnkbdjhccckhaaGreat.L4
