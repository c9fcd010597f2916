import Derived.Deep.RegionHeld
import Derived.Test.YtdaikppppkbfoabMAI
namespace Go.Proofs.Ytdaikppppkbfoab
open Go.RowKit
def OffN (p: Nat -> Prop): Nat -> NL -> Prop
 | 0,_ => True
 | n + 1,x => (x.kids = [] \/ ∀ b o,x.a = some ⟨b,o,none⟩ -> p b) /\ ∀ k ∈ x.kids,OffN p n k
theorem OffN.mono {p q: Nat -> Prop} (hpq: ∀ b,p b -> q b): ∀ {n: Nat} {x: NL},OffN p n x -> OffN q n x
 | 0,_,_ => trivial
 | _ + 1,_,h => ⟨h.1.imp id fun h b o e => hpq b (h b o e),fun k hk => (h.2 k hk).mono hpq⟩
theorem InN.turn {p: Nat -> Prop}: ∀ {n: Nat} {w W: World} {x: NL},InN n w x -> OffN p n x -> w.heap.size <= W.heap.size -> (∀ b,b < w.heap.size -> p b -> W.heap[b]? = w.heap[b]?) -> InN n W x
 | 0,_,_,_,_,_,_,_ => trivial
 | _ + 1,_,_,_,h,ho,hs,hb => ⟨h.1,by
  rcases ho.1 with e | e
  · rw [e]; exact Or.inl rfl
  · exact h.2.1.turn hs fun b o ea hlt => hb b hlt (e b o ea),fun k hk => (h.2.2 k hk).turn (ho.2 k hk) hs hb⟩
theorem InN.off {p: Nat -> Prop}: ∀ {n: Nat} {w: World} {x: NL},InN n w x -> OffN p n x -> OffN (fun b => p b /\ b < w.heap.size) n x
 | 0,_,_,_,_ => trivial
 | _ + 1,_,_,h,ho => ⟨by
  rcases ho.1 with e | e
  · exact Or.inl e
  · rcases h.2.1 with e' | ⟨b,o,e',hlt,_⟩
    · exact Or.inl e'
    · exact Or.inr fun b' o' e'' => ⟨e b' o' e'',by rw [e'] at e''; cases e''; exact hlt⟩,fun k hk => (h.2.2 k hk).off (ho.2 k hk)⟩
theorem append_bigN {P: Program} {ops: Array Oper} {rest: List Oper} {o: Oper} {a: Act} {Q: Exit -> Act -> World -> Prop} {W1: World} {t e: TypeId} {z: Value} {size bytes: Nat} (ht: P.underlying t = some (.slice e)) (hinfo: (P.info? e).map (fun i => (i.zero,i.size,i.bytes)) = some (some z,size,bytes)) (hzs: z.cells.size = size) (hsz: 0 < size)
 (hgd: o.guard = none) (s x: Operand) (ho: o.op = .call { callee := .builtin .append,args := #[s,x],argTypes := #[t,t] })
 (base: Nat) (hbase: base <= W1.heap.size) (v: Value) (n: Nat) (xs: List Value) (hs: a.eval s = v) (h: W1.ownsRow base e size v n xs) (b: Option Addr) (m cap: Nat) (news: List Value) (hx: a.eval x = .slice b m cap) (hm: Rw.Src W1 b m cap news)
 (hl: news.length = m * size) (h1: ∀ u ∈ news,u.oneCell' = true) (hn: n + m <= maxLen) (hn2: (n + m) * bytes <= 140737488355328)
 (hK: ∀ v' W',W'.ownsRow base e size v' (n + m) (xs ++ news) -> W1.grownBy W' v.ownBlock -> (v'.ownBlock = v.ownBlock \/ v'.ownBlock = some W1.heap.size) -> wpList P ops Q rest (a.put o.dst v') W'): wpList P ops Q (o :: rest) a W1 := by
 obtain ⟨i,hi,hz⟩ := Option.map_eq_some_iff.1 hinfo
 simp only [Prod.mk.injEq] at hz
 obtain ⟨h3,h4,h5⟩ := hz
 rcases hm with ⟨rfl,rfl,rfl,rfl⟩ | ⟨ad,rfl,hc⟩
 · exact wpList_append_own_none hgd s x t ho base e i size ht hi v n xs hs h hx (hK v W1 (by rw [List.append_nil]; exact h) ⟨rfl,rfl,rfl,Nat.le_refl _,fun _ _ _ => rfl⟩ (Or.inl rfl))
 · exact wpList_append_own_at (P := P) W1 hgd s x t ho base e i z size bytes ht hi h3 h4 h5 hzs hsz v n xs hs h ad m cap news hx hl hc h1 hn hn2 hbase fun v' W' g1 g2 _ g4 => hK v' W' g1 g2 g4
def PlainNP (n: Nat) (x: NL) (w: World) (e: Ending) (W: World): Prop := ∃ y,e = .returned (nV y) /\ LikeN n x y /\ (∀ m,InN m W y /\ OffN (fun b => w.heap.size <= b) m y) /\ Below w.heap.size w W
theorem nbelow_set7 {B p: Nat} {a w: World} (hb: B <= p) (h: Below B a w) (v0 v1 v2 v3 v4 v5 v6: Value): Below B a (((((((w.setCell ⟨p,0,none⟩ v0).setCell ⟨p,1,none⟩ v1).setCell ⟨p,2,none⟩ v2).setCell ⟨p,3,none⟩ v3).setCell ⟨p,4,none⟩ v4).setCell ⟨p,5,none⟩ v5).setCell ⟨p,6,none⟩ v6) :=
 ((((((h.setCell hb v0).setCell hb v1).setCell hb v2).setCell hb v3).setCell hb v4).setCell hb v5).setCell hb v6
theorem nheap_set7 {p q: Nat} (hq: q ≠ p) (w: World) (v0 v1 v2 v3 v4 v5 v6: Value): (((((((w.setCell ⟨p,0,none⟩ v0).setCell ⟨p,1,none⟩ v1).setCell ⟨p,2,none⟩ v2).setCell ⟨p,3,none⟩ v3).setCell ⟨p,4,none⟩ v4).setCell ⟨p,5,none⟩ v5).setCell ⟨p,6,none⟩ v6).heap[q]? = w.heap[q]? := by
 rw [heap_setCell_other _ _ _ _ hq,heap_setCell_other _ _ _ _ hq,heap_setCell_other _ _ _ _ hq,heap_setCell_other _ _ _ _ hq,heap_setCell_other _ _ _ _ hq,heap_setCell_other _ _ _ _ hq,heap_setCell_other _ _ _ _ hq]
end Go.Proofs.Ytdaikppppkbfoab
