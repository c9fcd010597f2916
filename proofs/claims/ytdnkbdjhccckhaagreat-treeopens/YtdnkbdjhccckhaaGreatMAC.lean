import Derived.Test.YtdnkbdjhccckhaaGreatMAB
import Derived.Lib.LazyBuf
set_option maxRecDepth 100000
set_option maxHeartbeats 4000000
namespace Go.Proofs.YtdnkbdjhccckhaaGreat.L5
structure Nd where
 leaf: Bool
 recs: List (List UInt8)
 kids: List Nat
def n2 (n: Nat): List UInt8 := [UInt8.ofNat (n / 256),UInt8.ofNat n]
def n4 (n: Nat): List UInt8 := [UInt8.ofNat (n / 16777216),UInt8.ofNat (n / 65536),UInt8.ofNat (n / 256),UInt8.ofNat n]
def slots: Nat -> List (List UInt8) -> List UInt8
 | _,[] => []
 | e,r :: l => n2 (e - r.length) ++ n2 r.length ++ slots (e - r.length) l
def lens (l: List (List UInt8)): Nat := (l.map List.length).sum
def tailL (l: List (List UInt8)): List UInt8 := l.reverse.flatten
def headL (n: Nd): List UInt8 := [if n.leaf then 1 else 2] ++ n2 n.recs.length ++ n.kids.flatMap n4 ++ slots 1024 n.recs
def pageL (n: Nd): List UInt8 := headL n ++ List.replicate (1024 - (headL n).length - (tailL n.recs).length) 0 ++ tailL n.recs
def Nd.size (n: Nd): Nat := 3 + 4 * n.kids.length + (4 * n.recs.length + lens n.recs)
theorem slots_length (e: Nat) (l: List (List UInt8)): (slots e l).length = 4 * l.length := by
 induction l generalizing e with
 | nil => rfl
 | cons r l ih => simp [slots,n2,ih]; omega
theorem n4s_length (l: List Nat): (l.flatMap n4).length = 4 * l.length := by
 induction l with
 | nil => rfl
 | cons r l ih => simp [n4] at ih ⊢; omega
theorem headL_length (n: Nd): (headL n).length = 3 + 4 * n.kids.length + 4 * n.recs.length := by
 unfold headL
 simp only [List.length_append,List.length_singleton,slots_length,n4s_length]
 simp [n2]
theorem tailL_length (l: List (List UInt8)): (tailL l).length = lens l := by
 unfold tailL lens
 rw [List.length_flatten,List.map_reverse,List.sum_reverse]
theorem pageL_length {n: Nd} (h: n.size <= 1024): (pageL n).length = 1024 := by
 unfold pageL
 have h1 := headL_length n
 have h2 := tailL_length n.recs
 unfold Nd.size at h
 simp only [List.length_append,List.length_replicate]
 omega
def byteAt (b: List UInt8) (i: Nat): Nat := (b.getD i 0).toNat
def at2 (b: List UInt8) (i: Nat): Nat := byteAt b i * 256 + byteAt b (i + 1)
def at4 (b: List UInt8) (i: Nat): Nat := ((byteAt b i * 256 + byteAt b (i + 1)) * 256 + byteAt b (i + 2)) * 256 + byteAt b (i + 3)
def cut (b: List UInt8) (i m: Nat): List UInt8 := (b.drop i).take m
theorem byteAt_mid (a c: List UInt8) (x: UInt8) (r: List UInt8) (i: Nat) (h: i = a.length) (hc: c = x :: r): byteAt (a ++ c) i = x.toNat := by
 subst h hc
 unfold byteAt
 simp
theorem ofNat_toNat (n: Nat): (UInt8.ofNat n).toNat = n % 256 := UInt8.toNat_ofNat'
theorem at2_mid (a r: List UInt8) (v i: Nat) (hv: v < 65536) (h: i = a.length): at2 (a ++ (n2 v ++ r)) i = v := by
 have e1 := byteAt_mid a (n2 v ++ r) _ _ i h rfl
 have e2 := byteAt_mid (a ++ [UInt8.ofNat (v / 256)]) ([UInt8.ofNat v] ++ r) _ _ (i + 1) (by simp [h]) rfl
 have e3: a ++ (n2 v ++ r) = (a ++ [UInt8.ofNat (v / 256)]) ++ ([UInt8.ofNat v] ++ r) := by simp [n2]
 unfold at2
 rw [e1,e3,e2,ofNat_toNat,ofNat_toNat]
 omega
theorem at4_mid (a r: List UInt8) (v i: Nat) (hv: v < 4294967296) (h: i = a.length): at4 (a ++ (n4 v ++ r)) i = v := by
 have e1 := byteAt_mid a (n4 v ++ r) _ _ i h rfl
 have e2 := byteAt_mid (a ++ [UInt8.ofNat (v / 16777216)]) ([UInt8.ofNat (v / 65536),UInt8.ofNat (v / 256),UInt8.ofNat v] ++ r) _ _ (i + 1) (by simp [h]) rfl
 have e3 := byteAt_mid (a ++ [UInt8.ofNat (v / 16777216),UInt8.ofNat (v / 65536)]) ([UInt8.ofNat (v / 256),UInt8.ofNat v] ++ r) _ _ (i + 2) (by simp [h]) rfl
 have e4 := byteAt_mid (a ++ [UInt8.ofNat (v / 16777216),UInt8.ofNat (v / 65536),UInt8.ofNat (v / 256)]) ([UInt8.ofNat v] ++ r) _ _ (i + 3) (by simp [h]) rfl
 have f2: a ++ (n4 v ++ r) = (a ++ [UInt8.ofNat (v / 16777216)]) ++ ([UInt8.ofNat (v / 65536),UInt8.ofNat (v / 256),UInt8.ofNat v] ++ r) := by simp [n4]
 have f3: a ++ (n4 v ++ r) = (a ++ [UInt8.ofNat (v / 16777216),UInt8.ofNat (v / 65536)]) ++ ([UInt8.ofNat (v / 256),UInt8.ofNat v] ++ r) := by simp [n4]
 have f4: a ++ (n4 v ++ r) = (a ++ [UInt8.ofNat (v / 16777216),UInt8.ofNat (v / 65536),UInt8.ofNat (v / 256)]) ++ ([UInt8.ofNat v] ++ r) := by simp [n4]
 have g1: byteAt (a ++ (n4 v ++ r)) i = v / 16777216 % 256 := by rw [e1,ofNat_toNat]
 have g2: byteAt (a ++ (n4 v ++ r)) (i + 1) = v / 65536 % 256 := by rw [f2,e2,ofNat_toNat]
 have g3: byteAt (a ++ (n4 v ++ r)) (i + 2) = v / 256 % 256 := by rw [f3,e3,ofNat_toNat]
 have g4: byteAt (a ++ (n4 v ++ r)) (i + 3) = v % 256 := by rw [f4,e4,ofNat_toNat]
 unfold at4
 rw [g1,g2,g3,g4]
 omega
theorem kids_read (l: List Nat): ∀ (a r: List UInt8) (j v: Nat),(∀ x ∈ l,x < 4294967296) -> l[j]? = some v -> at4 (a ++ (l.flatMap n4 ++ r)) (a.length + 4 * j) = v := by
 induction l with
 | nil => intro a r j v _ h; simp at h
 | cons x l ih =>
  intro a r j v hl h
  rw [List.flatMap_cons,List.append_assoc]
  cases j with
  | zero =>
   simp at h
   subst h
   exact at4_mid a _ x _ (hl x (by simp)) rfl
  | succ j =>
   have := ih (a ++ n4 x) r j v (fun y hy => hl y (by simp [hy])) (by simpa using h)
   rw [show a ++ (n4 x ++ (l.flatMap n4 ++ r)) = (a ++ n4 x) ++ (l.flatMap n4 ++ r) by simp]
   rw [show a.length + 4 * (j + 1) = (a ++ n4 x).length + 4 * j by simp [n4]; omega]
   exact this
def endAt (e: Nat) (l: List (List UInt8)) (j: Nat): Nat := e - lens (l.take (j + 1))
theorem lens_cons (r: List UInt8) (l: List (List UInt8)): lens (r :: l) = r.length + lens l := by simp [lens]
theorem lens_append (a b: List (List UInt8)): lens (a ++ b) = lens a + lens b := by simp [lens]
theorem slots_read (l: List (List UInt8)): ∀ (e: Nat) (a r: List UInt8) (j: Nat) (v: List UInt8),e < 65536 -> (∀ x ∈ l,x.length < 65536) -> l[j]? = some v -> at2 (a ++ (slots e l ++ r)) (a.length + 4 * j) = endAt e l j /\ at2 (a ++ (slots e l ++ r)) (a.length + 4 * j + 2) = v.length := by
 induction l with
 | nil => intro e a r j v _ _ h; simp at h
 | cons x l ih =>
  intro e a r j v he hl h
  have hx: x.length < 65536 := hl x (by simp)
  have e0: a ++ (slots e (x :: l) ++ r) = a ++ (n2 (e - x.length) ++ (n2 x.length ++ (slots (e - x.length) l ++ r))) := by simp [slots]
  have e1: a ++ (slots e (x :: l) ++ r) = (a ++ n2 (e - x.length)) ++ (n2 x.length ++ (slots (e - x.length) l ++ r)) := by simp [slots]
  have e2: a ++ (slots e (x :: l) ++ r) = (a ++ (n2 (e - x.length) ++ n2 x.length)) ++ (slots (e - x.length) l ++ r) := by simp [slots]
  cases j with
  | zero =>
   simp at h
   subst h
   refine ⟨?_, ?_⟩
   · rw [e0,at2_mid a _ (e - x.length) (a.length + 4 * 0) (by omega) rfl]
     simp [endAt,lens]
   · rw [e1,at2_mid (a ++ n2 (e - x.length)) _ x.length (a.length + 4 * 0 + 2) hx (by simp [n2])]
  | succ j =>
   obtain ⟨i1,i2⟩ := ih (e - x.length) (a ++ (n2 (e - x.length) ++ n2 x.length)) r j v (by omega) (fun y hy => hl y (by simp [hy])) (by simpa using h)
   have hlen: (a ++ (n2 (e - x.length) ++ n2 x.length)).length + 4 * j = a.length + 4 * (j + 1) := by simp [n2]; omega
   rw [hlen] at i1 i2
   rw [e2,i1,i2]
   refine ⟨?_,rfl⟩
   unfold endAt
   rw [List.take_succ_cons,lens_cons]
   omega
theorem tail_split (l: List (List UInt8)) (j: Nat) (v: List UInt8) (h: l[j]? = some v): tailL l = tailL (l.drop (j + 1)) ++ (v ++ tailL (l.take j)) := by
 have hlt := (List.getElem?_eq_some_iff.1 h).1
 have e: l = l.take j ++ v :: l.drop (j + 1) := by
  have hv: l[j] = v := (List.getElem?_eq_some_iff.1 h).2
  rw [<- hv, <- List.drop_eq_getElem_cons hlt,List.take_append_drop]
 conv => lhs; rw [e]
 unfold tailL
 simp
theorem cut_mid (a v r: List UInt8) (i m: Nat) (h: i = a.length) (hm: m = v.length): cut (a ++ (v ++ r)) i m = v := by
 subst h hm
 unfold cut
 simp
def readNd (b: List UInt8): Nd :=
 let leaf := byteAt b 0 == 1
 let c := at2 b 1
 let o := if leaf then 3 else 3 + 4 * (c + 1)
 ⟨leaf,(List.range c).map fun i => cut b (at2 b (o + 4 * i)) (at2 b (o + 4 * i + 2)),if leaf then [] else (List.range (c + 1)).map fun i => at4 b (3 + 4 * i)⟩
structure Nd.Shaped (n: Nd): Prop where
 kids: n.kids.length = if n.leaf then 0 else n.recs.length + 1
 low: ∀ k ∈ n.kids,1 <= k /\ k <= 4096
 recs: ∀ r ∈ n.recs,1 <= r.length /\ r.length <= 400
theorem recs_le {n: Nd} (h: n.size <= 1024): n.recs.length <= 1024 := by
 unfold Nd.size at h
 omega
theorem read_page {n: Nd} (hs: n.Shaped) (h: n.size <= 1024): readNd (pageL n) = n /\ byteAt (pageL n) 0 = (if n.leaf then 1 else 2) /\ at2 (pageL n) 1 = n.recs.length /\ (∀ j,j < n.recs.length -> at2 (pageL n) (3 + 4 * n.kids.length + 4 * j) + at2 (pageL n) (3 + 4 * n.kids.length + 4 * j + 2) <= 1024) := by
 have hr := recs_le h
 obtain ⟨Z,hZ⟩: ∃ Z,Z = List.replicate (1024 - (headL n).length - (tailL n.recs).length) (0: UInt8) ++ tailL n.recs := ⟨_,rfl⟩
 have hp: pageL n = headL n ++ Z := by rw [hZ]; unfold pageL; rw [List.append_assoc]
 have p0: pageL n = [] ++ ((if n.leaf then 1 else 2) :: (n2 n.recs.length ++ n.kids.flatMap n4 ++ slots 1024 n.recs ++ Z)) := by rw [hp]; unfold headL; simp
 have p1: pageL n = [if n.leaf then 1 else 2] ++ (n2 n.recs.length ++ (n.kids.flatMap n4 ++ slots 1024 n.recs ++ Z)) := by rw [hp]; unfold headL; simp
 have p2: pageL n = ([if n.leaf then 1 else 2] ++ n2 n.recs.length) ++ (n.kids.flatMap n4 ++ (slots 1024 n.recs ++ Z)) := by rw [hp]; unfold headL; simp
 have p3: pageL n = ([if n.leaf then 1 else 2] ++ n2 n.recs.length ++ n.kids.flatMap n4) ++ (slots 1024 n.recs ++ Z) := by rw [hp]; unfold headL; simp
 have b0: byteAt (pageL n) 0 = (if n.leaf then 1 else 2) := by
  rw [p0,byteAt_mid [] _ _ _ 0 rfl rfl]
  cases n.leaf <;> rfl
 have b1: at2 (pageL n) 1 = n.recs.length := by rw [p1]; exact at2_mid _ _ _ _ (by omega) (by simp)
 have bk: ∀ j v,n.kids[j]? = some v -> at4 (pageL n) (3 + 4 * j) = v := fun j v hj => by
  rw [p2]
  have := kids_read n.kids ([if n.leaf then 1 else 2] ++ n2 n.recs.length) (slots 1024 n.recs ++ Z) j v (fun x hx => by have := hs.low x hx; omega) hj
  simpa [n2] using this
 have o3: ([if n.leaf then (1: UInt8) else 2] ++ n2 n.recs.length ++ n.kids.flatMap n4).length = 3 + 4 * n.kids.length := by
  simp only [List.length_append,List.length_singleton,n4s_length]
  simp [n2]
 have bs: ∀ j v,n.recs[j]? = some v -> at2 (pageL n) (3 + 4 * n.kids.length + 4 * j) = endAt 1024 n.recs j /\ at2 (pageL n) (3 + 4 * n.kids.length + 4 * j + 2) = v.length := fun j v hj => by
  rw [p3, <- o3]
  exact slots_read n.recs 1024 _ Z j v (by omega) (fun x hx => by have := hs.recs x hx; omega) hj
 have hT: lens n.recs <= 1024 := by unfold Nd.size at h; omega
 have key: ∀ j v,n.recs[j]? = some v -> lens n.recs = lens (n.recs.take j) + (v.length + lens (n.recs.drop (j + 1))) := fun j v hj => by
  have e := congrArg List.length (tail_split n.recs j v hj)
  simp only [List.length_append,tailL_length] at e
  omega
 have kt: ∀ j v,n.recs[j]? = some v -> lens (n.recs.take (j + 1)) = lens (n.recs.take j) + v.length := fun j v hj => by
  rw [List.take_add_one,hj,lens_append]
  simp [lens]
 have be: ∀ j v,n.recs[j]? = some v -> cut (pageL n) (endAt 1024 n.recs j) v.length = v := fun j v hj => by
  have hl := pageL_length h
  have e: pageL n = (headL n ++ List.replicate (1024 - (headL n).length - (tailL n.recs).length) 0 ++ tailL (n.recs.drop (j + 1))) ++ (v ++ tailL (n.recs.take j)) := by
   unfold pageL
   rw [tail_split n.recs j v hj]
   simp
  rw [e]
  refine cut_mid _ _ _ _ _ ?_ rfl
  have hl' := congrArg List.length e
  rw [hl] at hl'
  simp only [List.length_append,tailL_length] at hl' ⊢
  unfold endAt
  have h1 := key j v hj
  have h2 := kt j v hj
  omega
 refine ⟨?_,b0,b1,fun j hj => ?_⟩
 · have hleaf: (byteAt (pageL n) 0 == 1) = n.leaf := by
    rw [b0]
    cases n.leaf <;> rfl
   have ho: (if n.leaf = true then 3 else 3 + 4 * (n.recs.length + 1)) = 3 + 4 * n.kids.length := by
    rw [hs.kids]
    cases n.leaf <;> simp
   unfold readNd
   simp only [hleaf,b1,ho]
   obtain ⟨leaf,recs,kids⟩ := n
   simp only [Nd.mk.injEq,true_and]
   refine ⟨?_, ?_⟩
   · apply List.ext_getElem?
     intro j
     by_cases hj: j < recs.length
     · have hx: recs[j]? = some recs[j] := List.getElem?_eq_getElem hj
       obtain ⟨x1,x2⟩ := bs j _ hx
       simp only [List.getElem?_map,List.getElem?_range hj,Option.map_some]
       rw [hx,x1,x2,be j _ hx]
     · rw [List.getElem?_eq_none (by simp; omega),List.getElem?_eq_none (by omega)]
   · have hk := hs.kids
     simp only at hk
     cases leaf with
     | true =>
      simp only [if_true] at hk ⊢
      exact (List.eq_nil_of_length_eq_zero hk).symm
     | false =>
      simp only [Bool.false_eq_true,if_false] at hk ⊢
      apply List.ext_getElem?
      intro j
      by_cases hj: j < kids.length
      · have hx: kids[j]? = some kids[j] := List.getElem?_eq_getElem hj
        rw [List.getElem?_map,List.getElem?_range (by omega),hx]
        simp only [Option.map_some]
        rw [bk j _ hx]
      · rw [List.getElem?_eq_none (by simp; omega),List.getElem?_eq_none (by omega)]
 · have hx: n.recs[j]? = some n.recs[j] := List.getElem?_eq_getElem hj
   obtain ⟨x1,x2⟩ := bs j _ hx
   rw [x1,x2]
   unfold endAt
   have h1 := key j _ hx
   have h2 := kt j _ hx
   omega
theorem page_inj {n m: Nd} (hn: n.Shaped) (h: n.size <= 1024) (hm: m.Shaped) (h': m.size <= 1024) (e: pageL n = pageL m): n = m := by
 rw [<- (read_page hn h).1,e,(read_page hm h').1]
end Go.Proofs.YtdnkbdjhccckhaaGreat.L5
namespace Go.Proofs.YtdnkbdjhccckhaaGreat.L5
open Go.RowKit
def Blk (W: World) (b: Nat) (L: List UInt8): Prop := W.heap[b]? = some (.cells (bcs L).toArray 5 (0,0))
theorem bcs_set (L: List UInt8) (i: Nat) (x: UInt8): (bcs L).set i (.int .u8 (x.toNat: Int)) = bcs (L.set i x) := by
 unfold bcs; rw [List.map_set]
theorem Blk.set {W: World} {b: Nat} {L: List UInt8} (h: Blk W b L) (i: Nat) (x: UInt8): Blk (W.setCell ⟨b,i,none⟩ (.int .u8 (x.toNat: Int))) b (L.set i x) := by
 unfold Blk at h ⊢
 rw [Go.heap_setCell_same W b i _ _ _ h,List.setIfInBounds_toArray,bcs_set]
theorem Blk.cell {W: World} {b: Nat} {L: List UInt8} (h: Blk W b L) (i: Nat) (hi: i < L.length): W.cell? ⟨b,i,none⟩ = some (.int .u8 (L[i].toNat: Int)) := by
 rw [cell_of_row _ _ _ _ _ _ h]
 simp [bcs,hi]
theorem Blk.frozen {W: World} {b: Nat} {L: List UInt8} (h: Blk W b L) (i: Nat): W.frozen? ⟨b,i,none⟩ = false := frozen_of_row _ _ _ _ _ h
theorem Blk.lt {W: World} {b: Nat} {L: List UInt8} (h: Blk W b L): b < W.heap.size := (Array.getElem?_eq_some_iff.1 h).1
def RBlk (W: World) (b: Nat) (L: List UInt8): Prop := W.heap[b]? = some (.cells (bcs L).toArray 109 (0,0))
theorem RBlk.cell {W: World} {b: Nat} {L: List UInt8} (h: RBlk W b L) (i: Nat) (hi: i < L.length): W.cell? ⟨b,i,none⟩ = some (.int .u8 (L[i].toNat: Int)) := by
 rw [cell_of_row _ _ _ _ _ _ h]
 simp [bcs,hi]
theorem RBlk.lt {W: World} {b: Nat} {L: List UInt8} (h: RBlk W b L): b < W.heap.size := (Array.getElem?_eq_some_iff.1 h).1
def over (L: List UInt8) (o: Nat) (t: List UInt8): List UInt8 := L.take o ++ t ++ L.drop (o + t.length)
theorem over_length (L: List UInt8) (o: Nat) (t: List UInt8) (h: o + t.length <= L.length): (over L o t).length = L.length := by
 unfold over; simp; omega
theorem over_cons (L: List UInt8) (o: Nat) (x: UInt8) (t: List UInt8) (h: o + (t.length + 1) <= L.length): over (L.set o x) (o + 1) t = over L o (x :: t) := by
 unfold over
 have e1: (L.set o x).take (o + 1) = L.take o ++ [x] := by
  rw [List.take_succ_eq_append_getElem (by simp; omega),List.take_set_of_le (Nat.le_refl _)]
  simp
 have e2: (L.set o x).drop (o + 1 + t.length) = L.drop (o + (x :: t).length) := by
  rw [List.drop_set_of_lt (by omega)]
  congr 1
  simp; omega
 rw [e1,e2]
 simp
theorem over_nil (L: List UInt8) (o: Nat): over L o [] = L := by simp [over]
theorem Blk.setCells {b: Nat}: ∀ (t: List UInt8) (o: Nat) {W: World} {L: List UInt8},Blk W b L -> o + t.length <= L.length -> Blk (W.setCells b o (bcs t)) b (over L o t)
 | [],o,W,L,h,_ => by rw [over_nil]; exact h
 | x :: t,o,W,L,h,hl => by
  rw [<- over_cons L o x t (by simpa using hl)]
  exact Blk.setCells t (o + 1) (h.set o x) (by simp at hl ⊢; omega)
theorem only_setCells {S: Nat -> Prop} {b: Nat} {a: World} (hb: a.heap.size <= b \/ S b): ∀ (vs: List Value) (o: Nat) (w: World),Only S a w -> Only S a (w.setCells b o vs)
 | [],_,_,h => h
 | v :: r,o,_,h => only_setCells hb r (o + 1) _ (h.setCell hb v)
def be (n: Nat): Nat -> List UInt8
 | 0 => []
 | i + 1 => UInt8.ofNat (n / 256 ^ i) :: be n i
theorem be_length (n i: Nat): (be n i).length = i := by
 induction i with
 | zero => rfl
 | succ i ih => simp [be,ih]
theorem be_two (n: Nat): be n 2 = n2 n := by simp [be,n2]
theorem be_four (n: Nat): be n 4 = n4 n := by simp [be,n4]
theorem over_set (L: List UInt8) (o m i n: Nat) (hi: i < m) (hl: o + m <= L.length): (over L (o + m - i) (be n i)).set (o + m - 1 - i) (UInt8.ofNat (n / 256 ^ i)) = over L (o + m - (i + 1)) (be n (i + 1)) := by
 unfold over
 rw [be_length,be_length]
 have e1: o + m - i + i = o + m := by omega
 have e2: o + m - (i + 1) + (i + 1) = o + m := by omega
 rw [e1,e2]
 have e3: L.take (o + m - i) = L.take (o + m - (i + 1)) ++ [L[o + m - (i + 1)]'(by omega)] := by
  rw [<- List.take_succ_eq_append_getElem (by omega)]
  congr 1
  omega
 rw [e3,show o + m - 1 - i = o + m - (i + 1) by omega]
 have hl: (L.take (o + m - (i + 1))).length = o + m - (i + 1) := by simp; omega
 rw [List.append_assoc,List.append_assoc,List.append_assoc,List.set_append_right _ _ (by omega),hl,Nat.sub_self]
 simp [be]
theorem put_walk {b o m cap n: Nat} {L: List UInt8} {w: World} (hb: Blk w b L) (hm: m <= 4) (hl: o + m <= L.length) :
 Calls Tryz.prog 112 #[.slice (some ⟨b,o,none⟩) m cap, .int .i64 (n: Int)] w fun e w' => e = .returned (.tuple #[]) /\ Blk w' b (over L o (be n m)) /\ Only (fun k => k = b) w w' := by
 go_enter Tryz.func112,Tryz.ntmps112
 go_wp2
 go_loopw [7] (fun i wr => ∃ j: Nat,j <= m /\ i = .int .i64 (j: Int) /\ Hid (Blk wr b (over L (o + m - j) (be n j))) /\ Hid (Only (fun k => k = b) w wr)) (fun i _ => m - (intOf i).toNat)
 case atStart => exact ⟨0,Nat.zero_le _,rfl,by show Blk _ _ _; rw [show be n 0 = [] from rfl,over_nil]; exact hb,Only.refl _ _⟩
 case round =>
  obtain ⟨j,hj,rfl,HK,HO⟩ := hrel
  by_cases hlt: j < m
  · have hle := over_length L (o + m - j) (be n j) (by rw [be_length]; omega)
    have hc := HK.out.cell (o + (m - 1 - j)) (by omega)
    have hf := HK.out.frozen (o + (m - 1 - j))
    have hlt': (j: Int) < (m: Int) := by omega
    have hx: ((m: Int) - 1 - (j: Int)).toNat = m - 1 - j := by omega
    have hx1: (0: Int) <= (m: Int) - 1 - (j: Int) := by omega
    have hx2: (m: Int) - 1 - (j: Int) < (m: Int) := by omega
    go_wp2
    have hv: Value.int .u8 ((n: Int) / 2 ^ (8 * j) % 256) = .int .u8 ((UInt8.ofNat (n / 256 ^ j)).toNat: Int) := by
     rw [ofNat_toNat,show (256: Nat) ^ j = 2 ^ (8 * j) from (Nat.pow_mul 2 8 j).symm]
     simp
    rw [hv]
    refine ⟨⟨j + 1,by omega,by go_num, ?_,HO.out.setCell (Or.inr rfl) _⟩,by simp [intOf]; omega⟩
    have := HK.out.set (o + (m - 1 - j)) (UInt8.ofNat (n / 256 ^ j))
    rw [show o + (m - 1 - j) = o + m - 1 - j by omega,over_set L o m j n hlt hl] at this
    rw [show o + (m - 1 - j) = o + m - 1 - j by omega]
    exact this
  · have hlt': (m: Int) <= (j: Int) := by omega
    have hjm: j = m := by omega
    subst hjm
    go_wp2
    go_end0
    exact ⟨rfl,by have := HK.out; rwa [show o + j - j = o by omega] at this,HO.out⟩
def pageK (H T: List UInt8): List UInt8 := H ++ List.replicate (1024 - H.length - T.length) 0 ++ T
theorem pageK_length (H T: List UInt8) (h: H.length + T.length <= 1024): (pageK H T).length = 1024 := by
 unfold pageK; simp; omega
theorem over_head (H T x: List UInt8) (h: H.length + x.length + T.length <= 1024): over (pageK H T) H.length x = pageK (H ++ x) T := by
 unfold over pageK
 have e1: List.take H.length (H ++ List.replicate (1024 - H.length - T.length) 0 ++ T) = H := by rw [List.append_assoc]; simp
 have e2: List.drop (H.length + x.length) (H ++ List.replicate (1024 - H.length - T.length) 0 ++ T) = List.replicate (1024 - (H ++ x).length - T.length) 0 ++ T := by
  rw [List.append_assoc,List.drop_append,List.drop_of_length_le (by omega),List.nil_append,Nat.add_sub_cancel_left,List.drop_append_of_le_length (by simp; omega),List.drop_replicate]
  congr 2
  simp; omega
 rw [e1,e2]
 simp
theorem over_tail (H T s: List UInt8) (h: H.length + s.length + T.length <= 1024): over (pageK H T) (1024 - T.length - s.length) s = pageK H (s ++ T) := by
 unfold over pageK
 have e1: List.take (1024 - T.length - s.length) (H ++ List.replicate (1024 - H.length - T.length) 0 ++ T) = H ++ List.replicate (1024 - H.length - (s ++ T).length) 0 := by
  rw [List.append_assoc,List.take_append,List.take_of_length_le (by omega),List.take_append_of_le_length (by simp; omega),List.take_replicate]
  congr 2
  simp; omega
 have e2: List.drop (1024 - T.length - s.length + s.length) (H ++ List.replicate (1024 - H.length - T.length) 0 ++ T) = T := by
  rw [List.drop_append,List.drop_of_length_le (by simp; omega),List.nil_append]
  have: 1024 - T.length - s.length + s.length - (H ++ List.replicate (1024 - H.length - T.length) (0: UInt8)).length = 0 := by simp; omega
  rw [this,List.drop_zero]
 rw [e1,e2]
 simp
theorem over_one (H T: List UInt8) (x y: UInt8): (pageK (x :: H) T).set 0 y = pageK (y :: H) T := by
 unfold pageK; simp
theorem pageK_nil: pageK [] [] = List.replicate 1024 0 := by
 show [] ++ List.replicate 1024 0 ++ [] = _
 rw [List.nil_append,List.append_nil]
theorem over_first (y: UInt8): (pageK [] []).set 0 y = pageK [y] [] := by
 have := over_head [] [] [y] (by simp)
 rw [List.nil_append] at this
 rw [<- this,List.length_nil, <- over_cons _ 0 y [] (by rw [pageK_length _ _ (by simp)]; simp),over_nil]
def No.toNd (n: No): Nd := ⟨n.leaf,n.recs.map (·.data.toList),n.kids.map Int.toNat⟩
theorem lens_toNd (l: List ByteArray): lens (l.map (·.data.toList)) + 4 * l.length = weigh l := by
 induction l with
 | nil => rfl
 | cons s l ih =>
  rw [List.map_cons,lens_cons,List.length_cons]
  unfold weigh at ih ⊢
  rw [List.map_cons,List.sum_cons, <- ih]
  have: s.data.toList.length = s.size := rfl
  omega
theorem toNd_size (n: No): n.toNd.size = n.size := by
 unfold Nd.size No.size No.toNd
 have := lens_toNd n.recs
 simp only [List.length_map]
 omega
theorem slots_snoc (l: List (List UInt8)): ∀ (e: Nat) (r: List UInt8),slots e (l ++ [r]) = slots e l ++ n2 (e - lens l - r.length) ++ n2 r.length := by
 induction l with
 | nil => intro e r; simp [slots,lens]
 | cons x l ih =>
  intro e r
  rw [List.cons_append,slots,ih,slots,lens_cons]
  simp [Nat.sub_sub]
theorem tailL_snoc (l: List (List UInt8)) (r: List UInt8): tailL (l ++ [r]) = r ++ tailL l := by simp [tailL]
def front (n: No) (j i: Nat): List UInt8 := [if n.leaf then 1 else 2] ++ n2 n.recs.length ++ (n.toNd.kids.take j).flatMap n4 ++ slots 1024 (n.toNd.recs.take i)
theorem front_length (n: No) (j i: Nat) (hj: j <= n.kids.length) (hi: i <= n.recs.length): (front n j i).length = 3 + 4 * j + 4 * i := by
 unfold front
 simp only [List.length_append,List.length_singleton,slots_length,n4s_length]
 have h1: (n.toNd.kids.take j).length = j := by simp [No.toNd]; omega
 have h2: (n.toNd.recs.take i).length = i := by simp [No.toNd]; omega
 rw [h1,h2]
 simp [n2]
theorem front_kid (n: No) (j: Nat) (h: j < n.kids.length): front n (j + 1) 0 = front n j 0 ++ n4 n.kids[j].toNat := by
 unfold front
 have: n.toNd.kids.take (j + 1) = n.toNd.kids.take j ++ [n.kids[j].toNat] := by
  rw [List.take_succ_eq_append_getElem (by simpa [No.toNd] using h)]
  simp [No.toNd]
 rw [this]
 simp [slots]
theorem recs_take (n: No) (i: Nat) (h: i < n.recs.length): n.toNd.recs.take (i + 1) = n.toNd.recs.take i ++ [n.recs[i].data.toList] := by
 rw [List.take_succ_eq_append_getElem (by simpa [No.toNd] using h)]
 simp [No.toNd]
theorem front_rec (n: No) (i: Nat) (h: i < n.recs.length): front n n.kids.length (i + 1) = front n n.kids.length i ++ n2 (1024 - lens (n.toNd.recs.take (i + 1))) ++ n2 n.recs[i].size := by
 unfold front
 rw [recs_take n i h,slots_snoc,lens_append]
 have: lens [n.recs[i].data.toList] = n.recs[i].size := by simp [lens]
 rw [this,show n.recs[i].data.toList.length = n.recs[i].size from rfl,Nat.sub_sub]
 simp
theorem front_all (n: No): front n n.kids.length n.recs.length = headL n.toNd := by
 unfold front headL
 rw [List.take_of_length_le (by simp [No.toNd]),List.take_of_length_le (by simp [No.toNd])]
 rw [show n.toNd.recs.length = n.recs.length by simp [No.toNd]]
 rfl
theorem lens_le (n: No) (i: Nat): 3 + 4 * n.kids.length + 4 * n.recs.length + lens (n.toNd.recs.take i) <= n.size := by
 have h1 := lens_toNd n.recs
 have h2: lens (n.toNd.recs.take i) <= lens n.toNd.recs := by
  conv => rhs; rw [<- List.take_append_drop i n.toNd.recs]
  rw [lens_append]; omega
 unfold No.size
 have: n.toNd.recs = n.recs.map (·.data.toList) := rfl
 rw [this] at h2 ⊢
 omega
end Go.Proofs.YtdnkbdjhccckhaaGreat.L5
