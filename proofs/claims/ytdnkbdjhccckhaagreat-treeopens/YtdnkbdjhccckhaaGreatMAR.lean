import Derived.Test.YtdnkbdjhccckhaaGreatMAO
namespace Go.Proofs.YtdnkbdjhccckhaaGreat
open Go.RowKit
open L4 (Abs)
open L5 (ltP ltB leB)
def layN (a: Abs) (at_: Nat) (n: L5.No): Abs := a.lay at_ (some (L5.pageL n.toNd))
theorem at_nat (a: Abs) (n: Nat): a.at (n: Int) = if 1 <= n then (a.pg[n - 1]?).join else none := by
 unfold Abs.at
 by_cases h: 1 <= n
 · rw [if_pos (by omega),if_pos h]; simp
 · rw [if_neg (by omega),if_neg h]
theorem at_lay_same {a: Abs} {n: Nat} {c: List UInt8} (h: a.at (n: Int) = some c) (d: List UInt8): (a.lay n (some d)).at (n: Int) = some d := by
 obtain ⟨h1,h2,h3⟩ := L4.Abs.at_some h
 rw [at_nat,if_pos (by omega)]
 show ((a.pg.set (n - 1) (some d))[n - 1]?).join = _
 rw [List.getElem?_set_self (by simpa using h2)]
 rfl
theorem at_lay_ne {a: Abs} {n m: Nat} (h: m ≠ n) (hn: 1 <= n) (d: Option (List UInt8)): (a.lay n d).at (m: Int) = a.at (m: Int) := by
 rw [at_nat,at_nat]
 split
 · show ((a.pg.set (n - 1) d)[m - 1]?).join = _
   rw [List.getElem?_set_ne (by omega)]
 · rfl
theorem at_pos {a: Abs} {n: Nat} {c: List UInt8} (h: a.at (n: Int) = some c): 1 <= n := by
 have := (L4.Abs.at_some h).1
 omega
theorem next_pos {a: Abs} (h: a.Ok): 1 <= a.next /\ a.at (a.next: Int) = none := by
 unfold L4.Abs.next
 cases hg: a.fr.getLast? with
 | none => exact ⟨by simp,by rw [at_nat]; simp⟩
 | some n =>
  obtain ⟨h1,h2⟩ := h.low n (List.mem_of_getLast? hg)
  refine ⟨h1, ?_⟩
  rw [at_nat,if_pos h1]
  show (a.pg[n - 1]?).join = none
  rw [h2]
  rfl
theorem at_alloc {a: Abs} (h: a.Ok): (∃ c,a.alloc.at (a.next: Int) = some c) /\ ∀ m: Nat,m ≠ a.next -> a.alloc.at (m: Int) = a.at (m: Int) := by
 obtain ⟨n1,_⟩ := next_pos h
 have tk: a.take.pg = a.pg \/ a.take.pg = a.pg ++ [none] := by
  unfold L4.Abs.take
  cases a.fr.getLast? with
  | none => exact Or.inr rfl
  | some n => exact Or.inl rfl
 have nl: a.next - 1 < a.take.pg.length := by
  unfold L4.Abs.next L4.Abs.take
  cases hg: a.fr.getLast? with
  | none => simp
  | some n =>
   obtain ⟨h1,h2⟩ := h.low n (List.mem_of_getLast? hg)
   exact (List.getElem?_eq_some_iff.1 h2).1
 refine ⟨⟨L4.zeroP, ?_⟩,fun m hm => ?_⟩
 · unfold L4.Abs.alloc
   rw [at_nat,if_pos n1]
   show ((a.take.pg.set (a.next - 1) (some L4.zeroP))[a.next - 1]?).join = _
   rw [List.getElem?_set_self nl]
   rfl
 · unfold L4.Abs.alloc
   rw [at_lay_ne hm n1,at_nat,at_nat]
   split
   · rcases tk with e | e
     · rw [e]
     · rw [e]
       by_cases hl: m - 1 < a.pg.length
       · rw [List.getElem?_append_left hl]
       · rw [List.getElem?_append_right (by omega),List.getElem?_eq_none (l := a.pg) (by omega)]
         by_cases hz: m - 1 - a.pg.length = 0
         · rw [hz]; rfl
         · rw [List.getElem?_eq_none (by simp; omega)]
   · rfl
theorem used_alloc {a: Abs} (h: a.Ok): a.alloc.used = a.used + 1 /\ a.alloc.q = a.q := by
 have hle := h.le
 unfold L4.Abs.alloc L4.Abs.take L4.Abs.used L4.Abs.lay
 cases hg: a.fr.getLast? with
 | none =>
  have hf: a.fr = [] := by simpa using hg
  simp [hf]
 | some n =>
  have: 1 <= a.fr.length := by
   have := List.mem_of_getLast? hg
   exact List.length_pos_of_mem this
  simp
  omega
theorem left_alloc {a: Abs} (h: a.Ok): a.alloc.left = a.left - 1 := by
 obtain ⟨h1,h2⟩ := used_alloc h
 unfold L4.Abs.left
 rw [h1,h2]
 omega
theorem Holds.lay {a: Abs} {at_: Nat} {c: List UInt8} {n: L5.No} (h: a.at (at_: Int) = some c) (hs: n.shaped = true) (hz: n.size <= 1024) (hm: n.small): Holds (layN a at_ n) at_ n := ⟨at_lay_same h _,hs,hz,hm⟩
theorem page_len {n: L5.No} (hz: n.size <= 1024): (L5.pageL n.toNd).length = 1024 := L5.pageL_length (by rw [L5.toNd_size]; exact hz)
theorem layN_ok {a: Abs} {at_: Nat} {c: List UInt8} {n: L5.No} (ho: a.Ok) (h: a.at (at_: Int) = some c) (hz: n.size <= 1024): (layN a at_ n).Ok := by
 have := ho.lay h (page_len hz)
 unfold layN
 simpa using this
theorem layN_used (a: Abs) (at_: Nat) (n: L5.No): (layN a at_ n).used = a.used /\ (layN a at_ n).q = a.q /\ (layN a at_ n).left = a.left := by
 have e: (layN a at_ n).used = a.used := by unfold layN L4.Abs.used L4.Abs.lay; simp
 exact ⟨e,rfl,by unfold L4.Abs.left; rw [e]; rfl⟩
theorem layN_next (a: Abs) (at_: Nat) (n: L5.No): (layN a at_ n).next = a.next := by
 unfold layN L4.Abs.next L4.Abs.lay
 simp
theorem lay_alloc {a: Abs} (ho: a.Ok) {m: Nat} {c: List UInt8} (h: a.at (m: Int) = some c) (n: L5.No): (layN a m n).alloc = layN a.alloc m n := by
 have hne: m ≠ a.next := fun e => by
  have := (next_pos ho).2
  rw [<- e,h] at this
  cases this
 have h1 := (next_pos ho).1
 have h2 := at_pos h
 obtain ⟨_,hl,_⟩ := L4.Abs.at_some h
 have hl: m - 1 < a.pg.length := by simpa using hl
 unfold L4.Abs.alloc
 rw [layN_next]
 unfold layN L4.Abs.take L4.Abs.lay
 cases hg: a.fr.getLast? with
 | none =>
  simp only
  congr 1
  rw [List.set_comm _ _ (by omega)]
  congr 1
  rw [List.set_append_left _ _ hl]
 | some n =>
  simp only
  congr 1
  rw [List.set_comm _ _ (by omega)]
def addK (u: Pl) (sep: ByteArray) (n: Nat): L5.No := ⟨u.n.leaf,u.n.recs.take u.kid ++ [sep] ++ u.n.recs.drop u.kid,u.n.kids.take (u.kid + 1) ++ [(n: Int)] ++ u.n.kids.drop (u.kid + 1)⟩
def sepOf (n: L5.No): ByteArray := n.recs[n.cut]?.getD e0
def grows: List Pl -> Abs -> Nat -> L5.No -> Abs × Option Nat
 | [],a,at_,n => if n.size <= 1024 then (layN a at_ n,none) else
  (layN (layN (layN a.alloc at_ (n.lo n.cut)) a.next (n.hi n.cut)).alloc (layN (layN a.alloc at_ (n.lo n.cut)) a.next (n.hi n.cut)).next ⟨false,[sepOf n],[(at_: Int),(a.next: Int)]⟩,some (layN (layN a.alloc at_ (n.lo n.cut)) a.next (n.hi n.cut)).next)
 | u :: us,a,at_,n => if n.size <= 1024 then (layN a at_ n,none) else grows us (layN (layN a.alloc at_ (n.lo n.cut)) a.next (n.hi n.cut)) u.at_ (addK u (sepOf n) a.next)
theorem inner_fit {l: List ByteArray} (hw: L5.weigh l + 4 * l.length <= 1425) (hs: ∀ s ∈ l,s.size <= 400) (h2: 3 <= l.length): 7 + (L5.weigh (l.take (L5.cutN 8 1 l)) + 4 * L5.cutN 8 1 l) <= 1024 /\ 7 + (L5.weigh (l.drop (L5.cutN 8 1 l + 1)) + 4 * (l.length - (L5.cutN 8 1 l + 1))) <= 1024 := by
 obtain ⟨k,k1,k2,k3,k4⟩ := L5.half_exists (L5.wts 8 l) 408 (fun x hx => by
  obtain ⟨s,h,rfl⟩ := List.mem_map.1 hx
  have := hs s h
  omega) (by rw [L5.wts_length]; omega)
 rw [L5.wts_length] at k2
 have ht: (L5.wts 8 l).sum = L5.weigh l + 4 * l.length := (L5.weigh_wts 4 l).symm
 have hp := L5.sum_parts (L5.wts 8 l) k
 obtain ⟨c1,c2⟩ := L5.cutN_le 8 1 l (by omega)
 have mono: ∀ i j,i <= j -> L5.sumN 8 l i <= L5.sumN 8 l j := fun i j hij => by
  unfold L5.sumN
  obtain ⟨d,rfl⟩: ∃ d,j = i + d := ⟨j - i,by omega⟩
  rw [List.take_add,List.sum_append]
  omega
 have hex: ∃ j,1 <= j /\ j <= l.length - 1 - 2 + 1 /\ L5.heavy 8 1 l j <= 916 := by
  by_cases hk: k + 1 < l.length
  · refine ⟨k,k1,by omega, ?_⟩
    have := mono k (k + 1) (by omega)
    unfold L5.heavy
    unfold L5.sumN at this ⊢
    omega
  · refine ⟨l.length - 2,by omega,by omega, ?_⟩
    have e: k = l.length - 1 := by omega
    have m1 := mono (l.length - 2) k (by omega)
    unfold L5.heavy
    rw [show l.length - 2 + 1 = k by omega]
    unfold L5.sumN at m1 ⊢
    omega
 obtain ⟨j,j1,j2,j3⟩ := hex
 have hm: L5.heavy 8 1 l (L5.cutN 8 1 l) <= L5.heavy 8 1 l j := L5.minAt_min _ _ j j1 (by omega)
 have w1 := L5.weigh_take 4 l (L5.cutN 8 1 l) (by omega)
 have w2 := L5.weigh_drop 4 l (L5.cutN 8 1 l + 1)
 have hd: L5.heavy 8 1 l (L5.cutN 8 1 l) = max (L5.sumN 8 l (L5.cutN 8 1 l)) ((L5.wts 8 l).sum - L5.sumN 8 l (L5.cutN 8 1 l + 1)) := rfl
 rw [show 4 + 4 = 8 from rfl] at w1 w2
 omega
theorem small_of {n: L5.No} (hs: n.shaped = true) (hz: n.size <= 1432): n.small := by
 obtain ⟨r1,_⟩ := shaped_recs hs
 have hw: 4 * n.recs.length <= L5.weigh n.recs := by
  unfold L5.weigh
  generalize n.recs = l
  induction l with
  | nil => simp
  | cons x l ih => simp; omega
 unfold L5.No.size at hz
 refine ⟨by omega,by omega,fun s hs => by have := (r1 s hs).2; omega⟩
theorem shaped_kids {n: L5.No} (hs: n.shaped = true) (hl: n.leaf = false): (∀ k ∈ n.kids,1 <= k /\ k <= 4096) /\ n.kids.length = n.recs.length + 1 := by
 rw [L5.shaped_eq] at hs
 have h := (Bool.and_eq_true_iff.1 hs).2
 unfold L5.numbB at h
 rw [hl] at h
 simp only [Bool.false_eq_true,if_false,Bool.and_eq_true,List.all_eq_true,beq_iff_eq] at h
 refine ⟨fun k hk => ?_,h.2⟩
 have := h.1 k hk
 unfold L5.kidOk at this
 simpa using this
theorem shaped_leaf {n: L5.No} (hs: n.shaped = true) (hl: n.leaf = true): n.kids = [] := by
 rw [L5.shaped_eq] at hs
 have h := (Bool.and_eq_true_iff.1 hs).2
 unfold L5.numbB at h
 rw [hl] at h
 simpa using h
theorem shaped_mk {n: L5.No} (h1: ∀ s ∈ n.recs,1 <= s.size /\ s.size <= 400) (h2: n.recs.Pairwise ltP) (h3: n.leaf = true /\ n.kids = [] \/ n.leaf = false /\ n.kids.length = n.recs.length + 1 /\ ∀ k ∈ n.kids,1 <= k /\ k <= 4096): n.shaped = true := by
 rw [L5.shaped_eq,(L5.rises_iff _).2 ⟨h1,h2⟩]
 unfold L5.numbB
 rcases h3 with ⟨e1,e2⟩ | ⟨e1,e2,e3⟩
 · rw [e1,e2]; rfl
 · rw [e1]
   simp only [Bool.true_and,Bool.false_eq_true,if_false,Bool.and_eq_true,List.all_eq_true,beq_iff_eq]
   exact ⟨fun k hk => by unfold L5.kidOk; simpa using e3 k hk,e2⟩
structure Cuts (n: L5.No) (sep: ByteArray): Prop where
 at_: n.recs[n.cut]? = some sep
 pos: 1 <= n.cut
 gap: n.cut + n.gap < n.recs.length
 lo: (n.lo n.cut).shaped = true /\ (n.lo n.cut).size <= 1024 /\ (n.lo n.cut).small
 hi: (n.hi n.cut).shaped = true /\ (n.hi n.cut).size <= 1024 /\ (n.hi n.cut).small
 len: n.gap + 2 <= n.recs.length
theorem weigh_lt (l: List ByteArray) (h: ∀ s ∈ l,s.size <= 400): L5.weigh l <= 404 * l.length := by
 induction l with
 | nil => exact Nat.le_refl _
 | cons x l ih =>
  have h1 := ih fun s hs => h s (by simp [hs])
  have h2 := h x (by simp)
  unfold L5.weigh at h1 ⊢
  simp only [List.map_cons,List.sum_cons,List.length_cons]
  omega
theorem cuts_of {n: L5.No} (hs: n.shaped = true) (h1: ¬ n.size <= 1024) (h2: n.size <= 1024 + if n.leaf then 404 else 408): Cuts n (sepOf n) := by
 obtain ⟨r1,r2⟩ := shaped_recs hs
 have hw := weigh_lt n.recs (fun s hs => (r1 s hs).2)
 cases hl: n.leaf
 · obtain ⟨k1,k2⟩ := shaped_kids hs hl
   have hg: n.gap = 1 := by unfold L5.No.gap; rw [hl]; rfl
   rw [hl] at h2
   simp only [Bool.false_eq_true,if_false] at h2
   unfold L5.No.size at h1 h2
   have h3: 3 <= n.recs.length := by omega
   have hc: n.cut = L5.cutN 8 1 n.recs := L5.cut_inner hl
   obtain ⟨c1,c2⟩ := L5.cutN_le 8 1 n.recs (by omega)
   obtain ⟨f1,f2⟩ := inner_fit (l := n.recs) (by omega) (fun s hs => (r1 s hs).2) h3
   rw [<- hc] at c1 c2 f1 f2
   have elo: n.lo n.cut = ⟨false,n.recs.take n.cut,n.kids.take (n.cut + 1)⟩ := by unfold L5.No.lo; rw [hl]; rfl
   have ehi: n.hi n.cut = ⟨false,n.recs.drop (n.cut + 1),n.kids.drop (n.cut + 1)⟩ := by unfold L5.No.hi; rw [hl,hg]; rfl
   have slo: (n.lo n.cut).shaped = true := by
    rw [elo]
    exact shaped_mk (fun s hs => r1 s (List.mem_of_mem_take hs)) (r2.sublist (List.take_sublist _ _)) (Or.inr ⟨rfl,by simp; omega,fun k hk => k1 k (List.mem_of_mem_take hk)⟩)
   have shi: (n.hi n.cut).shaped = true := by
    rw [ehi]
    exact shaped_mk (fun s hs => r1 s (List.mem_of_mem_drop hs)) (r2.sublist (List.drop_sublist _ _)) (Or.inr ⟨rfl,by simp; omega,fun k hk => k1 k (List.mem_of_mem_drop hk)⟩)
   have zlo: (n.lo n.cut).size <= 1024 := by
    rw [elo]; unfold L5.No.size; simp only [List.length_take]; omega
   have zhi: (n.hi n.cut).size <= 1024 := by
    rw [ehi]; unfold L5.No.size; simp only [List.length_drop]; omega
   exact ⟨by unfold sepOf; rw [List.getElem?_eq_getElem (by omega)]; rfl,c1,by omega,⟨slo,zlo,small_of slo (by omega)⟩,⟨shi,zhi,small_of shi (by omega)⟩,by omega⟩
 · have k1 := shaped_leaf hs hl
   have hg: n.gap = 0 := by unfold L5.No.gap; rw [hl]; rfl
   rw [hl] at h2
   simp only [if_true] at h2
   unfold L5.No.size at h1 h2
   rw [k1] at h1 h2
   simp only [List.length_nil] at h1 h2
   have h3: 2 <= n.recs.length := by omega
   have hc: n.cut = L5.cutN 4 0 n.recs := L5.cut_leaf hl
   obtain ⟨c1,c2⟩ := L5.cutN_le 4 0 n.recs (by omega)
   obtain ⟨f1,f2⟩ := L5.halves_fit (l := n.recs) (by omega) (fun s hs => (r1 s hs).2) h3
   rw [<- hc] at c1 c2 f1 f2
   have elo: n.lo n.cut = ⟨true,n.recs.take n.cut,[]⟩ := by unfold L5.No.lo; rw [hl]; rfl
   have ehi: n.hi n.cut = ⟨true,n.recs.drop n.cut,[]⟩ := by unfold L5.No.hi; rw [hl,hg]; rfl
   have slo: (n.lo n.cut).shaped = true := by
    rw [elo]
    exact shaped_mk (fun s hs => r1 s (List.mem_of_mem_take hs)) (r2.sublist (List.take_sublist _ _)) (Or.inl ⟨rfl,rfl⟩)
   have shi: (n.hi n.cut).shaped = true := by
    rw [ehi]
    exact shaped_mk (fun s hs => r1 s (List.mem_of_mem_drop hs)) (r2.sublist (List.drop_sublist _ _)) (Or.inl ⟨rfl,rfl⟩)
   have zlo: (n.lo n.cut).size <= 1024 := by
    rw [elo]; unfold L5.No.size; simp only [List.length_nil]; omega
   have zhi: (n.hi n.cut).size <= 1024 := by
    rw [ehi]; unfold L5.No.size; simp only [List.length_nil]; omega
   exact ⟨by unfold sepOf; rw [List.getElem?_eq_getElem (by omega)]; rfl,c1,by omega,⟨slo,zlo,small_of slo (by omega)⟩,⟨shi,zhi,small_of shi (by omega)⟩,by omega⟩
def GrowOk: List Pl -> Abs -> Nat -> L5.No -> Prop
 | [],a,at_,n => n.shaped = true /\ n.small /\ (n.size <= 1024 \/ (Cuts n (sepOf n) /\ (⟨false,[sepOf n],[(at_: Int),(a.next: Int)]⟩: L5.No).shaped = true /\ (⟨false,[sepOf n],[(at_: Int),(a.next: Int)]⟩: L5.No).size <= 1024))
 | u :: us,a,at_,n => n.shaped = true /\ n.small /\ (n.size <= 1024 \/ (Cuts n (sepOf n) /\ u.kid <= u.n.recs.length /\ u.kid + 1 <= u.n.kids.length /\ u.n.small /\ GrowOk us (layN (layN a.alloc at_ (n.lo n.cut)) a.next (n.hi n.cut)) u.at_ (addK u (sepOf n) a.next)))
theorem GrowOk.head {ups: List Pl} {a: Abs} {at_: Nat} {n: L5.No} (h: GrowOk ups a at_ n): n.shaped = true /\ n.small := by
 cases ups with
 | nil => exact ⟨h.1,h.2.1⟩
 | cons u us => exact ⟨h.1,h.2.1⟩
theorem subs_cut {P: Nat -> ByteArray -> ByteArray -> List ByteArray -> List Nat -> Prop} {hi lo: ByteArray} {rs es: List ByteArray} {cs: List Int} {ps: List Nat} (h: Subs P hi lo rs cs es ps): ∀ (k: Nat) (sep: ByteArray),rs[k]? = some sep -> ∃ es1 es2 ps1 ps2,Subs P sep lo (rs.take k) (cs.take (k + 1)) es1 ps1 /\ Subs P hi sep (rs.drop (k + 1)) (cs.drop (k + 1)) es2 ps2 /\ es = es1 ++ es2 /\ ps = ps1 ++ ps2 := by
 induction h with
 | one h => intro k sep hk; simp at hk
 | @more lo r c es1 es2 rs cs ps1 ps2 h t ih =>
  intro k sep hk
  cases k with
  | zero =>
   simp at hk
   subst hk
   exact ⟨es1,es2,ps1,ps2, .one h,t,rfl,rfl⟩
  | succ k =>
   obtain ⟨f1,f2,p1,p2,q1,q2,rfl,rfl⟩ := ih k sep (by simpa using hk)
   exact ⟨es1 ++ f1,f2,ps1 ++ p1,p2, .more h q1,q2,by simp,by simp⟩
theorem body_cut {P: Nat -> ByteArray -> ByteArray -> List ByteArray -> List Nat -> Prop} {h: Nat} {n: L5.No} {lo hi sep: ByteArray} {es: List ByteArray} {ps: List Nat} (hb: Body P h n lo hi es ps) (hc: Cuts n sep) (hs: n.shaped = true): inB lo hi sep /\ ltP lo sep /\ ∃ es1 es2 ps1 ps2,Body P h (n.lo n.cut) lo sep es1 ps1 /\ Body P h (n.hi n.cut) sep hi es2 ps2 /\ es = es1 ++ es2 /\ ps = ps1 ++ ps2 := by
 obtain ⟨r1,r2⟩ := shaped_recs hs
 have hat := hc.at_
 have hpos := hc.pos
 obtain ⟨hlt,hsep⟩ := List.getElem?_eq_some_iff.1 hat
 have hmem: sep ∈ n.recs := List.mem_of_getElem? hat
 have hin := hb.1 sep hmem
 have before: ∀ r ∈ n.recs.take n.cut,ltP r sep := fun r hr => by
  obtain ⟨i,hi,rfl⟩ := List.getElem_of_mem hr
  rw [List.length_take] at hi
  rw [List.getElem_take, <- hsep]
  exact List.pairwise_iff_getElem.1 r2 i n.cut (by omega) hlt (by omega)
 have behind: ∀ r ∈ n.recs.drop (n.cut + 1),ltP sep r := fun r hr => by
  obtain ⟨i,hi,rfl⟩ := List.getElem_of_mem hr
  rw [List.length_drop] at hi
  rw [List.getElem_drop, <- hsep]
  exact List.pairwise_iff_getElem.1 r2 n.cut (n.cut + 1 + i) hlt (by omega) (by omega)
 have b1: ∀ r ∈ n.recs.take n.cut,inB lo sep r := fun r hr => ⟨(hb.1 r (List.mem_of_mem_take hr)).1,Or.inr (before r hr)⟩
 have b2: ∀ r ∈ n.recs.drop n.cut,inB sep hi r := fun r hr => by
  refine ⟨?_,(hb.1 r (List.mem_of_mem_drop hr)).2⟩
  rw [List.drop_eq_getElem_cons hlt,hsep] at hr
  rcases List.mem_cons.1 hr with rfl | hr
  · exact le_rf _
  · exact le_of (behind r hr)
 have hlo: ltP lo sep := by
  have h0: 0 < n.recs.length := by omega
  have := before n.recs[0] (by
   rw [List.mem_take_iff_getElem]
   exact ⟨0,by omega,rfl⟩)
  exact le_lt (hb.1 _ (List.getElem_mem h0)).1 this
 refine ⟨hin,hlo, ?_⟩
 rcases hb.2 with ⟨h0,hl,rfl,rfl⟩ | ⟨h0,hl,hsu⟩
 · have hg: n.gap = 0 := by unfold L5.No.gap; rw [hl]; rfl
   have elo: n.lo n.cut = ⟨true,n.recs.take n.cut,[]⟩ := by unfold L5.No.lo; rw [hl]; rfl
   have ehi: n.hi n.cut = ⟨true,n.recs.drop n.cut,[]⟩ := by unfold L5.No.hi; rw [hl,hg]; rfl
   rw [elo,ehi]
   exact ⟨n.recs.take n.cut,n.recs.drop n.cut,[],[],⟨b1,Or.inl ⟨h0,rfl,rfl,rfl⟩⟩,⟨b2,Or.inl ⟨h0,rfl,rfl,rfl⟩⟩,(List.take_append_drop _ _).symm,rfl⟩
 · have hg: n.gap = 1 := by unfold L5.No.gap; rw [hl]; rfl
   have elo: n.lo n.cut = ⟨false,n.recs.take n.cut,n.kids.take (n.cut + 1)⟩ := by unfold L5.No.lo; rw [hl]; rfl
   have ehi: n.hi n.cut = ⟨false,n.recs.drop (n.cut + 1),n.kids.drop (n.cut + 1)⟩ := by unfold L5.No.hi; rw [hl,hg]; rfl
   rw [elo,ehi]
   obtain ⟨f1,f2,p1,p2,q1,q2,e1,e2⟩ := subs_cut hsu n.cut sep hat
   exact ⟨f1,f2,p1,p2,⟨b1,Or.inr ⟨h0,rfl,q1⟩⟩,⟨fun r hr => b2 r (by rw [List.drop_eq_getElem_cons hlt]; exact List.mem_cons_of_mem _ hr),Or.inr ⟨h0,rfl,q2⟩⟩,e1,e2⟩
structure Grew (a A: Abs) (old new: List Nat): Prop where
 ok: A.Ok
 q: A.q = a.q
 nodup: new.Nodup
 sup: ∀ p ∈ old,p ∈ new
 fresh: ∀ p ∈ new,p ∈ old \/ a.at (p: Int) = none
 frame: ∀ p: Nat,p ∉ old -> (∃ c,a.at (p: Int) = some c) -> A.at (p: Int) = a.at (p: Int)
 used: A.used + old.length = a.used + new.length
theorem Ctx.bare {a: Abs} {H R h at_: Nat} {lo hi: ByteArray} {esL esR: List ByteArray} {psO: List Nat} (k: Ctx a H R [] h at_ lo hi esL esR psO): h = H /\ at_ = R /\ e0 = lo /\ e0 = hi /\ [] = esL /\ [] = esR /\ [] = psO := by
 cases k
 exact ⟨rfl,rfl,rfl,rfl,rfl,rfl,rfl⟩
theorem Ctx.fill {a: Abs} {H R: Nat} {us: List Pl} {h at_: Nat} {lo hi: ByteArray} {esL esR: List ByteArray} {psO: List Nat} (k: Ctx a H R us h at_ lo hi esL esR psO): ∀ {es: List ByteArray} {ps: List Nat},Sub a h at_ lo hi es ps -> ∃ ps',Sub a H R e0 e0 (esL ++ es ++ esR) ps' /\ ps'.Perm (ps ++ psO) := by
 induction k with
 | root => intro es ps hs; exact ⟨ps,by simpa using hs,by simp⟩
 | @up u us h at_ lo hi lo' hi' rl rr esl esr esL esR kl kr psl psr psO hn hl hb er ek e1 e2 hh hL hR _ ih =>
  intro es ps hs
  have hs2: Sub a (h + 1) u.at_ lo hi (esl ++ (es ++ esr)) (u.at_ :: (psl ++ (ps ++ psr))) := ⟨u.n,_,hn,rfl,hb,Or.inr ⟨hh,hl,by rw [er,ek]; exact subs_tail hL (subs_head hs hR)⟩⟩
  obtain ⟨ps',h1,h2⟩ := ih hs2
  refine ⟨ps',by simpa using h1,h2.trans ?_⟩
  rw [List.perm_iff_count]
  intro z
  simp only [List.count_append,List.count_cons]
  omega
theorem Body.frame {a a': Abs} {h: Nat} {n: L5.No} {lo hi: ByteArray} {es: List ByteArray} {ps: List Nat} (k: Body (Sub a h) h n lo hi es ps) (hp: ∀ p ∈ ps,a'.at (p: Int) = a.at (p: Int)): Body (Sub a' h) h n lo hi es ps :=
 ⟨k.1,k.2.imp id fun ⟨h1,h2,h3⟩ => ⟨h1,h2,h3.mono fun _ _ _ _ _ hq hP => hP.frame fun p hpq => hp p (hq p hpq)⟩⟩
theorem Body.pages {a: Abs} {h: Nat} {n: L5.No} {lo hi: ByteArray} {es: List ByteArray} {ps: List Nat} (k: Body (Sub a h) h n lo hi es ps): ∀ p ∈ ps,∃ c,a.at (p: Int) = some c := by
 rcases k.2 with ⟨_,_,_,rfl⟩ | ⟨_,_,hs⟩
 · intro p hp; cases hp
 · exact hs.pages
theorem fit_law {a: Abs} {H R: Nat} {us: List Pl} {h at_: Nat} {n: L5.No} {lo hi: ByteArray} {es esL esR: List ByteArray} {ps0 psO: List Nat} (ho: a.Ok) (hs: n.shaped = true) (hz: n.size <= 1024) (hb: Body (Sub a h) h n lo hi es ps0) (hC: Ctx a H R us (h + 1) at_ lo hi esL esR psO) {c: List UInt8} (hat: a.at (at_: Int) = some c) (hd: (at_ :: (ps0 ++ psO)).Nodup) :
 ∃ ps',Sub (layN a at_ n) H R e0 e0 (esL ++ es ++ esR) ps' /\ Grew a (layN a at_ n) (at_ :: (ps0 ++ psO)) ps' := by
 have hne: ∀ p: Nat,p ≠ at_ -> (layN a at_ n).at (p: Int) = a.at (p: Int) := fun p hp => at_lay_ne hp (at_pos hat) _
 have hno := (List.nodup_cons.1 hd).1
 have hC' := hC.frame (a' := layN a at_ n) fun p hp => hne p fun e => hno (by subst e; simp [hp])
 have hb' := hb.frame (a' := layN a at_ n) fun p hp => hne p fun e => hno (by subst e; simp [hp])
 have hS: Sub (layN a at_ n) (h + 1) at_ lo hi es (at_ :: ps0) := ⟨n,ps0,Holds.lay hat hs hz (small_of hs (by omega)),rfl,hb'⟩
 obtain ⟨ps',h1,h2⟩ := hC'.fill hS
 have hper: ps'.Perm (at_ :: (ps0 ++ psO)) := h2
 refine ⟨ps',h1,layN_ok ho hat hz,(layN_used _ _ _).2.1,hper.nodup_iff.2 hd,fun p hp => hper.mem_iff.2 hp,fun p hp => Or.inl (hper.mem_iff.1 hp),fun p hp _ => hne p fun e => hp (by simp [e]), ?_⟩
 rw [(layN_used _ _ _).1,hper.length_eq]
theorem split_law {a: Abs} {h at_: Nat} {n: L5.No} {lo hi: ByteArray} {es: List ByteArray} {ps0: List Nat} (ho: a.Ok) (hl: 0 < a.left) (hs: n.shaped = true) (hc: Cuts n (sepOf n)) (hb: Body (Sub a h) h n lo hi es ps0) {c: List UInt8} (hat: a.at (at_: Int) = some c) (hd: (at_ :: ps0).Nodup) :
 (layN (layN a.alloc at_ (n.lo n.cut)) a.next (n.hi n.cut)).Ok /\ (layN (layN a.alloc at_ (n.lo n.cut)) a.next (n.hi n.cut)).used = a.used + 1 /\ (layN (layN a.alloc at_ (n.lo n.cut)) a.next (n.hi n.cut)).q = a.q /\ (layN (layN a.alloc at_ (n.lo n.cut)) a.next (n.hi n.cut)).left = a.left - 1 /\
 (∀ p: Nat,p ≠ at_ -> p ≠ a.next -> (layN (layN a.alloc at_ (n.lo n.cut)) a.next (n.hi n.cut)).at (p: Int) = a.at (p: Int)) /\ a.next ≠ at_ /\ a.at (a.next: Int) = none /\ 1 <= a.next /\ a.next <= 4096 /\
 ∃ es1 es2 ps1 ps2,Sub (layN (layN a.alloc at_ (n.lo n.cut)) a.next (n.hi n.cut)) (h + 1) at_ lo (sepOf n) es1 (at_ :: ps1) /\ Sub (layN (layN a.alloc at_ (n.lo n.cut)) a.next (n.hi n.cut)) (h + 1) a.next (sepOf n) hi es2 (a.next :: ps2) /\ es = es1 ++ es2 /\ ps0 = ps1 ++ ps2 /\ inB lo hi (sepOf n) /\ ltP lo (sepOf n) := by
 obtain ⟨n1,n2⟩ := next_pos ho
 obtain ⟨⟨z,a1⟩,a2⟩ := at_alloc ho
 obtain ⟨u1,u2⟩ := used_alloc ho
 have ok1 := (ho.alloc hl).1
 have hne: a.next ≠ at_ := fun e => by rw [e,hat] at n2; cases n2
 have hat1: a.alloc.at (at_: Int) = some c := by rw [a2 at_ (fun e => hne e.symm)]; exact hat
 have hnx1: (layN a.alloc at_ (n.lo n.cut)).at (a.next: Int) = some z := by unfold layN; rw [at_lay_ne hne (at_pos hat)]; exact a1
 have ok2 := layN_ok (n := n.lo n.cut) ok1 hat1 hc.lo.2.1
 have ok3 := layN_ok (n := n.hi n.cut) ok2 hnx1 hc.hi.2.1
 have oth: ∀ p: Nat,p ≠ at_ -> p ≠ a.next -> (layN (layN a.alloc at_ (n.lo n.cut)) a.next (n.hi n.cut)).at (p: Int) = a.at (p: Int) := fun p h1 h2 => by
  unfold layN
  rw [at_lay_ne h2 n1,at_lay_ne h1 (at_pos hat),a2 p h2]
 have hA: Holds (layN (layN a.alloc at_ (n.lo n.cut)) a.next (n.hi n.cut)) at_ (n.lo n.cut) := ⟨by
  show ((layN a.alloc at_ (n.lo n.cut)).lay a.next _).at (at_: Int) = _
  rw [at_lay_ne (fun e => hne e.symm) n1]
  exact at_lay_same hat1 _,hc.lo.1,hc.lo.2.1,hc.lo.2.2⟩
 have hB: Holds (layN (layN a.alloc at_ (n.lo n.cut)) a.next (n.hi n.cut)) a.next (n.hi n.cut) := ⟨at_lay_same hnx1 _,hc.hi.1,hc.hi.2.1,hc.hi.2.2⟩
 obtain ⟨i1,i2,es1,es2,ps1,ps2,b1,b2,rfl,rfl⟩ := body_cut hb hc hs
 have hpg := hb.pages
 have fr: ∀ p ∈ ps1 ++ ps2,(layN (layN a.alloc at_ (n.lo n.cut)) a.next (n.hi n.cut)).at (p: Int) = a.at (p: Int) := fun p hp => oth p (fun e => (List.nodup_cons.1 hd).1 (by subst e; exact hp)) fun e => by
  obtain ⟨c,hc⟩ := hpg p hp
  rw [e,n2] at hc
  cases hc
 refine ⟨ok3,by rw [(layN_used _ _ _).1,(layN_used _ _ _).1,u1],by rw [(layN_used _ _ _).2.1,(layN_used _ _ _).2.1,u2],by rw [(layN_used _ _ _).2.2,(layN_used _ _ _).2.2,left_alloc ho],oth,hne,n2,n1, ?_,es1,es2,ps1,ps2,⟨_,ps1,hA,rfl,b1.frame fun p hp => fr p (by simp [hp])⟩,⟨_,ps2,hB,rfl,b2.frame fun p hp => fr p (by simp [hp])⟩,rfl,rfl,i1,i2⟩
 obtain ⟨h1,h2,_⟩ := L4.Abs.at_some a1
 have := ok1.small
 have h2': a.next - 1 < a.alloc.pg.length := by simpa using h2
 omega
theorem addK_law {P: Nat -> ByteArray -> ByteArray -> List ByteArray -> List Nat -> Prop} {u: Pl} {h at_ nx: Nat} {lo hi lo' hi' sep: ByteArray} {rl rr esl esr es1 es2: List ByteArray} {kl kr: List Int} {psl psr ps1 ps2: List Nat} (hn: u.n.shaped = true) (hz: u.n.size <= 1024) (hlf: u.n.leaf = false) (hb: ∀ r ∈ u.n.recs,inB lo hi r) (er: u.n.recs = rl ++ rr) (ek: u.n.kids = kl ++ (at_: Int) :: kr) (e1: rl.length = u.kid) (e2: kl.length = u.kid) (hh: h ≠ 0) (hL: SubL P lo' lo rl kl esl psl) (hR: SubR P hi' hi rr kr esr psr)
 (k1: P at_ lo' sep es1 ps1) (k2: P nx sep hi' es2 ps2) (hi1: inB lo' hi' sep) (hlt: ltP lo' sep) (hss: 1 <= sep.size /\ sep.size <= 400) (hx: 1 <= nx /\ nx <= 4096) :
 Body P h (addK u sep nx) lo hi (esl ++ (es1 ++ es2) ++ esr) (psl ++ (ps1 ++ ps2) ++ psr) /\ (addK u sep nx).shaped = true /\ (addK u sep nx).size <= 1432 /\ (addK u sep nx).leaf = false := by
 obtain ⟨r1,r2⟩ := shaped_recs hn
 obtain ⟨g1,g2⟩ := shaped_kids hn hlf
 have t1: u.n.recs.take u.kid = rl := by rw [er, <- e1]; simp
 have t2: u.n.recs.drop u.kid = rr := by rw [er, <- e1]; simp
 have t3: u.n.kids.take (u.kid + 1) = kl ++ [(at_: Int)] := by rw [ek, <- e2,List.take_append]; simp [List.take_of_length_le]
 have t4: u.n.kids.drop (u.kid + 1) = kr := by rw [ek, <- e2,List.drop_append]; simp [List.drop_of_length_le]
 have eA: addK u sep nx = ⟨false,rl ++ sep :: rr,kl ++ (at_: Int) :: (nx: Int) :: kr⟩ := by
  unfold addK
  rw [t1,t2,t3,t4,hlf]
  simp
 rw [eA]
 rw [er] at r1 r2 hb
 have hsz: (⟨false,rl ++ sep :: rr,kl ++ (at_: Int) :: (nx: Int) :: kr⟩: L5.No).size <= 1432 := by
  have hz' := hz
  unfold L5.No.size at hz' ⊢
  rw [er,ek] at hz'
  simp only [List.length_append,List.length_cons,L5.weigh_append] at hz' ⊢
  have: L5.weigh (sep :: rr) = 4 + sep.size + L5.weigh rr := by simp [L5.weigh]
  omega
 have low: ∀ r ∈ rl,leP r lo' := fun r hr => by
  rcases hL.low with ⟨_,e⟩ | e
  · rw [e] at hr; cases hr
  · obtain ⟨ys,hy⟩ := List.getLast?_eq_some_iff.1 e
    have p1 := (List.pairwise_append.1 r2).1
    rw [hy] at hr p1
    rcases List.mem_append.1 hr with hr | hr
    · exact le_of ((List.pairwise_append.1 p1).2.2 r hr lo' (by simp))
    · simp at hr; rw [hr]; exact le_rf _
 have high: ∀ r ∈ rr,ltP sep r := fun r hr => by
  rcases hR with ⟨e,_⟩ | ⟨rs,e,_⟩
  · rw [e] at hr; cases hr
  · have hz: hi'.size ≠ 0 := by have := (r1 hi' (by rw [e]; simp)).1; omega
    have hs := hi1.2.resolve_left hz
    have p1 := (List.pairwise_append.1 r2).2.1
    rw [e] at hr p1
    rcases List.mem_cons.1 hr with rfl | hr
    · exact hs
    · exact lt_tr hs ((List.pairwise_cons.1 p1).1 r hr)
 have hloL: leP lo lo' := by
  rcases hL.low with ⟨e,_⟩ | e
  · rw [e]; exact le_rf _
  · exact (hb lo' (List.mem_append_left _ (List.mem_of_getLast? e))).1
 have hsin: inB lo hi sep := by
  refine ⟨le_tr hloL (le_of hlt), ?_⟩
  rcases hR with ⟨_,_,_,_,e⟩ | ⟨rs,e,_⟩
  · rw [<- e]; exact hi1.2
  · have hz: hi'.size ≠ 0 := by have := (r1 hi' (by rw [e]; simp)).1; omega
    rcases (hb hi' (by rw [e]; simp)).2 with h2 | h2
    · exact Or.inl h2
    · exact Or.inr (lt_tr (hi1.2.resolve_left hz) h2)
 refine ⟨⟨fun r hr => ?_,Or.inr ⟨hh,rfl, ?_⟩⟩, ?_,hsz,rfl⟩
 · rcases List.mem_append.1 hr with hr | hr
   · exact hb r (by simp [hr])
   · rcases List.mem_cons.1 hr with rfl | hr
     · exact hsin
     · exact hb r (by simp [hr])
 · have := subs_tail hL (.more k1 (subs_head k2 hR))
   simpa using this
 · refine shaped_mk (fun s hs => ?_) ?_ (Or.inr ⟨rfl, ?_,fun k hk => ?_⟩)
   · rcases List.mem_append.1 hs with hs | hs
     · exact r1 s (by simp [hs])
     · rcases List.mem_cons.1 hs with rfl | hs
       · exact hss
       · exact r1 s (by simp [hs])
   · rw [List.pairwise_append,List.pairwise_cons]
     refine ⟨(List.pairwise_append.1 r2).1,⟨high,(List.pairwise_append.1 r2).2.1⟩,fun x hx y hy => ?_⟩
     have hxs := le_lt (low x hx) hlt
     rcases List.mem_cons.1 hy with rfl | hy
     · exact hxs
     · exact lt_tr hxs (high y hy)
   · rw [er,ek] at g2
     simp at g2 ⊢
     omega
   · rcases List.mem_append.1 hk with hk | hk
     · exact g1 k (by rw [ek]; simp [hk])
     · rcases List.mem_cons.1 hk with rfl | hk
       · exact g1 _ (by rw [ek]; simp)
       · rcases List.mem_cons.1 hk with rfl | hk
         · omega
         · exact g1 k (by rw [ek]; simp [hk])
theorem Grew.more {a a1 A: Abs} {at_ nx: Nat} {old old1 new: List Nat} (h: Grew a1 A old1 new) (hp: old1.Perm (nx :: old)) (hat: at_ ∈ old) (hq: a1.q = a.q) (hu: a1.used = a.used + 1) (hn: a.at (nx: Int) = none) (oth: ∀ p: Nat,p ≠ at_ -> p ≠ nx -> a1.at (p: Int) = a.at (p: Int)): Grew a A old new := by
 refine ⟨h.ok,h.q.trans hq,h.nodup,fun p hp' => h.sup p (hp.mem_iff.2 (by simp [hp'])),fun p hp' => ?_,fun p h1 ⟨c,h2⟩ => ?_, ?_⟩
 · rcases h.fresh p hp' with h1 | h1
   · rcases List.mem_cons.1 (hp.mem_iff.1 h1) with rfl | h1
     · exact Or.inr hn
     · exact Or.inl h1
   · by_cases e1: p = at_
     · subst e1; exact Or.inl hat
     · by_cases e2: p = nx
       · subst e2; exact Or.inr hn
       · rw [<- oth p e1 e2]; exact Or.inr h1
 · have e1: p ≠ at_ := fun e => h1 (by rw [e]; exact hat)
   have e2: p ≠ nx := fun e => by rw [e,hn] at h2; cases h2
   rw [h.frame p (fun h3 => by
    rcases List.mem_cons.1 (hp.mem_iff.1 h3) with h3 | h3
    · exact e2 h3
    · exact h1 h3) ⟨c,by rw [oth p e1 e2]; exact h2⟩,oth p e1 e2]
 · have := h.used
   rw [hp.length_eq] at this
   simp at this
   omega
theorem sep_size {n: L5.No} (hs: n.shaped = true) (hc: Cuts n (sepOf n)): 1 <= (sepOf n).size /\ (sepOf n).size <= 400 := (shaped_recs hs).1 _ (List.mem_of_getElem? hc.at_)
theorem grows_law {H R: Nat}: ∀ (ups: List Pl) {a: Abs} {h at_: Nat} {n: L5.No} {lo hi: ByteArray} {es esL esR: List ByteArray} {ps0 psO: List Nat} {c: List UInt8},a.Ok -> ups.length + 2 <= a.left -> n.shaped = true -> (n.size <= 1024 + if n.leaf then 404 else 408) -> Body (Sub a h) h n lo hi es ps0 -> Ctx a H R ups (h + 1) at_ lo hi esL esR psO -> a.at (at_: Int) = some c -> (at_ :: (ps0 ++ psO)).Nodup ->
 ∃ ps',Sub (grows ups a at_ n).1 (H + (if (grows ups a at_ n).2.isSome then 1 else 0)) ((grows ups a at_ n).2.getD R) e0 e0 (esL ++ es ++ esR) ps' /\ Grew a (grows ups a at_ n).1 (at_ :: (ps0 ++ psO)) ps' /\ GrowOk ups a at_ n := by
 intro ups
 induction ups with
 | nil =>
  intro a h at_ n lo hi es esL esR ps0 psO c ho hl hs hz hb hC hat hd
  by_cases hf: n.size <= 1024
  · obtain ⟨ps',h1,h2⟩ := fit_law ho hs hf hb hC hat hd
    have e: grows [] a at_ n = (layN a at_ n,none) := by unfold grows; rw [if_pos hf]
    rw [e]
    exact ⟨ps',by simpa using h1,h2,hs,small_of hs (by omega),Or.inl hf⟩
  · have hc := cuts_of hs hf hz
    obtain ⟨hH,hR,rfl,rfl,rfl,rfl,rfl⟩ := hC.bare
    subst hH
    subst hR
    rw [List.append_nil] at hd
    obtain ⟨ok1,us1,q1,l1,oth,hne,hnx,x1,x2,es1,es2,ps1,ps2,s1,s2,rfl,rfl,i1,i2⟩ := split_law ho (by omega) hs hc hb hat hd
    have e: grows [] a at_ n = (layN (layN (layN a.alloc at_ (n.lo n.cut)) a.next (n.hi n.cut)).alloc (layN (layN a.alloc at_ (n.lo n.cut)) a.next (n.hi n.cut)).next ⟨false,[sepOf n],[(at_: Int),(a.next: Int)]⟩,some (layN (layN a.alloc at_ (n.lo n.cut)) a.next (n.hi n.cut)).next) := by rw [grows,if_neg hf]
    rw [e]
    have hsz := sep_size hs hc
    have hsmall: n.small := small_of hs (by split at hz <;> omega)
    generalize layN (layN a.alloc at_ (n.lo n.cut)) a.next (n.hi n.cut) = a1 at *
    obtain ⟨y1,y2⟩ := next_pos ok1
    obtain ⟨⟨z,b1⟩,b2⟩ := at_alloc ok1
    obtain ⟨v1,v2⟩ := used_alloc ok1
    have ok2 := (ok1.alloc (by omega)).1
    have pgs: ∀ p ∈ (at_ :: ps1) ++ (a.next :: ps2),∃ c,a1.at (p: Int) = some c := fun p hp => by
     rcases List.mem_append.1 hp with hp | hp
     · exact s1.pages p hp
     · exact s2.pages p hp
    have hfar: ∀ p ∈ (at_ :: ps1) ++ (a.next :: ps2),p ≠ a1.next := fun p hp e => by
     obtain ⟨c,hc⟩ := pgs p hp
     rw [e,y2] at hc
     cases hc
    have hnr: (⟨false,[sepOf n],[(at_: Int),(a.next: Int)]⟩: L5.No).shaped = true := by
     refine shaped_mk (fun s hs => by simp at hs; subst hs; exact hsz) (by simp) (Or.inr ⟨rfl,rfl,fun k hk => ?_⟩)
     obtain ⟨c',hc'⟩ := s1.pages at_ (by simp)
     obtain ⟨g1,g2,_⟩ := L4.Abs.at_some hc'
     have := ok1.small
     have g2': at_ - 1 < a1.pg.length := by simpa using g2
     simp at hk
     rcases hk with rfl | rfl
     · omega
     · omega
    have hzr: (⟨false,[sepOf n],[(at_: Int),(a.next: Int)]⟩: L5.No).size <= 1024 := by
     unfold L5.No.size L5.weigh
     simp
     omega
    have oth2: ∀ p: Nat,p ≠ a1.next -> (layN a1.alloc a1.next ⟨false,[sepOf n],[(at_: Int),(a.next: Int)]⟩).at (p: Int) = a1.at (p: Int) := fun p hp => by
     unfold layN
     rw [at_lay_ne hp y1,b2 p hp]
    have fS1 := s1.frame (a' := layN a1.alloc a1.next ⟨false,[sepOf n],[(at_: Int),(a.next: Int)]⟩) fun p hp => oth2 p (hfar p (by simp only [List.mem_append]; exact Or.inl hp))
    have fS2 := s2.frame (a' := layN a1.alloc a1.next ⟨false,[sepOf n],[(at_: Int),(a.next: Int)]⟩) fun p hp => oth2 p (hfar p (by simp only [List.mem_append]; exact Or.inr hp))
    refine ⟨a1.next :: ((at_ :: ps1) ++ (a.next :: ps2)), ?_, ?_,hs,hsmall,Or.inr ⟨hc,hnr,hzr⟩⟩
    · show Sub _ (h + 1 + 1) a1.next e0 e0 ([] ++ (es1 ++ es2) ++ []) _
      rw [List.nil_append,List.append_nil]
      exact ⟨_,_,Holds.lay b1 hnr hzr (small_of hnr (by omega)),rfl,fun r hr => by simp at hr; subst hr; exact i1,Or.inr ⟨by omega,rfl, .more fS1 (.one fS2)⟩⟩
    · have hperm: ((at_ :: ps1) ++ (a.next :: ps2)).Perm (a.next :: (at_ :: (ps1 ++ ps2))) := by
       rw [List.perm_iff_count]
       intro w
       simp only [List.count_append,List.count_cons]
       omega
      have hnd1: ((at_ :: ps1) ++ (a.next :: ps2)).Nodup := by
       rw [hperm.nodup_iff,List.nodup_cons]
       refine ⟨fun hm => ?_,hd⟩
       rcases List.mem_cons.1 hm with hm | hm
       · exact hne hm
       · obtain ⟨c',hc'⟩ := hb.pages _ hm
         rw [hnx] at hc'
         cases hc'
      rw [List.append_nil]
      refine ⟨layN_ok ok2 b1 hzr, ?_, ?_,fun p hp => ?_,fun p hp => ?_,fun p h1 ⟨c',h2⟩ => ?_, ?_⟩
      · rw [(layN_used _ _ _).2.1,v2,q1]
      · rw [List.nodup_cons]
        exact ⟨fun hm => hfar _ hm rfl,hnd1⟩
      · exact List.mem_cons_of_mem _ (hperm.mem_iff.2 (List.mem_cons_of_mem _ hp))
      · rcases List.mem_cons.1 hp with rfl | hp
        · right
          by_cases e1: a1.next = at_
          · exact absurd e1 (fun e => hfar at_ (by simp) e.symm)
          · by_cases e2: a1.next = a.next
            · rw [e2]; exact hnx
            · rw [<- oth _ e1 e2]; exact y2
        · rcases List.mem_cons.1 (hperm.mem_iff.1 hp) with rfl | hp
          · exact Or.inr hnx
          · exact Or.inl hp
      · have e1: p ≠ at_ := fun e => h1 (by simp [e])
        have e2: p ≠ a.next := fun e => by rw [e,hnx] at h2; cases h2
        have e3: p ≠ a1.next := fun e => by
         have := oth p e1 e2
         rw [e,y2, <- e,h2] at this
         cases this
        show (layN a1.alloc a1.next _).at (p: Int) = _
        rw [oth2 p e3,oth p e1 e2]
      · rw [(layN_used _ _ _).1,v1,us1]
        simp
        omega
 | cons u us ih =>
  intro a h at_ n lo hi es esL esR ps0 psO c ho hl hs hz hb hC hat hd
  by_cases hf: n.size <= 1024
  · obtain ⟨ps',h1,h2⟩ := fit_law ho hs hf hb hC hat hd
    have e: grows (u :: us) a at_ n = (layN a at_ n,none) := by unfold grows; rw [if_pos hf]
    rw [e]
    exact ⟨ps',by simpa using h1,h2,hs,small_of hs (by omega),Or.inl hf⟩
  · have hc := cuts_of hs hf hz
    have hCp := hC.pages
    cases hC with
    | @up _ _ _ _ lo2 hi2 _ _ rl rr esl esr esL' esR' kl kr psl psr psO' hn hlf hbb er ek e1 e2 hh hL hR t =>
    have hd0: (at_ :: ps0).Nodup := hd.sublist (by rw [<- List.cons_append]; exact List.sublist_append_left _ _)
    obtain ⟨ok1,us1,q1,l1,oth,hne,hnx,x1,x2,es1,es2,ps1,ps2,s1,s2,rfl,rfl,i1,i2⟩ := split_law ho (by omega) hs hc hb hat hd0
    have e: grows (u :: us) a at_ n = grows us (layN (layN a.alloc at_ (n.lo n.cut)) a.next (n.hi n.cut)) u.at_ (addK u (sepOf n) a.next) := by rw [grows,if_neg hf]
    rw [e]
    have hsz := sep_size hs hc
    have hbp := hb.pages
    have hsmall: n.small := small_of hs (by split at hz <;> omega)
    generalize hA1: layN (layN a.alloc at_ (n.lo n.cut)) a.next (n.hi n.cut) = a1 at *
    have hno := (List.nodup_cons.1 hd).1
    have oth2: ∀ p ∈ u.at_ :: (psl ++ psr ++ psO'),a1.at (p: Int) = a.at (p: Int) := fun p hp => oth p (fun e => hno (by rw [<- e]; exact List.mem_append_right _ hp)) fun e => by
     obtain ⟨c',hc'⟩ := hCp p hp
     rw [e,hnx] at hc'
     cases hc'
    have hL1 := hL.mono (P' := Sub a1 (h + 1)) fun _ _ _ _ _ hq k => k.frame fun p hpq => oth2 p (by simp [hq p hpq])
    have hR1 := hR.mono (P' := Sub a1 (h + 1)) fun _ _ _ _ _ hq k => k.frame fun p hpq => oth2 p (by simp [hq p hpq])
    have hC1 := t.frame (a' := a1) fun p hp => oth2 p (by simp [hp])
    obtain ⟨g1,g2,g3,g4⟩ := addK_law hn.shaped hn.size hlf hbb er ek e1 e2 hh hL1 hR1 s1 s2 i1 i2 hsz ⟨x1,x2⟩
    have hperm: (u.at_ :: ((psl ++ (at_ :: ps1 ++ a.next :: ps2) ++ psr) ++ psO')).Perm (a.next :: (at_ :: ((ps1 ++ ps2) ++ u.at_ :: (psl ++ psr ++ psO')))) := by
     rw [List.perm_iff_count]
     intro w
     simp only [List.count_append,List.count_cons]
     omega
    have hnd1: (u.at_ :: ((psl ++ (at_ :: ps1 ++ a.next :: ps2) ++ psr) ++ psO')).Nodup := by
     rw [hperm.nodup_iff,List.nodup_cons]
     refine ⟨fun hm => ?_,hd⟩
     have hin: ∃ c',a.at (a.next: Int) = some c' := by
      rcases List.mem_cons.1 hm with hm | hm
      · exact absurd hm hne
      · rcases List.mem_append.1 hm with hm | hm
        · exact hbp _ hm
        · exact hCp _ hm
     rw [hnx] at hin
     obtain ⟨_,hin⟩ := hin
     cases hin
    obtain ⟨ps',f1,f2,f3⟩ := ih (a := a1) (c := L5.pageL u.n.toNd) ok1 (by simp at hl; omega) g2 (by rw [g4]; simpa using g3) g1 hC1 ((oth2 u.at_ (by simp)).trans hn.page) hnd1
    refine ⟨ps', ?_,f2.more (at_ := at_) (nx := a.next) hperm (by simp) q1 us1 hnx oth,hs,hsmall,Or.inr ⟨hc,by rw [er, <- e1]; simp,by rw [ek, <- e2]; simp,hn.small,by rw [<- hA1] at f3; exact f3⟩⟩
    simpa using f1
end Go.Proofs.YtdnkbdjhccckhaaGreat
