import Derived.Test.YtdnkbdjhccckhaaGreatMAW
set_option maxRecDepth 100000
set_option maxHeartbeats 4000000
namespace Go.Proofs.YtdnkbdjhccckhaaGreat
open Go.RowKit
open L4 (Abs)
open L5 (ltP ltB leB)
theorem Holds.uniq {a: Abs} {at_: Nat} {n m: L5.No} (h: Holds a at_ n) (k: Holds a at_ m): n = m := by
 have e: L5.pageL n.toNd = L5.pageL m.toNd := Option.some.inj (h.page.symm.trans k.page)
 have e2 := L5.page_inj (L5.shaped_toNd h.shaped) (by rw [L5.toNd_size]; exact h.size) (L5.shaped_toNd k.shaped) (by rw [L5.toNd_size]; exact k.size) e
 have hk: ∀ {n: L5.No},n.shaped = true -> ∀ x ∈ n.kids,(0: Int) <= x := fun {n} hs x hx => by
  cases hl: n.leaf
  · have := (shaped_kids hs hl).1 x hx; omega
  · rw [shaped_leaf hs hl] at hx; cases hx
 obtain ⟨l1,r1,k1⟩ := n
 obtain ⟨l2,r2,k2⟩ := m
 unfold L5.No.toNd at e2
 injection e2 with q1 q2 q3
 have er: r1 = r2 := by
  have inj: ∀ (x y: List ByteArray),x.map (·.data.toList) = y.map (·.data.toList) -> x = y := by
   intro x
   induction x with
   | nil => intro y h; cases y with | nil => rfl | cons b y => simp at h
   | cons a x ih =>
    intro y h
    cases y with
    | nil => simp at h
    | cons b y =>
     simp only [List.map_cons,List.cons.injEq] at h
     have: a = b := ByteArray.ext (Array.toList_inj.1 h.1)
     rw [this,ih y h.2]
  exact inj _ _ q2
 have ek: k1 = k2 := by
  have inj: ∀ (x y: List Int),(∀ z ∈ x,0 <= z) -> (∀ z ∈ y,0 <= z) -> x.map Int.toNat = y.map Int.toNat -> x = y := by
   intro x
   induction x with
   | nil => intro y _ _ h; cases y with | nil => rfl | cons b y => simp at h
   | cons a x ih =>
    intro y hx hy h
    cases y with
    | nil => simp at h
    | cons b y =>
     simp only [List.map_cons,List.cons.injEq] at h
     have h1 := hx a (by simp)
     have h2 := hy b (by simp)
     have: a = b := by omega
     rw [this,ih y (fun z hz => hx z (by simp [hz])) (fun z hz => hy z (by simp [hz])) h.2]
  exact inj _ _ (hk h.shaped) (hk k.shaped) q3
 have el: l1 = l2 := q1
 rw [el,er,ek]
def Good (a: Abs) (p: Nat): Prop := ∃ m,Holds a p m /\ m.recs ≠ []
theorem Good.same {a a': Abs} {p: Nat} (h: Good a p) (e: a'.at (p: Int) = a.at (p: Int)): Good a' p := by
 obtain ⟨m,h1,h2⟩ := h
 exact ⟨m,⟨e.trans h1.page,h1.shaped,h1.size,h1.small⟩,h2⟩
theorem Good.use {a: Abs} {p: Nat} (h: Good a p): ∃ c,a.at (p: Int) = some c := by
 obtain ⟨m,h1,_⟩ := h
 exact ⟨_,h1.page⟩
theorem fit_good {a: Abs} {at_: Nat} {n: L5.No} {c: List UInt8} (hat: a.at (at_: Int) = some c) (hs: n.shaped = true) (hz: n.size <= 1024) (hne: n.recs ≠ []) {p: Nat} (hp: Good a p \/ p = at_ \/ (a.at (p: Int) = none /\ ∃ c,(layN a at_ n).at (p: Int) = some c)): Good (layN a at_ n) p := by
 by_cases e: p = at_
 · subst e
   exact ⟨n,Holds.lay hat hs hz (small_of hs (by omega)),hne⟩
 · have hsm: (layN a at_ n).at (p: Int) = a.at (p: Int) := at_lay_ne e (at_pos hat) _
   rcases hp with hp | hp | ⟨hp,c',hc'⟩
   · exact hp.same hsm
   · exact absurd hp e
   · rw [hsm,hp] at hc'; cases hc'
theorem grows_good: ∀ (ups: List Pl) {a: Abs} {at_: Nat} {n: L5.No} {c: List UInt8},a.Ok -> ups.length + 2 <= a.left -> GrowOk ups a at_ n -> n.recs ≠ [] -> a.at (at_: Int) = some c -> (∀ u ∈ ups,∃ c,a.at (u.at_: Int) = some c) -> ∀ p: Nat,(Good a p \/ p = at_ \/ (a.at (p: Int) = none /\ ∃ c,(grows ups a at_ n).1.at (p: Int) = some c)) -> Good (grows ups a at_ n).1 p := by
 intro ups
 induction ups with
 | nil =>
  intro a at_ n c ho hl hG hne hat _ p hp
  obtain ⟨hs,_,hd⟩ := hG
  by_cases hf: n.size <= 1024
  · have e: grows [] a at_ n = (layN a at_ n,none) := by rw [grows,if_pos hf]
    rw [e] at hp ⊢
    exact fit_good hat hs hf hne hp
  · obtain ⟨hc,hr1,hr2⟩ := hd.resolve_left hf
    obtain ⟨n1,n2⟩ := next_pos ho
    obtain ⟨⟨z,a1⟩,a2⟩ := at_alloc ho
    have ok1 := (ho.alloc (by omega)).1
    have hnx: a.next ≠ at_ := fun e => by rw [e,hat] at n2; cases n2
    have hat1: a.alloc.at (at_: Int) = some c := by rw [a2 at_ (fun e => hnx e.symm)]; exact hat
    have hnx1: (layN a.alloc at_ (n.lo n.cut)).at (a.next: Int) = some z := by unfold layN; rw [at_lay_ne hnx (at_pos hat)]; exact a1
    have e: grows [] a at_ n = (layN (layN (layN a.alloc at_ (n.lo n.cut)) a.next (n.hi n.cut)).alloc (layN (layN a.alloc at_ (n.lo n.cut)) a.next (n.hi n.cut)).next ⟨false,[sepOf n],[(at_: Int),(a.next: Int)]⟩,some (layN (layN a.alloc at_ (n.lo n.cut)) a.next (n.hi n.cut)).next) := by rw [grows,if_neg hf]
    rw [e] at hp ⊢
    have ok3 := layN_ok (n := n.hi n.cut) (layN_ok (n := n.lo n.cut) ok1 hat1 hc.lo.2.1) hnx1 hc.hi.2.1
    have oth: ∀ p: Nat,p ≠ at_ -> p ≠ a.next -> (layN (layN a.alloc at_ (n.lo n.cut)) a.next (n.hi n.cut)).at (p: Int) = a.at (p: Int) := fun p h1 h2 => by
     unfold layN
     rw [at_lay_ne h2 n1,at_lay_ne h1 (at_pos hat),a2 p h2]
    have gA: Good (layN (layN a.alloc at_ (n.lo n.cut)) a.next (n.hi n.cut)) at_ := ⟨n.lo n.cut,⟨by
     show ((layN a.alloc at_ (n.lo n.cut)).lay a.next _).at (at_: Int) = _
     rw [at_lay_ne (fun e => hnx e.symm) n1]
     exact at_lay_same hat1 _,hc.lo.1,hc.lo.2.1,hc.lo.2.2⟩,by
     have h1 := hc.pos; have h2 := hc.gap
     intro e
     have := congrArg List.length e
     simp [L5.No.lo] at this
     rcases this with h | h
     · omega
     · rw [h] at h2; simp at h2⟩
    have gB: Good (layN (layN a.alloc at_ (n.lo n.cut)) a.next (n.hi n.cut)) a.next := ⟨n.hi n.cut,⟨at_lay_same hnx1 _,hc.hi.1,hc.hi.2.1,hc.hi.2.2⟩,by
     have h2 := hc.gap
     intro e
     have := congrArg List.length e
     simp [L5.No.hi] at this
     omega⟩
    generalize layN (layN a.alloc at_ (n.lo n.cut)) a.next (n.hi n.cut) = a1' at *
    obtain ⟨y1,y2⟩ := next_pos ok3
    obtain ⟨⟨z',b1⟩,b2⟩ := at_alloc ok3
    have oth2: ∀ p: Nat,p ≠ a1'.next -> (layN a1'.alloc a1'.next ⟨false,[sepOf n],[(at_: Int),(a.next: Int)]⟩).at (p: Int) = a1'.at (p: Int) := fun p hp => by
     unfold layN
     rw [at_lay_ne hp y1,b2 p hp]
    by_cases er: p = a1'.next
    · subst er
      exact ⟨_,Holds.lay b1 hr1 hr2 (small_of hr1 (by omega)),by simp⟩
    · by_cases e1: p = at_
      · subst e1; exact gA.same (oth2 p er)
      · by_cases e2: p = a.next
        · subst e2; exact gB.same (oth2 _ er)
        · rcases hp with hp | hp | ⟨hp,c',hc'⟩
          · exact hp.same ((oth2 p er).trans (oth p e1 e2))
          · exact absurd hp e1
          · have hc'': (layN a1'.alloc a1'.next ⟨false,[sepOf n],[(at_: Int),(a.next: Int)]⟩).at (p: Int) = some c' := hc'
            rw [oth2 p er,oth p e1 e2,hp] at hc''; cases hc''
 | cons u us ih =>
  intro a at_ n c ho hl hG hne hat hus p hp
  obtain ⟨hs,_,hd⟩ := hG
  by_cases hf: n.size <= 1024
  · have e: grows (u :: us) a at_ n = (layN a at_ n,none) := by rw [grows,if_pos hf]
    rw [e] at hp ⊢
    exact fit_good hat hs hf hne hp
  · obtain ⟨hc,_,_,_,hG'⟩ := hd.resolve_left hf
    obtain ⟨n1,n2⟩ := next_pos ho
    obtain ⟨⟨z,a1⟩,a2⟩ := at_alloc ho
    have ok1 := (ho.alloc (by omega)).1
    have hnx: a.next ≠ at_ := fun e => by rw [e,hat] at n2; cases n2
    have hat1: a.alloc.at (at_: Int) = some c := by rw [a2 at_ (fun e => hnx e.symm)]; exact hat
    have hnx1: (layN a.alloc at_ (n.lo n.cut)).at (a.next: Int) = some z := by unfold layN; rw [at_lay_ne hnx (at_pos hat)]; exact a1
    have e: grows (u :: us) a at_ n = grows us (layN (layN a.alloc at_ (n.lo n.cut)) a.next (n.hi n.cut)) u.at_ (addK u (sepOf n) a.next) := by rw [grows,if_neg hf]
    rw [e] at hp ⊢
    have ok3 := layN_ok (n := n.hi n.cut) (layN_ok (n := n.lo n.cut) ok1 hat1 hc.lo.2.1) hnx1 hc.hi.2.1
    have hlf: (layN (layN a.alloc at_ (n.lo n.cut)) a.next (n.hi n.cut)).left = a.left - 1 := by rw [(layN_used _ _ _).2.2,(layN_used _ _ _).2.2,left_alloc ho]
    have oth: ∀ p: Nat,p ≠ at_ -> p ≠ a.next -> (layN (layN a.alloc at_ (n.lo n.cut)) a.next (n.hi n.cut)).at (p: Int) = a.at (p: Int) := fun p h1 h2 => by
     unfold layN
     rw [at_lay_ne h2 n1,at_lay_ne h1 (at_pos hat),a2 p h2]
    have gA: Good (layN (layN a.alloc at_ (n.lo n.cut)) a.next (n.hi n.cut)) at_ := ⟨n.lo n.cut,⟨by
     show ((layN a.alloc at_ (n.lo n.cut)).lay a.next _).at (at_: Int) = _
     rw [at_lay_ne (fun e => hnx e.symm) n1]
     exact at_lay_same hat1 _,hc.lo.1,hc.lo.2.1,hc.lo.2.2⟩,by
     have h1 := hc.pos; have h2 := hc.gap
     intro e
     have := congrArg List.length e
     simp [L5.No.lo] at this
     rcases this with h | h
     · omega
     · rw [h] at h2; simp at h2⟩
    have gB: Good (layN (layN a.alloc at_ (n.lo n.cut)) a.next (n.hi n.cut)) a.next := ⟨n.hi n.cut,⟨at_lay_same hnx1 _,hc.hi.1,hc.hi.2.1,hc.hi.2.2⟩,by
     have h2 := hc.gap
     intro e
     have := congrArg List.length e
     simp [L5.No.hi] at this
     omega⟩
    generalize layN (layN a.alloc at_ (n.lo n.cut)) a.next (n.hi n.cut) = a1' at *
    have use1: ∀ q: Nat,(∃ c,a.at (q: Int) = some c) -> ∃ c,a1'.at (q: Int) = some c := fun q ⟨c',hq⟩ => by
     by_cases e1: q = at_
     · subst e1; exact gA.use
     · have e2: q ≠ a.next := fun e => by rw [e,n2] at hq; cases hq
       exact ⟨c',by rw [oth q e1 e2]; exact hq⟩
    obtain ⟨cu,hcu⟩ := use1 u.at_ (hus u (by simp))
    refine ih ok3 (by simp at hl; omega) hG' (by simp [addK]) hcu (fun v hv => use1 v.at_ (hus v (by simp [hv]))) p ?_
    by_cases e1: p = at_
    · subst e1; exact Or.inl gA
    · by_cases e2: p = a.next
      · subst e2; exact Or.inl gB
      · rcases hp with hp | hp | ⟨hp,hc'⟩
        · exact Or.inl (hp.same (oth p e1 e2))
        · exact absurd hp e1
        · exact Or.inr (Or.inr ⟨by rw [oth p e1 e2]; exact hp,hc'⟩)
def Fat (a: Abs) (es: List ByteArray) (ps: List Nat): Prop := (es = [] /\ ps.length = 1) \/ ∀ p ∈ ps,Good a p
structure TreeP (a: Abs) (r h l: Nat) (es: List ByteArray) (ps: List Nat): Prop where
 sub: Sub a h r e0 e0 es ps
 len: l = es.length
 nodup: ps.Nodup
def insK (k: ByteArray) (es: List ByteArray): List ByteArray := es.take (es.countP (ltB k)) ++ [k] ++ es.drop (es.countP (ltB k))
theorem insK_len (k: ByteArray) (es: List ByteArray): (insK k es).length = es.length + 1 := by
 have := List.countP_le_length (p := ltB k) (l := es)
 simp [insK]
 omega
theorem insK_mem (k: ByteArray) (es: List ByteArray) (x: ByteArray): x ∈ insK k es ↔ x = k \/ x ∈ es := by
 unfold insK
 have: x ∈ es ↔ x ∈ es.take (es.countP (ltB k)) \/ x ∈ es.drop (es.countP (ltB k)) := by
  rw [<- List.mem_append,List.take_append_drop]
 rw [this]
 simp only [List.mem_append,List.mem_singleton]
 constructor
 · rintro ((h | h) | h)
   · exact Or.inr (Or.inl h)
   · exact Or.inl h
   · exact Or.inr (Or.inr h)
 · rintro (h | h | h)
   · exact Or.inl (Or.inr h)
   · exact Or.inl (Or.inl h)
   · exact Or.inr h
theorem insK_mid {k: ByteArray} {a b c: List ByteArray} (ha: ∀ e ∈ a,ltP e k) (hc: ∀ e ∈ c,ltP k e): insK k (a ++ b ++ c) = a ++ insK k b ++ c := by
 have h1: a.countP (ltB k) = a.length := List.countP_eq_length.2 ha
 have h2: c.countP (ltB k) = 0 := by
  rw [List.countP_eq_zero]
  intro x hx h
  exact lt_irr x (lt_tr (ltB_iff.1 h) (hc x hx))
 have h3 := List.countP_le_length (p := ltB k) (l := b)
 unfold insK
 rw [List.countP_append,List.countP_append,h1,h2,Nat.add_zero]
 rw [List.append_assoc a b c,List.take_append,List.drop_append]
 rw [List.take_of_length_le (by omega),List.drop_of_length_le (by omega),Nat.add_sub_cancel_left,List.take_append,List.drop_append]
 rw [show b.countP (ltB k) - b.length = 0 by omega]
 simp
theorem isAt_mem {l: List ByteArray} (h: l.Pairwise ltP) (k: ByteArray): L5.isAt l k (l.countP (ltB k)) = true ↔ k ∈ l := by
 constructor
 · intro hi
   unfold L5.isAt at hi
   cases hx: l[l.countP (ltB k)]? with
   | none => rw [hx] at hi; cases hi
   | some r =>
    rw [hx] at hi
    have: r = k := ba_ext (by simpa using hi)
    rw [<- this]
    exact List.mem_of_getElem? hx
 · intro hm
   obtain ⟨i,hi,e⟩ := List.getElem_of_mem hm
   have hc: l.countP (ltB k) = i := L5.count_cut l (ltB k) i (by omega) (fun j hj hji => by
    rw [<- e]; exact List.pairwise_iff_getElem.1 h j i hj hi hji) (fun j hj hij => by
    rcases Nat.lt_or_ge i j with hlt | hge
    · have := List.pairwise_iff_getElem.1 h i j hi hj hlt
      rw [e] at this
      exact ltB_no.2 (le_of this)
    · have hji: j = i := by omega
      subst hji
      rw [e]
      exact ltB_no.2 (le_rf _))
   unfold L5.isAt
   rw [hc,List.getElem?_eq_getElem hi,e]
   simp
structure Found (a: Abs) (k: ByteArray) (h r: Nat) (es: List ByteArray) (ps: List Nat) (pre: List Pl) (y: Pl) (lo hi: ByteArray) (fL fR: List ByteArray) (qO: List Nat): Prop where
 path: Path a k h r (pre ++ [y])
 ctx: Ctx a h r pre.reverse 1 y.at_ lo hi fL fR qO
 holds: Holds a y.at_ y.n
 leaf: y.n.leaf = true
 ins: ∀ e ∈ y.n.recs,inB lo hi e
 ink: inB lo hi k
 es_: es = fL ++ y.n.recs ++ fR
 ps_: ps.Perm (y.at_ :: qO)
 lows: ∀ e ∈ fL,ltP e k
 highs: ∀ e ∈ fR,ltP k e
theorem Sub.found {a: Abs} {h r: Nat} {es: List ByteArray} {ps: List Nat} (hs: Sub a h r e0 e0 es ps) (k: ByteArray): ∃ pre y lo hi fL fR qO,Found a k h r es ps pre y lo hi fL fR qO := by
 obtain ⟨mid,y,lo,hi,fL,fR,qO,p1,p2,p3,p4,p5,p6,p7,p8,p9,p10⟩ := hs.find (k := k) (H := h) (R := r) .root ⟨le_e0 k,Or.inl e0_size⟩ (by simp) (by simp)
 exact ⟨mid,y,lo,hi,fL,fR,qO,p1,by simpa using p2,p3,p4,p5,p6,by simpa using p7,by simpa using p8,p9,p10⟩
theorem Found.mem {a: Abs} {k: ByteArray} {h r: Nat} {es: List ByteArray} {ps: List Nat} {pre: List Pl} {y: Pl} {lo hi: ByteArray} {fL fR: List ByteArray} {qO: List Nat} (f: Found a k h r es ps pre y lo hi fL fR qO): k ∈ es ↔ L5.isAt y.n.recs k (y.n.recs.countP (ltB k)) = true := by
 rw [isAt_mem (shaped_recs f.holds.shaped).2,f.es_]
 simp only [List.mem_append]
 constructor
 · rintro ((h | h) | h)
   · exact absurd (f.lows k h) (lt_irr k)
   · exact h
   · exact absurd (f.highs k h) (lt_irr k)
 · exact fun h => Or.inl (Or.inr h)
theorem Ctx.steps {a: Abs} {H R: Nat} {us: List Pl} {h at_: Nat} {lo hi: ByteArray} {esL esR: List ByteArray} {psO: List Nat} (k: Ctx a H R us h at_ lo hi esL esR psO): ∀ u ∈ us,∃ c,a.at (u.at_: Int) = some c := by
 induction k with
 | root => intro u hu; cases hu
 | up hn _ _ _ _ _ _ _ _ _ _ ih =>
  intro u hu
  rcases List.mem_cons.1 hu with rfl | hu
  · exact ⟨_,hn.page⟩
  · exact ih u hu
theorem Found.law {a: Abs} {k: ByteArray} {h r: Nat} {es: List ByteArray} {ps: List Nat} {pre: List Pl} {y: Pl} {lo hi: ByteArray} {fL fR: List ByteArray} {qO: List Nat} (f: Found a k h r es ps pre y lo hi fL fR qO) (ho: a.Ok) (hnd: ps.Nodup) (hl: h + 1 <= a.left) (h1: 1 <= k.size) (h2: k.size <= 400) (hno: k ∉ es) {n: L5.No} (hn: n = ⟨y.n.leaf,y.n.recs.take (y.n.recs.countP (ltB k)) ++ [k] ++ y.n.recs.drop (y.n.recs.countP (ltB k)),y.n.kids⟩) :
 GrowOk pre.reverse a y.at_ n /\ ∃ ps',Sub (grows pre.reverse a y.at_ n).1 (h + (if (grows pre.reverse a y.at_ n).2.isSome then 1 else 0)) ((grows pre.reverse a y.at_ n).2.getD r) e0 e0 (insK k es) ps' /\ Grew a (grows pre.reverse a y.at_ n).1 ps ps' /\ (Fat a es ps -> Fat (grows pre.reverse a y.at_ n).1 (insK k es) ps') := by
 obtain ⟨r1,r2⟩ := shaped_recs f.holds.shaped
 have hk := shaped_leaf f.holds.shaped f.leaf
 have hc := List.countP_le_length (p := ltB k) (l := y.n.recs)
 have hno': k ∉ y.n.recs := fun hm => hno (f.mem.2 ((isAt_mem r2 k).2 hm))
 have hrec: n.recs = insK k y.n.recs := by rw [hn]; rfl
 have hlf: n.leaf = true := by rw [hn]; exact f.leaf
 have hkd: n.kids = [] := by rw [hn]; exact hk
 have hris: n.recs.Pairwise ltP := by
  have hr: L5.risesB y.n.recs = true := (L5.rises_iff _).2 ⟨r1,r2⟩
  have e: L5.insL y.n.recs k = n.recs := by rw [hrec]; unfold L5.insL insK; rw [L5.count_lt hr]
  rw [<- e]
  refine ((L5.rises_iff _).1 (L5.rises_ins hr k h1 h2 ?_)).2
  cases hb: L5.isAt y.n.recs k (L5.firstN y.n.recs k) with
  | false => rfl
  | true =>
   rw [<- L5.count_lt hr] at hb
   exact absurd ((isAt_mem r2 k).1 hb) hno'
 have hmem: ∀ e ∈ n.recs,e = k \/ e ∈ y.n.recs := fun e he => by rw [hrec] at he; exact (insK_mem k _ e).1 he
 have hsh: n.shaped = true := shaped_mk (fun e he => by
  rcases hmem e he with rfl | he
  · exact ⟨h1,h2⟩
  · exact r1 e he) hris (Or.inl ⟨hlf,hkd⟩)
 have hsz: n.size <= 1024 + if n.leaf then 404 else 408 := by
  have hz := f.holds.size
  rw [hlf]
  unfold L5.No.size at hz ⊢
  rw [hkd,hrec]
  rw [hk] at hz
  have hw: L5.weigh (insK k y.n.recs) = L5.weigh y.n.recs + (4 + k.size) := by
   unfold insK
   rw [L5.weigh_append,L5.weigh_append]
   have e1: L5.weigh y.n.recs = L5.weigh (y.n.recs.take (y.n.recs.countP (ltB k))) + L5.weigh (y.n.recs.drop (y.n.recs.countP (ltB k))) := by rw [<- L5.weigh_append,List.take_append_drop]
   have e2: L5.weigh [k] = 4 + k.size := by simp [L5.weigh]
   omega
  rw [hw]
  simp at hz ⊢
  omega
 have hbody: Body (Sub a 0) 0 n lo hi n.recs [] := ⟨fun e he => by
  rcases hmem e he with rfl | he
  · exact f.ink
  · exact f.ins e he,Or.inl ⟨rfl,hlf,rfl,rfl⟩⟩
 have hlen: pre.length + 1 = h := by have := f.path.pos.1; simpa using this
 obtain ⟨ps',g1,g2,g3⟩ := grows_law pre.reverse (n := n) ho (by simp; omega) hsh hsz hbody f.ctx f.holds.page (by simpa using f.ps_.nodup_iff.1 hnd)
 have hne: n.recs ≠ [] := fun e => by
  have := congrArg List.length (hrec.symm.trans e)
  rw [insK_len] at this
  simp at this
 have hgd := grows_good pre.reverse ho (by simp; omega) g3 hne f.holds.page (fun u hu => f.ctx.steps u hu)
 refine ⟨g3,ps', ?_,⟨g2.ok,g2.q,g2.nodup,fun p hp => g2.sup p (by simpa using f.ps_.mem_iff.1 hp),fun p hp => ?_,fun p hp hc => g2.frame p (fun hm => hp (f.ps_.mem_iff.2 (by simpa using hm))) hc, ?_⟩, ?_⟩
 · rw [f.es_,insK_mid f.lows f.highs, <- hrec]
   exact g1
 · exact (g2.fresh p hp).imp (fun hm => f.ps_.mem_iff.2 (by simpa using hm)) id
 · have := g2.used
   rw [f.ps_.length_eq]
   simpa using this
 · intro hf
   right
   intro p hp
   apply hgd
   rcases g2.fresh p hp with hm | hm
   · have hm': p ∈ ps := f.ps_.mem_iff.2 (by simpa using hm)
     rcases hf with ⟨_,h1⟩ | hf
     · have hy: y.at_ ∈ ps := f.ps_.mem_iff.2 (by simp)
       cases hps: ps with
       | nil => rw [hps] at hm'; cases hm'
       | cons q l =>
        rw [hps] at h1 hm' hy
        have hl0: l = [] := List.length_eq_zero_iff.1 (by simpa using h1)
        subst hl0
        simp at hm' hy
        exact Or.inr (Or.inl (by rw [hm',hy]))
     · exact Or.inl (hf p hm')
   · exact Or.inr (Or.inr ⟨hm,g1.pages p hp⟩)
theorem nodup_le: ∀ (n: Nat) (l: List Nat),l.Nodup -> (∀ x ∈ l,x < n) -> l.length <= n := by
 intro n
 induction n with
 | zero =>
  intro l _ h
  cases l with
  | nil => simp
  | cons x l => exact absurd (h x (by simp)) (by omega)
 | succ n ih =>
  intro l hd h
  by_cases hm: n ∈ l
  · have h1 := ih (l.erase n) (hd.erase n) (fun x hx => by
     have h2 := h x (List.mem_of_mem_erase hx)
     have h3: x ≠ n := fun e => by
      subst e
      exact (List.Nodup.not_mem_erase hd) hx
     omega)
    rw [List.length_erase_of_mem hm] at h1
    omega
  · have h1 := ih l hd (fun x hx => by
     have h2 := h x hx
     have h3: x ≠ n := fun e => hm (e ▸ hx)
     omega)
    omega
theorem pages_le {a: Abs} (ho: a.Ok) {ps: List Nat} (hd: ps.Nodup) (hp: ∀ p ∈ ps,∃ c,a.at (p: Int) = some c): ps.length <= 4096 := by
 have: ∀ p ∈ ps,p < 4097 /\ p ≠ 0 := fun p hp' => by
  obtain ⟨c,hc⟩ := hp p hp'
  obtain ⟨h1,h2,_⟩ := L4.Abs.at_some hc
  have := ho.small
  have h2': p - 1 < a.pg.length := by simpa using h2
  omega
 have h1 := nodup_le 4097 (0 :: ps) (List.nodup_cons.2 ⟨fun h => (this 0 h).2 rfl,hd⟩) (fun x hx => by
  rcases List.mem_cons.1 hx with rfl | hx
  · omega
  · exact (this x hx).1)
 simp at h1
 omega
theorem Sub.tall {a: Abs}: ∀ {h at_: Nat} {lo hi: ByteArray} {es: List ByteArray} {ps: List Nat},Sub a h at_ lo hi es ps -> h <= ps.length /\ 1 <= h /\ at_ ∈ ps := by
 intro h
 induction h with
 | zero => intro _ _ _ _ _ k; exact k.elim
 | succ h ih =>
  intro at_ lo hi es ps k
  obtain ⟨n,ps',hn,rfl,hb,hc⟩ := k
  refine ⟨?_,by omega,by simp⟩
  rcases hc with ⟨rfl,_,_,_⟩ | ⟨_,_,hs⟩
  · simp
  · generalize n.recs = rs at hs
    generalize n.kids = cs at hs
    cases hs with
    | one hP => have := (ih hP).1; simp; omega
    | more hP _ => have := (ih hP).1; simp; omega
theorem TreeP.tall {a: Abs} {r h l: Nat} {es: List ByteArray} {ps: List Nat} (k: TreeP a r h l es ps) (ho: a.Ok): h <= 4096 /\ 1 <= h /\ r ≠ 0 := by
 obtain ⟨h1,h2,h3⟩ := k.sub.tall
 have := pages_le ho k.nodup k.sub.pages
 obtain ⟨c,hc⟩ := k.sub.pages r h3
 have := at_pos hc
 omega
theorem TreeP.frame {a a': Abs} {r h l: Nat} {es: List ByteArray} {ps: List Nat} (k: TreeP a r h l es ps) (hp: ∀ p ∈ ps,a'.at (p: Int) = a.at (p: Int)): TreeP a' r h l es ps := ⟨k.sub.frame hp,k.len,k.nodup⟩
def upB (hi hi': ByteArray): Prop := hi'.size = 0 \/ (hi.size ≠ 0 /\ leP hi hi')
theorem upB.rf (hi: ByteArray): upB hi hi := by
 by_cases h: hi.size = 0
 · exact Or.inl h
 · exact Or.inr ⟨h,le_rf _⟩
theorem inB.wide {lo hi lo' hi' k: ByteArray} (h: inB lo hi k) (h1: leP lo' lo) (h2: upB hi hi'): inB lo' hi' k := h.sub h1 h2
theorem Subs.wide {P: Nat -> ByteArray -> ByteArray -> List ByteArray -> List Nat -> Prop} (hP: ∀ c lo hi lo' hi' es ps,P c lo hi es ps -> leP lo' lo -> upB hi hi' -> P c lo' hi' es ps) {hi lo: ByteArray} {rs es: List ByteArray} {cs: List Int} {ps: List Nat} (k: Subs P hi lo rs cs es ps): ∀ {lo' hi': ByteArray},leP lo' lo -> upB hi hi' -> Subs P hi' lo' rs cs es ps := by
 induction k with
 | one h => intro lo' hi' h1 h2; exact .one (hP _ _ _ _ _ _ _ h h1 h2)
 | more h t ih => intro lo' hi' h1 h2; exact .more (hP _ _ _ _ _ _ _ h h1 (upB.rf _)) (ih (le_rf _) h2)
theorem Sub.wide {a: Abs}: ∀ {h at_: Nat} {lo hi: ByteArray} {es: List ByteArray} {ps: List Nat},Sub a h at_ lo hi es ps -> ∀ {lo' hi': ByteArray},leP lo' lo -> upB hi hi' -> Sub a h at_ lo' hi' es ps := by
 intro h
 induction h with
 | zero => intro _ _ _ _ _ k; exact k.elim
 | succ h ih =>
  intro at_ lo hi es ps k lo' hi' h1 h2
  obtain ⟨n,ps',hn,rfl,hb,hc⟩ := k
  exact ⟨n,ps',hn,rfl,fun r hr => (hb r hr).wide h1 h2,hc.imp id fun ⟨c1,c2,c3⟩ => ⟨c1,c2,Subs.wide (P := Sub a h) (fun c lo hi lo' hi' es ps (hs: Sub a h c lo hi es ps) q1 q2 => ih hs q1 q2) c3 h1 h2⟩⟩
theorem SubL.last {P: Nat -> ByteArray -> ByteArray -> List ByteArray -> List Nat -> Prop} {lo' lo: ByteArray} {rl es: List ByteArray} {kl: List Int} {ps: List Nat} (k: SubL P lo' lo rl kl es ps): kl ≠ [] -> ∃ (rl': List ByteArray) (kl': List Int) (c: Nat) (lo2: ByteArray) (es1 es2: List ByteArray) (ps1 ps2: List Nat),rl = rl' ++ [lo'] /\ kl = kl' ++ [(c: Int)] /\ SubL P lo2 lo rl' kl' es1 ps1 /\ P c lo2 lo' es2 ps2 /\ es = es1 ++ es2 /\ ps = ps1 ++ ps2 := by
 induction k with
 | nil => intro h; exact absurd rfl h
 | @cons lo r c es1 es2 rs cs ps1 ps2 h t ih =>
  intro _
  by_cases hc: cs = []
  · subst hc
    cases t
    exact ⟨[],[],c,lo,[],es1,[],ps1,rfl,rfl, .nil,h,by simp,by simp⟩
  · obtain ⟨rl',kl',c',lo2,f1,f2,p1,p2,e1,e2,e3,e4,e5,e6⟩ := ih hc
    exact ⟨r :: rl',(c: Int) :: kl',c',lo2,es1 ++ f1,f2,ps1 ++ p1,p2,by rw [e1]; rfl,by rw [e2]; rfl, .cons h e3,e4,by rw [e5]; simp,by rw [e6]; simp⟩
theorem SubL.len {P: Nat -> ByteArray -> ByteArray -> List ByteArray -> List Nat -> Prop} {lo' lo: ByteArray} {rl es: List ByteArray} {kl: List Int} {ps: List Nat} (k: SubL P lo' lo rl kl es ps): kl.length = rl.length := by
 induction k with
 | nil => rfl
 | cons _ _ ih => simp [ih]
theorem Subs.len {P: Nat -> ByteArray -> ByteArray -> List ByteArray -> List Nat -> Prop} {hi lo: ByteArray} {rs es: List ByteArray} {cs: List Int} {ps: List Nat} (k: Subs P hi lo rs cs es ps): cs.length = rs.length + 1 := by
 induction k with
 | one _ => rfl
 | more _ _ ih => simp [ih]
theorem SubL.le {P: Nat -> ByteArray -> ByteArray -> List ByteArray -> List Nat -> Prop} {lo' lo hi: ByteArray} {rl es: List ByteArray} {kl: List Int} {ps: List Nat} (k: SubL P lo' lo rl kl es ps) (hb: ∀ r ∈ rl,inB lo hi r): leP lo lo' := by
 rcases k.low with ⟨e,_⟩ | e
 · rw [e]; exact le_rf _
 · exact (hb lo' (List.mem_of_getLast? e)).1
theorem weigh_sublist {x y: List ByteArray} (h: x.Sublist y): L5.weigh x <= L5.weigh y := by
 induction h with
 | slnil => exact Nat.le_refl _
 | @cons x y z _ ih => simp [L5.weigh] at ih ⊢; omega
 | @cons_cons x y z _ ih => simp [L5.weigh] at ih ⊢; omega
theorem shaped_less {n m: L5.No} (hs: n.shaped = true) (hl: n.leaf = false) (hz: n.size <= 1024) (ml: m.leaf = false) (hr: m.recs.Sublist n.recs) (hk: m.kids.Sublist n.kids) (hlen: m.kids.length = m.recs.length + 1): m.shaped = true /\ m.size <= 1024 := by
 obtain ⟨r1,r2⟩ := shaped_recs hs
 obtain ⟨k1,_⟩ := shaped_kids hs hl
 refine ⟨shaped_mk (fun s h => r1 s (hr.subset h)) (r2.sublist hr) (Or.inr ⟨ml,hlen,fun k h => k1 k (hk.subset h)⟩), ?_⟩
 have h1 := weigh_sublist hr
 have h2 := hk.length_le
 unfold L5.No.size at hz ⊢
 omega
def joinK (m: L5.No) (sep: ByteArray) (n: L5.No): L5.No := if m.leaf then ⟨true,m.recs ++ n.recs,[]⟩ else ⟨false,m.recs ++ [sep] ++ n.recs,m.kids ++ n.kids⟩
def Lush (a: Abs) (p: Nat): Prop := ∀ n,Holds a p n -> n.leaf = true -> n.recs ≠ []
theorem Lush.same {a a': Abs} {p: Nat} (h: Lush a p) (e: a'.at (p: Int) = a.at (p: Int)): Lush a' p := fun n hn hl => h n ⟨e.symm.trans hn.page,hn.shaped,hn.size,hn.small⟩ hl
theorem Sub.some_ {a: Abs}: ∀ {h at_: Nat} {lo hi: ByteArray} {es: List ByteArray} {ps: List Nat},Sub a h at_ lo hi es ps -> (∀ p ∈ ps,Lush a p) -> es ≠ [] := by
 intro h
 induction h with
 | zero => intro _ _ _ _ _ k; exact k.elim
 | succ h ih =>
  intro at_ lo hi es ps k hp
  obtain ⟨n,ps',hn,rfl,hb,hc⟩ := k
  rcases hc with ⟨_,hl,rfl,_⟩ | ⟨_,_,hs⟩
  · exact hp at_ (by simp) n hn hl
  · generalize n.recs = rs at hs
    generalize n.kids = cs at hs
    cases hs with
    | one hP => exact ih hP fun p h => hp p (by simp [h])
    | more hP _ => intro e; exact ih hP (fun p h => hp p (by simp [h])) (List.append_eq_nil_iff.1 e).1
theorem body_above {a: Abs} {h: Nat} {n: L5.No} {lo hi: ByteArray} {es: List ByteArray} {ps: List Nat} (hb: Body (Sub a h) h n lo hi es ps) (hs: n.shaped = true) (hl: n.leaf = false) (hp: ∀ p ∈ ps,Lush a p): ∀ r ∈ n.recs,ltP lo r := by
 obtain ⟨r1,r2⟩ := shaped_recs hs
 rcases hb.2 with ⟨_,h1,_⟩ | ⟨_,_,hsu⟩
 · rw [hl] at h1; cases h1
 · generalize n.recs = rs at hsu r1 r2
   generalize n.kids = cs at hsu
   cases hsu with
   | one _ => intro r hr; cases hr
   | @more _ r0 c es1 es2 rs cs ps1 ps2 hP _ =>
    have hne := hP.some_ fun p h => hp p (by simp [h])
    have h0: ltP lo r0 := by
     cases es1 with
     | nil => exact absurd rfl hne
     | cons e l =>
      have hb := hP.bounds e (by simp)
      exact le_lt hb.1 (hb.2.resolve_left (by have := (r1 r0 (by simp)).1; omega))
    intro r hr
    rcases List.mem_cons.1 hr with rfl | hr
    · exact h0
    · exact lt_tr h0 ((List.pairwise_cons.1 r2).1 r hr)
theorem subs_join {P: Nat -> ByteArray -> ByteArray -> List ByteArray -> List Nat -> Prop} {hi lo sep: ByteArray} {rs1 rs2 es1 es2: List ByteArray} {cs1 cs2: List Int} {ps1 ps2: List Nat} (k: Subs P sep lo rs1 cs1 es1 ps1) (t: Subs P hi sep rs2 cs2 es2 ps2): Subs P hi lo (rs1 ++ [sep] ++ rs2) (cs1 ++ cs2) (es1 ++ es2) (ps1 ++ ps2) := by
 induction k with
 | one h => exact .more h t
 | more h _ ih => simpa using Subs.more h ih
theorem join_law {a: Abs} {h: Nat} {m n: L5.No} {lo sep hi: ByteArray} {es1 es2: List ByteArray} {ps1 ps2: List Nat} (hm: Body (Sub a h) h m lo sep es1 ps1) (hn: Body (Sub a h) h n sep hi es2 ps2) (sm: m.shaped = true) (sn: n.shaped = true) (hsz: 1 <= sep.size /\ sep.size <= 400) (hin: inB lo hi sep) (hlu: ∀ p ∈ ps2,Lush a p) :
 Body (Sub a h) h (joinK m sep n) lo hi (es1 ++ es2) (ps1 ++ ps2) /\ (joinK m sep n).shaped = true := by
 obtain ⟨q1,q2⟩ := shaped_recs sm
 obtain ⟨r1,r2⟩ := shaped_recs sn
 have up1: upB sep hi := by
  rcases hin.2 with e | e
  · exact Or.inl e
  · exact Or.inr ⟨by omega,le_of e⟩
 have hz0: sep.size ≠ 0 := by omega
 have mlt: ∀ r ∈ m.recs,ltP r sep := fun r hr => (hm.1 r hr).2.resolve_left hz0
 have bm: ∀ r ∈ m.recs,inB lo hi r := fun r hr => (hm.1 r hr).wide (le_rf _) up1
 have bn: ∀ r ∈ n.recs,inB lo hi r := fun r hr => (hn.1 r hr).wide hin.1 (upB.rf _)
 cases hl: m.leaf with
 | true =>
  have h0: h = 0 := by
   rcases hm.2 with ⟨h0,_⟩ | ⟨_,e,_⟩
   · exact h0
   · rw [hl] at e; cases e
  have en: n.leaf = true /\ es2 = n.recs /\ ps2 = [] := by
   rcases hn.2 with ⟨_,e1,e2,e3⟩ | ⟨e,_⟩
   · exact ⟨e1,e2,e3⟩
   · exact absurd h0 e
  have em: es1 = m.recs /\ ps1 = [] := by
   rcases hm.2 with ⟨_,_,e2,e3⟩ | ⟨e,_⟩
   · exact ⟨e2,e3⟩
   · exact absurd h0 e
  have eJ: joinK m sep n = ⟨true,m.recs ++ n.recs,[]⟩ := by unfold joinK; rw [hl]; rfl
  rw [eJ,en.2.1,en.2.2,em.1,em.2]
  refine ⟨⟨fun r hr => ?_,Or.inl ⟨h0,rfl,rfl,rfl⟩⟩,shaped_mk (fun s hs => ?_) ?_ (Or.inl ⟨rfl,rfl⟩)⟩
  · rcases List.mem_append.1 hr with hr | hr
    · exact bm r hr
    · exact bn r hr
  · rcases List.mem_append.1 hs with hs | hs
    · exact q1 s hs
    · exact r1 s hs
  · rw [List.pairwise_append]
    exact ⟨q2,r2,fun x hx y hy => lt_le (mlt x hx) (hn.1 y hy).1⟩
 | false =>
  have hh: h ≠ 0 /\ Subs (Sub a h) sep lo m.recs m.kids es1 ps1 := by
   rcases hm.2 with ⟨_,e,_⟩ | ⟨e1,_,e3⟩
   · rw [hl] at e; cases e
   · exact ⟨e1,e3⟩
  have hn2: n.leaf = false /\ Subs (Sub a h) hi sep n.recs n.kids es2 ps2 := by
   rcases hn.2 with ⟨e,_⟩ | ⟨_,e2,e3⟩
   · exact absurd e hh.1
   · exact ⟨e2,e3⟩
  have nab := body_above hn sn hn2.1 hlu
  have eJ: joinK m sep n = ⟨false,m.recs ++ [sep] ++ n.recs,m.kids ++ n.kids⟩ := by unfold joinK; rw [hl]; rfl
  obtain ⟨g1,_⟩ := shaped_kids sm hl
  obtain ⟨g2,_⟩ := shaped_kids sn hn2.1
  rw [eJ]
  refine ⟨⟨fun r hr => ?_,Or.inr ⟨hh.1,rfl,subs_join hh.2 hn2.2⟩⟩,shaped_mk (fun s hs => ?_) ?_ (Or.inr ⟨rfl, ?_,fun k hk => ?_⟩)⟩
  · simp only [List.mem_append,List.mem_singleton] at hr
    rcases hr with (hr | hr) | hr
    · exact bm r hr
    · rw [hr]; exact hin
    · exact bn r hr
  · simp only [List.mem_append,List.mem_singleton] at hs
    rcases hs with (hs | hs) | hs
    · exact q1 s hs
    · rw [hs]; exact hsz
    · exact r1 s hs
  · rw [List.append_assoc,List.singleton_append,List.pairwise_append,List.pairwise_cons]
    refine ⟨q2,⟨nab,r2⟩,fun x hx y hy => ?_⟩
    rcases List.mem_cons.1 hy with rfl | hy
    · exact mlt x hx
    · exact lt_tr (mlt x hx) (nab y hy)
  · have := hh.2.len
    have := hn2.2.len
    simp
    omega
  · rcases List.mem_append.1 hk with hk | hk
    · exact g1 k hk
    · exact g2 k hk
end Go.Proofs.YtdnkbdjhccckhaaGreat
namespace Go.Proofs.YtdnkbdjhccckhaaGreat
open Go.RowKit
open L4 (Ar ArP Abs arV nv)
def cutK (n: L5.No) (i kid: Nat): L5.No := ⟨n.leaf,if n.recs.length = 0 then [] else n.recs.take i ++ n.recs.drop (i + 1),n.kids.take kid ++ n.kids.drop (kid + 1)⟩
structure Cutted (N g: Nat) (cs: Array Value) (off: Nat) (n: L5.No) (i kid: Nat) (vr vk: Value) (w: World) (vr' vk': Value) (w': World): Prop where
 blk: w'.heap[g]? = some (.cells ((cs.setIfInBounds (off + 2) vr').setIfInBounds (off + 3) vk') 104 (0,0))
 rr: w'.ownsRow N 9 1 vr' (cutK n i kid).recs.length (L5.svs (cutK n i kid).recs)
 rk: w'.ownsRow N 3 1 vk' (cutK n i kid).kids.length (L5.ivs (cutK n i kid).kids)
 only: Only (fun k => k = g \/ vr.ownBlock = some k \/ vk.ownBlock = some k) w w'
 nr: vr'.ownBlock = vr.ownBlock
 nk: vk'.ownBlock = vk.ownBlock
structure MidC (N g: Nat) (cs: Array Value) (off: Nat) (n: L5.No) (i: Nat) (vr vk: Value) (w: World) (vr': Value) (w': World): Prop where
 blk: w'.heap[g]? = some (.cells (cs.setIfInBounds (off + 2) vr') 104 (0,0))
 rr: w'.ownsRow N 9 1 vr' (cutK n i 0).recs.length (L5.svs (cutK n i 0).recs)
 rk: w'.ownsRow N 3 1 vk n.kids.length (L5.ivs n.kids)
 only: Only (fun k => k = g \/ vr.ownBlock = some k \/ vk.ownBlock = some k) w w'
 nr: vr'.ownBlock = vr.ownBlock
theorem midC {N g: Nat} {cs: Array Value} {off i: Nat} {n: L5.No} {vr vk: Value} {w w2: World} {vr': Value} {l: List ByteArray} {m: Nat} (hb: w.heap[g]? = some (.cells cs 104 (0,0))) (yr: w.ownsRow N 9 1 vr n.recs.length (L5.svs n.recs)) (yk: w.ownsRow N 3 1 vk n.kids.length (L5.ivs n.kids)) (o2: w2.ownsRow N 9 1 vr' m (L5.svs l)) (hm: m = (cutK n i 0).recs.length) (hl: l = (cutK n i 0).recs) (hg: w.grownBy w2 vr.ownBlock) (hn: vr'.ownBlock = vr.ownBlock): MidC N g cs off n i vr vk w vr' (w2.setCell ⟨g,off + 1 + 1,none⟩ vr') := by
 subst hm
 subst hl
 have gl := (Array.getElem?_eq_some_iff.1 hb).1
 have hb2: w2.heap[g]? = some (.cells cs 104 (0,0)) := (hg.block g gl (fun e => row_ne hb yr (by decide) e.symm)).trans hb
 refine ⟨heap_setCell_same w2 g (off + 2) cs _ _ hb2,ownsRow_setCell_other o2 (a := ⟨g,off + 1 + 1,none⟩) (row_ne hb2 o2 (by decide)) vr', ?_, ?_,hn⟩
 · refine L5.owns_of_block yk fun q hq => ?_
   have z := (yk.lt q hq).2
   have hqg: q ≠ g := fun e => row_ne hb yk (by decide) (e ▸ hq)
   rw [heap_setCell_other _ _ _ _ hqg,hg.block q z (fun e => rows_ne yk yr (by decide) q hq e.symm)]
 · exact ⟨hg.os,hg.tape,hg.output,by have := hg.size; simpa [World.setCell] using this,fun q hq hz => by
    rw [heap_setCell_other _ _ _ _ (fun e => hz (Or.inl e)),hg.block q hq (fun e => hz (Or.inr (Or.inl e.symm)))]⟩
theorem MidC.fin {N g: Nat} {cs: Array Value} {off i kid: Nat} {n: L5.No} {vr vk: Value} {w w3 w5: World} {vr' vk': Value} {l: List Int} {m: Nat} (k: MidC N g cs off n i vr vk w vr' w3) (o5: w5.ownsRow N 3 1 vk' m (L5.ivs l)) (hm: m = (cutK n i kid).kids.length) (hl: l = (cutK n i kid).kids) (hg: w3.grownBy w5 vk.ownBlock) (hn: vk'.ownBlock = vk.ownBlock): Cutted N g cs off n i kid vr vk w vr' vk' (w5.setCell ⟨g,off + 1 + 2,none⟩ vk') := by
 subst hm
 subst hl
 have gl := (Array.getElem?_eq_some_iff.1 k.blk).1
 have hb5 := (hg.block g gl (fun e => row_ne k.blk k.rk (by decide) e.symm)).trans k.blk
 have z3 := k.only.size
 refine ⟨heap_setCell_same w5 g (off + 3) _ _ _ hb5, ?_,ownsRow_setCell_other o5 (a := ⟨g,off + 1 + 2,none⟩) (row_ne hb5 o5 (by decide)) vk', ?_,k.nr,hn⟩
 · refine L5.owns_of_block (show w3.ownsRow N 9 1 vr' (cutK n i kid).recs.length (L5.svs (cutK n i kid).recs) from k.rr) fun q hq => ?_
   have z := (k.rr.lt q hq).2
   have hqg: q ≠ g := fun e => row_ne k.blk k.rr (by decide) (e ▸ hq)
   rw [heap_setCell_other _ _ _ _ hqg,hg.block q z (fun e => rows_ne k.rr k.rk (by decide) q hq e.symm)]
 · exact ⟨hg.os.trans k.only.os,hg.tape.trans k.only.tape,hg.output.trans k.only.output,by have := hg.size; simp [World.setCell]; omega,fun q hq hz => by
    rw [heap_setCell_other _ _ _ _ (fun e => hz (Or.inl e)),hg.block q (by omega) (fun e => hz (Or.inr (Or.inr e.symm)))]
    exact k.only.block q hq hz⟩
theorem cut_ok {N g off i kid: Nat} {n: L5.No} {cs: Array Value} {vr vk: Value} {w: World} (hb: w.heap[g]? = some (.cells cs 104 (0,0))) (c2: cs[off + 2]? = some vr) (c3: cs[off + 3]? = some vk) (yr: w.ownsRow N 9 1 vr n.recs.length (L5.svs n.recs)) (yk: w.ownsRow N 3 1 vk n.kids.length (L5.ivs n.kids)) (h1: n.recs.length ≠ 0 -> i < n.recs.length) (h2: kid < n.kids.length) (hs: n.small) :
 Calls Tryz.prog 108 #[.pointer (some ⟨g,off,none⟩), .int .i64 (i: Int), .int .i64 (kid: Int)] w fun e w' => e = .returned (.tuple #[]) /\ ∃ vr' vk',Cutted N g cs off n i kid vr vk w vr' vk' w' := by
 obtain ⟨ra,rc,rfl⟩ := own_slice yr
 obtain ⟨ka,kc,rfl⟩ := own_slice yk
 have HR := thid yr
 have HK := thid yk
 have HBK := thid hb
 have gl := (Array.getElem?_eq_some_iff.1 hb).1
 have q2: w.cell? ⟨g,off + 2,none⟩ = some (.slice ra n.recs.length rc) := (cell_of_row _ _ _ _ _ _ hb).trans c2
 have q3: w.cell? ⟨g,off + 3,none⟩ = some (.slice ka n.kids.length kc) := (cell_of_row _ _ _ _ _ _ hb).trans c3
 have qf: ∀ i,w.frozen? ⟨g,i,none⟩ = false := fun i => frozen_of_row _ _ _ _ _ hb
 have hkw: IntKind.i64.wrap ((kid: Int) + 1) = ((kid + 1: Nat): Int) := by have := hs.kids; rw [IntKind.wrap_i64]; omega
 have HST: Hid (∀ (vr': Value) (W3: World),MidC N g cs off n i (.slice ra n.recs.length rc) (.slice ka n.kids.length kc) w vr' W3 -> W3.cell? ⟨g,off + 3,none⟩ = some (.slice ka n.kids.length kc) /\ (∀ i,W3.frozen? ⟨g,i,none⟩ = false) /\ g < W3.heap.size /\ Calls Tryz.prog 131 #[.slice ka n.kids.length kc, .int .i64 (kid: Int), .int .i64 ((kid + 1: Nat): Int)] W3 fun e w' => ∃ v',e = .returned v' /\ Cutted N g cs off n i kid (.slice ra n.recs.length rc) (.slice ka n.kids.length kc) w vr' v' (w'.setCell ⟨g,off + 1 + 2,none⟩ v') /\ w'.heap[g]? = some (.cells (cs.setIfInBounds (off + 2) vr') 104 (0,0)) /\ ∃ a2 c2,v' = .slice a2 (n.kids.length - 1) c2) := fun vr' W3 h3 => by
  refine ⟨by rw [cell_of_row _ _ _ _ _ _ h3.blk,Array.getElem?_setIfInBounds_ne (by omega)]; exact c3,fun i => frozen_of_row _ _ _ _ _ h3.blk,(Array.getElem?_eq_some_iff.1 h3.blk).1, ?_⟩
  refine (delete_int (l := n.kids) h3.rk h2).mono ?_
  rintro e w5 ⟨v5,rfl,o5,hg5,hn5⟩
  refine ⟨v5,rfl,h3.fin (l := n.kids.take kid ++ n.kids.drop (kid + 1)) o5 (by simp [cutK]; omega) rfl hg5 hn5,(hg5.block g (Array.getElem?_eq_some_iff.1 h3.blk).1 (fun e => row_ne h3.blk h3.rk (by decide) e.symm)).trans h3.blk,own_slice o5⟩
 go_enter Tryz.func108,Tryz.ntmps108
 rcases Nat.eq_zero_or_pos n.recs.length with hz | hz
 · have hz': ¬ ((0: Int) < (n.recs.length: Int)) := by omega
   have hcr: (cutK n i 0).recs = n.recs := by
    show (if n.recs.length = 0 then [] else n.recs.take i ++ n.recs.drop (i + 1)) = _
    rw [if_pos hz]
    exact (List.length_eq_zero_iff.1 hz).symm
   have hcs: cs.setIfInBounds (off + 2) (.slice ra n.recs.length rc) = cs := by
    apply Array.ext_getElem?
    intro j
    rw [Array.getElem?_setIfInBounds]
    split
    · rename_i e
      subst e
      split
      · exact c2.symm
      · rename_i e
        rw [Array.getElem?_eq_none (by omega)] at c2
        cases c2
    · rfl
   have H3: Hid (MidC N g cs off n i (.slice ra n.recs.length rc) (.slice ka n.kids.length kc) w (.slice ra n.recs.length rc) w) := ⟨by rw [hcs]; exact hb,by rw [hcr]; exact yr,yk,Only.refl _ _,rfl⟩
   obtain ⟨s1,s2,s3,s4⟩ := HST.out _ _ H3.out
   have HDI := thid s4
   clear yr yk hb HST s4
   go_wp2_with fail
   rw [show (kid: Int) + 1 = ((kid + 1: Nat): Int) by omega]
   refine HDI.out.mono ?_
   rintro e w5 ⟨v5,rfl,hC,hb5,a5,c5,rfl⟩
   have HC := thid hC
   have p3: w5.cell? ⟨g,off + 3,none⟩ = some (.slice ka n.kids.length kc) := by rw [cell_of_row _ _ _ _ _ _ hb5,Array.getElem?_setIfInBounds_ne (by omega)]; exact c3
   have pf5: ∀ i,w5.frozen? ⟨g,i,none⟩ = false := fun i => frozen_of_row _ _ _ _ _ hb5
   have pl5 := (Array.getElem?_eq_some_iff.1 hb5).1
   clear hC hb5 HDI s1 s2 s3
   go_wp2
   go_end0
   exact ⟨rfl,_,_,HC.out⟩
 · have hz': (0: Int) < (n.recs.length: Int) := by omega
   have hiw: IntKind.i64.wrap ((i: Int) + 1) = ((i + 1: Nat): Int) := by have := hs.recs; have := h1 (by omega); rw [IntKind.wrap_i64]; omega
   have HDS := thid (delete_str (l := n.recs) yr (h1 (by omega)))
   clear yr yk hb
   go_wp2_with fail
   refine HDS.out.mono ?_
   rintro e w2 ⟨v2,rfl,o2,hg2,hn2⟩
   obtain ⟨a2,cc2,rfl⟩ := own_slice o2
   have hb2: w2.heap[g]? = some (.cells cs 104 (0,0)) := (hg2.block g gl (fun e => row_ne HBK.out HR.out (by decide) e.symm)).trans HBK.out
   have p2: w2.cell? ⟨g,off + 2,none⟩ = some (.slice ra n.recs.length rc) := (cell_of_row _ _ _ _ _ _ hb2).trans c2
   have pf: ∀ i,w2.frozen? ⟨g,i,none⟩ = false := fun i => frozen_of_row _ _ _ _ _ hb2
   have pl := (Array.getElem?_eq_some_iff.1 hb2).1
   have hcr: (cutK n i 0).recs = n.recs.take i ++ n.recs.drop (i + 1) := by
    show (if n.recs.length = 0 then [] else n.recs.take i ++ n.recs.drop (i + 1)) = _
    rw [if_neg (by omega)]
   have H3 := thid (midC (off := off) (i := i) (l := n.recs.take i ++ n.recs.drop (i + 1)) HBK.out HR.out HK.out o2 (by rw [hcr]; have := h1 (by omega); simp; omega) hcr.symm hg2 hn2)
   obtain ⟨s1,s2,s3,s4⟩ := HST.out _ _ H3.out
   have HDI := thid s4
   clear o2 hg2 hn2 hb2 HDS q2 q3 qf HST s4
   go_wp2_with fail
   rw [show (kid: Int) + 1 = ((kid + 1: Nat): Int) by omega]
   refine HDI.out.mono ?_
   rintro e w5 ⟨v5,rfl,hC,hb5,a5,c5,rfl⟩
   have HC := thid hC
   have p3: w5.cell? ⟨g,off + 3,none⟩ = some (.slice ka n.kids.length kc) := by rw [cell_of_row _ _ _ _ _ _ hb5,Array.getElem?_setIfInBounds_ne (by omega)]; exact c3
   have pf5: ∀ i,w5.frozen? ⟨g,i,none⟩ = false := fun i => frozen_of_row _ _ _ _ _ hb5
   have pl5 := (Array.getElem?_eq_some_iff.1 hb5).1
   clear hC hb5 HDI s1 s2 s3
   go_wp2
   go_end0
   exact ⟨rfl,_,_,HC.out⟩
end Go.Proofs.YtdnkbdjhccckhaaGreat
namespace Go.Proofs.YtdnkbdjhccckhaaGreat
open Go.RowKit
open L4 (Abs)
open L5 (ltP ltB leB)
def NodeE (a: Abs) (h: Nat) (n: L5.No) (lo hi: ByteArray) (es: List ByteArray) (ps: List Nat): Prop :=
 (Body (Sub a h) h n lo hi es ps /\ n.shaped = true /\ n.size <= 1024 /\ ∀ p ∈ ps,Lush a p) \/ (n.recs = [] /\ n.kids = [] /\ n.leaf = false /\ h ≠ 0 /\ es = [] /\ ps = [])
def NoFit (a: Abs) (u: Pl) (n: L5.No): Prop :=
 (∀ (c: Nat) (m: L5.No) (sep: ByteArray),1 <= u.kid -> u.n.recs[u.kid - 1]? = some sep -> u.n.kids[u.kid - 1]? = some (c: Int) -> Holds a c m -> 1024 < (joinK m sep n).size) /\
 ∀ (c: Nat) (m: L5.No) (sep: ByteArray),u.n.recs[u.kid]? = some sep -> u.n.kids[u.kid + 1]? = some (c: Int) -> Holds a c m -> 1024 < (joinK n sep m).size
inductive Shr (a: Abs): List Pl -> Nat -> L5.No -> List (Nat × L5.No) -> List Nat -> Option (Nat × L5.No) -> Prop
 | root {at_: Nat} {n: L5.No}: Shr a [] at_ n [] [] (some (at_,n))
 | stay {u: Pl} {us: List Pl} {at_: Nat} {n: L5.No} (h0: n.recs.length + n.kids.length ≠ 0) (hf: NoFit a u n): Shr a (u :: us) at_ n [(at_,n)] [] none
 | gone {u: Pl} {us: List Pl} {at_: Nat} {n: L5.No} {L: List (Nat × L5.No)} {G: List Nat} {o: Option (Nat × L5.No)} (h0: n.recs.length + n.kids.length = 0) (t: Shr a us u.at_ (cutK u.n (u.kid - 1) u.kid) L G o): Shr a (u :: us) at_ n L (at_ :: G) o
 | left {u: Pl} {us: List Pl} {at_: Nat} {n: L5.No} {L: List (Nat × L5.No)} {G: List Nat} {o: Option (Nat × L5.No)} {c: Nat} {m: L5.No} {sep: ByteArray} (h0: n.recs.length + n.kids.length ≠ 0) (hk: 1 <= u.kid) (hs: u.n.recs[u.kid - 1]? = some sep) (hc: u.n.kids[u.kid - 1]? = some (c: Int)) (hm: Holds a c m) (hz: (joinK m sep n).size <= 1024) (t: Shr a us u.at_ (cutK u.n (u.kid - 1) u.kid) L G o): Shr a (u :: us) at_ n ((c,joinK m sep n) :: L) (at_ :: G) o
 | right {u: Pl} {us: List Pl} {at_: Nat} {n: L5.No} {L: List (Nat × L5.No)} {G: List Nat} {o: Option (Nat × L5.No)} {c: Nat} {m: L5.No} {sep: ByteArray} (h0: n.recs.length + n.kids.length ≠ 0) (hs: u.n.recs[u.kid]? = some sep) (hc: u.n.kids[u.kid + 1]? = some (c: Int)) (hm: Holds a c m) (hz: (joinK n sep m).size <= 1024) (t: Shr a us u.at_ (cutK u.n u.kid (u.kid + 1)) L G o): Shr a (u :: us) at_ n ((at_,joinK n sep m) :: L) (c :: G) o
def laidL (a: Abs) (L: List (Nat × L5.No)): Abs := L.foldl (fun a y => layN a y.1 y.2) a
def ShrR (a: Abs) (L: List (Nat × L5.No)) (G: List Nat) (H R: Nat) (es: List ByteArray) (old: List Nat): Option (Nat × L5.No) -> Prop
 | none => ∃ ps',Sub (laidL a L) H R e0 e0 es ps' /\ old.Perm (ps' ++ G) /\ ∀ p ∈ ps',Lush (laidL a L) p
 | some (r,n) => ∃ h' ps',H = h' + 1 /\ r = R /\ NodeE (laidL a L) h' n e0 e0 es ps' /\ old.Perm (R :: (ps' ++ G))
theorem parent_of {a: Abs} {h: Nat} {n m: L5.No} {lo hi: ByteArray} {es: List ByteArray} {ps: List Nat} (hs: n.shaped = true) (hl: n.leaf = false) (hz: n.size <= 1024) (hb: ∀ r ∈ n.recs,inB lo hi r) (hh: h ≠ 0) (ml: m.leaf = false) (hr: m.recs.Sublist n.recs) (hk: m.kids.Sublist n.kids) (hsu: Subs (Sub a h) hi lo m.recs m.kids es ps) (hlu: ∀ p ∈ ps,Lush a p): NodeE a h m lo hi es ps := by
 obtain ⟨g1,g2⟩ := shaped_less hs hl hz ml hr hk hsu.len
 exact Or.inl ⟨⟨fun r h => hb r (hr.subset h),Or.inr ⟨hh,ml,hsu⟩⟩,g1,g2,hlu⟩
theorem cut_left {u: Pl} {rl' rr: List ByteArray} {s: ByteArray} {kl' kr: List Int} {c at_: Int} (er: u.n.recs = rl' ++ [s] ++ rr) (ek: u.n.kids = kl' ++ [c] ++ at_ :: kr) (e1: rl'.length + 1 = u.kid) (e2: kl'.length + 1 = u.kid): cutK u.n (u.kid - 1) u.kid = ⟨u.n.leaf,rl' ++ rr,kl' ++ c :: kr⟩ := by
 unfold cutK
 have h0: u.n.recs.length ≠ 0 := by rw [er]; simp
 rw [if_neg h0,er,ek]
 congr 1
 · rw [show u.kid - 1 = rl'.length by omega,show rl'.length + 1 = (rl' ++ [s]).length by simp,List.drop_left,List.append_assoc,List.take_left]
 · rw [show u.kid = (kl' ++ [c]).length by simp; omega,List.take_left,show (kl' ++ [c]).length + 1 = (kl' ++ [c] ++ [at_]).length by simp,show kl' ++ [c] ++ at_ :: kr = (kl' ++ [c] ++ [at_]) ++ kr by simp,List.drop_left]
   simp
theorem cut_right {u: Pl} {rl rs: List ByteArray} {s: ByteArray} {kl kr: List Int} {c at_: Int} (er: u.n.recs = rl ++ s :: rs) (ek: u.n.kids = kl ++ at_ :: c :: kr) (e1: rl.length = u.kid) (e2: kl.length = u.kid): cutK u.n u.kid (u.kid + 1) = ⟨u.n.leaf,rl ++ rs,kl ++ at_ :: kr⟩ := by
 unfold cutK
 have h0: u.n.recs.length ≠ 0 := by rw [er]; simp
 rw [if_neg h0,er,ek]
 congr 1
 · rw [<- e1,List.take_left,show rl.length + 1 = (rl ++ [s]).length by simp,show rl ++ s :: rs = (rl ++ [s]) ++ rs by simp,List.drop_left]
 · rw [<- e2,show kl.length + 1 = (kl ++ [at_]).length by simp,show kl ++ at_ :: c :: kr = (kl ++ [at_]) ++ (c :: kr) by simp,List.take_left,show (kl ++ [at_]).length + 1 = (kl ++ [at_] ++ [c]).length by simp,show kl ++ [at_] ++ c :: kr = (kl ++ [at_] ++ [c]) ++ kr by simp,List.drop_left]
   simp
theorem cut_first {u: Pl} {rr: List ByteArray} {kr: List Int} {at_: Int} (er: u.n.recs = rr) (ek: u.n.kids = at_ :: kr) (e1: u.kid = 0): cutK u.n (u.kid - 1) u.kid = ⟨u.n.leaf,rr.drop 1,kr⟩ := by
 unfold cutK
 rw [e1,er,ek]
 cases rr <;> simp
theorem up_gone {a: Abs} {u: Pl} {h at_: Nat} {lo hi lo' hi': ByteArray} {rl rr esl esr: List ByteArray} {kl kr: List Int} {psl psr: List Nat} (hn: Holds a u.at_ u.n) (hl: u.n.leaf = false) (hb: ∀ r ∈ u.n.recs,inB lo hi r) (er: u.n.recs = rl ++ rr) (ek: u.n.kids = kl ++ (at_: Int) :: kr) (e1: rl.length = u.kid) (e2: kl.length = u.kid) (hh: h ≠ 0) (hL: SubL (Sub a h) lo' lo rl kl esl psl) (hR: SubR (Sub a h) hi' hi rr kr esr psr) (hlt: leP lo' hi' \/ hi'.size = 0) (h1: ∀ p ∈ psl,Lush a p) (h2: ∀ p ∈ psr,Lush a p) :
 NodeE a h (cutK u.n (u.kid - 1) u.kid) lo hi (esl ++ esr) (psl ++ psr) := by
 have hall: ∀ p ∈ psl ++ psr,Lush a p := fun p hp => by
  rcases List.mem_append.1 hp with hp | hp
  · exact h1 p hp
  · exact h2 p hp
 have wide: ∀ c lo hi lo' hi' es ps,Sub a h c lo hi es ps -> leP lo' lo -> upB hi hi' -> Sub a h c lo' hi' es ps := fun c lo hi lo' hi' es ps k q1 q2 => k.wide q1 q2
 by_cases hk: kl = []
 · subst hk
   have hrl: rl = [] := List.length_eq_zero_iff.1 (by have := hL.len; simpa using this.symm)
   subst hrl
   have hu0: u.kid = 0 := by simpa using e2.symm
   cases hL
   have ec := cut_first (rr := rr) (kr := kr) (at_ := (at_: Int)) (by simpa using er) (by simpa using ek) hu0
   rw [ec]
   rcases hR with ⟨rfl,rfl,rfl,rfl,_⟩ | ⟨rs,rfl,t⟩
   · exact Or.inr ⟨rfl,rfl,hl,hh,rfl,rfl⟩
   · have hz: hi'.size ≠ 0 := by
      have := ((shaped_recs hn.shaped).1 hi' (by rw [er]; simp)).1
      omega
     have t2 := t.wide wide (hlt.resolve_right hz) (upB.rf _)
     refine parent_of hn.shaped hl hn.size hb hh hl ?_ ?_ (by simpa using t2) (by simpa using hall)
     · rw [er]; simp
     · rw [ek]; simp
 · obtain ⟨rl',kl',c,lo2,es1,es2,ps1,ps2,q1,q2,q3,q4,q5,q6⟩ := hL.last hk
   subst q1
   subst q2
   subst q5
   subst q6
   have ec := cut_left (u := u) (rl' := rl') (rr := rr) (s := lo') (kl' := kl') (kr := kr) (c := (c: Int)) (at_ := (at_: Int)) er ek (by simpa using e1) (by simpa using e2)
   rw [ec]
   have hz: lo'.size ≠ 0 := by
    have := ((shaped_recs hn.shaped).1 lo' (by rw [er]; simp)).1
    omega
   have q4': Sub a h c lo2 hi' es2 ps2 := q4.wide (le_rf _) (by
    rcases hlt with e | e
    · exact Or.inr ⟨hz,e⟩
    · exact Or.inl e)
   have hs := subs_tail q3 (subs_head q4' hR)
   refine parent_of hn.shaped hl hn.size hb hh hl ?_ ?_ (by simpa using hs) (by simpa using hall)
   · rw [er]
     exact (List.sublist_append_left _ _).append (List.Sublist.refl _)
   · rw [ek]
     simp
theorem SubR.up {P: Nat -> ByteArray -> ByteArray -> List ByteArray -> List Nat -> Prop} {hi' hi lo: ByteArray} {rr es: List ByteArray} {kr: List Int} {ps: List Nat} (k: SubR P hi' hi rr kr es ps) (hb: ∀ r ∈ rr,inB lo hi r /\ r.size ≠ 0): upB hi' hi := by
 rcases k with ⟨_,_,_,_,e⟩ | ⟨rs,e,_⟩
 · rw [e]; exact upB.rf _
 · obtain ⟨h1,h2⟩ := hb hi' (by rw [e]; simp)
   rcases h1.2 with h | h
   · exact Or.inl h
   · exact Or.inr ⟨h2,le_of h⟩
theorem SubR.first {P: Nat -> ByteArray -> ByteArray -> List ByteArray -> List Nat -> Prop} {hi' hi: ByteArray} {rr es: List ByteArray} {kr: List Int} {ps: List Nat} (k: SubR P hi' hi rr kr es ps) (hne: rr ≠ []): ∃ (rs: List ByteArray) (c: Nat) (cs: List Int) (hi3: ByteArray) (es1 es2: List ByteArray) (ps1 ps2: List Nat),rr = hi' :: rs /\ kr = (c: Int) :: cs /\ P c hi' hi3 es1 ps1 /\ SubR P hi3 hi rs cs es2 ps2 /\ es = es1 ++ es2 /\ ps = ps1 ++ ps2 /\ (rs = [] /\ hi3 = hi \/ hi3 ∈ rs) := by
 rcases k with ⟨e,_⟩ | ⟨rs,rfl,t⟩
 · exact absurd e hne
 · cases t with
   | @one _ c _ _ h => exact ⟨[],c,[],hi,es,[],ps,[],rfl,rfl,h,Or.inl ⟨rfl,rfl,rfl,rfl,rfl⟩,by simp,by simp,Or.inl ⟨rfl,rfl⟩⟩
   | @more _ r c es1 es2 rs cs ps1 ps2 h t => exact ⟨r :: rs,c,cs,r,es1,es2,ps1,ps2,rfl,rfl,h,Or.inr ⟨rs,rfl,t⟩,rfl,rfl,Or.inr (by simp)⟩
theorem inB.gap {lo hi k: ByteArray} (h: inB lo hi k): leP lo hi \/ hi.size = 0 := by
 rcases h.2 with e | e
 · exact Or.inr e
 · exact Or.inl (le_tr h.1 (le_of e))
theorem layN_other {a: Abs} {c p: Nat} {n: L5.No} {d: List UInt8} (h: a.at (c: Int) = some d) (hp: p ≠ c): (layN a c n).at (p: Int) = a.at (p: Int) := at_lay_ne hp (at_pos h) _
theorem layN_there {a: Abs} {c p: Nat} {n: L5.No} {d: List UInt8} (h: a.at (c: Int) = some d) (hp: ∃ e,a.at (p: Int) = some e): ∃ e,(layN a c n).at (p: Int) = some e := by
 by_cases e: p = c
 · subst e
   exact ⟨_,at_lay_same h _⟩
 · rw [layN_other h e]
   exact hp
theorem lush_laid {a: Abs} {c: Nat} {n: L5.No} {d: List UInt8} (h: a.at (c: Int) = some d) (hs: n.shaped = true) (hz: n.size <= 1024) (hn: n.leaf = true -> n.recs ≠ []): Lush (layN a c n) c := fun m hm hl => by
 have e: m = n := hm.uniq (Holds.lay h hs hz (small_of hs (by omega)))
 subst e
 exact hn hl
theorem NodeE.full {a: Abs} {h: Nat} {n: L5.No} {lo hi: ByteArray} {es: List ByteArray} {ps: List Nat} (k: NodeE a h n lo hi es ps) (h0: n.recs.length + n.kids.length ≠ 0): Body (Sub a h) h n lo hi es ps /\ n.shaped = true /\ n.size <= 1024 /\ ∀ p ∈ ps,Lush a p := by
 rcases k with k | ⟨e1,e2,_⟩
 · exact k
 · rw [e1,e2] at h0
   exact absurd rfl h0
theorem NodeE.void {a: Abs} {h: Nat} {n: L5.No} {lo hi: ByteArray} {es: List ByteArray} {ps: List Nat} (k: NodeE a h n lo hi es ps) (h0: n.recs.length + n.kids.length = 0): es = [] /\ ps = [] := by
 rcases k with ⟨hb,_⟩ | ⟨_,_,_,_,e1,e2⟩
 · rcases hb.2 with ⟨_,_,e1,e2⟩ | ⟨_,_,hs⟩
   · exact ⟨by rw [e1]; exact List.length_eq_zero_iff.1 (by omega),e2⟩
   · have := hs.len
     omega
 · exact ⟨e1,e2⟩
theorem leaf_some {n: L5.No} (hs: n.shaped = true) (h0: n.recs.length + n.kids.length ≠ 0): n.leaf = true -> n.recs ≠ [] := fun hl e => by
 rw [shaped_leaf hs hl,e] at h0
 exact h0 rfl
theorem shr_law {a: Abs} {k: ByteArray} {H R: Nat} {ups: List Pl} {at_: Nat} {n: L5.No} {L: List (Nat × L5.No)} {G: List Nat} {o: Option (Nat × L5.No)} (s: Shr a ups at_ n L G o): ∀ {a1: Abs} {h: Nat} {lo hi: ByteArray} {es esL esR: List ByteArray} {ps0 psO: List Nat},Ctx a1 H R ups (h + 1) at_ lo hi esL esR psO -> NodeE a1 h n lo hi es ps0 -> (∀ p ∈ psO,Lush a1 p) -> (∀ p ∈ psO,a1.at (p: Int) = a.at (p: Int)) -> inB lo hi k -> (∃ c,a1.at (at_: Int) = some c) -> (at_ :: (ps0 ++ psO)).Nodup ->
 ShrR a1 L G H R (esL ++ es ++ esR) (at_ :: (ps0 ++ psO)) o /\ (∀ y ∈ L,y.2.shaped = true /\ y.2.size <= 1024 /\ y.1 ∈ at_ :: psO) /\ (L.map Prod.fst).Nodup := by
 induction s with
 | @root at_ n =>
  intro a1 h lo hi es esL esR ps0 psO hC hN _ _ _ _ _
  obtain ⟨hH,hR,rfl,rfl,rfl,rfl,rfl⟩ := hC.bare
  refine ⟨⟨h,ps0,hH.symm,hR,by simpa [laidL] using hN,by simp [hR]⟩,fun y hy => absurd hy (by simp),by simp⟩
 | @stay u us at_ n h0 _ =>
  intro a1 h lo hi es esL esR ps0 psO hC hN hlu heq hk ⟨c,hc⟩ hd
  obtain ⟨hb,hs,hz,hl0⟩ := hN.full h0
  have hno := (List.nodup_cons.1 hd).1
  have hne: ∀ p ∈ ps0 ++ psO,(layN a1 at_ n).at (p: Int) = a1.at (p: Int) := fun p hp => layN_other hc fun e => hno (e ▸ hp)
  have hC' := hC.frame (a' := layN a1 at_ n) fun p hp => hne p (by simp [hp])
  have hb' := hb.frame (a' := layN a1 at_ n) fun p hp => hne p (by simp [hp])
  have hS: Sub (layN a1 at_ n) (h + 1) at_ lo hi es (at_ :: ps0) := ⟨n,ps0,Holds.lay hc hs hz (small_of hs (by omega)),rfl,hb'⟩
  obtain ⟨ps',g1,g2⟩ := hC'.fill hS
  refine ⟨⟨ps',g1,by simpa using g2.symm,fun p hp => ?_⟩,fun y hy => ?_,by simp⟩
  · rcases List.mem_append.1 (g2.mem_iff.1 hp) with hp | hp
    · rcases List.mem_cons.1 hp with rfl | hp
      · exact lush_laid hc hs hz (leaf_some hs h0)
      · exact (hl0 p hp).same (hne p (by simp [hp]))
    · exact (hlu p hp).same (hne p (by simp [hp]))
  · simp at hy
    subst hy
    exact ⟨hs,hz,by simp⟩
 | @gone u us at_ n L G o h0 t ih =>
  intro a1 h lo hi es esL esR ps0 psO hC hN hlu heq hk ⟨c,hc⟩ hd
  obtain ⟨rfl,rfl⟩ := hN.void h0
  cases hC with
  | @up _ _ _ _ lo2 hi2 _ _ rl rr esl esr esL' esR' kl kr psl psr psO' hn hlf hbb er ek e1 e2 hh hL hR hC2 =>
  have hbr: ∀ r ∈ rr,inB lo2 hi2 r /\ r.size ≠ 0 := fun r hr => ⟨hbb r (by rw [er]; simp [hr]),by have := ((shaped_recs hn.shaped).1 r (by rw [er]; simp [hr])).1; omega⟩
  have hE := up_gone hn hlf hbb er ek e1 e2 hh hL hR hk.gap (fun p hp => hlu p (by simp [hp])) (fun p hp => hlu p (by simp [hp]))
  have hk2: inB lo2 hi2 k := hk.wide (hL.le (fun r hr => hbb r (by rw [er]; simp [hr]))) (hR.up hbr)
  have hperm: (at_ :: ([] ++ u.at_ :: (psl ++ psr ++ psO'))).Perm (u.at_ :: ((psl ++ psr) ++ psO') ++ [at_]) := by
   rw [List.perm_iff_count]
   intro w
   simp only [List.count_append,List.count_cons,List.count_nil]
   omega
  have hd2: (u.at_ :: ((psl ++ psr) ++ psO')).Nodup := by
   have := hperm.nodup_iff.1 hd
   exact this.sublist (List.sublist_append_left _ _)
  obtain ⟨r1,r2,r3⟩ := ih hC2 hE (fun p hp => hlu p (by simp [hp])) (fun p hp => heq p (by simp [hp])) hk2 ⟨_,hn.page⟩ hd2
  refine ⟨?_,fun y hy => ?_,r3⟩
  · have hes: esL' ++ esl ++ [] ++ (esr ++ esR') = esL' ++ (esl ++ esr) ++ esR' := by simp
    rw [hes]
    cases o with
    | none =>
     obtain ⟨ps',f1,f2,f3⟩ := r1
     refine ⟨ps',f1,hperm.trans ?_,f3⟩
     rw [List.perm_iff_count] at f2 ⊢
     intro w
     have := f2 w
     simp only [List.count_append,List.count_cons,List.count_nil] at this ⊢
     omega
    | some q =>
     obtain ⟨r,m⟩ := q
     obtain ⟨h',ps',f1,f2,f3,f4⟩ := r1
     refine ⟨h',ps',f1,f2,f3,hperm.trans ?_⟩
     rw [List.perm_iff_count] at f4 ⊢
     intro w
     have := f4 w
     simp only [List.count_append,List.count_cons,List.count_nil] at this ⊢
     omega
  · obtain ⟨g1,g2,g3⟩ := r2 y hy
    refine ⟨g1,g2, ?_⟩
    simp at g3 ⊢
    rcases g3 with h | h <;> simp [h]
 | @left u us at_ n L G o c m sep h0 hkd hs hcc hm hz t ih =>
  intro a1 h lo hi es esL esR ps0 psO hC hN hlu heq hk ⟨c0,hc0⟩ hd
  obtain ⟨hb,hsn,hzn,hl0⟩ := hN.full h0
  cases hC with
  | @up _ _ _ _ lo2 hi2 _ _ rl rr esl esr esL' esR' kl kr psl psr psO' hn hlf hbb er ek e1 e2 hh hL hR hC2 =>
  have hkl: kl ≠ [] := fun e => by rw [e] at e2; simp at e2; omega
  obtain ⟨rl',kl',c',lo3,es1,es2,ps1,ps2,q1,q2,q3,q4,q5,q6⟩ := hL.last hkl
  subst q1 q2 q5 q6
  have l1: rl'.length + 1 = u.kid := by simpa using e1
  have l2: kl'.length + 1 = u.kid := by simpa using e2
  have esep: sep = lo := by
   rw [er,show u.kid - 1 = rl'.length by omega] at hs
   simp at hs
   exact hs.symm
  have ec: c = c' := by
   rw [ek,show u.kid - 1 = kl'.length by omega] at hcc
   simp at hcc
   omega
  subst esep
  subst ec
  obtain ⟨m',ps2',hm',rfl,hbm⟩ := q4
  have cin: c ∈ u.at_ :: (ps1 ++ c :: ps2' ++ psr ++ psO') := by simp
  have emm: m = m' := hm.uniq ⟨(heq c cin).symm.trans hm'.page,hm'.shaped,hm'.size,hm'.small⟩
  subst emm
  have ssz := (shaped_recs hn.shaped).1 sep (by rw [er]; simp)
  have hin: inB lo3 hi sep := by
   have hb1 := hbb sep (by rw [er]; simp)
   refine ⟨?_, ?_⟩
   · have hb3 := q3.le (hi := hi2) (fun r hr => hbb r (by rw [er]; simp [hr]))
     rcases q3.low with ⟨e,_⟩ | e
     · rw [e]; exact hb1.1
     · have hp := (shaped_recs hn.shaped).2
       rw [er,List.append_assoc,List.pairwise_append] at hp
       exact le_of (hp.2.2 lo3 (List.mem_of_getLast? e) sep (by simp))
   · rcases hk.2 with e | e
     · exact Or.inl e
     · exact Or.inr (le_lt hk.1 e)
  obtain ⟨j1,j2⟩ := join_law hbm hb hm'.shaped hsn ssz hin hl0
  have hcp: a1.at (c: Int) = some (L5.pageL m.toNd) := hm'.page
  have hd' := hd
  have hperm: (at_ :: (ps0 ++ u.at_ :: (ps1 ++ c :: ps2' ++ psr ++ psO'))).Perm (c :: (at_ :: (ps0 ++ (u.at_ :: (ps1 ++ ps2' ++ psr ++ psO'))))) := by
   rw [List.perm_iff_count]
   intro w
   simp only [List.count_append,List.count_cons]
   omega
  rw [hperm.nodup_iff] at hd'
  have hno := (List.nodup_cons.1 hd').1
  have oth: ∀ p ∈ at_ :: (ps0 ++ (u.at_ :: (ps1 ++ ps2' ++ psr ++ psO'))),(layN a1 c (joinK m sep n)).at (p: Int) = a1.at (p: Int) := fun p hp => layN_other hcp fun e => hno (e ▸ hp)
  have hlu': ∀ p ∈ u.at_ :: (ps1 ++ ps2' ++ psr ++ psO'),Lush (layN a1 c (joinK m sep n)) p := fun p hp => (hlu p (by simp at hp ⊢; rcases hp with h | h | h | h | h <;> simp [h])).same (oth p (by simp at hp ⊢; rcases hp with h | h | h | h | h <;> simp [h]))
  have hJl: Lush (layN a1 c (joinK m sep n)) c := lush_laid hcp j2 hz (fun hl e => by
   unfold joinK at hl e
   cases hml: m.leaf with
   | false => rw [hml] at hl; simp at hl
   | true =>
    rw [hml] at e
    simp at e
    have hnl: n.leaf = true := by
     rcases hbm.2 with ⟨x0,_⟩ | ⟨_,x1,_⟩
     · rcases hb.2 with ⟨_,x2,_⟩ | ⟨x3,_⟩
       · exact x2
       · exact absurd x0 x3
     · rw [hml] at x1; cases x1
    exact leaf_some hsn h0 hnl e.2)
  have q3' := q3.mono (P' := Sub (layN a1 c (joinK m sep n)) (h + 1)) fun _ _ _ _ _ hq kk => kk.frame fun p hpq => oth p (by simp [hq p hpq])
  have hR' := hR.mono (P' := Sub (layN a1 c (joinK m sep n)) (h + 1)) fun _ _ _ _ _ hq kk => kk.frame fun p hpq => oth p (by simp [hq p hpq])
  have hC2' := hC2.frame (a' := layN a1 c (joinK m sep n)) fun p hp => oth p (by simp [hp])
  have hJ: Sub (layN a1 c (joinK m sep n)) (h + 1) c lo3 hi (es2 ++ es) (c :: (ps2' ++ ps0)) := ⟨_,_,Holds.lay hcp j2 hz (small_of j2 (by omega)),rfl,j1.frame fun p hp => oth p (by simp at hp ⊢; rcases hp with h | h <;> simp [h])⟩
  have ecut := cut_left (u := u) (rl' := rl') (rr := rr) (s := sep) (kl' := kl') (kr := kr) (c := (c: Int)) (at_ := (at_: Int)) er ek l1 l2
  have hn2: Holds (layN a1 c (joinK m sep n)) u.at_ u.n := ⟨(oth u.at_ (by simp)).trans hn.page,hn.shaped,hn.size,hn.small⟩
  have hE: NodeE (layN a1 c (joinK m sep n)) (h + 1) (cutK u.n (u.kid - 1) u.kid) lo2 hi2 (es1 ++ ((es2 ++ es) ++ esr)) (ps1 ++ (c :: (ps2' ++ ps0) ++ psr)) := by
   rw [ecut]
   refine parent_of hn.shaped hlf hn.size hbb hh hlf ?_ ?_ (subs_tail q3' (subs_head hJ hR')) fun p hp => ?_
   · rw [er]
     exact (List.sublist_append_left _ _).append (List.Sublist.refl _)
   · rw [ek]
     simp
   · simp at hp
     rcases hp with h | h | h | h | h
     · exact hlu' p (by simp [h])
     · rw [h]; exact hJl
     · exact hlu' p (by simp [h])
     · exact (hl0 p h).same (oth p (by simp [h]))
     · exact hlu' p (by simp [h])
  have hbr: ∀ r ∈ rr,inB lo2 hi2 r /\ r.size ≠ 0 := fun r hr => ⟨hbb r (by rw [er]; simp [hr]),by have := ((shaped_recs hn.shaped).1 r (by rw [er]; simp [hr])).1; omega⟩
  have hk2: inB lo2 hi2 k := hk.wide (hL.le (fun r hr => hbb r (by rw [er]; exact List.mem_append_left _ hr))) (hR.up hbr)
  have hperm2: (at_ :: (ps0 ++ u.at_ :: (ps1 ++ c :: ps2' ++ psr ++ psO'))).Perm (u.at_ :: ((ps1 ++ (c :: (ps2' ++ ps0) ++ psr)) ++ psO') ++ [at_]) := by
   rw [List.perm_iff_count]
   intro w
   simp only [List.count_append,List.count_cons,List.count_nil]
   omega
  have hd2: (u.at_ :: ((ps1 ++ (c :: (ps2' ++ ps0) ++ psr)) ++ psO')).Nodup := by
   have := hperm2.nodup_iff.1 hd
   exact this.sublist (List.sublist_append_left _ _)
  obtain ⟨r1,r2,r3⟩ := ih hC2' hE (fun p hp => hlu' p (by simp [hp])) (fun p hp => (oth p (by simp [hp])).trans (heq p (by simp [hp]))) hk2 ⟨_,hn2.page⟩ hd2
  refine ⟨?_,fun y hy => ?_, ?_⟩
  · have hes: esL' ++ (es1 ++ es2) ++ es ++ (esr ++ esR') = esL' ++ (es1 ++ ((es2 ++ es) ++ esr)) ++ esR' := by simp
    rw [hes]
    cases o with
    | none =>
     obtain ⟨ps',f1,f2,f3⟩ := r1
     refine ⟨ps',f1,hperm2.trans ?_,f3⟩
     rw [List.perm_iff_count] at f2 ⊢
     intro w
     have := f2 w
     simp only [List.count_append,List.count_cons,List.count_nil] at this ⊢
     omega
    | some q =>
     obtain ⟨r,m2⟩ := q
     obtain ⟨h',ps',f1,f2,f3,f4⟩ := r1
     refine ⟨h',ps',f1,f2,f3,hperm2.trans ?_⟩
     rw [List.perm_iff_count] at f4 ⊢
     intro w
     have := f4 w
     simp only [List.count_append,List.count_cons,List.count_nil] at this ⊢
     omega
  · rcases List.mem_cons.1 hy with rfl | hy
    · exact ⟨j2,hz,by simp⟩
    · obtain ⟨g1,g2,g3⟩ := r2 y hy
      refine ⟨g1,g2, ?_⟩
      simp at g3 ⊢
      rcases g3 with h | h <;> simp [h]
  · rw [List.map_cons,List.nodup_cons]
    refine ⟨fun hm2 => ?_,r3⟩
    obtain ⟨y,hy,e⟩ := List.mem_map.1 hm2
    have g3 := (r2 y hy).2.2
    rw [e] at g3
    apply hno
    simp at g3 ⊢
    rcases g3 with h | h <;> simp [h]
 | @right u us at_ n L G o c m sep h0 hs hcc hm hz t ih =>
  intro a1 h lo hi es esL esR ps0 psO hC hN hlu heq hk ⟨c0,hc0⟩ hd
  obtain ⟨hb,hsn,hzn,hl0⟩ := hN.full h0
  cases hC with
  | @up _ _ _ _ lo2 hi2 _ _ rl rr esl esr esL' esR' kl kr psl psr psO' hn hlf hbb er ek e1 e2 hh hL hR hC2 =>
  have hrr: rr ≠ [] := fun e => by
   rw [er,e, <- e1] at hs
   simp at hs
  have hbr: ∀ r ∈ rr,inB lo2 hi2 r /\ r.size ≠ 0 := fun r hr => ⟨hbb r (by rw [er]; simp [hr]),by have := ((shaped_recs hn.shaped).1 r (by rw [er]; simp [hr])).1; omega⟩
  have hk2: inB lo2 hi2 k := hk.wide (hL.le (fun r hr => hbb r (by rw [er]; simp [hr]))) (hR.up hbr)
  obtain ⟨rs,c',cs,hi3,es1,es2,ps1,ps2,q1,q2,q4,q3,q5,q6,q7⟩ := hR.first hrr
  subst q1 q2 q5 q6
  have esep: sep = hi := by
   rw [er, <- e1] at hs
   simp at hs
   exact hs.symm
  have ec: c = c' := by
   rw [ek, <- e2,List.getElem?_append_right (by omega)] at hcc
   simp at hcc
   omega
  subst esep
  subst ec
  obtain ⟨m',ps1',hm',rfl,hbm⟩ := q4
  have cin: c ∈ u.at_ :: (psl ++ (c :: ps1' ++ ps2) ++ psO') := by simp
  have emm: m = m' := hm.uniq ⟨(heq c cin).symm.trans hm'.page,hm'.shaped,hm'.size,hm'.small⟩
  subst emm
  have ssz := (shaped_recs hn.shaped).1 sep (by rw [er]; simp)
  have hin: inB lo hi3 sep := by
   refine ⟨hk.gap.resolve_right (by omega), ?_⟩
   rcases q7 with ⟨_,e⟩ | e
   · rw [e]; exact (hbb sep (by rw [er]; simp)).2
   · right
     have hp := (shaped_recs hn.shaped).2
     rw [er,List.pairwise_append,List.pairwise_cons] at hp
     exact hp.2.1.1 hi3 e
  have hlm: ∀ p ∈ ps1',Lush a1 p := fun p hp => hlu p (by simp [hp])
  obtain ⟨j1,j2⟩ := join_law hb hbm hsn hm'.shaped ssz hin hlm
  have hno := (List.nodup_cons.1 hd).1
  have oth: ∀ p ∈ ps0 ++ u.at_ :: (psl ++ (c :: ps1' ++ ps2) ++ psO'),(layN a1 at_ (joinK n sep m)).at (p: Int) = a1.at (p: Int) := fun p hp => layN_other hc0 fun e => hno (e ▸ hp)
  have hlu': ∀ p ∈ u.at_ :: (psl ++ (c :: ps1' ++ ps2) ++ psO'),Lush (layN a1 at_ (joinK n sep m)) p := fun p hp => (hlu p hp).same (oth p (List.mem_append_right _ hp))
  have hJl: Lush (layN a1 at_ (joinK n sep m)) at_ := lush_laid hc0 j2 hz (fun hl e => by
   unfold joinK at hl e
   cases hnl: n.leaf with
   | false => rw [hnl] at hl; simp at hl
   | true =>
    rw [hnl] at e
    simp at e
    exact leaf_some hsn h0 hnl e.1)
  have hL' := hL.mono (P' := Sub (layN a1 at_ (joinK n sep m)) (h + 1)) fun _ _ _ _ _ hq kk => kk.frame fun p hpq => oth p (by simp [hq p hpq])
  have q3' := q3.mono (P' := Sub (layN a1 at_ (joinK n sep m)) (h + 1)) fun _ _ _ _ _ hq kk => kk.frame fun p hpq => oth p (by simp [hq p hpq])
  have hC2' := hC2.frame (a' := layN a1 at_ (joinK n sep m)) fun p hp => oth p (by simp [hp])
  have hJ: Sub (layN a1 at_ (joinK n sep m)) (h + 1) at_ lo hi3 (es ++ es1) (at_ :: (ps0 ++ ps1')) := ⟨_,_,Holds.lay hc0 j2 hz (small_of j2 (by omega)),rfl,j1.frame fun p hp => oth p (by simp at hp ⊢; rcases hp with h | h <;> simp [h])⟩
  have ecut := cut_right (u := u) (rl := rl) (rs := rs) (s := sep) (kl := kl) (kr := cs) (c := (c: Int)) (at_ := (at_: Int)) er ek e1 e2
  have hn2: Holds (layN a1 at_ (joinK n sep m)) u.at_ u.n := ⟨(oth u.at_ (by simp)).trans hn.page,hn.shaped,hn.size,hn.small⟩
  have hE: NodeE (layN a1 at_ (joinK n sep m)) (h + 1) (cutK u.n u.kid (u.kid + 1)) lo2 hi2 (esl ++ ((es ++ es1) ++ es2)) (psl ++ (at_ :: (ps0 ++ ps1') ++ ps2)) := by
   rw [ecut]
   refine parent_of hn.shaped hlf hn.size hbb hh hlf ?_ ?_ (subs_tail hL' (subs_head hJ q3')) fun p hp => ?_
   · rw [er]
     exact (List.Sublist.refl _).append (List.sublist_cons_self _ _)
   · rw [ek]
     exact (List.Sublist.refl _).append ((List.sublist_cons_self _ _).cons_cons _)
   · simp at hp
     rcases hp with h | h | h | h | h
     · exact hlu' p (by simp [h])
     · rw [h]; exact hJl
     · exact (hl0 p h).same (oth p (by simp [h]))
     · exact hlu' p (by simp [h])
     · exact hlu' p (by simp [h])
  have hperm2: (at_ :: (ps0 ++ u.at_ :: (psl ++ (c :: ps1' ++ ps2) ++ psO'))).Perm (u.at_ :: ((psl ++ (at_ :: (ps0 ++ ps1') ++ ps2)) ++ psO') ++ [c]) := by
   rw [List.perm_iff_count]
   intro w
   simp only [List.count_append,List.count_cons,List.count_nil]
   omega
  have hd2: (u.at_ :: ((psl ++ (at_ :: (ps0 ++ ps1') ++ ps2)) ++ psO')).Nodup := by
   have := hperm2.nodup_iff.1 hd
   exact this.sublist (List.sublist_append_left _ _)
  obtain ⟨r1,r2,r3⟩ := ih hC2' hE (fun p hp => hlu' p (by simp [hp])) (fun p hp => (oth p (by simp [hp])).trans (heq p (by simp [hp]))) hk2 ⟨_,hn2.page⟩ hd2
  refine ⟨?_,fun y hy => ?_, ?_⟩
  · have hes: esL' ++ esl ++ es ++ ((es1 ++ es2) ++ esR') = esL' ++ (esl ++ ((es ++ es1) ++ es2)) ++ esR' := by simp
    rw [hes]
    cases o with
    | none =>
     obtain ⟨ps',f1,f2,f3⟩ := r1
     refine ⟨ps',f1,hperm2.trans ?_,f3⟩
     rw [List.perm_iff_count] at f2 ⊢
     intro w
     have := f2 w
     simp only [List.count_append,List.count_cons,List.count_nil] at this ⊢
     omega
    | some q =>
     obtain ⟨r,m2⟩ := q
     obtain ⟨h',ps',f1,f2,f3,f4⟩ := r1
     refine ⟨h',ps',f1,f2,f3,hperm2.trans ?_⟩
     rw [List.perm_iff_count] at f4 ⊢
     intro w
     have := f4 w
     simp only [List.count_append,List.count_cons,List.count_nil] at this ⊢
     omega
  · rcases List.mem_cons.1 hy with rfl | hy
    · exact ⟨j2,hz,by simp⟩
    · obtain ⟨g1,g2,g3⟩ := r2 y hy
      refine ⟨g1,g2, ?_⟩
      simp at g3 ⊢
      rcases g3 with h | h <;> simp [h]
  · rw [List.map_cons,List.nodup_cons]
    refine ⟨fun hm2 => ?_,r3⟩
    obtain ⟨y,hy,e⟩ := List.mem_map.1 hm2
    have g3 := (r2 y hy).2.2
    rw [e] at g3
    apply hno
    simp at g3 ⊢
    rcases g3 with h | h <;> simp [h]
inductive Stl (a: Abs) (L: List (Nat × L5.No)): Nat -> Nat -> L5.No -> List Nat -> Nat -> L5.No -> Nat -> Prop
 | done {h at_: Nat} {n: L5.No} (hk: n.kids.length ≠ 1): Stl a L h at_ n [] at_ n h
 | down {h at_ c r hr: Nat} {n m nr: L5.No} {G: List Nat} (hk: n.kids = [(c: Int)]) (hm: (∃ y ∈ L,y.1 = c /\ y.2 = m) \/ ((∀ y ∈ L,y.1 ≠ c) /\ Holds a c m)) (t: Stl a L h c m G r nr hr): Stl a L (h + 1) at_ n (at_ :: G) r nr hr
theorem laidL_other (L: List (Nat × L5.No)): ∀ {a: Abs} {p: Nat},(∀ y ∈ L,∃ c,a.at (y.1: Int) = some c) -> (∀ y ∈ L,y.1 ≠ p) -> (laidL a L).at (p: Int) = a.at (p: Int) := by
 induction L with
 | nil => intro a p _ _; rfl
 | cons y L ih =>
  intro a p h1 h2
  obtain ⟨c,hc⟩ := h1 y (by simp)
  show (laidL (layN a y.1 y.2) L).at (p: Int) = _
  rw [ih (fun z hz => layN_there hc (h1 z (by simp [hz]))) (fun z hz => h2 z (by simp [hz])),layN_other hc fun e => h2 y (by simp) e.symm]
theorem laidL_there (L: List (Nat × L5.No)): ∀ {a: Abs} {p: Nat},(∀ y ∈ L,∃ c,a.at (y.1: Int) = some c) -> (∃ c,a.at (p: Int) = some c) -> ∃ c,(laidL a L).at (p: Int) = some c := by
 induction L with
 | nil => intro a p _ h; exact h
 | cons y L ih =>
  intro a p h1 h2
  obtain ⟨c,hc⟩ := h1 y (by simp)
  exact ih (fun z hz => layN_there hc (h1 z (by simp [hz]))) (layN_there hc h2)
theorem laidL_at (L: List (Nat × L5.No)): ∀ {a: Abs} {y: Nat × L5.No},(∀ y ∈ L,∃ c,a.at (y.1: Int) = some c) -> (L.map Prod.fst).Nodup -> y ∈ L -> (laidL a L).at (y.1: Int) = some (L5.pageL y.2.toNd) := by
 induction L with
 | nil => intro a y _ _ h; cases h
 | cons z L ih =>
  intro a y h1 h2 hy
  obtain ⟨c,hc⟩ := h1 z (by simp)
  rw [List.map_cons,List.nodup_cons] at h2
  have h1': ∀ y ∈ L,∃ c,(layN a z.1 z.2).at (y.1: Int) = some c := fun x hx => layN_there hc (h1 x (by simp [hx]))
  show (laidL (layN a z.1 z.2) L).at (y.1: Int) = _
  rcases List.mem_cons.1 hy with rfl | hy
  · rw [laidL_other L h1' fun x hx e => h2.1 (List.mem_map.2 ⟨x,hx,e⟩)]
    exact at_lay_same hc _
  · exact ih h1' h2.2 hy
theorem laidL_ok (L: List (Nat × L5.No)): ∀ {a: Abs},a.Ok -> (∀ y ∈ L,∃ c,a.at (y.1: Int) = some c) -> (∀ y ∈ L,y.2.size <= 1024) -> (laidL a L).Ok /\ (laidL a L).used = a.used /\ (laidL a L).q = a.q := by
 induction L with
 | nil => intro a ho _ _; exact ⟨ho,rfl,rfl⟩
 | cons y L ih =>
  intro a ho h1 h2
  obtain ⟨c,hc⟩ := h1 y (by simp)
  obtain ⟨g1,g2,g3⟩ := ih (layN_ok (n := y.2) ho hc (h2 y (by simp))) (fun z hz => layN_there hc (h1 z (by simp [hz]))) (fun z hz => h2 z (by simp [hz]))
  exact ⟨g1,g2.trans (layN_used _ _ _).1,g3.trans (layN_used _ _ _).2.1⟩
theorem stl_law {a A: Abs} {L: List (Nat × L5.No)} (hA: ∀ c m m',((∃ y ∈ L,y.1 = c /\ y.2 = m) \/ ((∀ y ∈ L,y.1 ≠ c) /\ Holds a c m)) -> Holds A c m' -> m = m') {h at_ r hr: Nat} {n nr: L5.No} {G: List Nat} (s: Stl a L h at_ n G r nr hr): ∀ {es: List ByteArray} {ps: List Nat},Body (Sub A h) h n e0 e0 es ps -> n.shaped = true -> n.size <= 1024 -> (∀ p ∈ ps,Lush A p) ->
 ∃ ps',Body (Sub A hr) hr nr e0 e0 es ps' /\ nr.shaped = true /\ nr.size <= 1024 /\ (∀ p ∈ ps',Lush A p) /\ (at_ :: ps).Perm (r :: (ps' ++ G)) /\ nr.kids.length ≠ 1 /\ ((r = at_ /\ nr = n /\ G = []) \/ (Holds A r nr /\ r ∈ ps)) := by
 induction s with
 | done hk =>
  intro es ps hb hs hz hl
  exact ⟨ps,hb,hs,hz,hl,by simp,hk,Or.inl ⟨rfl,rfl,rfl⟩⟩
 | @down h at_ c r hr n m nr G hk hm t ih =>
  intro es ps hb hs hz hl
  rcases hb.2 with ⟨e,_⟩ | ⟨_,hlf,hsu⟩
  · omega
  · have hrs: n.recs = [] := by
     have := hsu.len
     rw [hk] at this
     exact List.length_eq_zero_iff.1 (by simpa using this.symm)
    rw [hk,hrs] at hsu
    have hc: Sub A (h + 1) c e0 e0 es ps := by
     generalize hcc: ([(c: Int)]: List Int) = l at hsu
     cases hsu with
     | @one _ c' _ _ hP =>
      simp at hcc
      have: c = c' := by omega
      subst this
      exact hP
    obtain ⟨m',ps',hm',rfl,hbm⟩ := hc
    have em := hA c m m' hm hm'
    subst em
    obtain ⟨ps'',g1,g2,g3,g4,g5,g6,g7⟩ := ih hbm hm'.shaped hm'.size fun p hp => hl p (by simp [hp])
    refine ⟨ps'',g1,g2,g3,g4, ?_,g6,Or.inr ?_⟩
    · rw [List.perm_iff_count] at g5 ⊢
      intro w
      have := g5 w
      simp only [List.count_append,List.count_cons] at this ⊢
      omega
    · rcases g7 with ⟨e1,e2,_⟩ | ⟨e1,e2⟩
      · rw [e1,e2]
        exact ⟨hm',by simp⟩
      · exact ⟨e1,by simp [e2]⟩
def delK (k: ByteArray) (es: List ByteArray): List ByteArray := es.take (es.countP (ltB k)) ++ es.drop (es.countP (ltB k) + 1)
theorem delK_mid {k: ByteArray} {a b c: List ByteArray} (ha: ∀ e ∈ a,ltP e k) (hc: ∀ e ∈ c,ltP k e) (hb: b.countP (ltB k) < b.length): delK k (a ++ b ++ c) = a ++ delK k b ++ c := by
 have e1: a.countP (ltB k) = a.length := List.countP_eq_length.2 fun e he => ltB_iff.2 (ha e he)
 have e2: c.countP (ltB k) = 0 := by
  rw [List.countP_eq_zero]
  intro e he
  rw [show ltB k e = false from ltB_no.2 (le_of (hc e he))]
  decide
 unfold delK
 rw [List.countP_append,List.countP_append,e1,e2,Nat.add_zero]
 rw [List.append_assoc,List.take_append,List.take_of_length_le (by omega),List.drop_append,List.drop_of_length_le (by omega)]
 rw [show a.length + b.countP (ltB k) - a.length = b.countP (ltB k) by omega,show a.length + b.countP (ltB k) + 1 - a.length = b.countP (ltB k) + 1 by omega]
 rw [List.take_append_of_le_length (by omega),List.drop_append_of_le_length (by omega)]
 simp
structure Ruly (a: Abs) (r: Nat) (ps: List Nat): Prop where
 lush: ps.length = 1 \/ ∀ p ∈ ps,Lush a p
 root: ∀ n,Holds a r n -> n.kids.length ≠ 1
def Dels (a: Abs) (ups: List Pl) (at_: Nat) (n: L5.No) (r h: Nat) (L: List (Nat × L5.No)) (G: List Nat) (r' h': Nat): Prop :=
 (Shr a ups at_ n L G none /\ r' = r /\ h' = h) \/ ∃ L1 G1 G2 n1 n2 hr,Shr a ups at_ n L1 G1 (some (r,n1)) /\ Stl a L1 (h - 1) r n1 G2 r' n2 hr /\ G = G1 ++ G2 /\ h' = hr + 1 /\ L = if r' = r then L1 ++ [(r,n2)] else L1
theorem Ctx.kids {a: Abs} {H R: Nat} {us: List Pl} {h at_: Nat} {lo hi: ByteArray} {esL esR: List ByteArray} {psO: List Nat} (k: Ctx a H R us h at_ lo hi esL esR psO): ∀ u ∈ us,u.kid < u.n.kids.length := by
 induction k with
 | root => intro u hu; cases hu
 | up _ _ _ _ ek _ e2 _ _ _ _ ih =>
  intro u hu
  rcases List.mem_cons.1 hu with rfl | hu
  · rw [ek]; simp; omega
  · exact ih u hu
theorem Ctx.last {a: Abs} {H R: Nat} {us: List Pl} {h at_: Nat} {lo hi: ByteArray} {esL esR: List ByteArray} {psO: List Nat} (k: Ctx a H R us h at_ lo hi esL esR psO): ∀ u,us.getLast? = some u -> u.at_ = R /\ Holds a R u.n /\ u.n.leaf = false := by
 induction k with
 | root => intro u hu; cases hu
 | @up u us h at_ lo hi lo' hi' rl rr esl esr esL esR kl kr psl psr psO hn hl _ _ _ _ _ _ _ _ t ih =>
  intro v hv
  cases us with
  | nil =>
   simp at hv
   subst hv
   obtain ⟨_,e,_⟩ := t.bare
   rw [<- e]
   exact ⟨rfl,hn,hl⟩
  | cons w ws => exact ih v (by simpa using hv)
theorem cutK_kids {n: L5.No} {i kid: Nat} (h: kid < n.kids.length): (cutK n i kid).kids.length + 1 = n.kids.length := by
 unfold cutK
 simp
 omega
theorem shr_root {a: Abs} {ups: List Pl} {at_: Nat} {n: L5.No} {L: List (Nat × L5.No)} {G: List Nat} {o: Option (Nat × L5.No)} (s: Shr a ups at_ n L G o): ∀ {r: Nat} {n1: L5.No},o = some (r,n1) -> (∀ u ∈ ups,u.kid < u.n.kids.length) -> (ups = [] /\ n1 = n) \/ ∃ u,ups.getLast? = some u /\ n1.kids.length + 1 = u.n.kids.length := by
 induction s with
 | root =>
  intro r n1 ho _
  cases ho
  exact Or.inl ⟨rfl,rfl⟩
 | stay _ _ => intro r n1 ho; cases ho
 | @gone u us _ _ _ _ _ _ _ ih =>
  intro r n1 ho hk
  right
  rcases ih ho (fun v hv => hk v (by simp [hv])) with ⟨rfl,rfl⟩ | ⟨v,e1,e2⟩
  · exact ⟨u,rfl,cutK_kids (hk u (by simp))⟩
  · exact ⟨v,by rw [List.getLast?_cons,e1]; rfl,e2⟩
 | @left u us _ _ _ _ _ _ _ _ _ _ _ _ _ _ _ ih =>
  intro r n1 ho hk
  right
  rcases ih ho (fun v hv => hk v (by simp [hv])) with ⟨rfl,rfl⟩ | ⟨v,e1,e2⟩
  · exact ⟨u,rfl,cutK_kids (hk u (by simp))⟩
  · exact ⟨v,by rw [List.getLast?_cons,e1]; rfl,e2⟩
 | @right u us _ _ _ _ _ _ _ _ _ _ hcc _ _ _ ih =>
  intro r n1 ho hk
  right
  rcases ih ho (fun v hv => hk v (by simp [hv])) with ⟨rfl,rfl⟩ | ⟨v,e1,e2⟩
  · exact ⟨u,rfl,cutK_kids (List.getElem?_eq_some_iff.1 hcc).1⟩
  · exact ⟨v,by rw [List.getLast?_cons,e1]; rfl,e2⟩
theorem Ctx.rin {a: Abs} {H R: Nat} {us: List Pl} {h at_: Nat} {lo hi: ByteArray} {esL esR: List ByteArray} {psO: List Nat} (k: Ctx a H R us h at_ lo hi esL esR psO): R ∈ at_ :: psO := by
 induction k with
 | root => simp
 | up _ _ _ _ _ _ _ _ _ _ _ ih =>
  rcases List.mem_cons.1 ih with h | h
  · simp [h]
  · simp [h]
theorem shr_below {a a1: Abs} {H R: Nat} {ups: List Pl} {at_: Nat} {n: L5.No} {L: List (Nat × L5.No)} {G: List Nat} {o: Option (Nat × L5.No)} (s: Shr a ups at_ n L G o): ∀ {h: Nat} {lo hi: ByteArray} {esL esR: List ByteArray} {psO: List Nat},Ctx a1 H R ups h at_ lo hi esL esR psO -> (at_ :: psO).Nodup -> ∀ y ∈ L,y.1 ≠ R := by
 induction s with
 | root => intro _ _ _ _ _ _ _ _ y hy; cases hy
 | @stay u us at_ n _ _ =>
  intro h lo hi esL esR psO hC hd y hy
  simp at hy
  subst hy
  cases hC with
  | @up _ _ _ _ lo2 hi2 _ _ rl rr esl esr esL' esR' kl kr psl psr psO' _ _ _ _ _ _ _ _ _ _ hC2 =>
  have := hC2.rin
  intro e
  have e': at_ = R := e
  apply (List.nodup_cons.1 hd).1
  rw [e']
  simp at this ⊢
  rcases this with h | h <;> simp [h]
 | @gone u us at_ n L G o _ _ ih =>
  intro h lo hi esL esR psO hC hd y hy
  cases hC with
  | @up _ _ _ _ lo2 hi2 _ _ rl rr esl esr esL' esR' kl kr psl psr psO' _ _ _ _ _ _ _ _ _ _ hC2 =>
  refine ih hC2 ?_ y hy
  refine (List.nodup_cons.1 hd).2.sublist ?_
  exact (List.sublist_append_right _ _).cons_cons _
 | @left u us at_ n L G o c m sep _ hkd hs hcc _ _ _ ih =>
  intro h lo hi esL esR psO hC hd y hy
  cases hC with
  | @up _ _ _ _ lo2 hi2 _ _ rl rr esl esr esL' esR' kl kr psl psr psO' _ _ _ _ ek _ e2 _ hL _ hC2 =>
  have hd2 := (List.nodup_cons.1 hd).2
  rcases List.mem_cons.1 hy with rfl | hy
  · have hkl: kl ≠ [] := fun e => by rw [e] at e2; simp at e2; omega
    obtain ⟨rl',kl',c',lo3,es1,es2,ps1,ps2,q1,q2,q3,q4,q5,q6⟩ := hL.last hkl
    subst q2 q6
    have l2: kl'.length + 1 = u.kid := by simpa using e2
    have ec: c = c' := by
     rw [ek,show u.kid - 1 = kl'.length by omega] at hcc
     simp at hcc
     omega
    subst ec
    have hc: c ∈ ps1 ++ ps2 := List.mem_append_right _ q4.tall.2.2
    have := hC2.rin
    intro e
    have e': c = R := e
    rw [e'] at hc
    rw [List.nodup_cons,List.append_assoc,List.nodup_append] at hd2
    rcases List.mem_cons.1 this with h | h
    · exact hd2.1 (by rw [<- h]; simp at hc ⊢; rcases hc with h | h <;> simp [h])
    · exact hd2.2.2.2 R hc R (by simp [h]) rfl
  · refine ih hC2 ?_ y hy
    exact hd2.sublist ((List.sublist_append_right _ _).cons_cons _)
 | @right u us at_ n L G o c m sep _ hs hcc _ _ _ ih =>
  intro h lo hi esL esR psO hC hd y hy
  cases hC with
  | @up _ _ _ _ lo2 hi2 _ _ rl rr esl esr esL' esR' kl kr psl psr psO' _ _ _ _ _ _ _ _ _ _ hC2 =>
  have hd2 := (List.nodup_cons.1 hd).2
  rcases List.mem_cons.1 hy with rfl | hy
  · have := hC2.rin
    intro e
    have e': at_ = R := e
    apply (List.nodup_cons.1 hd).1
    rw [e']
    simp at this ⊢
    rcases this with h | h <;> simp [h]
  · refine ih hC2 ?_ y hy
    exact hd2.sublist ((List.sublist_append_right _ _).cons_cons _)
theorem del_law {a: Abs} {k: ByteArray} {h r: Nat} {es: List ByteArray} {ps: List Nat} {pre: List Pl} {y: Pl} {lo hi: ByteArray} {fL fR: List ByteArray} {qO: List Nat} (f: Found a k h r es ps pre y lo hi fL fR qO) (hnd: ps.Nodup) (hm: k ∈ es) (hr: Ruly a r ps) {n: L5.No} (hn: n = ⟨y.n.leaf,delK k y.n.recs,y.n.kids⟩) {L: List (Nat × L5.No)} {G: List Nat} {r' h': Nat} (d: Dels a pre.reverse y.at_ n r h L G r' h') :
 ∃ ps',Sub (laidL a L) h' r' e0 e0 (delK k es) ps' /\ ps.Perm (ps' ++ G) /\ Ruly (laidL a L) r' ps' /\ ∀ z ∈ L,z.2.shaped = true /\ z.2.size <= 1024 /\ z.1 ∈ ps := by
 obtain ⟨r1,r2⟩ := shaped_recs f.holds.shaped
 have hkd := shaped_leaf f.holds.shaped f.leaf
 have hat := (isAt_mem r2 k).2 ((isAt_mem r2 k).1 (f.mem.1 hm))
 have hcl: y.n.recs.countP (ltB k) < y.n.recs.length := by
  unfold L5.isAt at hat
  cases hx: y.n.recs[y.n.recs.countP (ltB k)]? with
  | none => rw [hx] at hat; cases hat
  | some z => exact (List.getElem?_eq_some_iff.1 hx).1
 have hsub: (delK k y.n.recs).Sublist y.n.recs := by
  unfold delK
  conv => rhs; rw [<- List.take_append_drop (y.n.recs.countP (ltB k)) y.n.recs]
  refine (List.Sublist.refl _).append ?_
  rw [<- List.drop_drop]
  exact List.drop_sublist _ _
 have hes: delK k es = fL ++ delK k y.n.recs ++ fR := by rw [f.es_,delK_mid f.lows f.highs hcl]
 have hnr: n.recs = delK k y.n.recs := by rw [hn]
 have hnl: n.leaf = true := by rw [hn]; exact f.leaf
 have hnk: n.kids = [] := by rw [hn]; exact hkd
 have hsn: n.shaped = true := shaped_mk (fun s hs => r1 s (hsub.subset (by rw [<- hnr]; exact hs))) (by rw [hnr]; exact r2.sublist hsub) (Or.inl ⟨hnl,hnk⟩)
 have hzn: n.size <= 1024 := by
  have h1 := weigh_sublist hsub
  have h2 := f.holds.size
  unfold L5.No.size at h2 ⊢
  rw [hnr,hnk]
  rw [hkd] at h2
  simp at h2 ⊢
  omega
 have hN: NodeE a 0 n lo hi (delK k y.n.recs) [] := Or.inl ⟨⟨fun e he => f.ins e (hsub.subset (by rw [<- hnr]; exact he)),Or.inl ⟨rfl,hnl,hnr.symm,rfl⟩⟩,hsn,hzn,fun p hp => by cases hp⟩
 have hlu: ∀ p ∈ qO,Lush a p := fun p hp => by
  rcases hr.lush with e | e
  · have := f.ps_.length_eq
    simp at this
    have: qO = [] := List.length_eq_zero_iff.1 (by omega)
    rw [this] at hp; cases hp
  · exact e p (f.ps_.mem_iff.2 (by simp [hp]))
 have hd: (y.at_ :: ([] ++ qO)).Nodup := by simpa using f.ps_.nodup_iff.1 hnd
 have inps: ∀ p ∈ y.at_ :: qO,p ∈ ps := fun p hp => f.ps_.mem_iff.2 hp
 rcases d with ⟨s,rfl,rfl⟩ | ⟨L1,G1,G2,n1,n2,hr2,s,st,rfl,rfl,hL⟩
 · obtain ⟨⟨ps',g1,g2,g3⟩,g4,g5⟩ := shr_law s f.ctx hN hlu (fun _ _ => rfl) f.ink ⟨_,f.holds.page⟩ hd
   have hthere: ∀ z ∈ L,∃ c,a.at (z.1: Int) = some c := fun z hz => by
    rcases List.mem_cons.1 (g4 z hz).2.2 with e | e
    · rw [e]; exact ⟨_,f.holds.page⟩
    · exact f.ctx.pages _ e
   refine ⟨ps',by rw [hes]; exact g1,f.ps_.trans (by simpa using g2),⟨Or.inr g3,fun m hm => hr.root m ⟨?_,hm.shaped,hm.size,hm.small⟩⟩,fun z hz => ⟨(g4 z hz).1,(g4 z hz).2.1,inps _ (g4 z hz).2.2⟩⟩
   rw [<- laidL_other L hthere (shr_below s f.ctx (by simpa using hd))]
   exact hm.page
 · obtain ⟨⟨h2,ps1,e1,_,g1,g2⟩,g4,g5⟩ := shr_law s f.ctx hN hlu (fun _ _ => rfl) f.ink ⟨_,f.holds.page⟩ hd
   have hthere: ∀ z ∈ L1,∃ c,a.at (z.1: Int) = some c := fun z hz => by
    rcases List.mem_cons.1 (g4 z hz).2.2 with e | e
    · rw [e]; exact ⟨_,f.holds.page⟩
    · exact f.ctx.pages _ e
   have hfull: Body (Sub (laidL a L1) h2) h2 n1 e0 e0 (fL ++ delK k y.n.recs ++ fR) ps1 /\ n1.shaped = true /\ n1.size <= 1024 /\ ∀ p ∈ ps1,Lush (laidL a L1) p := by
    rcases g1 with g1 | ⟨z1,z2,z3,_⟩
    · exact g1
    · exfalso
      rcases shr_root s rfl f.ctx.kids with ⟨_,e⟩ | ⟨u,e2,e3⟩
      · rw [e,hnl] at z3; cases z3
      · obtain ⟨q1,q2,q3⟩ := f.ctx.last u e2
        have q4 := hr.root u.n q2
        rw [z2] at e3
        simp at e3
        omega
   obtain ⟨hb1,hs1,hz1,hl1⟩ := hfull
   rw [e1,Nat.add_sub_cancel] at st
   have hA: ∀ c m m',((∃ z ∈ L1,z.1 = c /\ z.2 = m) \/ ((∀ z ∈ L1,z.1 ≠ c) /\ Holds a c m)) -> Holds (laidL a L1) c m' -> m = m' := fun c m m' hc hm' => by
    rcases hc with ⟨z,hz,rfl,rfl⟩ | ⟨hz,hc⟩
    · have := laidL_at L1 hthere g5 hz
      exact Holds.uniq (a := laidL a L1) ⟨this,(g4 z hz).1,(g4 z hz).2.1,small_of (g4 z hz).1 (by have := (g4 z hz).2.1; omega)⟩ hm'
    · exact hc.uniq ⟨(laidL_other L1 hthere hz).symm.trans hm'.page,hm'.shaped,hm'.size,hm'.small⟩
   obtain ⟨ps2,b1,b2,b3,b4,b5,b6,b7⟩ := stl_law hA st hb1 hs1 hz1 hl1
   have hperm: ps.Perm (r' :: ps2 ++ (G1 ++ G2)) := by
    refine f.ps_.trans ?_
    have g2': (y.at_ :: qO).Perm (r :: (ps1 ++ G1)) := by simpa using g2
    refine g2'.trans ?_
    rw [List.perm_iff_count] at b5 ⊢
    intro w
    have := b5 w
    simp only [List.count_append,List.count_cons] at this ⊢
    omega
   have hnd2: (r' :: ps2).Nodup := (hperm.nodup_iff.1 hnd).sublist (List.sublist_append_left _ _)
   have hrp: (r :: ps1).Nodup := by
    have g2': (y.at_ :: qO).Perm (r :: (ps1 ++ G1)) := by simpa using g2
    have := g2'.nodup_iff.1 (by simpa using hd)
    rw [<- List.cons_append] at this
    exact this.sublist (List.sublist_append_left _ _)
   have hrin: r ∈ ps := by
    have := f.ctx.rin
    exact inps r this
   by_cases er: r' = r
   · subst er
     rw [if_pos rfl] at hL
     have hG2: n2 = n1 /\ G2 = [] := by
      rcases b7 with ⟨_,q1,q2⟩ | ⟨_,q2⟩
      · exact ⟨q1,q2⟩
      · exact absurd q2 (List.nodup_cons.1 hrp).1
     obtain ⟨c,hc⟩: ∃ c,(laidL a L1).at (r': Int) = some c := laidL_there L1 hthere (by
      rcases List.mem_cons.1 f.ctx.rin with e | e
      · rw [e]; exact ⟨_,f.holds.page⟩
      · exact f.ctx.pages _ e)
     have eL: laidL a L = layN (laidL a L1) r' n2 := by rw [hL]; unfold laidL; rw [List.foldl_append]; rfl
     have oth: ∀ p ∈ ps2,(layN (laidL a L1) r' n2).at (p: Int) = (laidL a L1).at (p: Int) := fun p hp => layN_other hc fun e => (List.nodup_cons.1 hnd2).1 (e ▸ hp)
     have hH := Holds.lay (n := n2) hc b2 b3 (small_of b2 (by omega))
     rw [eL,hes]
     refine ⟨r' :: ps2,⟨n2,ps2,hH,rfl,b1.frame oth⟩,by simpa using hperm,⟨?_,fun m hm => by rw [hm.uniq hH]; exact b6⟩,fun z hz => ?_⟩
     · rcases b1.2 with ⟨_,_,_,e⟩ | ⟨_,e,_⟩
       · left; rw [e]; rfl
       · right
         intro p hp
         rcases List.mem_cons.1 hp with rfl | hp
         · intro m hm hl
           rw [hm.uniq hH,e] at hl
           cases hl
         · exact (b4 p hp).same (oth p hp)
     · rw [hL] at hz
       rcases List.mem_append.1 hz with hz | hz
       · exact ⟨(g4 z hz).1,(g4 z hz).2.1,inps _ (g4 z hz).2.2⟩
       · simp at hz
         subst hz
         exact ⟨b2,b3,hrin⟩
   · rw [if_neg er] at hL
     subst hL
     rcases b7 with ⟨q1,_,_⟩ | ⟨q1,q2⟩
     · exact absurd q1 er
     · rw [hes]
       refine ⟨r' :: ps2,⟨n2,ps2,q1,rfl,b1⟩,by simpa using hperm,⟨Or.inr fun p hp => ?_,fun m hm => by rw [hm.uniq q1]; exact b6⟩,fun z hz => ⟨(g4 z hz).1,(g4 z hz).2.1,inps _ (g4 z hz).2.2⟩⟩
       rcases List.mem_cons.1 hp with rfl | hp
       · exact hl1 _ q2
       · exact b4 p hp
def frees (a: Abs) (G: List Nat): Abs := G.foldl (fun a n => a.free n) a
theorem free_other {a: Abs} {n p: Nat} (hp: p ≠ n) (hn: 1 <= n): (a.free n).at (p: Int) = a.at (p: Int) := by
 have: (a.free n).at (p: Int) = (a.lay n none).at (p: Int) := rfl
 rw [this,at_lay_ne hp hn]
theorem frees_other (G: List Nat): ∀ {a: Abs} {p: Nat},(∀ n ∈ G,1 <= n) -> p ∉ G -> (frees a G).at (p: Int) = a.at (p: Int) := by
 induction G with
 | nil => intro a p _ _; rfl
 | cons n G ih =>
  intro a p h1 h2
  show (frees (a.free n) G).at (p: Int) = _
  rw [ih (fun m hm => h1 m (by simp [hm])) (fun h => h2 (by simp [h])),free_other (fun e => h2 (by simp [e])) (h1 n (by simp))]
theorem used_pos {a: Abs} (ho: a.Ok) {n: Nat} {c: List UInt8} (h: a.at (n: Int) = some c): 1 <= a.used := by
 obtain ⟨_,h2,h3⟩ := L4.Abs.at_some h
 have hlt: a.pg.countP Option.isNone < a.pg.length := by
  rcases Nat.lt_or_ge (a.pg.countP Option.isNone) a.pg.length with e | e
  · exact e
  · have := List.countP_eq_length.1 (Nat.le_antisymm List.countP_le_length e) _ (List.mem_of_getElem? h3)
    simp at this
 rw [ho.count] at hlt
 unfold L4.Abs.used
 omega
theorem free_used1 {a: Abs} (ho: a.Ok) {n: Nat} {c: List UInt8} (h: a.at (n: Int) = some c): (a.free n).used + 1 = a.used := by
 have h1 := used_pos ho h
 have e1: (a.free n).pg.length = a.pg.length := by simp [L4.Abs.free,L4.Abs.lay]
 have e2: (a.free n).fr.length = a.fr.length + 1 := by simp [L4.Abs.free,L4.Abs.lay]
 unfold L4.Abs.used at h1 ⊢
 rw [e1,e2]
 omega
theorem frees_ok (G: List Nat): ∀ {a: Abs},a.Ok -> G.Nodup -> (∀ n ∈ G,∃ c,a.at (n: Int) = some c) -> (frees a G).Ok /\ (frees a G).q = a.q /\ (frees a G).used + G.length = a.used := by
 induction G with
 | nil => intro a ho _ _; exact ⟨ho,rfl,rfl⟩
 | cons n G ih =>
  intro a ho hd hG
  obtain ⟨c,hc⟩ := hG n (by simp)
  rw [List.nodup_cons] at hd
  have ho': (a.free n).Ok := by
   have := ho.free hc
   simpa using this
  obtain ⟨g1,g2,g3⟩ := ih ho' hd.2 fun m hm => by
   obtain ⟨c',hc'⟩ := hG m (by simp [hm])
   have hne: m ≠ n := fun e => hd.1 (by rw [<- e]; exact hm)
   exact ⟨c',by rw [free_other hne (at_pos hc)]; exact hc'⟩
  have g4 := free_used1 ho hc
  refine ⟨g1,g2, ?_⟩
  show (frees (a.free n) G).used + (G.length + 1) = a.used
  omega
structure Shrunk (a A: Abs) (old new: List Nat): Prop where
 ok: A.Ok
 q: A.q = a.q
 nodup: new.Nodup
 sub: ∀ p ∈ new,p ∈ old
 frame: ∀ p: Nat,p ∉ old -> (∃ c,a.at (p: Int) = some c) -> A.at (p: Int) = a.at (p: Int)
 used: A.used + old.length = a.used + new.length
theorem Ruly.frame {a a': Abs} {r: Nat} {ps: List Nat} (k: Ruly a r ps) (hr: r ∈ ps) (hp: ∀ p ∈ ps,a'.at (p: Int) = a.at (p: Int)): Ruly a' r ps :=
 ⟨k.lush.imp id fun h p h2 => (h p h2).same (hp p h2),fun n hn => k.root n ⟨(hp r hr).symm.trans hn.page,hn.shaped,hn.size,hn.small⟩⟩
theorem del_tree {a: Abs} {k: ByteArray} {h r: Nat} {es: List ByteArray} {ps: List Nat} {pre: List Pl} {y: Pl} {lo hi: ByteArray} {fL fR: List ByteArray} {qO: List Nat} (f: Found a k h r es ps pre y lo hi fL fR qO) (ho: a.Ok) (hnd: ps.Nodup) (hpg: ∀ p ∈ ps,∃ c,a.at (p: Int) = some c) (hm: k ∈ es) (hr: Ruly a r ps) {n: L5.No} (hn: n = ⟨y.n.leaf,delK k y.n.recs,y.n.kids⟩) {L: List (Nat × L5.No)} {G: List Nat} {r' h': Nat} (d: Dels a pre.reverse y.at_ n r h L G r' h') :
 ∃ ps',Sub (frees (laidL a L) G) h' r' e0 e0 (delK k es) ps' /\ Shrunk a (frees (laidL a L) G) ps ps' /\ Ruly (frees (laidL a L) G) r' ps' /\ G.Nodup /\ (∀ p ∈ G,∃ c,(laidL a L).at (p: Int) = some c) /\ (∀ z ∈ L,z.2.shaped = true /\ z.2.size <= 1024 /\ ∃ c,a.at (z.1: Int) = some c) := by
 obtain ⟨ps',g1,g2,g3,g4⟩ := del_law f hnd hm hr hn d
 have hthere: ∀ z ∈ L,∃ c,a.at (z.1: Int) = some c := fun z hz => hpg _ (g4 z hz).2.2
 obtain ⟨k1,k2,k3⟩ := laidL_ok L ho hthere fun z hz => (g4 z hz).2.1
 have hnd2 := g2.nodup_iff.1 hnd
 rw [List.nodup_append] at hnd2
 have hG: ∀ p ∈ G,∃ c,(laidL a L).at (p: Int) = some c := fun p hp => laidL_there L hthere (hpg p (g2.mem_iff.2 (by simp [hp])))
 have hpos: ∀ p ∈ G,1 <= p := fun p hp => by
  obtain ⟨c,hc⟩ := hG p hp
  exact at_pos hc
 obtain ⟨j1,j2,j3⟩ := frees_ok G k1 hnd2.2.1 hG
 have fr: ∀ p ∈ ps',(frees (laidL a L) G).at (p: Int) = (laidL a L).at (p: Int) := fun p hp => frees_other G hpos fun h => hnd2.2.2 p hp p h rfl
 refine ⟨ps',g1.frame fr,⟨j1,j2.trans k3,hnd2.1,fun p hp => g2.mem_iff.2 (by simp [hp]),fun p hp _ => ?_, ?_⟩,g3.frame g1.tall.2.2 fr,hnd2.2.1,hG,fun z hz => ⟨(g4 z hz).1,(g4 z hz).2.1,hthere z hz⟩⟩
 · rw [frees_other G hpos fun h => hp (g2.mem_iff.2 (by simp [h])),laidL_other L hthere fun z hz e => hp (by rw [<- e]; exact (g4 z hz).2.2)]
 · have := g2.length_eq
   simp at this
   omega
theorem grows_turn: ∀ (ups: List Pl) {a: Abs} {at_: Nat} {n: L5.No} {c: List UInt8},a.Ok -> ups.length + 2 <= a.left -> GrowOk ups a at_ n -> n.recs ≠ [] -> a.at (at_: Int) = some c -> (∀ u ∈ ups,∃ c,a.at (u.at_: Int) = some c) -> ∀ p: Nat,(∃ c,(grows ups a at_ n).1.at (p: Int) = some c) -> (grows ups a at_ n).1.at (p: Int) ≠ a.at (p: Int) -> Good (grows ups a at_ n).1 p := by
 intro ups
 induction ups with
 | nil =>
  intro a at_ n c ho hl hG hne hat hus p hp hch
  by_cases hx: p = at_ \/ a.at (p: Int) = none
  · refine grows_good [] ho hl hG hne hat hus p ?_
    rcases hx with hx | hx
    · exact Or.inr (Or.inl hx)
    · exact Or.inr (Or.inr ⟨hx,hp⟩)
  · exfalso
    have h1: p ≠ at_ := fun e => hx (Or.inl e)
    have h2: a.at (p: Int) ≠ none := fun e => hx (Or.inr e)
    apply hch
    obtain ⟨hs,_,hd⟩ := hG
    by_cases hf: n.size <= 1024
    · rw [grows,if_pos hf]
      exact at_lay_ne h1 (at_pos hat) _
    · obtain ⟨hc,hr1,hr2⟩ := hd.resolve_left hf
      obtain ⟨n1,n2⟩ := next_pos ho
      obtain ⟨⟨z,a1⟩,a2⟩ := at_alloc ho
      have ok1 := (ho.alloc (by omega)).1
      have hnx: a.next ≠ at_ := fun e => by rw [e,hat] at n2; cases n2
      have hat1: a.alloc.at (at_: Int) = some c := by rw [a2 at_ (fun e => hnx e.symm)]; exact hat
      have hnx1: (layN a.alloc at_ (n.lo n.cut)).at (a.next: Int) = some z := by unfold layN; rw [at_lay_ne hnx (at_pos hat)]; exact a1
      have ok3 := layN_ok (n := n.hi n.cut) (layN_ok (n := n.lo n.cut) ok1 hat1 hc.lo.2.1) hnx1 hc.hi.2.1
      have e2: p ≠ a.next := fun e => h2 (by rw [e]; exact n2)
      have oth: (layN (layN a.alloc at_ (n.lo n.cut)) a.next (n.hi n.cut)).at (p: Int) = a.at (p: Int) := by
       unfold layN
       rw [at_lay_ne e2 n1,at_lay_ne h1 (at_pos hat),a2 p e2]
      rw [grows,if_neg hf]
      generalize layN (layN a.alloc at_ (n.lo n.cut)) a.next (n.hi n.cut) = a1' at *
      obtain ⟨y1,y2⟩ := next_pos ok3
      obtain ⟨⟨z',b1⟩,b2⟩ := at_alloc ok3
      have e3: p ≠ a1'.next := fun e => h2 (by rw [<- oth,e]; exact y2)
      show (layN a1'.alloc a1'.next _).at (p: Int) = _
      unfold layN
      rw [at_lay_ne e3 y1,b2 p e3,oth]
 | cons u us ih =>
  intro a at_ n c ho hl hG hne hat hus p hp hch
  by_cases hx: p = at_ \/ a.at (p: Int) = none
  · refine grows_good (u :: us) ho hl hG hne hat hus p ?_
    rcases hx with hx | hx
    · exact Or.inr (Or.inl hx)
    · exact Or.inr (Or.inr ⟨hx,hp⟩)
  · have h1: p ≠ at_ := fun e => hx (Or.inl e)
    have h2: a.at (p: Int) ≠ none := fun e => hx (Or.inr e)
    obtain ⟨hs,_,hd⟩ := hG
    by_cases hf: n.size <= 1024
    · exfalso
      apply hch
      rw [grows,if_pos hf]
      exact at_lay_ne h1 (at_pos hat) _
    · obtain ⟨hc,_,_,_,hG'⟩ := hd.resolve_left hf
      obtain ⟨n1,n2⟩ := next_pos ho
      obtain ⟨⟨z,a1⟩,a2⟩ := at_alloc ho
      have ok1 := (ho.alloc (by omega)).1
      have hnx: a.next ≠ at_ := fun e => by rw [e,hat] at n2; cases n2
      have hat1: a.alloc.at (at_: Int) = some c := by rw [a2 at_ (fun e => hnx e.symm)]; exact hat
      have hnx1: (layN a.alloc at_ (n.lo n.cut)).at (a.next: Int) = some z := by unfold layN; rw [at_lay_ne hnx (at_pos hat)]; exact a1
      have e: grows (u :: us) a at_ n = grows us (layN (layN a.alloc at_ (n.lo n.cut)) a.next (n.hi n.cut)) u.at_ (addK u (sepOf n) a.next) := by rw [grows,if_neg hf]
      rw [e] at hp hch ⊢
      have ok3 := layN_ok (n := n.hi n.cut) (layN_ok (n := n.lo n.cut) ok1 hat1 hc.lo.2.1) hnx1 hc.hi.2.1
      have hlf: (layN (layN a.alloc at_ (n.lo n.cut)) a.next (n.hi n.cut)).left = a.left - 1 := by rw [(layN_used _ _ _).2.2,(layN_used _ _ _).2.2,left_alloc ho]
      have oth: ∀ p: Nat,p ≠ at_ -> p ≠ a.next -> (layN (layN a.alloc at_ (n.lo n.cut)) a.next (n.hi n.cut)).at (p: Int) = a.at (p: Int) := fun p h1 h2 => by
       unfold layN
       rw [at_lay_ne h2 n1,at_lay_ne h1 (at_pos hat),a2 p h2]
      have hatA: (layN (layN a.alloc at_ (n.lo n.cut)) a.next (n.hi n.cut)).at (at_: Int) = some (L5.pageL (n.lo n.cut).toNd) := by
       show ((layN a.alloc at_ (n.lo n.cut)).lay a.next _).at (at_: Int) = _
       rw [at_lay_ne (fun e => hnx e.symm) n1]
       exact at_lay_same hat1 _
      generalize layN (layN a.alloc at_ (n.lo n.cut)) a.next (n.hi n.cut) = a1' at *
      have use1: ∀ q: Nat,(∃ c,a.at (q: Int) = some c) -> ∃ c,a1'.at (q: Int) = some c := fun q ⟨c',hq⟩ => by
       by_cases e1: q = at_
       · subst e1; exact ⟨_,hatA⟩
       · have e2: q ≠ a.next := fun e => by rw [e,n2] at hq; cases hq
         exact ⟨c',by rw [oth q e1 e2]; exact hq⟩
      obtain ⟨cu,hcu⟩ := use1 u.at_ (hus u (by simp))
      have e2: p ≠ a.next := fun e => h2 (by rw [e]; exact n2)
      refine ih ok3 (by simp at hl; omega) hG' (by simp [addK]) hcu (fun v hv => use1 v.at_ (hus v (by simp [hv]))) p hp ?_
      rw [oth p h1 e2]
      exact hch
theorem Good.lush {a: Abs} {p: Nat} (h: Good a p): Lush a p := fun n hn _ => by
 obtain ⟨m,h1,h2⟩ := h
 rw [hn.uniq h1]
 exact h2
theorem Good.kids {a: Abs} {p: Nat} (h: Good a p): ∀ n,Holds a p n -> n.kids.length ≠ 1 := fun n hn => by
 obtain ⟨m,h1,h2⟩ := h
 have e := hn.uniq h1
 subst e
 cases hl: n.leaf with
 | true => rw [shaped_leaf hn.shaped hl]; simp
 | false =>
  rw [(shaped_kids hn.shaped hl).2]
  intro e
  exact h2 (List.length_eq_zero_iff.1 (by omega))
theorem ruly_ins {a A: Abs} {r r' at_: Nat} {ps ps': List Nat} (k: Ruly a r ps) (hch: ∀ p: Nat,(∃ c,A.at (p: Int) = some c) -> A.at (p: Int) ≠ a.at (p: Int) -> Good A p) (hat: Good A at_) (h1: at_ ∈ ps) (hps: ∀ p ∈ ps',∃ c,A.at (p: Int) = some c) (hfr: ∀ p ∈ ps',p ∈ ps \/ a.at (p: Int) = none) (hr: r' ∈ ps') (hrr: r' = r \/ a.at (r': Int) = none): Ruly A r' ps' := by
 have key: ∀ p ∈ ps',A.at (p: Int) = a.at (p: Int) \/ Good A p := fun p hp => by
  by_cases e: A.at (p: Int) = a.at (p: Int)
  · exact Or.inl e
  · exact Or.inr (hch p (hps p hp) e)
 refine ⟨Or.inr fun p hp => ?_,fun n hn => ?_⟩
 · rcases key p hp with e | e
   · rcases hfr p hp with hq | hq
     · rcases k.lush with hl | hl
       · have: p = at_ := by
          cases ps with
          | nil => cases hq
          | cons z l =>
           have hl0: l = [] := List.length_eq_zero_iff.1 (by simpa using hl)
           subst hl0
           simp at hq h1
           rw [hq,h1]
         rw [this]
         exact hat.lush
       · exact (hl p hq).same e
     · obtain ⟨c,hc⟩ := hps p hp
       rw [e,hq] at hc; cases hc
   · exact e.lush
 · rcases key r' hr with e | e
   · rcases hrr with rfl | hq
     · exact k.root n ⟨e.symm.trans hn.page,hn.shaped,hn.size,hn.small⟩
     · rw [hn.page] at e
       rw [hq] at e; cases e
   · exact e.kids n hn
def Beside (a: Abs) (u: Pl) (lf: Bool): Prop :=
 (1 <= u.kid -> ∃ (c: Nat) (m: L5.No) (sep: ByteArray),u.n.recs[u.kid - 1]? = some sep /\ u.n.kids[u.kid - 1]? = some (c: Int) /\ Holds a c m /\ m.leaf = lf) /\
 (u.kid < u.n.recs.length -> ∃ (c: Nat) (m: L5.No) (sep: ByteArray),u.n.recs[u.kid]? = some sep /\ u.n.kids[u.kid + 1]? = some (c: Int) /\ Holds a c m /\ m.leaf = lf)
def UpsOk (a: Abs): List Pl -> Nat -> Bool -> Prop
 | [],_,_ => True
 | u :: us,at_,lf => (u.n.leaf = false /\ u.n.shaped = true /\ u.n.size <= 1024 /\ u.n.kids[u.kid]? = some (at_: Int) /\ u.kid <= u.n.recs.length /\ Beside a u lf) /\ UpsOk a us u.at_ false
theorem Sub.leaf_of {a: Abs} {h c: Nat} {lo hi: ByteArray} {es: List ByteArray} {ps: List Nat} (k: Sub a h c lo hi es ps): ∃ m,Holds a c m /\ m.leaf = decide (h = 1) := by
 cases h with
 | zero => exact k.elim
 | succ h =>
  obtain ⟨m,ps',hm,_,hb⟩ := k
  refine ⟨m,hm, ?_⟩
  rcases hb.2 with ⟨e,hl,_⟩ | ⟨e,hl,_⟩
  · subst e; simpa using hl
  · rw [hl]; symm; simpa using e
theorem ups_of {a: Abs} {H R: Nat} {us: List Pl} {h at_: Nat} {lo hi: ByteArray} {esL esR: List ByteArray} {psO: List Nat} (k: Ctx a H R us h at_ lo hi esL esR psO): UpsOk a us at_ (decide (h = 1)) := by
 induction k with
 | root => trivial
 | @up u us h at_ lo hi lo' hi' rl rr esl esr esL esR kl kr psl psr psO hn hl hb er ek e1 e2 hh hL hR t ih =>
  have hlen := (shaped_kids hn.shaped hl).2
  have hkl := hL.len
  refine ⟨⟨hl,hn.shaped,hn.size, ?_, ?_, ?_, ?_⟩, ?_⟩
  · rw [ek, <- e2,List.getElem?_append_right (Nat.le_refl _)]; simp
  · rw [er]; simp; omega
  · intro h1
    have hne: kl ≠ [] := by intro e; rw [e] at e2; simp at e2; omega
    obtain ⟨rl',kl',c,lo2,es1,es2,ps1,ps2,q1,q2,q3,q4,q5,q6⟩ := hL.last hne
    obtain ⟨m,hm,hml⟩ := q4.leaf_of
    refine ⟨c,m,lo', ?_, ?_,hm,hml⟩
    · rw [er,q1,List.append_assoc,List.getElem?_append_right (by rw [q1] at e1; simp at e1; omega)]
      rw [q1] at e1; simp at e1
      rw [show u.kid - 1 - rl'.length = 0 by omega]; simp
    · rw [ek,q2,List.append_assoc,List.getElem?_append_right (by rw [q2] at e2; simp at e2; omega)]
      rw [q2] at e2; simp at e2
      rw [show u.kid - 1 - kl'.length = 0 by omega]; simp
  · intro h1
    have hne: rr ≠ [] := by intro e; rw [er,e] at h1; simp at h1; omega
    obtain ⟨rs,c,cs,hi3,es1,es2,ps1,ps2,q1,q2,q3,_⟩ := hR.first hne
    obtain ⟨m,hm,hml⟩ := q3.leaf_of
    refine ⟨c,m,hi', ?_, ?_,hm,hml⟩
    · rw [er,q1, <- e1,List.getElem?_append_right (Nat.le_refl _)]; simp
    · rw [ek,q2, <- e2,List.getElem?_append_right (by omega)]
      rw [show kl.length + 1 - kl.length = 1 by omega]; simp
  · have e: decide (h + 1 = 1) = false := by simpa using hh
    rw [e] at ih
    exact ih
def NodeAt (a: Abs) (L: List (Nat × L5.No)) (c: Nat) (m: L5.No): Prop := (∃ L1 L2,L = L1 ++ (c,m) :: L2 /\ ∀ y ∈ L1,y.1 ≠ c) \/ ((∀ y ∈ L,y.1 ≠ c) /\ Holds a c m)
theorem NodeAt.stl {a: Abs} {L: List (Nat × L5.No)} {c: Nat} {m: L5.No} (h: NodeAt a L c m): (∃ y ∈ L,y.1 = c /\ y.2 = m) \/ ((∀ y ∈ L,y.1 ≠ c) /\ Holds a c m) := by
 rcases h with ⟨L1,L2,rfl,_⟩ | h
 · exact Or.inl ⟨(c,m),by simp,rfl,rfl⟩
 · exact Or.inr h
def SetOk (a: Abs) (L: List (Nat × L5.No)) (R: Nat): Nat -> L5.No -> Prop
 | 0,n => n.kids.length ≠ 1
 | h + 1,n => ∀ c,n.kids = [c] -> ∃ (p: Nat) (m: L5.No),c = (p: Int) /\ p ≠ R /\ NodeAt a L p m /\ m.small /\ m.shaped = true /\ m.size <= 1024 /\ m.leaf = decide (h = 0) /\ SetOk a L R h m
theorem first_of {c: Nat}: ∀ {L: List (Nat × L5.No)},(∃ y ∈ L,y.1 = c) -> ∃ m L1 L2,L = L1 ++ (c,m) :: L2 /\ ∀ y ∈ L1,y.1 ≠ c
 | [],⟨y,hy,_⟩ => by cases hy
 | z :: L,h => by
  by_cases e: z.1 = c
  · exact ⟨z.2,[],L,by rw [<- e]; rfl,fun y hy => by cases hy⟩
  · obtain ⟨m,L1,L2,h1,h2⟩ := first_of (L := L) (by
     obtain ⟨y,hy,hc⟩ := h
     rcases List.mem_cons.1 hy with rfl | hy
     · exact absurd hc e
     · exact ⟨y,hy,hc⟩)
    exact ⟨m,z :: L1,L2,by rw [h1]; rfl,fun y hy => by
     rcases List.mem_cons.1 hy with rfl | hy
     · exact e
     · exact h2 y hy⟩
theorem node_at {a: Abs} {L: List (Nat × L5.No)} (h1: ∀ y ∈ L,∃ c,a.at (y.1: Int) = some c) (h2: (L.map Prod.fst).Nodup) (h3: ∀ y ∈ L,y.2.shaped = true /\ y.2.size <= 1024) {c: Nat} {m: L5.No} (hm: Holds (laidL a L) c m): NodeAt a L c m := by
 by_cases h: ∃ y ∈ L,y.1 = c
 · left
   obtain ⟨m',L1,L2,e,hn⟩ := first_of h
   have hmem: (c,m') ∈ L := by rw [e]; simp
   have hz := h3 _ hmem
   have hh: Holds (laidL a L) c m' := ⟨laidL_at L h1 h2 hmem,hz.1,hz.2,small_of hz.1 (Nat.le_trans hz.2 (by decide))⟩
   rw [hm.uniq hh]
   exact ⟨L1,L2,e,hn⟩
 · right
   have hn: ∀ y ∈ L,y.1 ≠ c := fun y hy e => h ⟨y,hy,e⟩
   exact ⟨hn,⟨(laidL_other L h1 hn).symm.trans hm.page,hm.shaped,hm.size,hm.small⟩⟩
theorem set_of {a A: Abs} {L: List (Nat × L5.No)} {R: Nat} (hA: ∀ c m,Holds A c m -> NodeAt a L c m): ∀ {h: Nat} {n: L5.No} {lo hi: ByteArray} {es: List ByteArray} {ps: List Nat},Body (Sub A h) h n lo hi es ps -> n.shaped = true -> R ∉ ps -> SetOk a L R h n
 | 0,n,lo,hi,es,ps,hb,hs,_ => by
  rcases hb.2 with ⟨_,hl,_⟩ | ⟨e,_⟩
  · show n.kids.length ≠ 1
    rw [shaped_leaf hs hl]; decide
  · exact absurd rfl e
 | h + 1,n,lo,hi,es,ps,hb,hs,hR => by
  intro c hk
  rcases hb.2 with ⟨e,_⟩ | ⟨_,hlf,hsu⟩
  · omega
  · have hrs: n.recs = [] := by
     have := hsu.len
     rw [hk] at this
     exact List.length_eq_zero_iff.1 (by simpa using this.symm)
    rw [hk,hrs] at hsu
    obtain ⟨c',hc',hP⟩: ∃ c': Nat,c = (c': Int) /\ Sub A (h + 1) c' lo hi es ps := by
     generalize hcc: ([c]: List Int) = l at hsu
     cases hsu with
     | @one _ c' _ _ hP =>
      simp at hcc
      exact ⟨c',hcc,hP⟩
    obtain ⟨m,ps',hm,rfl,hbm⟩ := hP
    refine ⟨c',m,hc',fun e => hR (by simp [e]),hA _ _ hm,hm.small,hm.shaped,hm.size, ?_,set_of hA hbm hm.shaped fun e => hR (by simp [e])⟩
    rcases hbm.2 with ⟨e,hl,_⟩ | ⟨e,hl,_⟩
    · subst e; simpa using hl
    · rw [hl]; symm; simpa using e
def DelR (a: Abs) (ups: List Pl) (at_: Nat) (n: L5.No) (xr xh: Nat) (LD: List (Nat × L5.No)) (GD: List Nat) (LD': List (Nat × L5.No)) (GD': List Nat) (xr' xh': Nat): Prop :=
 (∃ L G,Shr a ups at_ n L G none /\ LD' = LD ++ L /\ GD' = GD ++ G /\ xr' = xr /\ xh' = xh) \/
 ∃ L1 G1 G2 n1 n2 hr,Shr a ups at_ n L1 G1 (some (xr,n1)) /\ Stl a (LD ++ L1) (xh - 1) xr n1 G2 xr' n2 hr /\ GD' = GD ++ (G1 ++ G2) /\ xh' = hr + 1 /\ LD' = if xr' = xr then LD ++ L1 ++ [(xr,n2)] else LD ++ L1
theorem DelR.dels {a: Abs} {ups: List Pl} {at_: Nat} {n: L5.No} {xr xh: Nat} {L: List (Nat × L5.No)} {G: List Nat} {xr' xh': Nat} (d: DelR a ups at_ n xr xh [] [] L G xr' xh'): Dels a ups at_ n xr xh L G xr' xh' := by
 rcases d with ⟨L1,G1,s,rfl,rfl,rfl,rfl⟩ | ⟨L1,G1,G2,n1,n2,hr,s,st,rfl,rfl,hL⟩
 · exact Or.inl ⟨by simpa using s,rfl,rfl⟩
 · exact Or.inr ⟨L1,G1,G2,n1,n2,hr,s,by simpa using st,by simp,rfl,by simpa using hL⟩
theorem DelR.step {a: Abs} {u: Pl} {us: List Pl} {at_: Nat} {n c: L5.No} {xr xh: Nat} {LD LD' y: List (Nat × L5.No)} {GD GD': List Nat} {z xr' xh': Nat} (d: DelR a us u.at_ c xr xh (LD ++ y) (GD ++ [z]) LD' GD' xr' xh') (hs: ∀ L G o,Shr a us u.at_ c L G o -> Shr a (u :: us) at_ n (y ++ L) (z :: G) o): DelR a (u :: us) at_ n xr xh LD GD LD' GD' xr' xh' := by
 rcases d with ⟨L1,G1,s,rfl,rfl,rfl,rfl⟩ | ⟨L1,G1,G2,n1,n2,hr,s,st,rfl,rfl,hL⟩
 · exact Or.inl ⟨_,_,hs _ _ _ s,by simp,by simp,rfl,rfl⟩
 · refine Or.inr ⟨_,_,G2,n1,n2,hr,hs _ _ _ s,by simpa using st,by simp,rfl, ?_⟩
   rw [hL]
   simp
theorem shr_found {a: Abs} {k: ByteArray} {h r: Nat} {es: List ByteArray} {ps: List Nat} {pre: List Pl} {y: Pl} {lo hi: ByteArray} {fL fR: List ByteArray} {qO: List Nat} (f: Found a k h r es ps pre y lo hi fL fR qO) (hnd: ps.Nodup) (hr: Ruly a r ps) {n: L5.No} (hn: n = ⟨y.n.leaf,delK k y.n.recs,y.n.kids⟩) {L: List (Nat × L5.No)} {G: List Nat} {o: Option (Nat × L5.No)} (s: Shr a pre.reverse y.at_ n L G o) :
 ShrR a L G h r (fL ++ delK k y.n.recs ++ fR) (y.at_ :: ([] ++ qO)) o /\ (∀ z ∈ L,z.2.shaped = true /\ z.2.size <= 1024 /\ z.1 ∈ y.at_ :: qO) /\ (L.map Prod.fst).Nodup /\ ∀ z ∈ L,∃ c,a.at (z.1: Int) = some c := by
 obtain ⟨r1,r2⟩ := shaped_recs f.holds.shaped
 have hkd := shaped_leaf f.holds.shaped f.leaf
 have hsub: (delK k y.n.recs).Sublist y.n.recs := by
  unfold delK
  conv => rhs; rw [<- List.take_append_drop (y.n.recs.countP (ltB k)) y.n.recs]
  refine (List.Sublist.refl _).append ?_
  rw [<- List.drop_drop]
  exact List.drop_sublist _ _
 have hnr: n.recs = delK k y.n.recs := by rw [hn]
 have hnl: n.leaf = true := by rw [hn]; exact f.leaf
 have hnk: n.kids = [] := by rw [hn]; exact hkd
 have hsn: n.shaped = true := shaped_mk (fun s hs => r1 s (hsub.subset (by rw [<- hnr]; exact hs))) (by rw [hnr]; exact r2.sublist hsub) (Or.inl ⟨hnl,hnk⟩)
 have hzn: n.size <= 1024 := by
  have h1 := weigh_sublist hsub
  have h2 := f.holds.size
  unfold L5.No.size at h2 ⊢
  rw [hnr,hnk]
  rw [hkd] at h2
  simp at h2 ⊢
  omega
 have hN: NodeE a 0 n lo hi (delK k y.n.recs) [] := Or.inl ⟨⟨fun e he => f.ins e (hsub.subset (by rw [<- hnr]; exact he)),Or.inl ⟨rfl,hnl,hnr.symm,rfl⟩⟩,hsn,hzn,fun p hp => by cases hp⟩
 have hlu: ∀ p ∈ qO,Lush a p := fun p hp => by
  rcases hr.lush with e | e
  · have := f.ps_.length_eq
    simp at this
    have: qO = [] := List.length_eq_zero_iff.1 (by omega)
    rw [this] at hp; cases hp
  · exact e p (f.ps_.mem_iff.2 (by simp [hp]))
 have hd: (y.at_ :: ([] ++ qO)).Nodup := by simpa using f.ps_.nodup_iff.1 hnd
 obtain ⟨g1,g4,g5⟩ := shr_law s f.ctx hN hlu (fun _ _ => rfl) f.ink ⟨_,f.holds.page⟩ hd
 refine ⟨g1,g4,g5,fun z hz => ?_⟩
 rcases List.mem_cons.1 (g4 z hz).2.2 with e | e
 · rw [e]; exact ⟨_,f.holds.page⟩
 · exact f.ctx.pages _ e
theorem Found.setOk {a: Abs} {k: ByteArray} {h r: Nat} {es: List ByteArray} {ps: List Nat} {pre: List Pl} {y: Pl} {lo hi: ByteArray} {fL fR: List ByteArray} {qO: List Nat} (f: Found a k h r es ps pre y lo hi fL fR qO) (hnd: ps.Nodup) (hr: Ruly a r ps) {n: L5.No} (hn: n = ⟨y.n.leaf,delK k y.n.recs,y.n.kids⟩) {L1: List (Nat × L5.No)} {G1: List Nat} {r1: Nat} {n1: L5.No} (s: Shr a pre.reverse y.at_ n L1 G1 (some (r1,n1))): r1 = r /\ SetOk a L1 r (h - 1) n1 := by
 obtain ⟨⟨h2,ps1,e1,e2,g1,g2⟩,g4,g5,hthere⟩ := shr_found f hnd hr hn s
 have hd: (y.at_ :: ([] ++ qO)).Nodup := by simpa using f.ps_.nodup_iff.1 hnd
 have hR: r ∉ ps1 := fun e => by
  have := (List.nodup_cons.1 (g2.nodup_iff.1 hd)).1
  exact this (by simp [e])
 refine ⟨e2, ?_⟩
 rw [e1,Nat.add_sub_cancel]
 rcases g1 with g1 | ⟨z1,z2,_⟩
 · exact set_of (fun c m hm => node_at hthere g5 (fun z hz => ⟨(g4 z hz).1,(g4 z hz).2.1⟩) hm) g1.1 g1.2.1 hR
 · cases h2 with
   | zero => show n1.kids.length ≠ 1; rw [z2]; decide
   | succ h2 => intro c hc; rw [z2] at hc; cases hc
end Go.Proofs.YtdnkbdjhccckhaaGreat
