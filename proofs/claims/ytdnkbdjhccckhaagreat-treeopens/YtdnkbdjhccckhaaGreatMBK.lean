import Derived.Test.YtdnkbdjhccckhaaGreatMAX
import Derived.Test.YtdnkbdjhccckhaaGreatMAZ
namespace Go.Proofs.YtdnkbdjhccckhaaGreat
open Go.RowKit
open L4 (Abs)
open L5 (ltP ltB leB)
def Zer (a: Abs) (p: Nat): Prop := ∃ n,Holds a p n /\ n.leaf = false /\ n.recs = []
def Cov (a: Abs) (ps Z: List Nat): Prop := ∀ p ∈ ps,Zer a p -> p ∈ Z
def zc (Z ps: List Nat): Nat := ps.countP fun p => decide (p ∈ Z)
theorem zc_app (Z p q: List Nat): zc Z (p ++ q) = zc Z p + zc Z q := List.countP_append
theorem zc_cons (Z: List Nat) (p: Nat) (q: List Nat): zc Z q <= zc Z (p :: q) /\ (p ∈ Z -> zc Z (p :: q) = zc Z q + 1) := by
 unfold zc
 refine ⟨?_,fun h => by simp [h]⟩
 rw [List.countP_cons]
 omega
theorem zc_perm {Z p q: List Nat} (h: p.Perm q): zc Z p = zc Z q := h.countP_eq _
theorem zc_le: ∀ {ps: List Nat} {Z: List Nat},ps.Nodup -> zc Z ps <= Z.length := by
 intro ps
 induction ps with
 | nil => intro Z _; exact Nat.zero_le _
 | cons p ps ih =>
  intro Z hd
  rw [List.nodup_cons] at hd
  by_cases hp: p ∈ Z
  · rw [(zc_cons Z p ps).2 hp]
    have h1 := ih (Z := Z.erase p) hd.2
    have h2: zc (Z.erase p) ps = zc Z ps := by
     unfold zc
     refine List.countP_congr fun q hq => ?_
     have hne: q ≠ p := fun e => hd.1 (e ▸ hq)
     simp [List.mem_erase_of_ne hne]
    have h3 := List.length_erase_of_mem hp
    have h4 := List.length_pos_of_mem hp
    omega
  · have h1 := ih (Z := Z) hd.2
    have h2: zc Z (p :: ps) = zc Z ps := by unfold zc; simp [hp]
    omega
theorem Subs.weight {a: Abs} {h: Nat} {Z: List Nat} {hi lo: ByteArray} {rs es: List ByteArray} {cs: List Int} {ps: List Nat} (k: Subs (Sub a h) hi lo rs cs es ps): (∀ c lo hi es q,(∀ p ∈ q,p ∈ ps) -> Sub a h c lo hi es q -> 2 * h - 2 <= es.length + 2 * zc Z q) -> (rs.length + 1) * (2 * h - 2) <= es.length + 2 * zc Z ps := by
 induction k with
 | one hP => intro H; have := H _ _ _ _ _ (fun p hp => hp) hP; simpa using this
 | more hP t ih =>
  intro H
  have h1 := H _ _ _ _ _ (fun p hp => List.mem_append_left _ hp) hP
  have h2 := ih fun c lo hi es q hq hs => H c lo hi es q (fun p hp => List.mem_append_right _ (hq p hp)) hs
  rw [zc_app,List.length_append,List.length_cons,Nat.succ_mul]
  omega
theorem Subs.weight1 {a: Abs} {Z: List Nat} {hi lo: ByteArray} {rs es: List ByteArray} {cs: List Int} {ps: List Nat} (k: Subs (Sub a 1) hi lo rs cs es ps): (∀ p ∈ ps,Lush a p) -> rs.length + 1 <= es.length + 2 * zc Z ps := by
 induction k with
 | one hP =>
  intro H
  have := List.length_pos_iff.2 (hP.some_ H)
  simp
  omega
 | more hP t ih =>
  intro H
  have h1 := List.length_pos_iff.2 (hP.some_ fun p hp => H p (List.mem_append_left _ hp))
  have h2 := ih fun p hp => H p (List.mem_append_right _ hp)
  rw [zc_app,List.length_append,List.length_cons]
  omega
theorem Sub.weight {a: Abs} {Z: List Nat}: ∀ {h at_: Nat} {lo hi: ByteArray} {es: List ByteArray} {ps: List Nat},Sub a h at_ lo hi es ps -> (∀ p ∈ ps,Lush a p) -> Cov a ps Z -> 2 * h - 2 <= es.length + 2 * zc Z ps := by
 intro h
 induction h with
 | zero => intro _ _ _ _ _ k; exact k.elim
 | succ h ih =>
  intro at_ lo hi es ps k hl hz
  obtain ⟨n,ps',hn,rfl,hb,hc⟩ := k
  rcases hc with ⟨h0,_⟩ | ⟨h0,hlf,hs⟩
  · omega
  · have hl': ∀ p ∈ ps',Lush a p := fun p hp => hl p (by simp [hp])
    have hkl := (shaped_kids hn.shaped hlf).2
    have hw := hs.weight (Z := Z) fun c lo hi es q hq hs => ih hs (fun p hp => hl' p (hq p hp)) (fun p hp => hz p (by simp [hq p hp]))
    have hle := (zc_cons Z at_ ps').1
    by_cases hr: n.recs = []
    · have he := (zc_cons Z at_ ps').2 (hz at_ (by simp) ⟨n,hn,hlf,hr⟩)
      rw [hr] at hw
      simp at hw
      omega
    · have hp := List.length_pos_iff.2 hr
      by_cases h1: h = 1
      · subst h1
        have := hs.weight1 (Z := Z) hl'
        omega
      · have: 2 * (2 * h - 2) <= (n.recs.length + 1) * (2 * h - 2) := Nat.mul_le_mul_right _ (by omega)
        omega
def fullH (h: Nat): Nat := 2 * ((h - 1) * (h - 2))
theorem fullH_succ (h: Nat) (hh: h ≠ 0): fullH (h + 1) = fullH h + 2 * (2 * h - 2) := by
 unfold fullH
 obtain ⟨m,rfl⟩: ∃ m,h = m + 1 := ⟨h - 1,by omega⟩
 cases m with
 | zero => rfl
 | succ m =>
  have e1: (m + 1 + 1 + 1 - 1) * (m + 1 + 1 + 1 - 2) = (m + 1) * m + 2 * (m + 1) := by
   rw [show m + 1 + 1 + 1 - 1 = m + 2 by omega,show m + 1 + 1 + 1 - 2 = m + 1 by omega]
   simp only [Nat.add_mul,Nat.mul_add]
   omega
  have e2: (m + 1 + 1 - 1) * (m + 1 + 1 - 2) = (m + 1) * m := by
   rw [show m + 1 + 1 - 1 = m + 1 by omega,show m + 1 + 1 - 2 = m by omega]
  rw [e1,e2]
  omega
theorem SubL.weight {a: Abs} {h: Nat} {Z: List Nat} {lo' lo: ByteArray} {rs es: List ByteArray} {cs: List Int} {ps: List Nat} (k: SubL (Sub a h) lo' lo rs cs es ps): (∀ p ∈ ps,Lush a p) -> Cov a ps Z -> rs.length * (2 * h - 2) <= es.length + 2 * zc Z ps := by
 induction k with
 | nil => intro _ _; simp
 | cons hP t ih =>
  intro h1 h2
  have g1 := hP.weight (Z := Z) (fun p hp => h1 p (List.mem_append_left _ hp)) (fun p hp => h2 p (List.mem_append_left _ hp))
  have g2 := ih (fun p hp => h1 p (List.mem_append_right _ hp)) (fun p hp => h2 p (List.mem_append_right _ hp))
  rw [zc_app,List.length_append,List.length_cons,Nat.succ_mul]
  omega
theorem SubR.weight {a: Abs} {h: Nat} {Z: List Nat} {hi' hi: ByteArray} {rs es: List ByteArray} {cs: List Int} {ps: List Nat} (k: SubR (Sub a h) hi' hi rs cs es ps) (h1: ∀ p ∈ ps,Lush a p) (h2: Cov a ps Z): rs.length * (2 * h - 2) <= es.length + 2 * zc Z ps := by
 rcases k with ⟨rfl,rfl,rfl,rfl,_⟩ | ⟨rs',rfl,k⟩
 · simp
 · have := k.weight (Z := Z) fun c lo hi es q hq hs => hs.weight (fun p hp => h1 p (hq p hp)) (fun p hp => h2 p (hq p hp))
   rw [List.length_cons]
   exact this
theorem Ctx.weight {a: Abs} {H R: Nat} {Z: List Nat} {us: List Pl} {h at_: Nat} {lo hi: ByteArray} {esL esR: List ByteArray} {psO: List Nat} (k: Ctx a H R us h at_ lo hi esL esR psO): (∀ p ∈ psO,Lush a p) -> Cov a psO Z -> (∀ u ∈ us,2 <= u.n.recs.length) -> fullH H <= fullH h + esL.length + esR.length + 2 * zc Z psO := by
 induction k with
 | root => intro _ _ _; omega
 | @up u us h at_ lo hi lo' hi' rl rr esl esr esL esR kl kr psl psr psO hn hl hb er ek e1 e2 hh hL hR t ih =>
  intro h1 h2 h3
  have g0 := ih (fun p hp => h1 p (by simp [hp])) (fun p hp => h2 p (by simp [hp])) (fun v hv => h3 v (by simp [hv]))
  have gL := hL.weight (Z := Z) (fun p hp => h1 p (by simp [hp])) (fun p hp => h2 p (by simp [hp]))
  have gR := hR.weight (Z := Z) (fun p hp => h1 p (by simp [hp])) (fun p hp => h2 p (by simp [hp]))
  have g2 := h3 u (by simp)
  rw [er,List.length_append] at g2
  have g3: 2 * (2 * h - 2) <= (rl.length + rr.length) * (2 * h - 2) := Nat.mul_le_mul_right _ g2
  rw [Nat.add_mul] at g3
  rw [fullH_succ h hh] at g0
  have g4 := (zc_cons Z u.at_ (psl ++ psr ++ psO)).1
  rw [zc_app,zc_app] at g4
  rw [List.length_append,List.length_append]
  omega
theorem grows_full: ∀ (ups: List Pl) {a: Abs} {at_: Nat} {n: L5.No},GrowOk ups a at_ n -> (∀ u ∈ ups,u.n.leaf = false) -> ∀ rt: Nat,(grows ups a at_ n).2 = some rt -> n.gap + 2 <= n.recs.length /\ ∀ u ∈ ups,2 <= u.n.recs.length := by
 intro ups
 induction ups with
 | nil =>
  intro a at_ n hG _ rt hrt
  obtain ⟨_,_,hd⟩ := hG
  by_cases hf: n.size <= 1024
  · rw [grows,if_pos hf] at hrt; cases hrt
  · exact ⟨(hd.resolve_left hf).1.len,fun u hu => by cases hu⟩
 | cons u us ih =>
  intro a at_ n hG hlf rt hrt
  obtain ⟨_,_,hd⟩ := hG
  by_cases hf: n.size <= 1024
  · rw [grows,if_pos hf] at hrt; cases hrt
  · obtain ⟨hc,hk,_,_,hG'⟩ := hd.resolve_left hf
    rw [grows,if_neg hf] at hrt
    obtain ⟨g1,g2⟩ := ih hG' (fun v hv => hlf v (by simp [hv])) rt hrt
    refine ⟨hc.len,fun v hv => ?_⟩
    rcases List.mem_cons.1 hv with rfl | hv
    · have hg: (addK v (sepOf n) a.next).gap = 1 := by
       unfold L5.No.gap addK
       simp [hlf v (by simp)]
      rw [hg] at g1
      unfold addK at g1
      simp at g1
      omega
    · exact g2 v hv
theorem grows_used: ∀ (ups: List Pl) {a: Abs} {at_: Nat} {n: L5.No} {c: List UInt8},a.Ok -> ups.length + 2 <= a.left -> GrowOk ups a at_ n -> a.at (at_: Int) = some c -> (∀ u ∈ ups,∃ c,a.at (u.at_: Int) = some c) -> (grows ups a at_ n).1.used <= a.used + ups.length + 2 := by
 intro ups
 induction ups with
 | nil =>
  intro a at_ n c ho hl hG hat hus
  obtain ⟨hs,_,hd⟩ := hG
  by_cases hf: n.size <= 1024
  · rw [grows,if_pos hf,(layN_used _ _ _).1]; omega
  · obtain ⟨hc,hr1,hr2⟩ := hd.resolve_left hf
    obtain ⟨n1,n2⟩ := next_pos ho
    obtain ⟨⟨z,a1⟩,a2⟩ := at_alloc ho
    have ok1 := (ho.alloc (by simp at hl; omega)).1
    have hnx: a.next ≠ at_ := fun e => by rw [e,hat] at n2; cases n2
    have hat1: a.alloc.at (at_: Int) = some c := by rw [a2 at_ (fun e => hnx e.symm)]; exact hat
    have hnx1: (layN a.alloc at_ (n.lo n.cut)).at (a.next: Int) = some z := by unfold layN; rw [at_lay_ne hnx (at_pos hat)]; exact a1
    have ok3 := layN_ok (n := n.hi n.cut) (layN_ok (n := n.lo n.cut) ok1 hat1 hc.lo.2.1) hnx1 hc.hi.2.1
    have u1: (layN (layN a.alloc at_ (n.lo n.cut)) a.next (n.hi n.cut)).used = a.used + 1 := by rw [(layN_used _ _ _).1,(layN_used _ _ _).1,(used_alloc ho).1]
    rw [grows,if_neg hf]
    show (layN _ _ _).used <= _
    rw [(layN_used _ _ _).1,(used_alloc ok3).1,u1]
    simp
 | cons u us ih =>
  intro a at_ n c ho hl hG hat hus
  obtain ⟨hs,_,hd⟩ := hG
  by_cases hf: n.size <= 1024
  · rw [grows,if_pos hf,(layN_used _ _ _).1]; omega
  · obtain ⟨hc,_,_,_,hG'⟩ := hd.resolve_left hf
    obtain ⟨n1,n2⟩ := next_pos ho
    obtain ⟨⟨z,a1⟩,a2⟩ := at_alloc ho
    have ok1 := (ho.alloc (by simp at hl; omega)).1
    have hnx: a.next ≠ at_ := fun e => by rw [e,hat] at n2; cases n2
    have hat1: a.alloc.at (at_: Int) = some c := by rw [a2 at_ (fun e => hnx e.symm)]; exact hat
    have hnx1: (layN a.alloc at_ (n.lo n.cut)).at (a.next: Int) = some z := by unfold layN; rw [at_lay_ne hnx (at_pos hat)]; exact a1
    have ok3 := layN_ok (n := n.hi n.cut) (layN_ok (n := n.lo n.cut) ok1 hat1 hc.lo.2.1) hnx1 hc.hi.2.1
    have u1: (layN (layN a.alloc at_ (n.lo n.cut)) a.next (n.hi n.cut)).used = a.used + 1 := by rw [(layN_used _ _ _).1,(layN_used _ _ _).1,(used_alloc ho).1]
    have hlf: (layN (layN a.alloc at_ (n.lo n.cut)) a.next (n.hi n.cut)).left = a.left - 1 := by rw [(layN_used _ _ _).2.2,(layN_used _ _ _).2.2,left_alloc ho]
    have oth: ∀ p: Nat,p ≠ at_ -> p ≠ a.next -> (layN (layN a.alloc at_ (n.lo n.cut)) a.next (n.hi n.cut)).at (p: Int) = a.at (p: Int) := fun p h1 h2 => by
     unfold layN
     rw [at_lay_ne h2 n1,at_lay_ne h1 (at_pos hat),a2 p h2]
    have hatA: (layN (layN a.alloc at_ (n.lo n.cut)) a.next (n.hi n.cut)).at (at_: Int) = some (L5.pageL (n.lo n.cut).toNd) := by
     show ((layN a.alloc at_ (n.lo n.cut)).lay a.next _).at (at_: Int) = _
     rw [at_lay_ne (fun e => hnx e.symm) n1]
     exact at_lay_same hat1 _
    rw [grows,if_neg hf]
    generalize layN (layN a.alloc at_ (n.lo n.cut)) a.next (n.hi n.cut) = a1' at *
    have use1: ∀ q: Nat,(∃ c,a.at (q: Int) = some c) -> ∃ c,a1'.at (q: Int) = some c := fun q ⟨c',hq⟩ => by
     by_cases e1: q = at_
     · subst e1; exact ⟨_,hatA⟩
     · have e2: q ≠ a.next := fun e => by rw [e,n2] at hq; cases hq
       exact ⟨c',by rw [oth q e1 e2]; exact hq⟩
    obtain ⟨cu,hcu⟩ := use1 u.at_ (hus u (by simp))
    have := ih ok3 (by simp at hl; omega) hG' hcu (fun v hv => use1 v.at_ (hus v (by simp [hv])))
    simp
    omega
theorem Zer.same {a a': Abs} {p: Nat} (h: Zer a p) (e: a'.at (p: Int) = a.at (p: Int)): Zer a' p := by
 obtain ⟨m,h1,h2⟩ := h
 exact ⟨m,⟨e.trans h1.page,h1.shaped,h1.size,h1.small⟩,h2⟩
theorem Good.nozer {a: Abs} {p: Nat} (h: Good a p): ¬ Zer a p := fun ⟨n,hn,_,hr⟩ => by
 obtain ⟨m,h1,h2⟩ := h
 rw [hn.uniq h1] at hr
 exact h2 hr
theorem cov_ins {a A: Abs} {ps ps' Z: List Nat} (hz: Cov a ps Z) (hch: ∀ p: Nat,(∃ c,A.at (p: Int) = some c) -> A.at (p: Int) ≠ a.at (p: Int) -> Good A p) (hps: ∀ p ∈ ps',∃ c,A.at (p: Int) = some c) (hfr: ∀ p ∈ ps',p ∈ ps \/ a.at (p: Int) = none): Cov A ps' Z := fun p hp hzr => by
 by_cases e: A.at (p: Int) = a.at (p: Int)
 · rcases hfr p hp with hq | hq
   · exact hz p hq (hzr.same e.symm)
   · obtain ⟨c,hc⟩ := hps p hp
     rw [e,hq] at hc; cases hc
 · exact absurd hzr (hch p (hps p hp) e).nozer
theorem laid_zer: ∀ (L: List (Nat × L5.No)) {a: Abs} {p: Nat},(∀ y ∈ L,∃ c,a.at (y.1: Int) = some c) -> (∀ y ∈ L,y.2.shaped = true /\ y.2.size <= 1024) -> Zer (laidL a L) p -> Zer a p \/ ∃ z ∈ L,z.1 = p /\ z.2.leaf = false /\ z.2.recs = [] := by
 intro L
 induction L with
 | nil => intro a p _ _ h; exact Or.inl h
 | cons y L ih =>
  intro a p h1 h2 h
  obtain ⟨c,hc⟩ := h1 y (by simp)
  rcases ih (a := layN a y.1 y.2) (fun z hz => layN_there hc (h1 z (by simp [hz]))) (fun z hz => h2 z (by simp [hz])) h with g | ⟨z,hz,g⟩
  · by_cases e: p = y.1
    · subst e
      obtain ⟨n,hn,g1,g2⟩ := g
      have hy := Holds.lay hc (h2 y (by simp)).1 (h2 y (by simp)).2 (small_of (h2 y (by simp)).1 (by have := (h2 y (by simp)).2; omega))
      have e := hn.uniq hy
      subst e
      exact Or.inr ⟨y,by simp,rfl,g1,g2⟩
    · exact Or.inl (g.same (layN_other hc e).symm)
  · exact Or.inr ⟨z,by simp [hz],g⟩
theorem shr_zer {a: Abs} {ups: List Pl} {at_: Nat} {n: L5.No} {L: List (Nat × L5.No)} {G: List Nat} {o: Option (Nat × L5.No)} (s: Shr a ups at_ n L G o): ∃ q,∀ z ∈ L,z.1 ≠ q -> z.2.leaf = true \/ z.2.recs ≠ [] := by
 have hj: ∀ (m: L5.No) (sep: ByteArray) (n: L5.No),(joinK m sep n).leaf = true \/ (joinK m sep n).recs ≠ [] := fun m sep n => by
  unfold joinK
  cases m.leaf with
  | true => exact Or.inl rfl
  | false => exact Or.inr (by simp)
 induction s with
 | root => exact ⟨0,fun z hz => by cases hz⟩
 | stay => exact ⟨_,fun z hz hne => absurd (by simp at hz; rw [hz]) hne⟩
 | gone _ _ ih => exact ih
 | left _ _ _ _ _ _ _ ih =>
  obtain ⟨q,hq⟩ := ih
  refine ⟨q,fun z hz hne => ?_⟩
  rcases List.mem_cons.1 hz with rfl | hz
  · exact hj _ _ _
  · exact hq z hz hne
 | right _ _ _ _ _ _ ih =>
  obtain ⟨q,hq⟩ := ih
  refine ⟨q,fun z hz hne => ?_⟩
  rcases List.mem_cons.1 hz with rfl | hz
  · exact hj _ _ _
  · exact hq z hz hne
theorem stl_kids {a: Abs} {L: List (Nat × L5.No)} {h at_ r hr: Nat} {n nr: L5.No} {G: List Nat} (s: Stl a L h at_ n G r nr hr): nr.kids.length ≠ 1 /\ hr <= h := by
 induction s with
 | done hk => exact ⟨hk,Nat.le_refl _⟩
 | down _ _ _ ih => exact ⟨ih.1,by omega⟩
theorem dels_zer {a: Abs} {ups: List Pl} {at_: Nat} {n: L5.No} {r h: Nat} {L: List (Nat × L5.No)} {G: List Nat} {r' h': Nat} (d: Dels a ups at_ n r h L G r' h') (hh: 1 <= h) (hs: ∀ z ∈ L,z.2.shaped = true): h' <= h /\ ∃ q,∀ z ∈ L,z.1 ≠ q -> z.2.leaf = true \/ z.2.recs ≠ [] := by
 rcases d with ⟨s,_,rfl⟩ | ⟨L1,G1,G2,n1,n2,hr,s,t,_,rfl,hL⟩
 · exact ⟨Nat.le_refl _,shr_zer s⟩
 · obtain ⟨t1,t2⟩ := stl_kids t
   refine ⟨by omega, ?_⟩
   obtain ⟨q,hq⟩ := shr_zer s
   refine ⟨q,fun z hz hne => ?_⟩
   have hsz := hs z hz
   by_cases e: r' = r
   · rw [if_pos e] at hL
     rw [hL] at hz
     rcases List.mem_append.1 hz with hz | hz
     · exact hq z hz hne
     · have ez: z = (r,n2) := by simpa using hz
       subst ez
       cases hl: n2.leaf with
       | true => exact Or.inl rfl
       | false =>
        refine Or.inr fun e0 => t1 ?_
        rw [(shaped_kids hsz hl).2,e0]; rfl
   · rw [if_neg e] at hL
     rw [hL] at hz
     exact hq z hz hne
theorem cov_del {a: Abs} {ps ps' Z: List Nat} {L: List (Nat × L5.No)} {G: List Nat} {q: Nat} (hz: Cov a ps Z) (h1: ∀ z ∈ L,z.2.shaped = true /\ z.2.size <= 1024 /\ ∃ c,a.at (z.1: Int) = some c) (hG: ∀ p ∈ G,∃ c,(laidL a L).at (p: Int) = some c) (hq: ∀ z ∈ L,z.1 ≠ q -> z.2.leaf = true \/ z.2.recs ≠ []) (hsub: ∀ p ∈ ps',p ∈ ps) (hno: ∀ p ∈ ps',p ∉ G): Cov (frees (laidL a L) G) ps' (q :: Z) := fun p hp hzr => by
 have e := frees_other G (a := laidL a L) (p := p) (fun n hn => by obtain ⟨c,hc⟩ := hG n hn; exact at_pos hc) (hno p hp)
 rcases laid_zer L (fun z hz => (h1 z hz).2.2) (fun z hz => ⟨(h1 z hz).1,(h1 z hz).2.1⟩) (hzr.same e.symm) with g | ⟨z,hz',e1,e2,e3⟩
 · exact List.mem_cons_of_mem _ (hz p (hsub p hp) g)
 · by_cases ne: z.1 = q
   · rw [<- e1,ne]; exact List.mem_cons_self
   · rcases hq z hz' ne with g | g
     · rw [e2] at g; cases g
     · exact absurd e3 g
structure Flow (ins: Prop) (a A: Abs) (h h': Nat) (es es': List ByteArray) (ps ps': List Nat): Prop where
 len: es'.length <= es.length + 1
 cov: ∀ Z,Cov a ps Z -> ∃ Z',Cov A ps' Z' /\ es'.length + 2 * Z'.length <= es.length + 2 * Z.length + 1
 tall: ∀ Z,Cov a ps Z -> h' <= h \/ (h' = h + 1 /\ fullH h <= es.length + 2 * Z.length)
 more: ps'.length <= ps.length + h + 1
 less: ins \/ ps'.length <= ps.length
 fresh: ∀ p ∈ ps',p ∈ ps \/ a.at (p: Int) = none
 frame: ∀ p: Nat,p ∉ ps -> (∃ c,a.at (p: Int) = some c) -> A.at (p: Int) = a.at (p: Int)
 used: A.used + ps.length = a.used + ps'.length
theorem Flow.refl {ins: Prop} {a: Abs} {h: Nat} {es: List ByteArray} {ps: List Nat}: Flow ins a a h h es es ps ps :=
 ⟨by omega,fun Z hZ => ⟨Z,hZ,by omega⟩,fun _ _ => Or.inl (Nat.le_refl _),by omega,Or.inr (Nat.le_refl _),fun _ h => Or.inl h,fun _ _ _ => rfl,rfl⟩
theorem Flow.weak {ins ins': Prop} {a A: Abs} {h h': Nat} {es es': List ByteArray} {ps ps': List Nat} (k: Flow ins a A h h' es es' ps ps') (hi: ins -> ins'): Flow ins' a A h h' es es' ps ps' := ⟨k.len,k.cov,k.tall,k.more,k.less.imp hi id,k.fresh,k.frame,k.used⟩
theorem Cov.frame {a a': Abs} {ps Z: List Nat} (h: Cov a ps Z) (hp: ∀ p ∈ ps,a'.at (p: Int) = a.at (p: Int)): Cov a' ps Z := fun p hpp hz => h p hpp (hz.same (hp p hpp).symm)
theorem Flow.at_ {ins: Prop} {a A: Abs} {h: Nat} {es: List ByteArray} {ps: List Nat} (hat: ∀ p,A.at p = a.at p) (hu: A.used = a.used): Flow ins a A h h es es ps ps :=
 ⟨by omega,fun Z hZ => ⟨Z,hZ.frame fun p _ => hat _,by omega⟩,fun _ _ => Or.inl (Nat.le_refl _),by omega,Or.inr (Nat.le_refl _),fun _ h => Or.inl h,fun p _ _ => hat _,by omega⟩
theorem Ctx.inner {a: Abs} {H R: Nat} {us: List Pl} {h at_: Nat} {lo hi: ByteArray} {esL esR: List ByteArray} {psO: List Nat} (k: Ctx a H R us h at_ lo hi esL esR psO): (∀ u ∈ us,u.n.leaf = false) /\ us.length <= psO.length := by
 induction k with
 | root => exact ⟨fun u hu => (by cases hu),Nat.le_refl _⟩
 | up hn hl hb er ek e1 e2 hh hL hR t ih =>
  refine ⟨fun u hu => ?_,by simp; have := ih.2; omega⟩
  rcases List.mem_cons.1 hu with rfl | hu
  · exact hl
  · exact ih.1 u hu
theorem flow_ins {a: Abs} {k: ByteArray} {h r: Nat} {es: List ByteArray} {ps ps': List Nat} {pre: List Pl} {y: Pl} {lo hi: ByteArray} {fL fR: List ByteArray} {qO: List Nat} {n: L5.No} (f: Found a k h r es ps pre y lo hi fL fR qO) (ho: a.Ok) (hl: h + 1 <= a.left) (hG: GrowOk pre.reverse a y.at_ n) (hn: n.recs ≠ []) (hru: Ruly a r ps) (hnd: ps.Nodup)
 (hS: ∀ p ∈ ps',∃ c,(grows pre.reverse a y.at_ n).1.at (p: Int) = some c) (hGr: Grew a (grows pre.reverse a y.at_ n).1 ps ps'): Flow True a (grows pre.reverse a y.at_ n).1 h (headH (grows pre.reverse a y.at_ n).2 h) es (insK k es) ps ps' := by
 have hlen0: pre.length + 1 = h := by have := f.path.pos.1; simpa using this
 have hpl: ∀ z ∈ pre.reverse,∃ c,a.at (z.at_: Int) = some c := fun z hz => f.ctx.steps z hz
 have hturn := grows_turn pre.reverse ho (by simp; omega) hG hn f.holds.page hpl
 refine ⟨by rw [insK_len]; omega,fun Z hZ => ⟨Z,cov_ins hZ hturn hS hGr.fresh,by rw [insK_len]; omega⟩,fun Z hZ => ?_, ?_,Or.inl trivial,hGr.fresh,hGr.frame,hGr.used⟩
 · cases ho: (grows pre.reverse a y.at_ n).2 with
   | none => exact Or.inl (by simp [headH])
   | some rt =>
    refine Or.inr ⟨by simp [headH], ?_⟩
    have hlf: ∀ u ∈ pre.reverse,u.n.leaf = false := f.ctx.inner.1
    obtain ⟨_,g2⟩ := grows_full pre.reverse hG hlf rt ho
    have hsubO: ∀ p ∈ qO,p ∈ ps := fun p hp => f.ps_.mem_iff.2 (by simp [hp])
    by_cases hp1: pre = []
    · subst hp1
      simp at hlen0
      rw [<- hlen0]
      exact Nat.zero_le _
    have hlu: ∀ p ∈ ps,Lush a p := by
     rcases hru.lush with e | e
     · exfalso
       have hq := f.ps_.length_eq
       have hx := f.ctx.inner.2
       have: pre.length ≠ 0 := fun e => hp1 (List.length_eq_zero_iff.1 e)
       simp at hq hx
       omega
     · exact e
    have hw := f.ctx.weight (Z := Z) (fun p hp => hlu p (hsubO p hp)) (fun p hp => hZ p (hsubO p hp)) g2
    have hzc := zc_le (Z := Z) hnd
    rw [zc_perm f.ps_] at hzc
    have := (zc_cons Z y.at_ qO).1
    rw [f.es_]
    simp only [List.length_append]
    have: fullH 1 = 0 := rfl
    omega
 · have h1 := grows_used pre.reverse ho (by simp; omega) hG f.holds.page hpl
   have h2 := hGr.used
   simp at h1
   omega
theorem sub_len {ps ps': List Nat} (hd: ps'.Nodup) (h: ∀ p ∈ ps',p ∈ ps): ps'.length <= ps.length := by
 have := zc_le (Z := ps) hd
 unfold zc at this
 rwa [List.countP_eq_length.2 (fun p hp => by simpa using h p hp)] at this
theorem frees_gone: ∀ (G: List Nat) {a: Abs} {p: Nat},G.Nodup -> (∀ n ∈ G,∃ c,a.at (n: Int) = some c) -> p ∈ G -> (frees a G).at (p: Int) = none := by
 intro G
 induction G with
 | nil => intro a p _ _ h; cases h
 | cons n G ih =>
  intro a p hd hG hp
  rw [List.nodup_cons] at hd
  obtain ⟨c,hc⟩ := hG n (by simp)
  have hG': ∀ m ∈ G,∃ c,(a.free n).at (m: Int) = some c := fun m hm => by
   obtain ⟨c',hc'⟩ := hG m (by simp [hm])
   have hne: m ≠ n := fun e => hd.1 (by rw [<- e]; exact hm)
   exact ⟨c',by rw [free_other hne (at_pos hc)]; exact hc'⟩
  show (frees (a.free n) G).at (p: Int) = none
  rcases List.mem_cons.1 hp with rfl | hp
  · rw [frees_other G (fun m hm => by obtain ⟨c',hc'⟩ := hG' m hm; exact at_pos hc') hd.1]
    have h1 := at_pos hc
    obtain ⟨_,h2,_⟩ := L4.Abs.at_some hc
    have: (a.free p).at (p: Int) = (a.lay p none).at (p: Int) := rfl
    rw [this,at_nat,if_pos h1]
    show ((a.pg.set (p - 1) none)[p - 1]?).join = _
    rw [List.getElem?_set_self (by simpa using h2)]
    rfl
  · exact ih hd.2 hG' hp
theorem flow_del {a: Abs} {k: ByteArray} {h r: Nat} {es: List ByteArray} {ps ps': List Nat} {ups: List Pl} {at_: Nat} {n: L5.No} {L: List (Nat × L5.No)} {G: List Nat} {r' h': Nat} (hh: 1 <= h) (d: Dels a ups at_ n r h L G r' h') (hlen: (delK k es).length + 1 = es.length) (hS: Shrunk a (frees (laidL a L) G) ps ps') (hpg: ∀ p ∈ ps',∃ c,(frees (laidL a L) G).at (p: Int) = some c) (hGd: G.Nodup) (hG: ∀ p ∈ G,∃ c,(laidL a L).at (p: Int) = some c) (hL: ∀ z ∈ L,z.2.shaped = true /\ z.2.size <= 1024 /\ ∃ c,a.at (z.1: Int) = some c): Flow False a (frees (laidL a L) G) h h' es (delK k es) ps ps' := by
 obtain ⟨d1,q,d2⟩ := dels_zer d hh fun z hz => (hL z hz).1
 have hle := sub_len hS.nodup hS.sub
 have hGn: ∀ p ∈ ps',p ∉ G := fun p hp hq => by
  obtain ⟨c,hc⟩ := hpg p hp
  rw [frees_gone G hGd hG hq] at hc
  cases hc
 refine ⟨by omega,fun Z hZ => ⟨q :: Z,cov_del hZ hL hG d2 hS.sub hGn,by simp; omega⟩,fun Z hZ => Or.inl d1,by omega,Or.inr hle,fun p hp => Or.inl (hS.sub p hp),hS.frame,hS.used⟩
end Go.Proofs.YtdnkbdjhccckhaaGreat
