import Derived.Test.YteibhbnlcpejpaaGreatMAZ
import Derived.Test.YteibhbnlcpejpaaGreatMAP
namespace Go.Proofs.YteibhbnlcpejpaaGreat
open Go.RowKit
theorem kids_one {s: ByteArray} (h: kidsI s = 1): s.toList = oNEG \/ s.toList = oNOT \/ s.toList = oNULL := by
 unfold kidsI at h
 split at h
 · cases h
 split at h
 · rename_i e; simpa [ops1] using e
 split at h
 · cases h
 · cases h
theorem kids_two {s: ByteArray} (h: kidsI s = 2): s.toList ∈ ops2 := by
 unfold kidsI at h
 split at h
 · cases h
 split at h
 · cases h
 split at h
 · rename_i e; simpa using e
 · cases h
theorem ofVv_typed (t: Int): Typed (ofVv t) 1 := by
 unfold ofVv
 split
 · exact ⟨by decide,Or.inr rfl⟩
 split
 · exact ⟨by decide,Or.inr rfl⟩
 · exact ⟨by decide,Or.inl rfl⟩
theorem vz_typed (t: Int): Typed vz t := ⟨by decide,Or.inl rfl⟩
theorem agree_cases {a b: Int} (h: agreeB a b = true): a = b \/ a = 0 \/ b = 0 := by simpa [agreeB,or_assoc] using h
theorem truth_typed {u: Vv} {t: Int} (h: Typed u t) (ht: t = 1 \/ t = 0): truthE u.k u.n = 0 := by
 obtain ⟨h1,h2⟩ := h
 have hk: u.k = 0 \/ u.k = 1 := by rcases h2 with h | h <;> rcases ht with h' | h' <;> omega
 rcases hk with h | h
 · simp [truthE,h]
 · have hn: u.n = 0 \/ u.n = 1 := by
    unfold rightB at h1
    simp [h] at h1
    omega
   rcases hn with h' | h' <;> simp [truthE,h,h']
theorem ck_right_int (n: Int): rightB 2 n ⟨#[]⟩ = true := by simp [rightB,ByteArray.size]
theorem reck_typed {op: ByteArray} {a b: Vv} {ta tb: Int} (hk: knownR op = true) (ha: Typed a ta) (hb: Typed b tb) (h2: (ta = 2 \/ ta = 0) /\ (tb = 2 \/ tb = 0)) :
 (reckE op a.k a.n a.s b.k b.n b.s = 0 /\ Typed (reckVv op a b) 2) \/ reckE op a.k a.n a.s b.k b.n b.s = 7 := by
 have e1: (!knownR op || !rightB a.k a.n a.s || !rightB b.k b.n b.s) = false := by simp [hk,ha.1,hb.1]
 have ka: a.k = 0 \/ a.k = 2 := by rcases ha.2 with h | h <;> rcases h2.1 with h' | h' <;> omega
 have kb: b.k = 0 \/ b.k = 2 := by rcases hb.2 with h | h <;> rcases h2.2 with h' | h' <;> omega
 unfold reckVv reckE reckV
 rw [e1]
 simp only [Bool.false_eq_true,if_false]
 rcases ka with ka | ka <;> rcases kb with kb | kb
 · left; simp [ka,kb,vvOf_val]; exact vz_typed 2
 · left; simp [ka,kb,vvOf_val]; exact vz_typed 2
 · left; simp [ka,kb,vvOf_val]; exact vz_typed 2
 · simp [ka,kb]
   cases hf: fits (opI op a.n b.n)
   · right; simp
   · left; simp [vvOf_val]; exact ⟨ck_right_int _,Or.inr rfl⟩
theorem cat_typed {op: ByteArray} {a b: Vv} {ta tb: Int} (hk: op.toList = [43]) (ha: Typed a ta) (hb: Typed b tb) (h2: (ta = 3 \/ ta = 0) /\ (tb = 3 \/ tb = 0)) :
 (reckE op a.k a.n a.s b.k b.n b.s = 0 /\ Typed (reckVv op a b) (max ta tb)) \/ reckE op a.k a.n a.s b.k b.n b.s = 8 := by
 have e1: (!knownR op || !rightB a.k a.n a.s || !rightB b.k b.n b.s) = false := by simp [knownR,hk,ha.1,hb.1]
 have ka: a.k = 0 \/ (a.k = 3 /\ ta = 3) := by rcases ha.2 with h | h <;> rcases h2.1 with h' | h' <;> omega
 have kb: b.k = 0 \/ (b.k = 3 /\ tb = 3) := by rcases hb.2 with h | h <;> rcases h2.2 with h' | h' <;> omega
 unfold reckVv reckE reckV
 rw [e1]
 simp only [Bool.false_eq_true,if_false]
 rcases ka with ka | ⟨ka,ta3⟩ <;> rcases kb with kb | ⟨kb,tb3⟩
 · left; simp [ka,kb,vvOf_val]; exact vz_typed _
 · left; simp [ka,kb,vvOf_val]; exact vz_typed _
 · left; simp [ka,kb,vvOf_val]; exact vz_typed _
 · simp [ka,kb,hk,catE,catV]
   by_cases hf: a.s.size + b.s.size <= 24
   · left; rw [if_pos hf]; refine ⟨hf, ?_,Or.inr ?_⟩
     · show rightB 3 0 (a.s ++ b.s) = true
       simp [rightB,hf]
     · show (3: Int) = max ta tb
       rw [ta3,tb3]; rfl
   · right; omega
theorem holds_typed {op: ByteArray} {a b: Vv} {ta tb: Int} (hk: knownB op = true) (ha: Typed a ta) (hb: Typed b tb) (h2: agreeB ta tb = true): holdsE op a.k a.n a.s b.k b.n b.s = 0 := by
 have e1: (!knownB op || !rightB a.k a.n a.s || !rightB b.k b.n b.s) = false := by simp [hk,ha.1,hb.1]
 unfold holdsE
 rw [e1]
 simp only [Bool.false_eq_true,if_false]
 by_cases h: a.k = 0 \/ b.k = 0
 · rw [if_pos (by simpa using h)]
 · have: a.k = b.k := by
    have h1 := ha.2; have h3 := hb.2
    rcases agree_cases h2 with h' | h' | h' <;> omega
   rw [if_neg (by simpa using h),if_neg (by simp [this])]
theorem safe_kid {n: Nat} {y k: NL} (hk: k ∈ y.kids) (h: safeN n k = false): safeN (n + 1) y = false := by
 unfold safeN
 rw [Bool.and_eq_false_iff]
 right
 rw [List.all_eq_false]
 exact ⟨k,hk,by simp [h]⟩
theorem evN_mk {n: Nat} {rs: List RowL} {xo: ByteArray} {xk xn: Int} {xs: ByteArray} {xv xc: Int} {xa: Option Addr} {xp: Nat} {l: List NL}: evN (n + 1) rs (.mk xo xk xn xs xv xc xa xp l) = (if (l.length: Int) == kidsN xo then
 (if xo.toList == nVALUE then (⟨xk,xn,xs⟩,0)
 else if xo.toList == nCOLUMN then evCol rs xv xc
 else if xo.toList == nAND then evBoth 0 tAnd (evN n rs (l.headD zNL)) (evN n rs (l.tail.headD zNL))
 else if xo.toList == nOR then evBoth 1 tOr (evN n rs (l.headD zNL)) (evN n rs (l.tail.headD zNL))
 else if l.length == 1 then oneE xo.toList (evN n rs (l.headD zNL))
 else twoE xo (evN n rs (l.headD zNL)) (evN n rs (l.tail.headD zNL)))
 else (vz,15)) := rfl
theorem ifT {α: Type} {b: Bool} {x y: α} (h: b = true): (if b = true then x else y) = x := by rw [h]; rfl
theorem ifF {α: Type} {b: Bool} {x y: α} (h: b = false): (if b = true then x else y) = y := by rw [h]; rfl
theorem evN_op {n: Nat} {rs: List RowL} {o: ByteArray} {k: NL} (h: o.toList = nNEG \/ o.toList = nNOT \/ o.toList = nNULL): evN (n + 1) rs (.mk o 0 0 ⟨#[]⟩ 0 0 none 0 [k]) = oneE o.toList (evN n rs k) := by
 have hk: kidsN o = 1 := by unfold kidsN; rcases h with h | h | h <;> rw [h] <;> decide
 have a1: (o.toList == nVALUE) = false := by rcases h with h | h | h <;> rw [h] <;> rfl
 have a2: (o.toList == nCOLUMN) = false := by rcases h with h | h | h <;> rw [h] <;> rfl
 have a3: (o.toList == nAND) = false := by rcases h with h | h | h <;> rw [h] <;> rfl
 have a4: (o.toList == nOR) = false := by rcases h with h | h | h <;> rw [h] <;> rfl
 rw [evN_mk,ifT (by rw [hk]; rfl),ifF a1,ifF a2,ifF a3,ifF a4,ifT (b := [k].length == 1) rfl]
 rfl
theorem evN_two {n: Nat} {rs: List RowL} {o: ByteArray} {k k2: NL} (h: o.toList ∈ nops2) (ha: (o.toList == nAND) = false) (ho: (o.toList == nOR) = false): evN (n + 1) rs (.mk o 0 0 ⟨#[]⟩ 0 0 none 0 [k,k2]) = twoE o (evN n rs k) (evN n rs k2) := by
 have hk: kidsN o = 2 := by unfold kidsN; simp only [nops2,List.mem_cons,List.not_mem_nil,or_false] at h; rcases h with h | h | h | h | h | h | h | h | h | h | h <;> rw [h] <;> decide
 have hv: (o.toList == nVALUE) = false := by simp only [nops2,List.mem_cons,List.not_mem_nil,or_false] at h; rcases h with h | h | h | h | h | h | h | h | h | h | h <;> rw [h] <;> decide
 have hc: (o.toList == nCOLUMN) = false := by simp only [nops2,List.mem_cons,List.not_mem_nil,or_false] at h; rcases h with h | h | h | h | h | h | h | h | h | h | h <;> rw [h] <;> decide
 rw [evN_mk,ifT (by rw [hk]; rfl),ifF hv,ifF hc,ifF ha,ifF ho,ifF (b := [k,k2].length == 1) rfl]
 rfl
theorem evN_both {n: Nat} {rs: List RowL} {o: ByteArray} {k k2: NL} (h: o.toList = nAND \/ o.toList = nOR): ∃ s j,evN (n + 1) rs (.mk o 0 0 ⟨#[]⟩ 0 0 none 0 [k,k2]) = evBoth s j (evN n rs k) (evN n rs k2) := by
 have hk: kidsN o = 2 := by unfold kidsN; rcases h with h | h <;> rw [h] <;> decide
 have a1: (o.toList == nVALUE) = false := by rcases h with h | h <;> rw [h] <;> rfl
 have a2: (o.toList == nCOLUMN) = false := by rcases h with h | h <;> rw [h] <;> rfl
 rw [evN_mk,ifT (by rw [hk]; rfl),ifF a1,ifF a2]
 rcases h with h | h
 · exact ⟨0,tAnd,by rw [ifT (by rw [h]; rfl)]; rfl⟩
 · exact ⟨1,tOr,by rw [ifF (by rw [h]; rfl),ifT (by rw [h]; rfl)]; rfl⟩
theorem evN_err {n: Nat} {rs: List RowL} {y: NL} {t: Int} (h: Sound n rs y t): ((evN n rs y).2 = 0 /\ Typed (evN n rs y).1 t) \/ (¬ (evN n rs y).2 = 0 /\ ((evN n rs y).2 = 7 \/ (evN n rs y).2 = 8) /\ safeN n y = false) := by
 rcases h with h | ⟨h,_,h2⟩
 · exact Or.inl h
 · exact Or.inr ⟨by omega,h,h2⟩
theorem knownR_minus: knownR minusB = true := by
 have e: minusB.toList = [45] := by unfold minusB; rw [ByteArray.toList_eq]
 unfold knownR
 rw [e]; rfl
theorem sound_one {n: Nat} {rs: List RowL} {o: ByteArray} {k: NL} {t1 t: Int} (h: o.toList = oNEG \/ o.toList = oNOT \/ o.toList = oNULL) (ih: Sound n rs k t1) (ht: typeO o.toList t1 0 = some t): Sound (n + 1) rs (.mk o 0 0 ⟨#[]⟩ 0 0 none 0 [k]) t := by
 unfold Sound
 rw [evN_op h]
 rcases evN_err ih with ⟨e0,hu⟩ | ⟨e0,h78,hs⟩
 · unfold oneE
   rw [if_pos (by simp [e0])]
   generalize (evN n rs k).1 = u at hu
   rcases h with h | h | h
   · rw [h] at ht
     have hb: bothB t1 0 2 = true /\ t = 2 := by
      have: typeO oNEG t1 0 = if bothB t1 0 2 then some 2 else none := rfl
      rw [this] at ht
      split at ht
      · rename_i e; cases ht; exact ⟨e,rfl⟩
      · cases ht
     obtain ⟨hb,rfl⟩ := hb
     have h1: t1 = 2 \/ t1 = 0 := by
      simp only [bothB,Bool.and_eq_true] at hb
      rcases agree_cases hb.1 with h | h | h <;> omega
     have hr := reck_typed (op := minusB) (a := ⟨2,0,⟨#[]⟩⟩) (b := u) (ta := 2) (tb := t1) knownR_minus ⟨by decide,Or.inr rfl⟩ hu ⟨Or.inl rfl,h1⟩
     have hns: safeN (n + 1) (.mk o 0 0 ⟨#[]⟩ 0 0 none 0 [k]) = false := by
      unfold safeN
      simp only [NL.op,h]
      rfl
     have: oneV o.toList u = errOr (reckVv minusB ⟨2,0,⟨#[]⟩⟩ u) (reckE minusB 2 0 ⟨#[]⟩ u.k u.n u.s) := by rw [h]; rfl
     rw [this]
     rcases hr with ⟨hr,hT⟩ | hr
     · left; simp only [errOr]; rw [show reckE minusB 2 0 ⟨#[]⟩ u.k u.n u.s = 0 from hr]; exact ⟨rfl,hT⟩
     · right; simp only [errOr]; rw [show reckE minusB 2 0 ⟨#[]⟩ u.k u.n u.s = 7 from hr]; exact ⟨Or.inl rfl,rfl,hns⟩
   · rw [h] at ht
     have hb: bothB t1 0 1 = true /\ t = 1 := by
      have: typeO oNOT t1 0 = if bothB t1 0 1 then some 1 else none := rfl
      rw [this] at ht
      split at ht
      · rename_i e; cases ht; exact ⟨e,rfl⟩
      · cases ht
     obtain ⟨hb,rfl⟩ := hb
     have h1: t1 = 1 \/ t1 = 0 := by
      simp only [bothB,Bool.and_eq_true] at hb
      rcases agree_cases hb.1 with h | h | h <;> omega
     left
     have: oneV o.toList u = (if truthE u.k u.n == 0 then (ofVv (tNot (truthT u.k u.n)),0) else (vz,truthE u.k u.n)) := by rw [h]; rfl
     rw [this,truth_typed hu h1]
     exact ⟨rfl,ofVv_typed _⟩
   · rw [h] at ht
     have: t = 1 := by
      have e: typeO oNULL t1 0 = some 1 := rfl
      rw [e] at ht; cases ht; rfl
     subst this
     left
     have: oneV o.toList u = (ofVv (if isZ u then 1 else 0),0) := by rw [h]; rfl
     rw [this]
     exact ⟨rfl,ofVv_typed _⟩
 · unfold oneE
   rw [if_neg (by simpa using e0)]
   right
   exact ⟨h78,rfl,safe_kid (List.mem_singleton.2 rfl) hs⟩
theorem trE_okS {n: Nat} {rs: List RowL} {y: NL} {t: Int} (e0: (evN n rs y).2 = 0) (hu: Typed (evN n rs y).1 t) (ht: t = 1 \/ t = 0): (trE (evN n rs y)).2 = 0 := by
 unfold trE
 rw [if_pos (by simp [e0]),truth_typed hu ht]
 rfl
theorem trE_noS {r: VE} (h: ¬ r.2 = 0): (trE r).2 = r.2 := by
 unfold trE
 rw [if_neg (by simpa using h)]
theorem sound_both {n: Nat} {rs: List RowL} {o: ByteArray} {k k2: NL} {t1 t2 t: Int} (h: o.toList = nAND \/ o.toList = nOR) (ih: Sound n rs k t1) (ih2: Sound n rs k2 t2) (ht: typeO o.toList t1 t2 = some t): Sound (n + 1) rs (.mk o 0 0 ⟨#[]⟩ 0 0 none 0 [k,k2]) t := by
 have hb: bothB t1 t2 1 = true /\ t = 1 := by
  have: typeO o.toList t1 t2 = if bothB t1 t2 1 then some 1 else none := by rcases h with h | h <;> rw [h] <;> rfl
  rw [this] at ht
  split at ht
  · rename_i e; cases ht; exact ⟨e,rfl⟩
  · cases ht
 obtain ⟨hb,rfl⟩ := hb
 simp only [bothB,Bool.and_eq_true] at hb
 have h1: t1 = 1 \/ t1 = 0 := by rcases agree_cases hb.1 with h | h | h <;> omega
 have h2: t2 = 1 \/ t2 = 0 := by rcases agree_cases hb.2 with h | h | h <;> omega
 obtain ⟨s,j,e⟩ := evN_both (n := n) (rs := rs) (k := k) (k2 := k2) h
 unfold Sound
 rw [e]
 unfold evBoth
 rcases evN_err ih with ⟨e0,hu⟩ | ⟨e0,h78,hs⟩
 · rw [if_pos (by rw [trE_okS e0 hu h1]; rfl)]
   split
   · exact Or.inl ⟨rfl,ofVv_typed _⟩
   rcases evN_err ih2 with ⟨e1,hu2⟩ | ⟨e1,h78,hs⟩
   · rw [if_pos (by rw [trE_okS e1 hu2 h2]; rfl)]
     exact Or.inl ⟨rfl,ofVv_typed _⟩
   · rw [trE_noS e1,if_neg (by simpa using e1)]
     exact Or.inr ⟨h78,rfl,safe_kid (k := k2) (by simp [NL.kids]) hs⟩
 · rw [trE_noS e0,if_neg (by simpa using e0)]
   exact Or.inr ⟨h78,rfl,safe_kid (k := k) (by simp [NL.kids]) hs⟩
theorem sound_two {n: Nat} {rs: List RowL} {o: ByteArray} {k k2: NL} {t1 t2 t: Int} (hm: o.toList ∈ nops2) (ha: (o.toList == nAND) = false) (ho: (o.toList == nOR) = false) (ih: Sound n rs k t1) (ih2: Sound n rs k2 t2) (ht: typeO o.toList t1 t2 = some t): Sound (n + 1) rs (.mk o 0 0 ⟨#[]⟩ 0 0 none 0 [k,k2]) t := by
 unfold Sound
 rw [evN_two hm ha ho]
 unfold twoE
 rcases evN_err ih with ⟨e0,hu⟩ | ⟨e0,h78,hs⟩
 · rw [if_pos (by simp [e0])]
   rcases evN_err ih2 with ⟨e1,hu2⟩ | ⟨e1,h78,hs⟩
   · rw [if_pos (by simp [e1])]
     generalize (evN n rs k).1 = u at hu
     generalize (evN n rs k2).1 = u2 at hu2
     by_cases hr: o.toList = [43] \/ o.toList = [45] \/ o.toList = [42]
     · have hns: safeN (n + 1) (.mk o 0 0 ⟨#[]⟩ 0 0 none 0 [k,k2]) = false := by
        unfold safeN
        simp only [NL.op]
        rcases hr with h | h | h <;> rw [h] <;> rfl
       have hV: twoV o u u2 = errOr (reckVv o u u2) (reckE o u.k u.n u.s u2.k u2.n u2.s) := by
        unfold twoV
        rw [if_pos (by rcases hr with h | h | h <;> rw [h] <;> rfl)]
       have hkn: knownR o = true := by unfold knownR; rcases hr with h | h | h <;> rw [h] <;> rfl
       have fin: ∀ e,(e = 7 \/ e = 8) -> reckE o u.k u.n u.s u2.k u2.n u2.s = e -> ((twoV o u u2).2 = 0 /\ Typed (twoV o u u2).1 t) \/ (((twoV o u u2).2 = 7 \/ (twoV o u u2).2 = 8) /\ (twoV o u u2).1 = vz /\ safeN (n + 1) (.mk o 0 0 ⟨#[]⟩ 0 0 none 0 [k,k2]) = false) := fun e h1 h2 => by
        right
        rw [hV,h2]
        rcases h1 with rfl | rfl
        · exact ⟨Or.inl rfl,rfl,hns⟩
        · exact ⟨Or.inr rfl,rfl,hns⟩
       have fin0: reckE o u.k u.n u.s u2.k u2.n u2.s = 0 -> Typed (reckVv o u u2) t -> ((twoV o u u2).2 = 0 /\ Typed (twoV o u u2).1 t) \/ (((twoV o u u2).2 = 7 \/ (twoV o u u2).2 = 8) /\ (twoV o u u2).1 = vz /\ safeN (n + 1) (.mk o 0 0 ⟨#[]⟩ 0 0 none 0 [k,k2]) = false) := fun h1 h2 => by
        left
        rw [hV,h1]
        exact ⟨rfl,h2⟩
       have ints: bothB t1 t2 2 = true -> (t1 = 2 \/ t1 = 0) /\ (t2 = 2 \/ t2 = 0) := fun hb => by
        simp only [bothB,Bool.and_eq_true] at hb
        exact ⟨by rcases agree_cases hb.1 with h | h | h <;> omega,by rcases agree_cases hb.2 with h | h | h <;> omega⟩
       by_cases hp: o.toList = [43]
       · have hT: typeO o.toList t1 t2 = if bothB t1 t2 2 || bothB t1 t2 3 then some (max t1 t2) else none := by rw [hp]; rfl
         rw [hT] at ht
         split at ht
         · rename_i e
           cases ht
           rw [Bool.or_eq_true] at e
           by_cases hi: bothB t1 t2 2 = true
           · have hi' := ints hi
             rcases reck_typed hkn hu hu2 hi' with ⟨h1,h2⟩ | h1
             · refine fin0 h1 ?_
               by_cases hz: t1 = 0 /\ t2 = 0
               · have k1: u.k = 0 := by rcases hu.2 with h | h <;> omega
                 have: reckVv o u u2 = vz := by
                  have e1: (!knownR o || !rightB u.k u.n u.s || !rightB u2.k u2.n u2.s) = false := by simp [hkn,hu.1,hu2.1]
                  unfold reckVv reckV
                  rw [e1]
                  simp [k1,vvOf_val]; rfl
                 rw [this]; exact vz_typed _
               · have: max t1 t2 = 2 := by omega
                 rw [this]; exact h2
             · exact fin 7 (Or.inl rfl) h1
           · have h3: bothB t1 t2 3 = true := e.resolve_left hi
             simp only [bothB,Bool.and_eq_true] at h3
             rcases cat_typed hp hu hu2 ⟨by rcases agree_cases h3.1 with h | h | h <;> omega,by rcases agree_cases h3.2 with h | h | h <;> omega⟩ with ⟨h1,h2⟩ | h1
             · exact fin0 h1 h2
             · exact fin 8 (Or.inr rfl) h1
         · cases ht
       · have hT: typeO o.toList t1 t2 = if bothB t1 t2 2 then some 2 else none := by
          rcases hr with h | h | h
          · exact absurd h hp
          · rw [h]; rfl
          · rw [h]; rfl
         rw [hT] at ht
         split at ht
         · rename_i e
           cases ht
           rcases reck_typed hkn hu hu2 (ints e) with ⟨h1,h2⟩ | h1
           · exact fin0 h1 h2
           · exact fin 7 (Or.inl rfl) h1
         · cases ht
     · have hV: twoV o u u2 = errOr (ofVv (holdsT o u.k u.n u.s u2.k u2.n u2.s)) (holdsE o u.k u.n u.s u2.k u2.n u2.s) := by
        unfold twoV
        rw [if_neg (by simpa [or_assoc] using hr)]
       have hT: typeO o.toList t1 t2 = if agreeB t1 t2 then some 1 else none := by
        simp only [nops2,List.mem_cons,List.not_mem_nil,or_false] at hm
        rcases hm with h | h | h | h | h | h | h | h | h | h | h
        · exact absurd (Or.inl h) hr
        · exact absurd (Or.inr (Or.inl h)) hr
        · exact absurd (Or.inr (Or.inr h)) hr
        · rw [h]; rfl
        · rw [h]; rfl
        · rw [h]; rfl
        · rw [h]; rfl
        · rw [h]; rfl
        · rw [h]; rfl
        · rw [h] at ha; cases ha
        · rw [h] at ho; cases ho
       have hkb: knownB o = true := by
        simp only [nops2,List.mem_cons,List.not_mem_nil,or_false] at hm
        unfold knownB
        rcases hm with h | h | h | h | h | h | h | h | h | h | h
        · exact absurd (Or.inl h) hr
        · exact absurd (Or.inr (Or.inl h)) hr
        · exact absurd (Or.inr (Or.inr h)) hr
        · rw [h]; rfl
        · rw [h]; rfl
        · rw [h]; rfl
        · rw [h]; rfl
        · rw [h]; rfl
        · rw [h]; rfl
        · rw [h] at ha; cases ha
        · rw [h] at ho; cases ho
       rw [hT] at ht
       split at ht
       · rename_i e
         cases ht
         left
         rw [hV,holds_typed hkb hu hu2 e]
         exact ⟨rfl,ofVv_typed _⟩
       · cases ht
   · rw [if_neg (by simpa using e1)]
     exact Or.inr ⟨h78,rfl,safe_kid (k := k2) (by simp [NL.kids]) hs⟩
 · rw [if_neg (by simpa using e0)]
   exact Or.inr ⟨h78,rfl,safe_kid (k := k) (by simp [NL.kids]) hs⟩
theorem rightX_mk {n: Nat} {xo: ByteArray} {xk xn: Int} {xs xv xc: ByteArray} {xa: Option Addr} {xp: Nat} {kids: List XL}: rightX (n + 1) (.mk xo xk xn xs xv xc xa xp kids) = (decide ((kids.length: Int) = kidsI xo) &&
 (if xo.toList == oVALUE then xv.toList == [] && xc.toList == [] && rightB xk xn xs && decide (0 <= xn)
  else if xo.toList == oCOLUMN then noVal (.mk xo xk xn xs xv xc xa xp kids) && nameB xc && (xv.toList == [] || nameB xv)
  else noVal (.mk xo xk xn xs xv xc xa xp kids) && xv.toList == [] && xc.toList == [] && kids.all (rightX n))) := rfl
theorem nkids_le3 (s: ByteArray): kidsI s <= 2 := by
 unfold kidsI
 repeat' split
 all_goals decide
theorem place_at {l: List VarL} {var col: ByteArray} {v c: Nat} {k: Col} (h: placeO l var col = some (v,c,k)): ∃ x,l[v]? = some x /\ x.cols[c]? = some k := by
 unfold placeO at h
 split at h
 · cases h
 split at h
 · cases h
 · rename_i x hx
   split at h
   · cases h
   split at h
   · cases h
   · rename_i c' hc
     cases h
     exact ⟨x,hx,hc⟩
theorem sound {l: List VarL} {rs: List RowL} (hF: FitAll l rs): ∀ (n: Nat) (x: XL) (y: NL) (t: Int),rightX n x = true -> chk n l x = (y,t,0) -> Sound n rs y t
 | 0,_,_,_,h,_ => by cases h
 | n + 1, .mk xo xk xn xs xv xc xa xp kids,y,t,h,hc => by
  have hk := kids_of_right h
  simp only [XL.kids,XL.op] at hk
  rw [rightX_mk,Bool.and_eq_true] at h
  have h' := h.2
  rw [chk_mk] at hc
  by_cases e1: xo.toList = oVALUE
  · rw [ifT (by rw [e1]; rfl)] at hc
    rw [ifT (by rw [e1]; rfl)] at h'
    cases hc
    simp only [Bool.and_eq_true] at h'
    left
    have hk0: kidsN xo = 0 := by unfold kidsN; rw [e1]; decide
    have: evN (n + 1) rs (.mk xo xk xn xs 0 0 none 0 []) = (⟨xk,xn,xs⟩,0) := by
     rw [evN_mk,ifT (by rw [hk0]; rfl),ifT (by rw [e1]; rfl)]
    rw [this]
    exact ⟨rfl,h'.1.2,Or.inr rfl⟩
  by_cases e2: xo.toList = oCOLUMN
  · rw [ifF (by rw [e2]; rfl),ifT (by rw [e2]; rfl)] at hc
    unfold chkPlace at hc
    split at hc
    · cases hc
    · rename_i v c k hp
      cases hc
      obtain ⟨z,hz,hzc⟩ := place_at hp
      have hv: v < l.length := (List.getElem?_eq_some_iff.1 hz).1
      obtain ⟨r,hr⟩: ∃ r,rs[v]? = some r := ⟨_,List.getElem?_eq_getElem (by rw [<- hF.1]; exact hv)⟩
      obtain ⟨hl,hT⟩ := hF.2 v z _ hz hr
      have hcl: c < z.cols.length := (List.getElem?_eq_some_iff.1 hzc).1
      obtain ⟨u,hu⟩: ∃ u,r.l[c]? = some u := ⟨_,List.getElem?_eq_getElem (by rw [hl]; exact hcl)⟩
      left
      have hk0: kidsN xo = 0 := by unfold kidsN; rw [e2]; decide
      have hce := evCol_at hr hu
      have: evN (n + 1) rs (.mk xo 0 0 ⟨#[]⟩ (v: Int) (c: Int) none 0 []) = (u,0) := by
       rw [evN_mk,ifT (by rw [hk0]; rfl),ifF (by rw [e2]; rfl),ifT (by rw [e2]; rfl),hce]
      rw [this]
      exact ⟨rfl,hT c k _ hzc hu⟩
  have b1: (xo.toList == oVALUE) = false := by simpa using e1
  have b2: (xo.toList == oCOLUMN) = false := by simpa using e2
  rw [ifF b1,ifF b2] at hc
  rw [ifF b1,ifF b2] at h'
  simp only [Bool.and_eq_true,List.all_eq_true] at h'
  have hks := h'.2
  have typed: ∀ (ks: List NL) (o: Option Int),chkTyped xo ks o = (y,t,0) -> o = some t /\ y = .mk xo 0 0 ⟨#[]⟩ 0 0 none 0 ks := fun ks o h => by
   unfold chkTyped at h
   split at h
   · cases h
   · cases h; exact ⟨rfl,rfl⟩
  have done: ∀ k,(chk n l k).2.2 = 0 -> chk n l k = ((chk n l k).1,(chk n l k).2.1,0) := fun k h => by
   rw [<- h]
  match kids,hk,hks,hc with
  | [],_,_,hc => cases hc
  | [k],hk,hks,hc =>
   have hc: chkOne xo (chk n l k) = (y,t,0) := hc
   unfold chkOne at hc
   by_cases e0: (chk n l k).2.2 = 0
   · rw [if_pos (by simp [e0])] at hc
     obtain ⟨hty,rfl⟩ := typed _ _ hc
     exact sound_one (kids_one (by simpa using hk.symm)) (sound hF n k _ _ (hks k (by simp)) (done k e0)) hty
   · rw [if_neg (by simpa using e0)] at hc
     exact absurd (congrArg (fun r: Chk => r.2.2) hc) e0
  | [k,k2],hk,hks,hc =>
   have hc: chkTwo xo (chk n l k) (chk n l k2) = (y,t,0) := hc
   unfold chkTwo at hc
   by_cases e0: (chk n l k).2.2 = 0
   · rw [if_pos (by simp [e0])] at hc
     by_cases e3: (chk n l k2).2.2 = 0
     · rw [if_pos (by simp [e3])] at hc
       obtain ⟨hty,rfl⟩ := typed _ _ hc
       have i1 := sound hF n k _ _ (hks k (by simp)) (done k e0)
       have i2 := sound hF n k2 _ _ (hks k2 (by simp)) (done k2 e3)
       have hm := kids_two (s := xo) (by simpa using hk.symm)
       cases ha: (xo.toList == nAND)
       · cases ho: (xo.toList == nOR)
         · exact sound_two hm ha ho i1 i2 hty
         · exact sound_both (Or.inr (eq_of_beq ho)) i1 i2 hty
       · exact sound_both (Or.inl (eq_of_beq ha)) i1 i2 hty
     · rw [if_neg (by simpa using e3)] at hc
       exact absurd (congrArg (fun r: Chk => r.2.2) hc) e3
   · rw [if_neg (by simpa using e0)] at hc
     exact absurd (congrArg (fun r: Chk => r.2.2) hc) e0
  | k :: k2 :: k3 :: r,hk,_,_ =>
   exfalso
   have: kidsI xo <= 2 := nkids_le3 xo
   simp at hk
   omega
end Go.Proofs.YteibhbnlcpejpaaGreat
