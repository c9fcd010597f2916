import Derived.Test.YteibhbnlcpejpaaGreatMAN
import Derived.Test.YteibhbnlcpejpaaGreatMAT
set_option maxRecDepth 100000
set_option maxHeartbeats 4000000
namespace Go.Proofs.YteibhbnlcpejpaaGreat
open Go.RowKit
section
variable {w W: World} {n: Nat} {ra: Option Addr} {rs: List RowL} {m rc: Nat} {xo: ByteArray} {xk xn: Int} {xs: ByteArray} {xv xc: Int} {xa: Option Addr} {k xp: Nat} {l: List NL}
theorem reval_col_out (hv: xv < 0 \/ (rs.length: Int) <= xv) (hl: l = []) (ho: xo.toList = nCOLUMN) (hF: RowsFit rs) :
 Calls Tryz.prog 88 #[nV (.mk xo xk xn xs xv xc xa xp l), .slice ra rs.length rc] w (RvP (evCol rs xv xc) w) := by
 have k1: (xo.toList == [118,97,108,117,101]) = false := by rw [ho]; rfl
 have k2: (xo.toList == [99,111,108,117,109,110]) = true := by rw [ho]; rfl
 have hll: rs.length <= 9223372036854775807 := hF.1
 subst hl
 unfold nV
 dsimp only [NL.op,NL.vk,NL.vn,NL.vs,NL.var,NL.col,NL.a,NL.c,NL.kids,List.length_nil]
 clear ho
 have hB := fun o1 o2 o3 => Rw.dh (below_three w o1 o2 o3)
 by_cases h0: xv < 0
 · rw [evCol_lo h0]
   go_enter Tryz.func88,Tryz.ntmps88
   go_wp2_with fail
   go_quiet (fail)
   refine Rw.to_letter (F := fun W => Rbx w W xo xk xn xs xv xc xa 0 xp) (Rbx.new _) ?_
   intro W hE
   have HE := Rw.dh hE
   obtain ⟨n0,n1,n2,n3,n4,n5,n6⟩ := hE.cn
   obtain ⟨r0,r1,r2,r3,r4,r5⟩ := cells3 hE.r
   obtain ⟨z0,z1,z2,z3,z4,z5⟩ := cells3 hE.z
   clear hE
   go_wp2
   exact bodyPost_ret (v := .tuple #[.agg #[.int .i64 0, .int .i64 0, .string ⟨#[]⟩], .int .i64 15]) (by simp [results,Tryz.results88,go_sem,r0,r1,r2]) rfl ⟨rfl,below_set3 (by omega) HE.out.bel _ _ _⟩
 by_cases h1: (rs.length: Int) <= xv
 · rw [evCol_hi h0 h1]
   have g0: decide (xv < 0) = false := by first | exact decide_eq_true (by omega) | exact decide_eq_false (by omega)
   have g1: decide ((rs.length: Int) <= xv) = true := by first | exact decide_eq_true (by omega) | exact decide_eq_false (by omega)
   have g2: decide (xv ≥ (rs.length: Int)) = true := by first | exact decide_eq_true (by omega) | exact decide_eq_false (by omega)
   go_enter Tryz.func88,Tryz.ntmps88
   go_wp2_with fail
   go_quiet (fail)
   refine Rw.to_letter (F := fun W => Rbx w W xo xk xn xs xv xc xa 0 xp) (Rbx.new _) ?_
   intro W hE
   have HE := Rw.dh hE
   obtain ⟨n0,n1,n2,n3,n4,n5,n6⟩ := hE.cn
   obtain ⟨r0,r1,r2,r3,r4,r5⟩ := cells3 hE.r
   obtain ⟨z0,z1,z2,z3,z4,z5⟩ := cells3 hE.z
   clear hE
   go_wp2
   exact bodyPost_ret (v := .tuple #[.agg #[.int .i64 0, .int .i64 0, .string ⟨#[]⟩], .int .i64 15]) (by simp [results,Tryz.results88,go_sem,r0,r1,r2]) rfl ⟨rfl,below_set3 (by omega) HE.out.bel _ _ _⟩
 exact absurd hv (by omega)
end
theorem reval_column {w: World} {ra: Option Addr} {rs: List RowL} {rc: Nat} {xo: ByteArray} {xk xn: Int} {xs: ByteArray} {xv xc: Int} {xa: Option Addr} {xp: Nat} {l: List NL} (hl: l = []) (ho: xo.toList = nCOLUMN) (hR: RowsIn w ra rs) (hF: RowsFit rs) :
 Calls Tryz.prog 88 #[nV (.mk xo xk xn xs xv xc xa xp l), .slice ra rs.length rc] w (RvP (evCol rs xv xc) w) := by
 by_cases hv: xv < 0 \/ (rs.length: Int) <= xv
 · exact reval_col_out hv hl ho hF
 obtain ⟨j,rfl⟩: ∃ j: Nat,xv = (j: Int) := ⟨xv.toNat,by omega⟩
 have hj: j < rs.length := by omega
 obtain ⟨b,o,r,rfl,hb,hr,hc⟩ := hR.rows.at hj
 have hw := hR.vals r (List.mem_of_getElem? hr)
 have c0: w.cell? ⟨b,o + (j: Int).toNat,none⟩ = some (.slice r.a r.l.length r.c) := by have := hc 0 _ rfl; simpa using this
 by_cases h2: xc < 0
 · rw [evCol_clo hr h2]
   exact reval_col_clo (by omega) (by omega) hb c0 h2 hl ho
 by_cases h3: (r.l.length: Int) <= xc
 · rw [evCol_chi hr h2 h3]
   exact reval_col_chi (by omega) (by omega) hb c0 (by omega) h3 hl ho
 obtain ⟨i,rfl⟩: ∃ i: Nat,xc = (i: Int) := ⟨xc.toNat,by omega⟩
 have hi: i < r.l.length := by omega
 obtain ⟨b',o',u,hra,hb',hu,hc'⟩ := hw.at hi
 rw [evCol_at hr hu]
 rw [hra] at c0
 exact reval_col_at (by omega) (by omega) hb c0 (by omega) (by omega) hb' (by simpa using hc' 0 _ rfl) (by simpa using hc' 1 _ rfl) (by simpa using hc' 2 _ rfl) hl ho
theorem two_of_kids {s: ByteArray} (h: kidsN s = 2): isTwoN s = true := by
 unfold isTwoN
 simpa using nkids_two h
theorem reval_walk {ra: Option Addr} {rs: List RowL} {rc: Nat} (hF: RowsFit rs): ∀ n: Nat,REvIH n ra rs rc
 | 0 => fun k W _ h => by cases h
 | n + 1 => fun k W hI hd hR => by
  have IH := reval_walk (ra := ra) (rc := rc) hF n
  obtain ⟨xo,xk,xn,xs,xv,xc,xa,xp,l⟩ := k
  have hd': ∀ k ∈ l,deepN n k = false := fun k hk => by
   have: l.any (deepN n) = false := hd
   exact Bool.eq_false_iff.2 (List.any_eq_false.1 this k hk)
  have hS: Rw.SlG nC 7 W xa l := hI.2.1
  have hK: ∀ k ∈ l,InN n W k := hI.2.2
  have hE: evN (n + 1) rs (.mk xo xk xn xs xv xc xa xp l) = (if (l.length: Int) == kidsN xo then
   (if xo.toList == nVALUE then (⟨xk,xn,xs⟩,0)
   else if xo.toList == nCOLUMN then evCol rs xv xc
   else if xo.toList == nAND then evBoth 0 tAnd (evN n rs (l.headD zNL)) (evN n rs (l.tail.headD zNL))
   else if xo.toList == nOR then evBoth 1 tOr (evN n rs (l.headD zNL)) (evN n rs (l.tail.headD zNL))
   else if l.length == 1 then oneE xo.toList (evN n rs (l.headD zNL))
   else twoE xo (evN n rs (l.headD zNL)) (evN n rs (l.tail.headD zNL)))
  else (vz,15)) := rfl
  rw [hE]
  cases hk: ((l.length: Int) == kidsN xo)
  · exact reval_bad hk
  have hkl := eq_of_beq hk
  cases k1: (xo.toList == nVALUE)
  · cases k2: (xo.toList == nCOLUMN)
    · have hk0: 1 <= kidsN xo := by
       unfold kidsN at hk ⊢
       rw [k1,k2] at hk ⊢
       simp only [Bool.or_false,Bool.false_eq_true,if_false] at hk ⊢
       split
       · decide
       split
       · decide
       · rename_i h3 h4
         rw [if_neg h3,if_neg h4] at hk
         simp at hk
      have hle := nkids_le xo
      have hle2: l.length = 1 \/ l.length = 2 := by omega
      cases k3: (xo.toList == nAND)
      · cases k4: (xo.toList == nOR)
        · rcases hle2 with h | h
          · match l,h with
            | [k0],_ =>
             rcases nkids_one (s := xo) (by simpa using hkl.symm) with e | e | e
             · exact reval_neg e IH (evN_fit (hK k0 (by simp)) hF) hR hS (hK k0 (by simp)) (hd' k0 (by simp))
             · exact reval_not e IH hR hS (hK k0 (by simp)) (hd' k0 (by simp))
             · exact reval_null e IH hR hS (hK k0 (by simp)) (hd' k0 (by simp))
          · match l,h with
            | [k0,k1'],_ =>
             have htw := two_of_kids (s := xo) (by simpa using hkl.symm)
             by_cases hop: xo.toList = [43] \/ xo.toList = [45] \/ xo.toList = [42]
             · exact reval_reck htw k3 k4 hop IH (evN_fit (hK k0 (by simp)) hF) (evN_fit (hK k1' (by simp)) hF) hR hS (hK k0 (by simp)) (hd' k0 (by simp)) (hK k1' (by simp)) (hd' k1' (by simp))
             · exact reval_holds htw k3 k4 (beq_eq_false_iff_ne.2 fun h => hop (Or.inl h)) (beq_eq_false_iff_ne.2 fun h => hop (Or.inr (Or.inl h))) (beq_eq_false_iff_ne.2 fun h => hop (Or.inr (Or.inr h))) IH (evN_fit (hK k0 (by simp)) hF) (evN_fit (hK k1' (by simp)) hF) hR hS (hK k0 (by simp)) (hd' k0 (by simp)) (hK k1' (by simp)) (hd' k1' (by simp))
        · have hk2: kidsN xo = 2 := by unfold kidsN; rw [eq_of_beq k4]; decide
          have hl: l.length = 2 := by omega
          match l,hl with
          | [k0,k1'],_ => exact reval_or (eq_of_beq k4) IH hR hS (hK k0 (by simp)) (hd' k0 (by simp)) (hK k1' (by simp)) (hd' k1' (by simp))
      · have hk2: kidsN xo = 2 := by unfold kidsN; rw [eq_of_beq k3]; decide
        have hl: l.length = 2 := by omega
        match l,hl with
        | [k0,k1'],_ => exact reval_and (eq_of_beq k3) IH hR hS (hK k0 (by simp)) (hd' k0 (by simp)) (hK k1' (by simp)) (hd' k1' (by simp))
    · have hl: l = [] := by
       have: kidsN xo = 0 := by unfold kidsN; rw [k1,k2]; rfl
       exact List.eq_nil_of_length_eq_zero (by omega)
      exact reval_column hl (eq_of_beq k2) hR hF
  · have hl: l = [] := by
     have: kidsN xo = 0 := by unfold kidsN; rw [k1]; rfl
     exact List.eq_nil_of_length_eq_zero (by omega)
    exact reval_value hl (eq_of_beq k1)
def allStep (t: Int × Int) (r: Bool × Int): Bool × Int := if t.2 == 0 then (if t.1 == 1 then r else (false,0)) else (false,t.2)
def allN (n: Nat) (rs: List RowL): List NL -> Bool × Int
 | [] => (true,0)
 | x :: l => allStep (trE (evN n rs x)) (allN n rs l)
def errStep (c r: Int): Int := if c == 0 then r else c
def errN (n: Nat) (rs: List RowL): List NL -> Int
 | [] => 0
 | x :: l => errStep (evN n rs x).2 (errN n rs l)
theorem drop_at {α: Type} {l: List α} {j: Nat} {x: α} (h: l[j]? = some x): l.drop j = x :: l.drop (j + 1) := by
 obtain ⟨hj,e⟩ := List.getElem?_eq_some_iff.1 h
 rw [List.drop_eq_getElem_cons hj,e]
theorem allN_at {n: Nat} {rs: List RowL} {l: List NL} {j: Nat} {x: NL} (h: l[j]? = some x): allN n rs (l.drop j) = allStep (trE (evN n rs x)) (allN n rs (l.drop (j + 1))) := by
 rw [drop_at h]; rfl
theorem allStep_err {t: Int × Int} {r: Bool × Int} (h: (t.2 != 0) = true): allStep t r = (false,t.2) := by
 unfold allStep; rw [if_neg (by simpa using h)]
theorem allStep_no {t: Int} {r: Bool × Int} (h: (t != 1) = true): allStep (t,0) r = (false,0) := by
 show (if t == 1 then r else (false,0)) = _
 rw [if_neg (by simpa using h)]
theorem allStep_yes {t: Int} {r: Bool × Int} (h: (t != 1) = false): allStep (t,0) r = r := by
 show (if t == 1 then r else (false,0)) = _
 rw [if_pos (by simpa using h)]
theorem allN_like (rs: List RowL) {n: Nat}: ∀ {l m: List NL},l.length = m.length -> (∀ (j: Nat) k k',l[j]? = some k -> m[j]? = some k' -> LikeN n k k') -> allN n rs l = allN n rs m /\ errN n rs l = errN n rs m /\ (l.map fun x => (evN n rs x).1) = (m.map fun x => (evN n rs x).1)
 | [],[],_,_ => ⟨rfl,rfl,rfl⟩
 | x :: l,y :: m,hl,h => by
  obtain ⟨h1,h2,h3⟩ := allN_like rs (l := l) (m := m) (by simpa using hl) fun j k k' a b => h (j + 1) k k' (by simpa using a) (by simpa using b)
  have e := (h 0 x y rfl rfl).ev rs
  refine ⟨?_, ?_, ?_⟩
  · rw [allN,allN,e,h1]
  · rw [errN,errN,e,h2]
  · rw [List.map_cons,List.map_cons,e,h3]
 | [],_ :: _,hl,_ => by simp at hl
 | _ :: _,[],hl,_ => by simp at hl
theorem rallB_walk {n: Nat} {l: List NL} {a: Option Addr} {c: Nat} {ra: Option Addr} {rs: List RowL} {rc: Nat} {w: World} (hS: Rw.SlG nC 7 w a l) (hI: ∀ k ∈ l,InN n w k) (hd: ∀ k ∈ l,deepN n k = false) (hl: l.length <= 600000) (hR: RowsIn w ra rs) (hF: RowsFit rs) :
 Calls Tryz.prog 36 #[.slice a l.length c, .slice ra rs.length rc] w fun e w' => e = .returned (.tuple #[.bool (allN n rs l).1, .int .i64 (allN n rs l).2]) /\ Below w.heap.size w w' := by
 have HS := Rw.dh hS
 have HV := Rw.dh (fun k (hk: k ∈ l) W (hb: Below w.heap.size w W) => reval_walk (ra := ra) (rc := rc) hF n k W ((hI k hk).on hb) (hd k hk) (hR.on hb))
 have HRT := Rw.dh (fun k n s W => rtruth_walk k n s W)
 unfold valV at HRT
 clear hS hI hd hR hF
 go_enter Tryz.func36,Tryz.ntmps36
 go_wp2_with fail
 go_loopw [6] (fun i wr => ∃ j: Nat,j <= l.length /\ i = .int .i64 (j: Int) /\ Hid (Below w.heap.size w wr) /\ Hid (allN n rs l = allN n rs (l.drop j))) (fun i _ => l.length - (intOf i).toNat)
 case atStart => exact ⟨0,Nat.zero_le _,rfl,Below.refl _ _,rfl⟩
 case round =>
  obtain ⟨j,hj,rfl,HB,HA⟩ := hrel
  by_cases hlt: j < l.length
  · obtain ⟨b,o,k,rfl,hb,hx,hc⟩ := (HS.out.below HB.out).at hlt
    have hv := HV.out k (List.mem_of_getElem? hx) wr HB.out
    have HA1: Hid (allN n rs l = allStep (trE (evN n rs k)) (allN n rs (l.drop (j + 1)))) := HA.out.trans (allN_at hx)
    generalize evN n rs k = r at *
    have c0: wr.cell? ⟨b,o + j * 7,none⟩ = some (.string k.op) := hc 0 _ rfl
    have c1: wr.cell? ⟨b,o + j * 7 + 1,none⟩ = some (.int .i64 k.vk) := hc 1 _ rfl
    have c2: wr.cell? ⟨b,o + j * 7 + 2,none⟩ = some (.int .i64 k.vn) := hc 2 _ rfl
    have c3: wr.cell? ⟨b,o + j * 7 + 3,none⟩ = some (.string k.vs) := hc 3 _ rfl
    have c4: wr.cell? ⟨b,o + j * 7 + 4,none⟩ = some (.int .i64 k.var) := hc 4 _ rfl
    have c5: wr.cell? ⟨b,o + j * 7 + 5,none⟩ = some (.int .i64 k.col) := hc 5 _ rfl
    have c6: wr.cell? ⟨b,o + j * 7 + 6,none⟩ = some (.slice k.a k.kids.length k.c) := hc 6 _ rfl
    clear hc hx HA
    unfold nV at hv
    go_wp2_with fail
    refine hv.mono ?_
    clear hv
    rintro e w1 ⟨rfl,hb1⟩
    have HB1 := Rw.dh (below_on HB.out hb1)
    clear hb1 c0 c1 c2 c3 c4 c5 c6 hb HB
    obtain ⟨⟨vk,vn,vs⟩,c⟩ := r
    unfold vvV valV
    cases hc: (c != 0)
    · obtain rfl: c = 0 := by simpa using hc
      clear hc
      have HB2 := Rw.dh (HB1.out.alloc HB1.out.size (.cells #[.int .i64 vk, .int .i64 vn, .string vs] 27))
      have HT: Hid (∀ c,truthE vk vn = c -> trE (⟨vk,vn,vs⟩,0) = if c == 0 then (truthT vk vn,0) else (0,c)) := fun c hc => by rw [<- hc]; rfl
      go_wp2_with fail
      refine (HRT.out vk vn vs _).mono ?_
      rintro e w3 ⟨rfl,hb⟩
      have HB3 := Rw.dh (below_on HB2.out hb)
      clear hb HB1 HB2
      generalize truthT vk vn = t at *
      generalize truthE vk vn = c at *
      cases hc: (c != 0)
      · obtain rfl: c = 0 := by simpa using hc
        have hT: trE (⟨vk,vn,vs⟩,0) = (t,0) := HT.out 0 rfl
        have hA2 := HA1.out
        rw [hT] at hA2
        clear HT hT HA1
        cases ht: (t != 1)
        · have HA2: Hid (allN n rs l = allN n rs (l.drop (j + 1))) := hA2.trans (allStep_yes ht)
          clear hA2
          go_wp2
          go_roundw
          case rel => exact ⟨j + 1,hlt,by go_num,HB3,HA2⟩
          case measure => simp [intOf]; omega
        · have HE := Rw.dh (hA2.trans (allStep_no ht))
          clear hA2
          go_wp2
          go_ret2
          exact ⟨(by rw [HE.out]; rfl),HB3.out⟩
      · have hT: trE (⟨vk,vn,vs⟩,0) = (0,c) := (HT.out c rfl).trans (if_neg (by simpa using hc))
        have hA2 := HA1.out
        rw [hT] at hA2
        have HE := Rw.dh (hA2.trans (allStep_err hc))
        clear HT hT HA1 hA2
        go_wp2
        go_ret2
        exact ⟨(by rw [HE.out]; rfl),HB3.out⟩
    · have hT: trE (⟨vk,vn,vs⟩,c) = (0,c) := trE_no (a := (⟨vk,vn,vs⟩,c)) hc
      have hA2 := HA1.out
      rw [hT] at hA2
      have HE := Rw.dh (hA2.trans (allStep_err hc))
      have HB2 := Rw.dh (HB1.out.alloc HB1.out.size (.cells #[.int .i64 vk, .int .i64 vn, .string vs] 27))
      clear hT HA1 hA2
      go_wp2
      go_ret2
      exact ⟨(by rw [HE.out]; rfl),HB2.out⟩
  · have hjs: j = l.length := by omega
    subst hjs
    have hA := HA.out
    rw [List.drop_length] at hA
    have HE := Rw.dh hA
    clear hA HA
    go_wp2
    go_ret2
    exact ⟨by rw [HE.out]; rfl,HB.out⟩
end Go.Proofs.YteibhbnlcpejpaaGreat
