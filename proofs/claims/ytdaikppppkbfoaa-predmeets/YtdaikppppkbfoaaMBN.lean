import Derived.Test.YtdaikppppkbfoaaMBF
import Derived.Test.YtdaikppppkbfoaaMBG
import Derived.Test.YtdaikppppkbfoaaMBM
namespace Go.Proofs.Ytdaikppppkbfoaa
open Go.RowKit
theorem reval_column {w: World} {ra: Option Addr} {rs: List RowL} {rc: Nat} {xo: ByteArray} {xk xn: Int} {xs: ByteArray} {xv xc: Int} {xa: Option Addr} {xp: Nat} {l: List NL} (hl: l = []) (ho: xo.toList = nCOLUMN) (hR: RowsIn w ra rs) (hF: RowsFit rs) :
 Calls Try.prog 103 #[nV (.mk xo xk xn xs xv xc xa xp l), .slice ra rs.length rc] w (RvP (evCol rs xv xc) w) := by
 by_cases hv: xv < 0 \/ (rs.length: Int) <= xv
 · exact reval_col_out hv hl ho hF
 obtain ⟨j,rfl⟩: ∃ j: Nat,xv = (j: Int) := ⟨xv.toNat,by omega⟩
 have hj: j < rs.length := by omega
 obtain ⟨b,o,r,rfl,hb,hr,hc⟩ := hR.rows.at hj
 have hw := hR.vals r (List.mem_of_getElem? hr)
 have c0: w.cell? ⟨b,o + (j: Int).toNat,none⟩ = some (.slice r.a r.l.length r.c) := by have := hc 0 _ rfl; simpa using this
 by_cases h2: xc < 0
 · rw [evCol_clo hr h2]
   exact reval_col_clo (by omega) (by omega) hb c0 h2 hl ho
 by_cases h3: (r.l.length: Int) <= xc
 · rw [evCol_chi hr h2 h3]
   exact reval_col_chi (by omega) (by omega) hb c0 (by omega) h3 hl ho
 obtain ⟨i,rfl⟩: ∃ i: Nat,xc = (i: Int) := ⟨xc.toNat,by omega⟩
 have hi: i < r.l.length := by omega
 obtain ⟨b',o',u,hra,hb',hu,hc'⟩ := hw.at hi
 rw [evCol_at hr hu]
 rw [hra] at c0
 exact reval_col_at (by omega) (by omega) hb c0 (by omega) (by omega) hb' (by simpa using hc' 0 _ rfl) (by simpa using hc' 1 _ rfl) (by simpa using hc' 2 _ rfl) hl ho
theorem two_of_kids {s: ByteArray} (h: kidsN s = 2): isTwoN s = true := by
 unfold isTwoN
 simpa using nkids_two h
theorem reval_walk {ra: Option Addr} {rs: List RowL} {rc: Nat} (hF: RowsFit rs): ∀ n: Nat,REvIH n ra rs rc
 | 0 => fun k W _ h => by cases h
 | n + 1 => fun k W hI hd hR => by
  have IH := reval_walk (ra := ra) (rc := rc) hF n
  obtain ⟨xo,xk,xn,xs,xv,xc,xa,xp,l⟩ := k
  have hd': ∀ k ∈ l,deepN n k = false := fun k hk => by
   have: l.any (deepN n) = false := hd
   exact Bool.eq_false_iff.2 (List.any_eq_false.1 this k hk)
  have hS: Rw.SlG nC 7 W xa l := hI.2.1
  have hK: ∀ k ∈ l,InN n W k := hI.2.2
  have hE: evN (n + 1) rs (.mk xo xk xn xs xv xc xa xp l) = (if (l.length: Int) == kidsN xo then
   (if xo.toList == nVALUE then (⟨xk,xn,xs⟩,0)
   else if xo.toList == nCOLUMN then evCol rs xv xc
   else if xo.toList == nAND then evBoth 0 tAnd (evN n rs (l.headD zNL)) (evN n rs (l.tail.headD zNL))
   else if xo.toList == nOR then evBoth 1 tOr (evN n rs (l.headD zNL)) (evN n rs (l.tail.headD zNL))
   else if l.length == 1 then oneE xo.toList (evN n rs (l.headD zNL))
   else twoE xo (evN n rs (l.headD zNL)) (evN n rs (l.tail.headD zNL)))
  else (vz,15)) := rfl
  rw [hE]
  cases hk: ((l.length: Int) == kidsN xo)
  · exact reval_bad hk
  have hkl := eq_of_beq hk
  cases k1: (xo.toList == nVALUE)
  · cases k2: (xo.toList == nCOLUMN)
    · have hk0: 1 <= kidsN xo := by
       unfold kidsN at hk ⊢
       rw [k1,k2] at hk ⊢
       simp only [Bool.or_false,Bool.false_eq_true,if_false] at hk ⊢
       split
       · decide
       split
       · decide
       · rename_i h3 h4
         rw [if_neg h3,if_neg h4] at hk
         simp at hk
      have hle := nkids_le xo
      have hle2: l.length = 1 \/ l.length = 2 := by omega
      cases k3: (xo.toList == nAND)
      · cases k4: (xo.toList == nOR)
        · rcases hle2 with h | h
          · match l,h with
            | [k0],_ =>
             rcases nkids_one (s := xo) (by simpa using hkl.symm) with e | e | e
             · exact reval_neg e IH (evN_fit (hK k0 (by simp)) hF) hR hS (hK k0 (by simp)) (hd' k0 (by simp))
             · exact reval_not e IH hR hS (hK k0 (by simp)) (hd' k0 (by simp))
             · exact reval_null e IH hR hS (hK k0 (by simp)) (hd' k0 (by simp))
          · match l,h with
            | [k0,k1'],_ =>
             have htw := two_of_kids (s := xo) (by simpa using hkl.symm)
             by_cases hop: xo.toList = [43] \/ xo.toList = [45] \/ xo.toList = [42]
             · exact reval_reck htw k3 k4 hop IH (evN_fit (hK k0 (by simp)) hF) (evN_fit (hK k1' (by simp)) hF) hR hS (hK k0 (by simp)) (hd' k0 (by simp)) (hK k1' (by simp)) (hd' k1' (by simp))
             · exact reval_holds htw k3 k4 (beq_eq_false_iff_ne.2 fun h => hop (Or.inl h)) (beq_eq_false_iff_ne.2 fun h => hop (Or.inr (Or.inl h))) (beq_eq_false_iff_ne.2 fun h => hop (Or.inr (Or.inr h))) IH (evN_fit (hK k0 (by simp)) hF) (evN_fit (hK k1' (by simp)) hF) hR hS (hK k0 (by simp)) (hd' k0 (by simp)) (hK k1' (by simp)) (hd' k1' (by simp))
        · have hk2: kidsN xo = 2 := by unfold kidsN; rw [eq_of_beq k4]; decide
          have hl: l.length = 2 := by omega
          match l,hl with
          | [k0,k1'],_ => exact reval_or (eq_of_beq k4) IH hR hS (hK k0 (by simp)) (hd' k0 (by simp)) (hK k1' (by simp)) (hd' k1' (by simp))
      · have hk2: kidsN xo = 2 := by unfold kidsN; rw [eq_of_beq k3]; decide
        have hl: l.length = 2 := by omega
        match l,hl with
        | [k0,k1'],_ => exact reval_and (eq_of_beq k3) IH hR hS (hK k0 (by simp)) (hd' k0 (by simp)) (hK k1' (by simp)) (hd' k1' (by simp))
    · have hl: l = [] := by
       have: kidsN xo = 0 := by unfold kidsN; rw [k1,k2]; rfl
       exact List.eq_nil_of_length_eq_zero (by omega)
      exact reval_column hl (eq_of_beq k2) hR hF
  · have hl: l = [] := by
     have: kidsN xo = 0 := by unfold kidsN; rw [k1]; rfl
     exact List.eq_nil_of_length_eq_zero (by omega)
    exact reval_value hl (eq_of_beq k1)
end Go.Proofs.Ytdaikppppkbfoaa
