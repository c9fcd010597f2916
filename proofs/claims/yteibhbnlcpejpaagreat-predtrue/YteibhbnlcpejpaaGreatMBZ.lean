import Derived.Deep.CutBlock
import Derived.Deep.DeepCutAuto
import Derived.Test.YteibhbnlcpejpaaGreatMBO
import Derived.Test.YteibhbnlcpejpaaGreatMBP
import Derived.Test.YteibhbnlcpejpaaGreatMBQ
import Derived.Test.YteibhbnlcpejpaaGreatMBY
set_option maxRecDepth 100000
set_option maxHeartbeats 4000000
namespace Go.Proofs.YteibhbnlcpejpaaGreat
open Go.RowKit
theorem len_one {α: Type} {l: List α} (h: l.length = 1): ∃ a,l = [a] := by
 match l,h with
 | [a],_ => exact ⟨a,rfl⟩
theorem nil_toList: (⟨#[]⟩: ByteArray).toList = [] := by simp [ByteArray.toList_eq]
theorem vars_one (t: TabL): varsP [t] ⟨#[]⟩ [⟨0,t.name,⟨#[]⟩⟩] [] = ([⟨t.name,0,t.name,⟨#[]⟩,none,0,t.cols⟩],0) := by
 have h1: tabO [t] ⟨0,t.name,⟨#[]⟩⟩ ⟨#[]⟩ = some t := by
  have h: findTI [t] t.name = 0 := by unfold findTI; simp [List.findIdx?_cons,eqS]
  unfold tabO findTab
  show (if findTI [t] t.name < 0 then none else [t][(findTI [t] t.name).toNat]?) = some t
  rw [h]
  rfl
 have h2: nameO ⟨0,t.name,⟨#[]⟩⟩ = t.name := by
  unfold nameO
  rw [if_pos (by rw [nil_toList]; rfl)]
  rfl
 have h3: vars1 [t] ⟨#[]⟩ [] ⟨0,t.name,⟨#[]⟩⟩ = ([⟨t.name,0,t.name,⟨#[]⟩,none,0,t.cols⟩],0) := by
  unfold vars1
  rw [h1,h2]
  rfl
 show (if (vars1 [t] ⟨#[]⟩ [] ⟨0,t.name,⟨#[]⟩⟩).2 == 0 then varsP [t] ⟨#[]⟩ [] (vars1 [t] ⟨#[]⟩ [] ⟨0,t.name,⟨#[]⟩⟩).1 else ([],(vars1 [t] ⟨#[]⟩ [] ⟨0,t.name,⟨#[]⟩⟩).2)) = _
 rw [h3]
 rfl
theorem predTrue_walk (t: TabL) (ws: List XL) (r: RowL) {wa: Option Addr} {wc: Nat} {w: World} (hn: t.name.size <= 140737488355328) (hcs: ∀ c ∈ t.cols,c.s.size <= 140737488355328) (hcn: t.a = none -> t.c = 0) (hC: Rw.SlG colC 4 w t.a t.cols) (hS: Rw.SlG xC 7 w wa ws) (hX: ∀ x ∈ ws,∀ n,In n w x) (hR: Rw.SlG vvC 3 w r.a r.l) (hF: r.l.length <= maxLen /\ ∀ v ∈ r.l,VFit v)
 (hA0: ∀ W,Calls Tryz.prog 23 #[] W fun e W' => e = .returned (.bool true) /\ Below W.heap.size W W') :
 Calls Tryz.prog 5 #[.agg #[.string t.name, .slice t.a t.cols.length t.c], .slice wa ws.length wc, .slice r.a r.l.length r.c] w fun e W => e = .returned (.bool true) /\ Below w.heap.size w W := by
 have HA := Rw.dh hA0
 have HT0: Hid (t.cols.length <= 50 -> TabOk t) := fun h => ⟨hn,⟨by omega,hcs⟩,hcn⟩
 have HC := Rw.dh (fun W (hb: Below w.heap.size w W) => hC.below hb)
 have HS := Rw.dh (fun W (hb: Below w.heap.size w W) => hS.below hb)
 have HX := Rw.dh (fun x (hx: x ∈ ws) n W (hb: Below w.heap.size w W) => (hX x hx n).on hb)
 have HR := Rw.dh (fun W (hb: Below w.heap.size w W) => hR.below hb)
 have HF := Rw.dh hF
 clear hA0 hn hcs hcn hC hS hX hR hF
 go_enter Tryz.func5,Tryz.ntmps5
 go_wp2_with fail
 refine (HA.out _).mono ?_
 rintro e w1 ⟨rfl,hb1⟩
 have HB1 := Rw.dh (below_on (Rw.below_alloc w _) hb1)
 have HC1 := Rw.dh ((hb1.block w.heap.size (by simp)).trans (Rw.heap_new w (.cells #[.string t.name, .slice t.a t.cols.length t.c] 96)))
 clear hb1
 have c0: w1.cell? ⟨w.heap.size,0,none⟩ = some (.string t.name) := by rw [cell_of_row _ _ _ _ _ _ HC1.out]; rfl
 have c1: w1.cell? ⟨w.heap.size,1,none⟩ = some (.slice t.a t.cols.length t.c) := by rw [cell_of_row _ _ _ _ _ _ HC1.out]; rfl
 by_cases h30: 30 < t.cols.length
 · have h30': (30: Int) < (t.cols.length: Int) := by omega
   go_wp2
   go_ret
   exact ⟨rfl,HB1.out⟩
 have h30': decide (30 < (t.cols.length: Int)) = false := decide_eq_false (by omega)
 have h50: t.cols.length <= 50 := by omega
 have H30 := Rw.dh h50
 have HT := Rw.dh (HT0.out h50)
 clear HT0
 have HFt := Rw.dh (fun W (hb: Below w.heap.size w W) => (show Calls Tryz.prog 33 #[.slice t.a t.cols.length t.c, .slice r.a r.l.length r.c] W fun e W' => e = .returned (.int .i64 (fitT t.cols (r.l.map vaOf))) /\ Below W.heap.size W W' from by
  have hh := rfit_walk t.cols (r.l.map vaOf) (c := t.c) (c' := r.c) (w := W) (slC_slg (HC.out W hb)) (slV_vv (HR.out W hb)) h50
  rw [List.length_map] at hh
  exact hh))
 have HCo := Rw.dh (rcolumns_walk t.cols (c := t.c) (w := w1) (slC_slg (HC.out w1 HB1.out)) h50 HT.out.2.1.2)
 generalize hct: colsT t.cols = ct at *
 generalize hfv: fitT t.cols (r.l.map vaOf) = fv at *
 have HFV := Rw.dh hfv
 clear h30 h50 hct hfv
 generalize hM: t.cols.length = M at *
 have HM := Rw.dh hM
 clear hM
 go_wp2_with fail
 refine HCo.out.mono ?_
 clear HCo
 rintro e w2 ⟨rfl,hb2⟩
 have HB2 := Rw.dh (Rw.below_on HB1.out hb2 HB1.out.size)
 have HC2 := Rw.dh ((hb2.block _ (Array.getElem?_eq_some_iff.1 HC1.out).1).trans HC1.out)
 clear hb2 c0 c1 HB1 HC1
 have c0: w2.cell? ⟨w.heap.size,0,none⟩ = some (.string t.name) := by rw [cell_of_row _ _ _ _ _ _ HC2.out]; rfl
 have c1: w2.cell? ⟨w.heap.size,1,none⟩ = some (.slice t.a M t.c) := by rw [cell_of_row _ _ _ _ _ _ HC2.out]; rfl
 by_cases hc0: ct = 0
 case neg =>
  have hcn: (ct != 0) = true := by simpa using hc0
  clear hc0
  go_wp2
  go_ret
  exact ⟨rfl,HB2.out⟩
 subst hc0
 have HFt2 := Rw.dh (HFt.out w2 HB2.out)
 go_wp2_with fail
 refine HFt2.out.mono ?_
 clear HFt2 HFt
 rintro e w3 ⟨rfl,hb3⟩
 have HB3 := Rw.dh (Rw.below_on HB2.out hb3 HB2.out.size)
 have HC3 := Rw.dh ((hb3.block _ (Array.getElem?_eq_some_iff.1 HC2.out).1).trans HC2.out)
 clear hb3 c0 c1 HB2 HC2
 by_cases hf0: fv = 0
 case neg =>
  have hcn: (fv != 0) = true := by simpa using hf0
  clear hf0
  go_wp2
  go_ret
  exact ⟨rfl,HB3.out⟩
 subst hf0
 by_cases hw1: 1 < ws.length
 · have hw1': (1: Int) < (ws.length: Int) := by omega
   go_wp2
   go_ret
   exact ⟨rfl,HB3.out⟩
 have hw1': decide (1 < (ws.length: Int)) = false := decide_eq_false (by omega)
 have hw2: ws.length <= 1 := by omega
 have HG := Rw.dh (greatS_walk (c := wc) (HS.out w3 HB3.out) (fun x hx => HX.out x hx 60 w3 HB3.out) (by omega))
 unfold wsV at HG
 clear hw1
 go_wp2_with fail
 refine HG.out.mono ?_
 clear HG
 rintro e w4 ⟨hb4,bg,rfl,hbf⟩
 have HB4 := Rw.dh (Rw.below_on HB3.out hb4 HB3.out.size)
 have HC4 := Rw.dh ((hb4.block _ (Array.getElem?_eq_some_iff.1 HC3.out).1).trans HC3.out)
 have HBf := Rw.dh hbf
 clear hb4 hbf HB3 HC3
 cases bg with
 | true =>
  go_wp2
  go_ret
  exact ⟨rfl,HB4.out⟩
 | false =>
  have HDp := Rw.dh (HBf.out rfl).2
  clear HBf
  go_wp2_with fail
  go_loopw [48] (fun i wr => ∃ j: Nat,j <= ws.length /\ i = .int .i64 (j: Int) /\ Hid (Below w4.heap.size w4 wr)) (fun i _ => ws.length - (intOf i).toNat)
  case atStart => exact ⟨0,Nat.zero_le _,rfl,Below.refl _ _⟩
  case round =>
   obtain ⟨j,hj,rfl,HW⟩ := hrel
   by_cases hlt: j < ws.length
   · have hBw := Rw.below_on HB4.out HW.out HB4.out.size
     obtain ⟨b,o,x,rfl,hb,hx,hc⟩ := (HS.out wr hBw).at hlt
     have c0: wr.cell? ⟨b,o + j * 7,none⟩ = some (.string x.op) := hc 0 _ rfl
     have c1: wr.cell? ⟨b,o + j * 7 + 1,none⟩ = some (.int .i64 x.vk) := hc 1 _ rfl
     have c2: wr.cell? ⟨b,o + j * 7 + 2,none⟩ = some (.int .i64 x.vn) := hc 2 _ rfl
     have c3: wr.cell? ⟨b,o + j * 7 + 3,none⟩ = some (.string x.vs) := hc 3 _ rfl
     have c4: wr.cell? ⟨b,o + j * 7 + 4,none⟩ = some (.string x.var) := hc 4 _ rfl
     have c5: wr.cell? ⟨b,o + j * 7 + 5,none⟩ = some (.string x.col) := hc 5 _ rfl
     have c6: wr.cell? ⟨b,o + j * 7 + 6,none⟩ = some (.slice x.a x.kids.length x.c) := hc 6 _ rfl
     have hb5 := Rw.below_alloc wr (.cells #[.string x.op, .int .i64 x.vk, .int .i64 x.vn, .string x.vs, .string x.var, .string x.col, .slice x.a x.kids.length x.c] 30)
     have HB5 := Rw.dh (Rw.below_on HW.out hb5 HW.out.size)
     have hxm := List.mem_of_getElem? hx
     have HPl := Rw.dh (plain_walk 60 x (wr.alloc (.cells #[.string x.op, .int .i64 x.vk, .int .i64 x.vn, .string x.vs, .string x.var, .string x.col, .slice x.a x.kids.length x.c] 30)) ((HX.out x hxm 60 wr hBw).on hb5) (HDp.out x hxm))
     unfold xV at HPl
     clear hc hx hxm hb5 hBw HW
     go_wp2_with fail
     refine HPl.out.mono ?_
     clear HPl c0 c1 c2 c3 c4 c5 c6
     rintro e w5 ⟨y,rfl,hly,hiy,hb6⟩
     have HRX := Rw.dh (rrx_walk 20 (by omega) y w5 (hiy 20).1)
     have HB6 := Rw.dh (Rw.below_on HB5.out hb6 HB5.out.size)
     clear hly hiy hb6 HB5
     unfold xV at HRX ⊢
     go_wp2_with fail
     refine HRX.out.mono ?_
     clear HRX
     rintro e w6 ⟨rfl,hb7⟩
     have HB7 := Rw.dh (Rw.below_on HB6.out hb7 HB6.out.size)
     have HB8 := Rw.dh (Rw.below_on HB4.out HB7.out HB4.out.size)
     clear hb7 HB6
     cases rightX 20 y with
     | false =>
      go_wp2
      go_ret
      exact ⟨rfl,HB8.out⟩
     | true =>
      go_wp2
      exact ⟨⟨j + 1,hlt,by go_num,HB7.out⟩,by simp [intOf]; omega⟩
   · have hjn: j = ws.length := by omega
     subst hjn
     have HB5 := Rw.dh (Rw.below_on HB4.out HW.out HB4.out.size)
     have HC5 := Rw.dh ((HW.out.block _ (Array.getElem?_eq_some_iff.1 HC4.out).1).trans HC4.out)
     clear HDp HW HB4 HC4
     have hM := HM.out
     subst hM
     have c0: wr.cell? ⟨w.heap.size,0,none⟩ = some (.string t.name) := by rw [cell_of_row _ _ _ _ _ _ HC5.out]; rfl
     have c1: wr.cell? ⟨w.heap.size,1,none⟩ = some (.slice t.a t.cols.length t.c) := by rw [cell_of_row _ _ _ _ _ _ HC5.out]; rfl
     have c2: (wr.alloc (.cells #[.string t.name, .slice t.a t.cols.length t.c] 96)).cell? ⟨w.heap.size,0,none⟩ = some (.string t.name) := ((Rw.below_alloc wr _).cell (p := ⟨w.heap.size,0,none⟩) (Array.getElem?_eq_some_iff.1 HC5.out).1).trans c0
     have hb6 := below_two wr (.cells #[.string t.name, .slice t.a t.cols.length t.c] 96) (.cells #[.int .i64 0, .string t.name, .string ⟨#[]⟩] 101)
     have HB6 := Rw.dh (Rw.below_on HB5.out hb6 HB5.out.size)
     have HV := Rw.dh (vars_walk ⟨#[]⟩ (l := [t]) (f := [⟨0,t.name,⟨#[]⟩⟩]) (a := some ⟨wr.heap.size,0,none⟩) (fa := some ⟨wr.heap.size + 1,0,none⟩) (c := 1) (fc := 1)
      (w := (wr.alloc (.cells #[.string t.name, .slice t.a t.cols.length t.c] 96)).alloc (.cells #[.int .i64 0, .string t.name, .string ⟨#[]⟩] 101))
      ⟨slg_flat tabC_len (T := 96) (fz := (0,0)) (heap_one _ _ _),fun k hk => by simp only [List.mem_cons,List.not_mem_nil,or_false] at hk; subst hk; exact HC.out _ HB6.out⟩
      ⟨by simp,fun k hk => by simp only [List.mem_cons,List.not_mem_nil,or_false] at hk; subst hk; exact HT.out⟩
      (slg_flat srcC_len (T := 101) (fz := (0,0)) (heap_two _ _ _)) ⟨by simp,fun k hk => by simp only [List.mem_cons,List.not_mem_nil,or_false] at hk; subst hk; exact ⟨HT.out.1,Nat.zero_le _⟩⟩)
     rw [vars_one] at HV
     clear hb6
     go_wp2_with fail
     refine HV.out.mono ?_
     clear HV c0 c1 c2
     rintro e w7 ⟨hb7,hV⟩
     have HB7 := Rw.dh (Rw.below_on HB6.out hb7 HB6.out.size)
     clear hb7 HB5 HB6 HC5
     rcases hV with ⟨h0,_⟩ | ⟨_,vs,va,vc,hstrip,rfl,hvi,hvo⟩
     · cases h0
     obtain ⟨v,rfl⟩: ∃ v,vs = [v] := len_one (by have := congrArg List.length hstrip; simpa using this)
     have hvc: v.cols = t.cols := by
      have := congrArg (fun l => l.map VarL.cols) hstrip
      simpa [strip] using this
     have HFA: Hid (FitAll [v] [r] /\ FewCols [v]) := by
      have h := fit_all (l := [v]) (rs := [r]) rfl (fun i v' r' h1 h2 => by
       cases i with
       | zero =>
        simp only [List.getElem?_cons_zero,Option.some.injEq] at h1 h2
        subst h1 h2
        rw [hvc]
        exact ⟨H30.out,HFV.out⟩
       | succ i => simp at h1)
      exact ⟨h.1,by simp,h.2⟩
     have HCd := Rw.dh (fun W (hb: Below w7.heap.size w7 W) => cond_walk (a := va) (c := vc) HFA.out.2 ws (wc := wc) hw2 (HS.out W (Rw.below_on HB7.out hb HB7.out.size)) (fun x hx => HX.out x hx 20 W (Rw.below_on HB7.out hb HB7.out.size)) (hvi.on hb))
     have HRr: Hid (∀ u ∈ r.l,rightB u.k u.n u.s = true) := fun u hu => by
      obtain ⟨hlen,hty⟩ := HFA.out.1.2 0 v r rfl rfl
      obtain ⟨j,hj⟩ := List.mem_iff_getElem?.1 hu
      have hjl := (List.getElem?_eq_some_iff.1 hj).1
      exact (hty j _ u (List.getElem?_eq_getElem (l := v.cols) (i := j) (by omega)) hj).1
     clear hvi hvo hstrip hvc
     go_wp2_with fail
     refine (HCd.out _ (Below.refl _ _)).mono ?_
     clear HCd
     rintro e w8 ⟨hb8,hres⟩
     have HB8 := Rw.dh (Rw.below_on HB7.out hb8 HB7.out.size)
     clear hb8 HB7
     rcases hres with ⟨ec,hec,rfl⟩ | ⟨Ln,la,lc,rfl,hSl,hIn,hLl,hCl,hLf⟩
     · go_wp2
       go_ret
       exact ⟨rfl,HB8.out⟩
     have HLf := Rw.dh (hLf [r] HFA.out.1)
     have HSl := Rw.dh hSl
     have HIn := Rw.dh hIn
     have HCl := Rw.dh hCl
     clear hSl hIn hCl hLf
     go_wp2_with fail
     go_loopw [79] (fun i wr => ∃ j: Nat,j <= Ln.length /\ i = .int .i64 (j: Int) /\ Hid (Below w8.heap.size w8 wr) /\ Hid (∀ (k: Nat) m,k < j -> Ln[k]? = some m -> safeN 20 m = true)) (fun i _ => Ln.length - (intOf i).toNat)
     case atStart => exact ⟨0,Nat.zero_le _,rfl,Below.refl _ _,fun k m h => by omega⟩
     case round =>
      obtain ⟨j,hj,rfl,HW,HSf⟩ := hrel
      by_cases hlt: j < Ln.length
      · obtain ⟨b,o,m,rfl,hb,hx,hc⟩ := (HSl.out.below HW.out).at hlt
        have hmm := List.mem_of_getElem? hx
        have c0: wr.cell? ⟨b,o + j * 7,none⟩ = some (.string m.op) := hc 0 _ rfl
        have c1: wr.cell? ⟨b,o + j * 7 + 1,none⟩ = some (.int .i64 m.vk) := hc 1 _ rfl
        have c2: wr.cell? ⟨b,o + j * 7 + 2,none⟩ = some (.int .i64 m.vn) := hc 2 _ rfl
        have c3: wr.cell? ⟨b,o + j * 7 + 3,none⟩ = some (.string m.vs) := hc 3 _ rfl
        have c4: wr.cell? ⟨b,o + j * 7 + 4,none⟩ = some (.int .i64 m.var) := hc 4 _ rfl
        have c5: wr.cell? ⟨b,o + j * 7 + 5,none⟩ = some (.int .i64 m.col) := hc 5 _ rfl
        have c6: wr.cell? ⟨b,o + j * 7 + 6,none⟩ = some (.slice m.a m.kids.length m.c) := hc 6 _ rfl
        have hb5 := Rw.below_alloc wr (.cells #[.string m.op, .int .i64 m.vk, .int .i64 m.vn, .string m.vs, .int .i64 m.var, .int .i64 m.col, .slice m.a m.kids.length m.c] 44)
        have HB5 := Rw.dh (Rw.below_on HW.out hb5 HW.out.size)
        have hdm: deepN 20 m = false := by
         obtain ⟨k,hk,hd,_⟩ := HLf.out m hmm
         exact deepN_le hd hk
        have HSm := Rw.dh (safe_walk (n := 20) (by decide) m (w := wr.alloc (.cells #[.string m.op, .int .i64 m.vk, .int .i64 m.vn, .string m.vs, .int .i64 m.var, .int .i64 m.col, .slice m.a m.kids.length m.c] 44)) ((HIn.out m hmm 20).on HB5.out) hdm)
        have HXj := Rw.dh hx
        unfold nV at HSm
        clear hc hx hmm hdm hb5 HW
        go_wp2_with fail
        refine HSm.out.mono ?_
        clear HSm c0 c1 c2 c3 c4 c5 c6
        rintro e w5 ⟨rfl,hb6⟩
        have HB6 := Rw.dh (Rw.below_on HB5.out hb6 HB5.out.size)
        have HB9 := Rw.dh (Rw.below_on HB8.out HB6.out HB8.out.size)
        clear hb6 HB5
        have HNx: Hid (∀ b,safeN 20 m = b -> b = true -> ∀ (k: Nat) m,k < j + 1 -> Ln[k]? = some m -> safeN 20 m = true) := fun b h1 h2 k m' hk hm' => by
         by_cases hkj: k < j
         · exact HSf.out k m' hkj hm'
         · have: k = j := by omega
           subst this
           rw [HXj.out] at hm'
           cases hm'
           rw [h1,h2]
        generalize hsb: safeN 20 m = sb at *
        have HNy := Rw.dh (HNx.out sb rfl)
        clear HNx hsb
        cases sb with
        | false =>
         go_wp2
         go_ret
         exact ⟨rfl,HB9.out⟩
        | true =>
         go_wp2
         exact ⟨⟨j + 1,hlt,by go_num,HB6.out,HNy.out trivial⟩,by simp [intOf]; omega⟩
      · have hjn: j = Ln.length := by omega
        subst hjn
        have HBw := Rw.dh (Rw.below_on HB8.out HW.out HB8.out.size)
        have HSl2 := Rw.dh (HSl.out.below HW.out)
        have HIn2 := Rw.dh (fun m (hm: m ∈ Ln) k => (HIn.out m hm k).on HW.out)
        have HD: Hid (∀ m ∈ Ln,deepN 30 m = false) := fun m hm => by
         obtain ⟨k,hk,hd,_⟩ := HLf.out m hm
         exact deepN_le hd (by omega)
        have HAll: Hid ((allN 30 [r] Ln).2 = 0 /\ meetsC 30 r (testsN Ln) (restN Ln) = (allN 30 [r] Ln).1) := all_true HRr.out fun m hm => by
         obtain ⟨k,hk⟩ := List.mem_iff_getElem?.1 hm
         have := leaf_truth (HLf.out m hm) (HSf.out k m (List.getElem?_eq_some_iff.1 hk).1 hk)
         exact ⟨this.1,this.2.1⟩
        have HPn := Rw.dh (nplains_walk 30 (nplain_walk 30) (c := lc) HSl2.out (fun k hk => HIn2.out k hk 30) HD.out (by omega))
        clear HSl HIn HSf HW HB8
        go_wp2_with fail
        refine HPn.out.mono ?_
        clear HPn
        rintro e w9 ⟨pa,pc,pl,rfl,hpl,hpS, -, hpI,hpL,hb9⟩
        have HB9 := Rw.dh (Rw.below_on HBw.out hb9 HBw.out.size)
        have HSl3 := Rw.dh (HSl2.out.below hb9)
        have HIn3 := Rw.dh (fun m (hm: m ∈ Ln) k => (HIn2.out m hm k).on hb9)
        have hb10 := Rw.below_alloc w9 (.cells #[.slice r.a r.l.length r.c] 79)
        have HB10 := Rw.dh (Rw.below_on HB9.out hb10 HB9.out.size)
        have HRa := Rw.dh (rallB_walk (n := 30) (l := pl) (a := pa) (c := pc) (ra := some ⟨w9.heap.size,0,none⟩) (rs := [r]) (rc := 1) (w := w9.alloc (.cells #[.slice r.a r.l.length r.c] 79)) (hpS.below hb10) (fun k hk => ((hpI k hk 30).1).on hb10)
         (fun k hk => by
           obtain ⟨j,hj⟩ := List.mem_iff_getElem?.1 hk
           have hjl := (List.getElem?_eq_some_iff.1 hj).1
           have hx := List.getElem?_eq_getElem (l := Ln) (i := j) (by omega)
           rw [<- (hpL j _ k hx hj).deep]
           exact HD.out _ (List.mem_of_getElem? hx)) (by omega)
         ⟨slg_flat rowC_len (T := 79) (fz := (0,0)) (Rw.heap_new _ _),fun k hk => by simp only [List.mem_cons,List.not_mem_nil,or_false] at hk; subst hk; exact HR.out _ HB10.out⟩
         ⟨by simp [maxLen],fun k hk => by simp only [List.mem_cons,List.not_mem_nil,or_false] at hk; subst hk; exact HF.out⟩)
        rw [(allN_like [r] hpl.symm hpL).1.symm,hpl] at HRa
        clear hpl hpS hpI hpL hb9 hb10 HBw HSl2 HIn2 HB9
        generalize hal: allN 30 [r] Ln = al at *
        have HAL := Rw.dh hal
        clear hal
        obtain ⟨ab,ae⟩ := al
        have hae: ae = 0 := HAll.out.1
        subst hae
        go_wp2_with fail
        refine HRa.out.mono ?_
        clear HRa
        rintro e w11 ⟨rfl,hb11⟩
        have HB11 := Rw.dh (Rw.below_on HB10.out hb11 HB10.out.size)
        have hb12 := Rw.below_on (Rw.below_alloc w9 (.cells #[.slice r.a r.l.length r.c] 79)) hb11 (by simp)
        have HIn4 := Rw.dh (fun m (hm: m ∈ Ln) k => (HIn3.out m hm k).on hb12)
        have HOf := Rw.dh (predOfB_walk 30 (by decide) (c := lc) (HSl3.out.below hb12) (by omega) HIn4.out (fun m hm z hz => ⟨⟨((HIn4.out m hm 2).2.2 z hz).1.k,((HIn4.out m hm 2).2.2 z hz).1.n,((HIn4.out m hm 2).2.2 z hz).1.vs⟩,HCl.out m hm z hz⟩) HD.out (fun m hm => (HIn4.out m hm 30).opN))
        clear hb11 hb12 HSl3 HIn3 HIn4 HB10
        go_wp2_with fail
        refine HOf.out.mono ?_
        clear HOf
        rintro e w12 ⟨k',rfl,hts,hle,hlk,hci,hb13⟩
        have HB13 := Rw.dh (Rw.below_on HB11.out hb13 HB11.out.size)
        have h1 := testsN_len Ln
        have h2 := restN_len Ln
        have hMt := meetsB_walk (n := 30) (by decide) k' r hci (by rw [hts]; omega) (fun k hk => by
         obtain ⟨j,hj⟩ := List.mem_iff_getElem?.1 hk
         have hjl := (List.getElem?_eq_some_iff.1 hj).1
         have hx := List.getElem?_eq_getElem (l := restN Ln) (i := j) (by omega)
         rw [<- (hlk j _ k hx hj).deep]
         exact HD.out _ (restN_mem (List.mem_of_getElem? hx))) (by rw [hle]; omega) (HR.out _ HB13.out) HF.out
        have hEq: meetsC 30 r k'.ts k'.l = ab := by
         rw [<- HAll.out.2]
         unfold meetsC
         rw [hts,(allN_like [r] hle.symm hlk).1]
        rw [hEq] at hMt
        have HMt := Rw.dh hMt
        unfold cdV at HMt ⊢
        clear hMt hEq hts hle hlk hci hb13 h1 h2 HB11
        go_wp2_with fail
        refine HMt.out.mono ?_
        clear HMt
        rintro e w13 ⟨rfl,hb14⟩
        have HB14 := Rw.dh (Rw.below_on HB13.out hb14 HB13.out.size)
        clear hb14 HB13
        cases ab with
        | false =>
         go_wp2
         go_ret
         exact ⟨rfl,HB14.out⟩
        | true =>
         go_wp2
         go_ret
         exact ⟨rfl,HB14.out⟩
end Go.Proofs.YteibhbnlcpejpaaGreat
