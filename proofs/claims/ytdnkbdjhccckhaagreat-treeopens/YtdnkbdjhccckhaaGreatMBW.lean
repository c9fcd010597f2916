import Derived.Test.YtdnkbdjhccckhaaGreatMBV
set_option maxRecDepth 100000
set_option maxHeartbeats 4000000
namespace Go.Proofs.YtdnkbdjhccckhaaGreat
open Go.RowKit
open L4 (Ar ArP Abs arV nv)
open L5 (ltP ltB leB)
theorem pick_inT (x: Int) {n: Nat} (h: 0 < n): ∃ k: Nat,k < n /\ ((x.tmod (n: Int)) + (n: Int)).tmod (n: Int) = (k: Int) /\ -(n: Int) < x.tmod (n: Int) /\ x.tmod (n: Int) < (n: Int) := by
 have h1: x.tmod (n: Int) < (n: Int) := Int.tmod_lt_of_pos x (by omega)
 have h2: -(n: Int) < x.tmod (n: Int) := by
  have := Int.tmod_lt_of_pos (-x) (show (0: Int) < n by omega)
  rw [Int.neg_tmod] at this
  omega
 have h3: (0: Int) <= ((x.tmod (n: Int)) + (n: Int)).tmod (n: Int) := Int.tmod_nonneg _ (by omega)
 have h4: ((x.tmod (n: Int)) + (n: Int)).tmod (n: Int) < (n: Int) := Int.tmod_lt_of_pos _ (by omega)
 exact ⟨(((x.tmod (n: Int)) + (n: Int)).tmod (n: Int)).toNat,by omega,by omega,h2,h1⟩
theorem step_nth {w0: World} {s: Ar} {t p r h: Nat} {es: List ByteArray} {ps: List Nat} {w: World} {o: TOp} (k: Both w0 s t p r h es ps es w) (hl: es.length <= 900) (hs: o.s.size <= 420) (hk: o.k = 2) :
 Calls Tryz.prog 8 #[arV s.p, .pointer (some ⟨t,0,none⟩), .pointer (some ⟨p,0,none⟩),oV o] w fun e W => e = .returned (.bool true) /\ StepQ (o.k = 0) w0 s t p h es ps w W := by
 obtain ⟨ok,on,os⟩ := o
 simp only at hs
 obtain rfl := (hk: ok = 2)
 have HTX := thid (fun (W: World) => text_walk (o := ⟨2,on,os⟩) (w := W) hs)
 unfold oV at HTX
 have HK := thid k
 clear k
 unfold arV
 show Calls Tryz.prog 8 #[.pointer (some ⟨s.p,0,none⟩), .pointer (some ⟨t,0,none⟩), .pointer (some ⟨p,0,none⟩), .agg #[.int .i64 2, .int .i64 on, .string os]] w _
 obtain ⟨x,hx⟩: ∃ x,textO ⟨2,on,os⟩ = x := ⟨_,rfl⟩
 rw [hx] at HTX
 have HB1 := thid (tbelow w (.cells #[.int .i64 2, .int .i64 on, .string os] 37))
 have a1 := heap_alloc_new w (.cells #[.int .i64 2, .int .i64 on, .string os] 37)
 obtain ⟨bb,hb⟩: ∃ bb,textB ⟨2,on,os⟩ = bb := ⟨_,rfl⟩
 rw [hb] at HTX
 by_cases hz: es.length = 0
 · have hz': ((es.length: Int) == 0) = true := by rw [hz]; rfl
   go_enter Tryz.func8,Tryz.ntmps8
   go_wp2_with fail
   refine (HTX.out _).mono ?_
   rintro e w1 ⟨rfl,hb1⟩
   have HB := thid (tbelow_on HB1.out hb1)
   have HK1 := thid (HK.out.on HB.out)
   have HON: Hid (Only (fun q => s.own q \/ q = t \/ q = p) w w1) := Only.of_below HB.out
   have a2 := (hb1.block _ (Array.getElem?_eq_some_iff.1 a1).1).trans a1
   have o0: w1.cell? ⟨w.heap.size,0,none⟩ = some (.int .i64 2) := by rw [cell_of_row _ _ _ _ _ _ a2]; rfl
   have o1: w1.cell? ⟨w.heap.size,1,none⟩ = some (.int .i64 on) := by rw [cell_of_row _ _ _ _ _ _ a2]; rfl
   have ol := (Array.getElem?_eq_some_iff.1 a2).1
   clear hb1 HTX HK HB1 a1
   obtain ⟨a,c,q1,q2⟩ := HK1.out.st.row
   have c0: w1.cell? ⟨p,0,none⟩ = some (.slice a es.length c) := by rw [cell_of_row _ _ _ _ _ _ q1]; rfl
   have pl := (Array.getElem?_eq_some_iff.1 q1).1
   have HF: Hid (StepQ ((2: Int) = 0) w0 s t p h es ps w w1) := ⟨s,r,h,es,ps,HK1.out,Flow.refl,rfl,HON.out,fun _ h => Or.inl h⟩
   clear HK1 HB a2 q1 q2
   go_wp2
   go_ret
   exact ⟨rfl,HF.out⟩
 · have hz': ((es.length: Int) == 0) = false := by rw [beq_eq_false_iff_ne]; omega
   go_enter Tryz.func8,Tryz.ntmps8
   go_wp2_with fail
   refine (HTX.out _).mono ?_
   rintro e w1 ⟨rfl,hb1⟩
   have HB := thid (tbelow_on HB1.out hb1)
   have HK1 := thid (HK.out.on HB.out)
   have HON: Hid (Only (fun q => s.own q \/ q = t \/ q = p) w w1) := Only.of_below HB.out
   have a2 := (hb1.block _ (Array.getElem?_eq_some_iff.1 a1).1).trans a1
   have o0: w1.cell? ⟨w.heap.size,0,none⟩ = some (.int .i64 2) := by rw [cell_of_row _ _ _ _ _ _ a2]; rfl
   have o1: w1.cell? ⟨w.heap.size,1,none⟩ = some (.int .i64 on) := by rw [cell_of_row _ _ _ _ _ _ a2]; rfl
   have ol := (Array.getElem?_eq_some_iff.1 a2).1
   clear hb1 HTX HK HB1 a1
   obtain ⟨a,c,q1,q2⟩ := HK1.out.st.row
   have c0: w1.cell? ⟨p,0,none⟩ = some (.slice a es.length c) := by rw [cell_of_row _ _ _ _ _ _ q1]; rfl
   have pl := (Array.getElem?_eq_some_iff.1 q1).1
   obtain ⟨kk,hkl,hke,hk1,hk2⟩ := pick_inT on (n := es.length) (by omega)
   have hnz: ¬ ((es.length: Int) = 0) := by omega
   obtain ⟨kb,ko,rfl,kbl,kc0⟩ := (L5.owns_rd_slice q2).2.2 kk (.string es[kk]) (by simp [L5.svs,hkl])
   obtain ⟨y,hy⟩: ∃ y,es[kk] = y := ⟨_,rfl⟩
   rw [hy] at kc0
   have g1: IntKind.i64.wrap (on.tmod (es.length: Int)) = on.tmod (es.length: Int) := by rw [IntKind.wrap_i64]; omega
   have g2: IntKind.i64.wrap (on.tmod (es.length: Int) + (es.length: Int)) = on.tmod (es.length: Int) + (es.length: Int) := by rw [IntKind.wrap_i64]; omega
   have g3: IntKind.i64.wrap ((on.tmod (es.length: Int) + (es.length: Int)).tmod (es.length: Int)) = (kk: Int) := by rw [hke,IntKind.wrap_i64]; omega
   have g4: (kk: Int) < (es.length: Int) := by omega
   have g5: (0: Int) <= (kk: Int) /\ (kk: Int) < (es.length: Int) := by omega
   clear HB a2 q1 q2 hy
   go_wp2_with fail
   go_quiet (rfl)
   have HK2 := thid (HK1.out.on (below_drewN (Below.refl _ _) nq))
   have HON1 := thid (only_on HON.out (below_drewN (Below.refl _ w1) nq))
   have hri := HK1.out.rise
   clear HK1 c0 pl kbl kc0 g1 g2 g3 g4 g5 hke hk1 hk2 hnz o0 o1 ol hkl
   generalize w1.drewN nq = w2 at *
   go_wp2_with fail
   refine (tdelete_tree HK2.out.tw HK2.out.ru (by omega)).mono ?_
   rintro e w3 ⟨cc,s',r',h',es',ps',rfl,hD,hT⟩
   have hd := del_same hD hri
   have HLE := thid (hT.2.2.2.2.2.2.weak (ins' := (2: Int) = 0) False.elim)
   have HPP := thid hT.2.2.1
   have HGG: Hid (∀ k,s'.own k -> s.own k \/ w.heap.size <= k) := fun k hk => (hT.2.2.2.2.2.1 k hk).imp id fun h => Nat.le_trans HON1.out.size h
   have HON2 := thid (only_tree HON1.out hT.2.2.2.2.1)
   have HK3 := thid (HK2.out.tree hT)
   have HSD := thid (sdel_walk (x := y) HK3.out.st HK3.out.bel.size (by omega) hri)
   rw [hd] at HSD
   have hcc: (cc == cc) = true := by simp
   clear hd hD hT HK2 hri
   go_wp2_with fail
   refine HSD.out.mono ?_
   rintro e w4 ⟨rfl,q1,q2⟩
   have HF: Hid (StepQ ((2: Int) = 0) w0 s t p h es ps w w4) := ⟨s',r',h',es',ps',HK3.out.set q1 q2,HLE.out,HPP.out,only_set HON2.out q2,HGG.out⟩
   clear HSD HK3 q1 q2
   go_wp2
   go_ret
   exact ⟨rfl,HF.out⟩
theorem step_ins {w0: World} {s: Ar} {t p r h: Nat} {es: List ByteArray} {ps: List Nat} {w: World} {o: TOp} (k: Both w0 s t p r h es ps es w) (hl: es.length <= 900) (hs: o.s.size <= 420) (hk: o.k = 0) :
 Calls Tryz.prog 8 #[arV s.p, .pointer (some ⟨t,0,none⟩), .pointer (some ⟨p,0,none⟩),oV o] w fun e W => e = .returned (.bool true) /\ StepQ (o.k = 0) w0 s t p h es ps w W := by
 obtain ⟨ok,on,os⟩ := o
 simp only at hs
 obtain rfl := (hk: ok = 0)
 have HTX := thid (fun (W: World) => text_walk (o := ⟨0,on,os⟩) (w := W) hs)
 unfold oV at HTX
 have HK := thid k
 clear k
 unfold arV
 show Calls Tryz.prog 8 #[.pointer (some ⟨s.p,0,none⟩), .pointer (some ⟨t,0,none⟩), .pointer (some ⟨p,0,none⟩), .agg #[.int .i64 0, .int .i64 on, .string os]] w _
 obtain ⟨x,hx⟩: ∃ x,textO ⟨0,on,os⟩ = x := ⟨_,rfl⟩
 rw [hx] at HTX
 have HB1 := thid (tbelow w (.cells #[.int .i64 0, .int .i64 on, .string os] 37))
 have a1 := heap_alloc_new w (.cells #[.int .i64 0, .int .i64 on, .string os] 37)
 cases hb: textB ⟨0,on,os⟩
 · rw [hb] at HTX
   go_enter Tryz.func8,Tryz.ntmps8
   go_wp2_with fail
   refine (HTX.out _).mono ?_
   rintro e w1 ⟨rfl,hb1⟩
   have HB := thid (tbelow_on HB1.out hb1)
   have HK1 := thid (HK.out.on HB.out)
   have HON: Hid (Only (fun q => s.own q \/ q = t \/ q = p) w w1) := Only.of_below HB.out
   have a2 := (hb1.block _ (Array.getElem?_eq_some_iff.1 a1).1).trans a1
   have o0: w1.cell? ⟨w.heap.size,0,none⟩ = some (.int .i64 0) := by rw [cell_of_row _ _ _ _ _ _ a2]; rfl
   have o1: w1.cell? ⟨w.heap.size,1,none⟩ = some (.int .i64 on) := by rw [cell_of_row _ _ _ _ _ _ a2]; rfl
   have ol := (Array.getElem?_eq_some_iff.1 a2).1
   clear hb1 HTX HK HB1 a1
   have HF: Hid (StepQ True w0 s t p h es ps w w1) := ⟨s,r,h,es,ps,HK1.out,Flow.refl,rfl,HON.out,fun _ h => Or.inl h⟩
   clear HK1 HB a2
   go_wp2
   go_ret
   exact ⟨rfl,HF.out.weak fun _ => (by first | rfl | trivial)⟩
 · rw [hb] at HTX
   go_enter Tryz.func8,Tryz.ntmps8
   go_wp2_with fail
   refine (HTX.out _).mono ?_
   rintro e w1 ⟨rfl,hb1⟩
   have HB := thid (tbelow_on HB1.out hb1)
   have HK1 := thid (HK.out.on HB.out)
   have HON: Hid (Only (fun q => s.own q \/ q = t \/ q = p) w w1) := Only.of_below HB.out
   have a2 := (hb1.block _ (Array.getElem?_eq_some_iff.1 a1).1).trans a1
   have o0: w1.cell? ⟨w.heap.size,0,none⟩ = some (.int .i64 0) := by rw [cell_of_row _ _ _ _ _ _ a2]; rfl
   have o1: w1.cell? ⟨w.heap.size,1,none⟩ = some (.int .i64 on) := by rw [cell_of_row _ _ _ _ _ _ a2]; rfl
   have ol := (Array.getElem?_eq_some_iff.1 a2).1
   clear hb1 HTX HK HB1 a1
   have hri := HK1.out.rise
   have hlf := L4.left_walk HK1.out.tw.ar HK1.out.tw.ok
   have HLF := thid hlf
   unfold arV nv at HLF
   clear HB a2 hlf
   go_wp2_with fail
   refine HLF.out.mono ?_
   rintro e w2 ⟨rfl,hb2⟩
   have HK2 := thid (HK1.out.on hb2)
   have HON1 := thid (only_on HON.out hb2)
   clear HLF HK1 hb2 o0 o1 ol
   go_wp2_with fail
   refine (height_ok HK2.out.tw.tr).mono ?_
   rintro e w3 ⟨rfl,hb3⟩
   have HK3 := thid (HK2.out.on hb3)
   have HON2 := thid (only_on HON1.out hb3)
   clear HK2 hb3
   go_wp2_with fail
   refine (tinsert_ruly HK3.out.tw HK3.out.ru (by omega)).mono ?_
   rintro e w4 ⟨cc,s',r',h',es',ps',rfl,hI,hT⟩
   have HLE := thid (hT.2.2.2.2.2.2.weak (ins' := True) fun _ => trivial)
   have HPP := thid hT.2.2.1
   have HGG: Hid (∀ k,s'.own k -> s.own k \/ w.heap.size <= k) := fun k hk => (hT.2.2.2.2.2.1 k hk).imp id fun h => Nat.le_trans HON2.out.size h
   have HON3 := thid (only_tree HON2.out hT.2.2.2.2.1)
   have HK4 := thid (HK3.out.tree hT)
   have HSA := thid (sat_walk (x := x) HK4.out.st (by omega))
   rw [first_count hri x] at HSA
   have hmem := isAt_mem hri x
   clear hT HK3
   by_cases h9: cc = 9
   · have hfacts: s.abs.left < h + 1 /\ x ∉ es /\ 1 <= x.size /\ x.size <= 400 /\ es' = es := by
      rcases hI with ⟨_,e,_⟩ | ⟨⟨a1,a2⟩,⟨_,e,_⟩ | ⟨a3,⟨a4,_,e⟩ | ⟨_,e,_⟩⟩⟩
      · omega
      · omega
      · exact ⟨a4,a3,a1,a2,e⟩
      · omega
     obtain ⟨f1,f2,f3,f4,rfl⟩ := hfacts
     have hat: L5.isAt es' x (es'.countP (ltB x)) = false := by
      cases hz: L5.isAt es' x (es'.countP (ltB x)) with
      | false => rfl
      | true => exact absurd (hmem.1 hz) f2
     rw [hat] at HSA
     have f1': decide (h < s.abs.left) = false := by rw [decide_eq_false_iff_not]; omega
     have f3': (1: Int) <= (x.size: Int) := by omega
     have f4': (x.size: Int) <= 400 := by omega
     subst h9
     clear hI hmem hat
     go_wp2_with fail
     refine HSA.out.mono ?_
     rintro e w5 ⟨rfl,hb5⟩
     have HF: Hid (StepQ True w0 s t p h es' ps w w5) := ⟨s',r',h',es',ps',HK4.out.on hb5,HLE.out,HPP.out,only_on HON3.out hb5,HGG.out⟩
     clear HSA HK4 hb5
     go_wp2
     go_ret
     exact ⟨rfl,HF.out.weak fun _ => (by first | rfl | trivial)⟩
   · have hd := ins_same hI hri h9
     have hfacts: (h: Int) < (s.abs.left: Int) \/ x ∈ es \/ x.size < 1 \/ 400 < x.size := by
      rcases hI with ⟨a1,_,_⟩ | ⟨_,⟨a1,_,_⟩ | ⟨_,⟨_,e,_⟩ | ⟨a1,_,_⟩⟩⟩
      · right; right; omega
      · exact Or.inr (Or.inl a1)
      · exact absurd e h9
      · left; omega
     obtain ⟨ia,hia⟩: ∃ ia,L5.isAt es x (es.countP (ltB x)) = ia := ⟨_,rfl⟩
     rw [hia] at HSA hmem
     go_wp2_with fail
     refine HSA.out.mono ?_
     rintro e w5 ⟨rfl,hb5⟩
     have HK5 := thid (HK4.out.on hb5)
     have HON4 := thid (only_on HON3.out hb5)
     have HSD := thid (sins_walk (x := x) HK5.out.st HK5.out.bel.size (by omega) hri)
     rw [hd] at HSD
     have hcc: (cc == cc) = true := by simp
     have HFA := thid (And.intro hfacts hmem)
     clear HSA HK4 hb5 hd hI hia hmem hfacts
     by_cases hr: h < s.abs.left
     · have hr': decide (h < s.abs.left) = true := by rw [decide_eq_true_eq]; exact hr
       clear hr
       go_wp2_with fail
       refine HSD.out.mono ?_
       rintro e w6 ⟨rfl,q1,q2⟩
       have HF: Hid (StepQ True w0 s t p h es ps w w6) := ⟨s',r',h',es',ps',HK5.out.set q1 q2,HLE.out,HPP.out,only_set HON4.out q2,HGG.out⟩
       clear HSD HK5 q1 q2 HFA
       go_wp2
       go_ret
       exact ⟨rfl,HF.out.weak fun _ => (by first | rfl | trivial)⟩
     · have hr': decide (h < s.abs.left) = false := by rw [decide_eq_false_iff_not]; exact hr
       cases ia with
       | true =>
        clear hr
        go_wp2_with fail
        refine HSD.out.mono ?_
        rintro e w6 ⟨rfl,q1,q2⟩
        have HF: Hid (StepQ True w0 s t p h es ps w w6) := ⟨s',r',h',es',ps',HK5.out.set q1 q2,HLE.out,HPP.out,only_set HON4.out q2,HGG.out⟩
        clear HSD HK5 q1 q2 HFA
        go_wp2
        go_ret
        exact ⟨rfl,HF.out.weak fun _ => (by first | rfl | trivial)⟩
       | false =>
        have hsz: x.size < 1 \/ 400 < x.size := by
         obtain ⟨u1,u2⟩ := HFA.out
         rcases u1 with u | u | u
         · omega
         · have := u2.2 u; cases this
         · exact u
        clear hr
        by_cases hs1: x.size < 1
        · have hs1': ¬ (1: Int) <= (x.size: Int) := by omega
          clear hsz hs1
          go_wp2_with fail
          refine HSD.out.mono ?_
          rintro e w6 ⟨rfl,q1,q2⟩
          have HF: Hid (StepQ True w0 s t p h es ps w w6) := ⟨s',r',h',es',ps',HK5.out.set q1 q2,HLE.out,HPP.out,only_set HON4.out q2,HGG.out⟩
          clear HSD HK5 q1 q2 HFA
          go_wp2
          go_ret
          exact ⟨rfl,HF.out.weak fun _ => (by first | rfl | trivial)⟩
        · have hs1': (1: Int) <= (x.size: Int) := by omega
          have hs2': ¬ (x.size: Int) <= 400 := by omega
          clear hsz hs1
          go_wp2_with fail
          refine HSD.out.mono ?_
          rintro e w6 ⟨rfl,q1,q2⟩
          have HF: Hid (StepQ True w0 s t p h es ps w w6) := ⟨s',r',h',es',ps',HK5.out.set q1 q2,HLE.out,HPP.out,only_set HON4.out q2,HGG.out⟩
          clear HSD HK5 q1 q2 HFA
          go_wp2
          go_ret
          exact ⟨rfl,HF.out.weak fun _ => (by first | rfl | trivial)⟩
end Go.Proofs.YtdnkbdjhccckhaaGreat
