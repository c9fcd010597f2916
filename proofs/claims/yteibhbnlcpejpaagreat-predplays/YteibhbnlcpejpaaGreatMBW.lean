import Derived.Deep.DeepCutAuto
import Derived.Deep.CutBlock
import Derived.Test.YteibhbnlcpejpaaGreatMBU
import Derived.Test.YteibhbnlcpejpaaGreatMBV
set_option maxRecDepth 100000
set_option maxHeartbeats 4000000
namespace Go.Proofs.YteibhbnlcpejpaaGreat
open Go.RowKit
set_option linter.unusedSimpArgs false in
theorem predPlays_walk (sa: Option Addr) (sc: Nat) (os: List OpL) (w: World) (hS: Rw.SlG opC 5 w sa os) (hO: ∀ o ∈ os,OpIn w o)
 (hA0: ∀ W,Calls Tryz.prog 23 #[] W fun e W' => e = .returned (.bool true) /\ Below W.heap.size W W') :
 Calls Tryz.prog 4 #[.slice sa os.length sc] w fun e W => e = .returned (.bool true) /\ Below w.heap.size w W := by
 have HA := Rw.dh hA0
 have HS := Rw.dh (fun W (hb: Below w.heap.size w W) => hS.below hb)
 have HO := Rw.dh (fun o (ho: o ∈ os) W (hb: Below w.heap.size w W) => (hO o ho).on hb)
 clear hA0 hS hO
 go_enter Tryz.func4,Tryz.ntmps4
 go_wp2_with fail
 refine (HA.out _).mono ?_
 rintro e w1 ⟨rfl,hb1⟩
 have HB1 := Rw.dh hb1
 clear hb1
 by_cases h60: 60 < os.length
 · have h60': (60: Int) < (os.length: Int) := by omega
   go_wp2
   go_ret
   exact ⟨rfl,HB1.out⟩
 have h60': decide (60 < (os.length: Int)) = false := decide_eq_false (by omega)
 go_wp2_with fail
 refine (pnew_walk _).mono ?_
 rintro e w2 ⟨rfl,rfl⟩
 have HP0: Hid (PlI w w1.heap.size [] [] (.slice none 0 0) (w1.alloc (.cells #[.map none] 170))) := ⟨Rw.below_on HB1.out (Rw.below_alloc _ _) HB1.out.size,(IxS.new w1).down HB1.out.size,⟨World.ownsRow_nil _ _ _ _,fun e he => by cases he⟩,fun x hx => (by cases hx),fun e he => by cases he⟩
 go_wp2_with fail
 go_loopw [4,28] (fun V i wr => ∃ (j: Nat) (L: List EntL) (E: List EnD),j <= os.length /\ i = .int .i64 (j: Int) /\ E.length <= j /\ Hid (Side L E) /\ Hid (PlI w w1.heap.size L E V wr)) (fun _ i _ => os.length - (intOf i).toNat)
 case atStart => exact ⟨0,[],[],Nat.zero_le _,rfl,Nat.le_refl _,Side.nil,HP0.out⟩
 case round =>
  obtain ⟨j,L,E,hj,rfl,hE,HSd,HP⟩ := hrel
  clear HP0
  by_cases hlt: j < os.length
  · obtain ⟨b,o,op,rfl,hb,hx,hc⟩ := (HS.out wr HP.out.bel).at hlt
    have HOp := Rw.dh (fun W (hb: Below w.heap.size w W) => HO.out op (List.mem_of_getElem? hx) W hb)
    have c0: wr.cell? ⟨b,o + j * 5,none⟩ = some (.int .i64 op.k) := hc 0 _ rfl
    have c1: wr.cell? ⟨b,o + j * 5 + 1,none⟩ = some (.int .i64 op.id) := hc 1 _ rfl
    have c2: wr.cell? ⟨b,o + j * 5 + 2,none⟩ = some (.slice op.c.a op.c.ts.length op.c.c) := hc 2 _ rfl
    have c3: wr.cell? ⟨b,o + j * 5 + 3,none⟩ = some (.slice op.c.b op.c.l.length op.c.d) := hc 3 _ rfl
    have c4: wr.cell? ⟨b,o + j * 5 + 4,none⟩ = some (.slice op.r.a op.r.l.length op.r.c) := hc 4 _ rfl
    have hB2 := Rw.below_on HP.out.bel (Rw.below_alloc wr (.cells #[.int .i64 op.k, .int .i64 op.id, .slice op.c.a op.c.ts.length op.c.c, .slice op.c.b op.c.l.length op.c.d, .slice op.r.a op.r.l.length op.r.c] 81)) HP.out.bel.size
    have HG := Rw.dh (great_walk op.c (HOp.out _ hB2).c)
    unfold cdV at HG
    have HP2 := Rw.dh (HP.out.on (Rw.below_alloc wr (.cells #[.int .i64 op.k, .int .i64 op.id, .slice op.c.a op.c.ts.length op.c.c, .slice op.c.b op.c.l.length op.c.d, .slice op.r.a op.r.l.length op.r.c] 81)))
    have HX2 := Rw.dh (Rw.heap_new wr (.cells #[.int .i64 op.k, .int .i64 op.id, .slice op.c.a op.c.ts.length op.c.c, .slice op.c.b op.c.l.length op.c.d, .slice op.r.a op.r.l.length op.r.c] 81))
    clear hc hx hB2
    go_wp2_with fail
    refine HG.out.mono ?_
    rintro e w3 ⟨B,rfl,hB,hb3⟩
    have HP3 := Rw.dh (HP2.out.on hb3)
    have HX3 := Rw.dh ((hb3.block _ (by simp)).trans HX2.out)
    have HF := Rw.dh (fun (h: B = false) => (⟨(hB h).1,(hB h).2.1,(hB h).2.2⟩: Few op.c))
    clear c0 c1 c2 c3 c4 hB hb3 HP2 HX2 HG HP
    generalize hob: wr.heap.size = ob at *
    clear hob
    have c0: w3.cell? ⟨ob,0,none⟩ = some (.int .i64 op.k) := by rw [cell_of_row _ _ _ _ _ _ HX3.out]; rfl
    have c1: w3.cell? ⟨ob,1,none⟩ = some (.int .i64 op.id) := by rw [cell_of_row _ _ _ _ _ _ HX3.out]; rfl
    have c2: w3.cell? ⟨ob,2,none⟩ = some (.slice op.c.a op.c.ts.length op.c.c) := by rw [cell_of_row _ _ _ _ _ _ HX3.out]; rfl
    have c3: w3.cell? ⟨ob,3,none⟩ = some (.slice op.c.b op.c.l.length op.c.d) := by rw [cell_of_row _ _ _ _ _ _ HX3.out]; rfl
    have c4: w3.cell? ⟨ob,4,none⟩ = some (.slice op.r.a op.r.l.length op.r.c) := by rw [cell_of_row _ _ _ _ _ _ HX3.out]; rfl
    cases B with
    | true =>
     go_wp2
     go_ret
     exact ⟨rfl,HP3.out.bel⟩
    | false =>
    by_cases h30: 30 < op.r.l.length
    · have h30': (30: Int) < (op.r.l.length: Int) := by omega
      go_wp2
      go_ret
      exact ⟨rfl,HP3.out.bel⟩
    have h30': decide (30 < (op.r.l.length: Int)) = false := decide_eq_false (by omega)
    have HFw := Rw.dh (HF.out rfl)
    clear HF h30
    obtain ⟨va,vc,rfl⟩ := Rw.owns_slice HP3.out.ls.own
    clear c0 c1 c2 c3 c4
    have HT3: Hid (StI w w1.heap.size L E (.slice va E.length vc) ob op w3) := ⟨HP3.out,HX3.out⟩
    clear HP3 HX3
    have c4 := HT3.out.c4
    go_wp2_with fail
    clear c4
    go_loopw [7,43] (fun at_ i wr => ∃ (k: Nat) (n: Int),k <= E.length /\ i = .int .i64 (k: Int) /\ at_ = .int .i64 n /\ Hid (AtI E op.id k n) /\ Hid (StI w w1.heap.size L E (.slice va E.length vc) ob op wr)) (fun _ i _ => E.length - (intOf i).toNat)
    case atStart => exact ⟨0, -1,Nat.zero_le _,rfl,rfl,AtI.zero _ _,HT3.out⟩
    case round =>
     obtain ⟨k,n,hk,rfl,rfl,HAt,HT⟩ := hrel
     by_cases hkl: k < E.length
     · obtain ⟨vb,vo,e,rfl,hvb,hex,hec⟩ := ((Rw.owns_slg enC_len (by decide) HT.out.pl.ls.own).2.1).at hkl
       have d0: wr.cell? ⟨vb,vo + k * 3,none⟩ = some (.int .i64 e.id) := hec 0 _ rfl
       have c1 := HT.out.c1
       have hol := (Array.getElem?_eq_some_iff.1 HT.out.box).1
       have HE := Rw.dh hex
       clear hec hex HT3
       by_cases heq: e.id = op.id
       · have hq: (e.id == op.id) = true := by simpa using heq
         go_wp2
         go_quiet (fail)
         go_wp2
         exact ⟨⟨k + 1,k,hkl,by go_num,rfl,AtI.hit HE.out heq,HT.out.on (below_drewN (Below.refl _ _) _)⟩,by simp [intOf]; omega⟩
       · have hq: (e.id == op.id) = false := by simpa using heq
         go_wp2
         go_quiet (fail)
         go_wp2
         exact ⟨⟨k + 1,n,hkl,by go_num,rfl,HAt.out.miss HE.out heq,HT.out.on (below_drewN (Below.refl _ _) _)⟩,by simp [intOf]; omega⟩
     · have hkn: k = E.length := by omega
       subst hkn
       clear HT3
       have HA2 := Rw.dh (HAt.out.full HSd.out)
       clear HAt
       have c0 := HT.out.c0
       go_upto_block 4 with fail
       clear c0
       go_cut [4,6,9,10,28,57] (fun s4 s6 _ _ s28 _ wx => s6 = .pointer (some ⟨ob,0,none⟩) /\ s28 = .int .i64 (j: Int) /\ ∃ (L2: List EntL) (E2: List EnD),E2.length <= j + 1 /\ Hid (Side L2 E2) /\ Hid (StI w w1.heap.size L2 E2 s4 ob op wx))
       case first =>
        have HOi := Rw.dh (HOp.out _ HT.out.pl.bel)
        by_cases hk0: op.k = 0
        · have hkq: (op.k == 0) = true := by simpa using hk0
          clear hk0
          rcases HA2.out with ⟨hn,hh⟩ | ⟨y,x,hn,hy,hxy,hxi⟩
          · subst hn
            have HAd := Rw.dh (padd_any HT.out.pl.ix HT.out.pl.bel.size op.c op.id HOi.out.id hh HOi.out.c HFw.out)
            have c1 := HT.out.c1
            have c2 := HT.out.c2
            have c3 := HT.out.c3
            clear HA2
            unfold cdV at HAd
            go_wp2_with fail
            refine HAd.out.mono ?_
            rintro e w4 ⟨rfl,k',born,S,hix,hmt,hoff,hxt⟩
            have HT4 := Rw.dh (HT.out.added hix hoff hxt)
            have HPl := Rw.dh (fun W (hb: Below w4.heap.size w4 W) => plainQ_walk 30 op.c (HOp.out W (Rw.below_on HT4.out.pl.bel hb HT4.out.pl.bel.size)).c (by have := HFw.out.t; omega) HFw.out.d)
            have HM4 := Rw.dh hmt
            clear hix hmt hoff hxt HAd c1 c2 c3 HT HOi
            unfold cdV at HPl
            go_upto_region 25 with fail
            have KS: Hid (∀ W,Below w4.heap.size w4 W -> (fun W => W.cell? ⟨ob,1,none⟩ = some (.int .i64 op.id) /\ W.cell? ⟨ob,2,none⟩ = some (.slice op.c.a op.c.ts.length op.c.c) /\ W.cell? ⟨ob,3,none⟩ = some (.slice op.c.b op.c.l.length op.c.d)) W) := fun W hb => ⟨(HT4.out.on hb).c1,(HT4.out.on hb).c2,(HT4.out.on hb).c3⟩
            have hHeld: (fun W => W.cell? ⟨ob,1,none⟩ = some (.int .i64 op.id) /\ W.cell? ⟨ob,2,none⟩ = some (.slice op.c.a op.c.ts.length op.c.c) /\ W.cell? ⟨ob,3,none⟩ = some (.slice op.c.b op.c.l.length op.c.d)) w4.drew := KS.out _ (Below.refl _ w4).drew
            refine HeT.begin_ (fun W => W.cell? ⟨ob,1,none⟩ = some (.int .i64 op.id) /\ W.cell? ⟨ob,2,none⟩ = some (.slice op.c.a op.c.ts.length op.c.c) /\ W.cell? ⟨ob,3,none⟩ = some (.slice op.c.b op.c.l.length op.c.d)) 9 (by kernel_rfl) ?_
            refine HeT.take (i := 0) (v := ?_) rfl (by kernel_rfl) (by kernel_rfl) (by kernel_rfl) (by kernel_rfl) (by decide) (fun _ _ _ h => h) (Or.inl ⟨by rfl, ?_⟩) hHeld ?_
            rotate_left
            · intro w' hSw
              obtain ⟨s1,s2,s3⟩ := hSw
              go_simp
              (try with_reducible rfl)
            (try simp only [Act.put,List.getElem_toArray,List.getElem_cons_succ,List.getElem_cons_zero,HeT.pT])
            refine HeT.take (i := 1) (v := ?_) rfl (by kernel_rfl) (by kernel_rfl) (by kernel_rfl) (by kernel_rfl) (by decide) (fun _ _ _ h => h) (Or.inl ⟨by rfl, ?_⟩) hHeld ?_
            rotate_left
            · intro w' hSw
              obtain ⟨s1,s2,s3⟩ := hSw
              go_simp
              (try with_reducible rfl)
            (try simp only [Act.put,List.getElem_toArray,List.getElem_cons_succ,List.getElem_cons_zero,HeT.pT])
            refine HeT.take (i := 2) (v := ?_) rfl (by kernel_rfl) (by kernel_rfl) (by kernel_rfl) (by kernel_rfl) (by decide) (fun _ _ _ h => h) (Or.inl ⟨by rfl, ?_⟩) hHeld ?_
            rotate_left
            · intro w' hSw
              obtain ⟨s1,s2,s3⟩ := hSw
              go_simp
              (try with_reducible rfl)
            (try simp only [Act.put,List.getElem_toArray,List.getElem_cons_succ,List.getElem_cons_zero,HeT.pT])
            refine HeT.take (i := 3) (v := ?_) rfl (by kernel_rfl) (by kernel_rfl) (by kernel_rfl) (by kernel_rfl) (by decide) (fun _ _ _ h => h) (Or.inl ⟨by rfl, ?_⟩) hHeld ?_
            rotate_left
            · intro w' hSw
              obtain ⟨s1,s2,s3⟩ := hSw
              go_simp
              (try with_reducible rfl)
            (try simp only [Act.put,List.getElem_toArray,List.getElem_cons_succ,List.getElem_cons_zero,HeT.pT])
            refine HeT.take (i := 4) (v := ?_) rfl (by kernel_rfl) (by kernel_rfl) (by kernel_rfl) (by kernel_rfl) (by decide) (fun _ _ _ h => h) (Or.inl ⟨by rfl, ?_⟩) hHeld ?_
            rotate_left
            · intro w' hSw
              obtain ⟨s1,s2,s3⟩ := hSw
              go_simp
              (try with_reducible rfl)
            (try simp only [Act.put,List.getElem_toArray,List.getElem_cons_succ,List.getElem_cons_zero,HeT.pT])
            refine HeT.one (i := 5) (by kernel_rfl) rfl ?_
            intro K hK
            go_simp
            refine (HPl.out _ (Below.refl _ w4).drew).mono ?_
            rintro e w5 ⟨k2,rfl,hts,hle,hlk,hci,hof2,hb5⟩
            have hb6: Below w4.heap.size w4 w5 := (Below.refl _ w4).drew.trans hb5
            refine hK _ _ (KS.out _ hb6) ?_
            clear hK K hHeld
            have hHeld := KS.out _ hb6
            have HT5 := Rw.dh (HT4.out.on hb6)
            have HE5: Hid (CdIn w5 k2 /\ Few k2 /\ OffC (fun b => w4.heap.size <= b) k2 /\ ∀ r,meetsC 30 r k2.ts k2.l = meetsC 30 r k'.ts k'.l) := ⟨hci,HFw.out.like hts hle hlk,hof2,fun r => (met_like r hts hle hlk).trans (HM4.out r).symm⟩
            clear hts hle hlk hci hof2 hb5
            (try simp only [Act.put,List.getElem_toArray,List.getElem_cons_succ,List.getElem_cons_zero,HeT.pT])
            unfold cdV
            refine HeT.take (i := 6) (v := ?_) rfl (by kernel_rfl) (by kernel_rfl) (by kernel_rfl) (by kernel_rfl) (by decide) (fun _ _ _ h => h) (Or.inl ⟨by rfl, ?_⟩) hHeld ?_
            rotate_left
            · intro w' hSw
              obtain ⟨s1,s2,s3⟩ := hSw
              go_simp
              (try with_reducible rfl)
            (try simp only [Act.put,List.getElem_toArray,List.getElem_cons_succ,List.getElem_cons_zero,HeT.pT])
            have HT6 := Rw.dh (HT5.out.on (Rw.below_alloc w5 (.cells #[.int .i64 op.id, .slice k2.a k2.ts.length k2.c, .slice k2.b k2.l.length k2.d] 87)))
            have HE6: Hid (CdIn (w5.alloc (.cells #[.int .i64 op.id, .slice k2.a k2.ts.length k2.c, .slice k2.b k2.l.length k2.d] 87)) k2 /\ OffC (fun b => (Value.slice va E.length vc).ownBlock ≠ some b) k2) := ⟨HE5.out.1.on (Rw.below_alloc _ _),HE5.out.2.2.1.mono fun b hb e => by have := (HT4.out.pl.ls.own.lt b e).2; omega⟩
            refine HeT.one (i := 7) (by kernel_rfl) rfl ?_
            intro K hK
            go_simp
            refine hK _ _ ⟨HT6.out.c1,HT6.out.c2,HT6.out.c3⟩ ?_
            clear hK K hHeld KS HT5 HPl
            (try simp only [Act.put,List.getElem_toArray,List.getElem_cons_succ,List.getElem_cons_zero,HeT.pT])
            refine HeT.one (i := 8) (by kernel_rfl) rfl ?_
            intro K hK
            refine step_appV Tryz.underlying75 infoEn rfl (by decide) (by decide) rfl _ _ rfl w.heap.size HT6.out.pl.bel.size (.slice va E.length vc) E.length (Rw.flat enC E) rfl HT6.out.pl.ls.own _ 1 1 (enC ⟨op.id,k2⟩) rfl (Rw.src_new w5 (enC ⟨op.id,k2⟩) 87 1 1 rfl) rfl (enC_one _) (by omega) ?_
            intro v2 W2 O2 G2 hv2
            have HF: Hid (StI w w1.heap.size (L ++ [(op.id,k',born)]) (E ++ [⟨op.id,k2⟩]) v2 ob op W2) := HT6.out.push (e := ⟨op.id,k2⟩) HE6.out.1 HE5.out.2.1 HE6.out.2 O2 G2 hv2
            have HS2: Hid (Side (L ++ [(op.id,k',born)]) (E ++ [⟨op.id,k2⟩])) := HSd.out.push rfl HE5.out.2.2.2
            clear O2 G2 hv2 HT6 HE6 HE5 HT4 hb6
            refine hK _ _ ⟨HF.out.c1,HF.out.c2,HF.out.c3⟩ ?_
            clear hK K
            (try simp only [Act.put,List.getElem_toArray,List.getElem_cons_succ,List.getElem_cons_zero,HeT.pT])
            refine HeT.rest2 (k := 9) rfl (by decide) (by kernel_rfl) ?_
            simp only [List.drop_succ_cons,List.drop_zero]
            go_wp2_with fail
            refine NoPanic.normal ?_
            go_wp2_with fail
            go_meet
            exact ⟨rfl,rfl,_,_,by simp; omega,HS2.out,HF.out⟩
          · subst hn
            have hin: hasL L op.id = true := List.any_eq_true.2 ⟨x,List.mem_of_getElem? hxy,by simpa using hxi⟩
            have HAd: Hid (Calls Tryz.prog 26 #[.pointer (some ⟨w1.heap.size,0,none⟩), .int .i64 op.id, .agg #[.slice op.c.a op.c.ts.length op.c.c, .slice op.c.b op.c.l.length op.c.d]] wr fun e w' => e = .returned (.int .i64 3) /\ Below wr.heap.size wr w') := paddT_any HT.out.pl.ix op.c op.id HOi.out.id hin
            have c1 := HT.out.c1
            have c2 := HT.out.c2
            have c3 := HT.out.c3
            have hy0: (0: Int) <= (y: Int) := by omega
            have hy1: ¬ ((y: Int) < 0) := by omega
            clear HA2 hin
            go_wp2_with fail
            refine HAd.out.mono ?_
            rintro e w4 ⟨rfl,hb4⟩
            have HT4 := Rw.dh (HT.out.on hb4)
            clear hb4 HAd c1 c2 c3 HT HOi
            go_wp2_with fail
            go_meet
            exact ⟨rfl,rfl,_,_,by omega,HSd.out,HT4.out⟩
        by_cases hk1: op.k = 1
        · have hkq0: (op.k == 0) = false := by simpa using hk0
          have hkq: (op.k == 1) = true := by simpa using hk1
          clear hk0 hk1
          rcases HA2.out with ⟨hn,hh⟩ | ⟨y,x,hn,hye,hxy,hxi⟩
          · subst hn
            have HCu: Hid (Calls Tryz.prog 28 #[.pointer (some ⟨w1.heap.size,0,none⟩), .int .i64 op.id] wr fun e w' => e = .returned (.int .i64 2) /\ Below wr.heap.size wr w') := pcutF_any HT.out.pl.ix op.id HOi.out.id hh
            have c1 := HT.out.c1
            clear HA2
            go_wp2_with fail
            refine HCu.out.mono ?_
            rintro e w4 ⟨rfl,hb4⟩
            have HT4 := Rw.dh (HT.out.on hb4)
            clear hb4 HCu c1 HT HOi
            go_wp2_with fail
            go_meet
            exact ⟨rfl,rfl,_,_,by omega,HSd.out,HT4.out⟩
          · subst hn
            have HCu := Rw.dh (pcut_any HT.out.pl.ix op.id HOi.out.id hxy hxi)
            have c1 := HT.out.c1
            have hy0: (0: Int) <= (y: Int) := by omega
            have hy1: ¬ ((y: Int) < 0) := by omega
            clear HA2
            go_wp2_with fail
            refine HCu.out.mono ?_
            rintro e w4 ⟨rfl,S,hix,hxt⟩
            have HT4 := Rw.dh (HT.out.cut hix hxt)
            clear hix hxt HCu c1 HT HOi
            rcases Rw.owns_addr HT4.out.pl.ls.own with ⟨_,hz,_⟩ | ⟨g,rfl⟩
            · omega
            have hcap := (Rw.owns_cap HT4.out.pl.ls.own).1
            have HSl := Rw.dh (Rw.owns_slg enC_len (by decide) HT4.out.pl.ls.own).2.1
            have hwi: IntKind.i64.wrap ((y: Int) + 1) = (y: Int) + 1 := by rw [IntKind.wrap_i64] <;> omega
            go_upto_region 31 with fail
            have i1: (y: Int) <= (vc: Int) := by omega
            have i2: (y: Int) <= (E.length: Int) := by omega
            have i3: (E.length: Int) <= (vc: Int) := by omega
            have i4: (y: Int) + 1 <= (E.length: Int) := by omega
            have i5: (y: Int) + 1 <= (vc: Int) := by omega
            have i6: ((y: Int) + 1).toNat = y + 1 := by omega
            have i7: (y: Int) <= (y: Int) + 1 := by omega
            have i8: (0: Int) <= (y: Int) + 1 := by omega
            by_cases hcA: vc = y + 1
            · subst hcA
              have hdr: E.drop (y + 1) = [] := List.drop_eq_nil_of_le (by omega)
              refine HeT.begin_ (fun _ => True) 10 (by kernel_rfl) ?_
              have hHeld: (fun _: World => True) w4.drew := trivial
              refine HeT.take (i := 1) (v := ?_) rfl (by kernel_rfl) (by kernel_rfl) (by kernel_rfl) (by kernel_rfl) (by decide) (fun _ _ _ h => h) (Or.inl ⟨by rfl, ?_⟩) hHeld ?_
              rotate_left
              · intro w' hSw
                go_simp
                (try with_reducible rfl)
              (try simp only [Act.put,List.getElem_toArray,List.getElem_cons_succ,List.getElem_cons_zero,HeT.pT])
              refine HeT.take (i := 2) (v := ?_) rfl (by kernel_rfl) (by kernel_rfl) (by kernel_rfl) (by kernel_rfl) (by decide) (fun _ _ _ h => h) (Or.inl ⟨by rfl, ?_⟩) hHeld ?_
              rotate_left
              · intro w' hSw
                go_simp
                (try with_reducible rfl)
              (try simp only [Act.put,List.getElem_toArray,List.getElem_cons_succ,List.getElem_cons_zero,HeT.pT])
              refine HeT.take (i := 3) (v := ?_) rfl (by kernel_rfl) (by kernel_rfl) (by kernel_rfl) (by kernel_rfl) (by decide) (fun _ _ _ h => h) (Or.inl ⟨by rfl, ?_⟩) hHeld ?_
              rotate_left
              · intro w' hSw
                go_simp
                (try with_reducible rfl)
              (try simp only [Act.put,List.getElem_toArray,List.getElem_cons_succ,List.getElem_cons_zero,HeT.pT])
              refine HeT.take (i := 5) (v := ?_) rfl (by kernel_rfl) (by kernel_rfl) (by kernel_rfl) (by kernel_rfl) (by decide) (fun _ _ _ h => h) (Or.inl ⟨by rfl, ?_⟩) hHeld ?_
              rotate_left
              · intro w' hSw
                go_simp
                (try with_reducible rfl)
              (try simp only [Act.put,List.getElem_toArray,List.getElem_cons_succ,List.getElem_cons_zero,HeT.pT])
              refine HeT.take (i := 6) (v := ?_) rfl (by kernel_rfl) (by kernel_rfl) (by kernel_rfl) (by kernel_rfl) (by decide) (fun _ _ _ h => h) (Or.inl ⟨by rfl, ?_⟩) hHeld ?_
              rotate_left
              · intro w' hSw
                go_simp
                (try with_reducible rfl)
              (try simp only [Act.put,List.getElem_toArray,List.getElem_cons_succ,List.getElem_cons_zero,HeT.pT])
              refine HeT.take (i := 7) (v := ?_) rfl (by kernel_rfl) (by kernel_rfl) (by kernel_rfl) (by kernel_rfl) (by decide) (fun _ _ _ h => h) (Or.inl ⟨by rfl, ?_⟩) hHeld ?_
              rotate_left
              · intro w' hSw
                go_simp
                (try with_reducible rfl)
              (try simp only [Act.put,List.getElem_toArray,List.getElem_cons_succ,List.getElem_cons_zero,HeT.pT])
              refine HeT.take (i := 8) (v := ?_) rfl (by kernel_rfl) (by kernel_rfl) (by kernel_rfl) (by kernel_rfl) (by decide) (fun _ _ _ h => h) (Or.inl ⟨by rfl, ?_⟩) hHeld ?_
              rotate_left
              · intro w' hSw
                go_simp
                (try with_reducible rfl)
              (try simp only [Act.put,List.getElem_toArray,List.getElem_cons_succ,List.getElem_cons_zero,HeT.pT])
              refine HeT.one (i := 0) (by kernel_rfl) rfl ?_
              intro K hK
              go_simp
              refine hK _ _ trivial ?_
              clear hK K hHeld
              (try simp only [Act.put,List.getElem_toArray,List.getElem_cons_succ,List.getElem_cons_zero,HeT.pT])
              have HB5: Hid (Below w4.heap.size w4 (w4.drew.alloc (.cells #[] 87))) := (Below.refl _ w4).drew.alloc (Nat.le_refl _) _
              have HO5: Hid ((w4.drew.alloc (.cells #[] 87)).ownsRow w4.heap.size 87 3 (.slice (some ⟨w4.heap.size,0,none⟩) 0 0) 0 []) := Rw.own_new (Rw.heap_new w4.drew _) (Nat.le_refl _)
              refine Rw.to_letter (F := fun W => Below w4.heap.size w4 W /\ W.ownsRow w4.heap.size 87 3 (.slice (some ⟨w4.heap.size,0,none⟩) 0 0) 0 []) ⟨HB5.out,HO5.out⟩ ?_
              clear HB5 HO5
              rintro W5 ⟨hB5,hO5⟩
              have HB5 := Rw.dh hB5
              have HO5 := Rw.dh hO5
              clear hB5 hO5
              refine HeT.one (i := 4) (by kernel_rfl) rfl ?_
              intro K hK
              refine step_appV Tryz.underlying75 infoEn rfl (by decide) (by decide) rfl _ _ rfl w4.heap.size HB5.out.size (.slice (some ⟨w4.heap.size,0,none⟩) 0 0) 0 [] rfl HO5.out _ y (y + 1) (Rw.flat enC (E.take y)) rfl ((((HSl.out.below HB5.out).take y)).src enC_len (by decide) (by simp; omega) (fun h => by cases h)) (by rw [Rw.flat_length enC_len]; simp; omega) (Rw.flat_one enC_one) (by omega) ?_
              intro v6 W6 O6 G6 hv6
              refine hK _ _ trivial ?_
              clear hK K
              (try simp only [Act.put,List.getElem_toArray,List.getElem_cons_succ,List.getElem_cons_zero,HeT.pT])
              have HB6 := Rw.dh (HB5.out.grown G6 HB5.out.size fun q hq => (HO5.out.lt q hq).1)
              have HO6 := Rw.dh O6
              obtain ⟨v6a,v6c,rfl⟩ := Rw.owns_slice O6
              clear O6 G6 hv6 HO5 HB5
              have hsl2 := HSl.out.below HB6.out
              refine HeT.one (i := 9) (by kernel_rfl) rfl ?_
              intro K hK
              refine step_appV Tryz.underlying75 infoEn rfl (by decide) (by decide) rfl _ _ rfl w4.heap.size HB6.out.size (.slice v6a (0 + y) v6c) (0 + y) ([] ++ Rw.flat enC (E.take y)) rfl HO6.out (some ⟨g,0,none⟩) 0 0 (Rw.flat enC (E.drop (y + 1))) rfl (Rw.SlG.src enC_len (by decide) ((Or.inl hdr)) (by simp; try omega) (fun h => by cases h)) (by rw [Rw.flat_length enC_len]; simp; try omega) (Rw.flat_one enC_one) (by omega) ?_
              intro v7 W7 O7 G7 hv7
              refine hK _ _ trivial ?_
              clear hK K hsl2
              (try simp only [Act.put,List.getElem_toArray,List.getElem_cons_succ,List.getElem_cons_zero,HeT.pT])
              have HB7 := Rw.dh (HB6.out.grown G7 HB6.out.size fun q hq => (HO6.out.lt q hq).1)
              have HO7: Hid (W7.ownsRow w4.heap.size 87 3 v7 (E.eraseIdx y).length (Rw.flat enC (E.eraseIdx y))) := by
               have e1: (E.eraseIdx y).length = 0 + y + 0 := by rw [List.length_eraseIdx]; simp [hye]; omega
               have e2: Rw.flat enC (E.eraseIdx y) = [] ++ Rw.flat enC (E.take y) ++ Rw.flat enC (E.drop (y + 1)) := by rw [List.eraseIdx_eq_take_drop_succ,Rw.flat_append]; rfl
               rw [e1,e2]
               exact O7
              have HF: Hid (StI w w1.heap.size (L.eraseIdx y) (E.eraseIdx y) v7 ob op W7) := HT4.out.swap HB7.out (fun e he => (List.eraseIdx_sublist _ _).subset he) HO7.out
              have hle2: (E.eraseIdx y).length <= E.length := (List.eraseIdx_sublist E y).length_le
              clear O7 G7 hv7 HB6 HB7 HO6 HO7 HT4 HSl
              refine HeT.rest2 (k := 10) rfl (by decide) (by kernel_rfl) ?_
              simp only [List.drop_succ_cons,List.drop_zero]
              go_wp2_with fail
              refine NoPanic.normal ?_
              go_wp2_with fail
              go_meet
              exact ⟨rfl,rfl,_,_,by omega,HSd.out.cut y,HF.out⟩
            · refine HeT.begin_ (fun _ => True) 10 (by kernel_rfl) ?_
              have hHeld: (fun _: World => True) w4.drew := trivial
              refine HeT.take (i := 1) (v := ?_) rfl (by kernel_rfl) (by kernel_rfl) (by kernel_rfl) (by kernel_rfl) (by decide) (fun _ _ _ h => h) (Or.inl ⟨by rfl, ?_⟩) hHeld ?_
              rotate_left
              · intro w' hSw
                go_simp
                (try with_reducible rfl)
              (try simp only [Act.put,List.getElem_toArray,List.getElem_cons_succ,List.getElem_cons_zero,HeT.pT])
              refine HeT.take (i := 2) (v := ?_) rfl (by kernel_rfl) (by kernel_rfl) (by kernel_rfl) (by kernel_rfl) (by decide) (fun _ _ _ h => h) (Or.inl ⟨by rfl, ?_⟩) hHeld ?_
              rotate_left
              · intro w' hSw
                go_simp
                (try with_reducible rfl)
              (try simp only [Act.put,List.getElem_toArray,List.getElem_cons_succ,List.getElem_cons_zero,HeT.pT])
              refine HeT.take (i := 3) (v := ?_) rfl (by kernel_rfl) (by kernel_rfl) (by kernel_rfl) (by kernel_rfl) (by decide) (fun _ _ _ h => h) (Or.inl ⟨by rfl, ?_⟩) hHeld ?_
              rotate_left
              · intro w' hSw
                go_simp
                (try with_reducible rfl)
              (try simp only [Act.put,List.getElem_toArray,List.getElem_cons_succ,List.getElem_cons_zero,HeT.pT])
              refine HeT.take (i := 5) (v := ?_) rfl (by kernel_rfl) (by kernel_rfl) (by kernel_rfl) (by kernel_rfl) (by decide) (fun _ _ _ h => h) (Or.inl ⟨by rfl, ?_⟩) hHeld ?_
              rotate_left
              · intro w' hSw
                go_simp
                (try with_reducible rfl)
              (try simp only [Act.put,List.getElem_toArray,List.getElem_cons_succ,List.getElem_cons_zero,HeT.pT])
              refine HeT.take (i := 6) (v := ?_) rfl (by kernel_rfl) (by kernel_rfl) (by kernel_rfl) (by kernel_rfl) (by decide) (fun _ _ _ h => h) (Or.inl ⟨by rfl, ?_⟩) hHeld ?_
              rotate_left
              · intro w' hSw
                go_simp
                (try with_reducible rfl)
              (try simp only [Act.put,List.getElem_toArray,List.getElem_cons_succ,List.getElem_cons_zero,HeT.pT])
              refine HeT.take (i := 7) (v := ?_) rfl (by kernel_rfl) (by kernel_rfl) (by kernel_rfl) (by kernel_rfl) (by decide) (fun _ _ _ h => h) (Or.inl ⟨by rfl, ?_⟩) hHeld ?_
              rotate_left
              · intro w' hSw
                go_simp
                (try with_reducible rfl)
              (try simp only [Act.put,List.getElem_toArray,List.getElem_cons_succ,List.getElem_cons_zero,HeT.pT])
              refine HeT.take (i := 8) (v := ?_) rfl (by kernel_rfl) (by kernel_rfl) (by kernel_rfl) (by kernel_rfl) (by decide) (fun _ _ _ h => h) (Or.inl ⟨by rfl, ?_⟩) hHeld ?_
              rotate_left
              · intro w' hSw
                go_simp
                (try with_reducible rfl)
              (try simp only [Act.put,List.getElem_toArray,List.getElem_cons_succ,List.getElem_cons_zero,HeT.pT])
              refine HeT.one (i := 0) (by kernel_rfl) rfl ?_
              intro K hK
              go_simp
              refine hK _ _ trivial ?_
              clear hK K hHeld
              (try simp only [Act.put,List.getElem_toArray,List.getElem_cons_succ,List.getElem_cons_zero,HeT.pT])
              have HB5: Hid (Below w4.heap.size w4 (w4.drew.alloc (.cells #[] 87))) := (Below.refl _ w4).drew.alloc (Nat.le_refl _) _
              have HO5: Hid ((w4.drew.alloc (.cells #[] 87)).ownsRow w4.heap.size 87 3 (.slice (some ⟨w4.heap.size,0,none⟩) 0 0) 0 []) := Rw.own_new (Rw.heap_new w4.drew _) (Nat.le_refl _)
              refine Rw.to_letter (F := fun W => Below w4.heap.size w4 W /\ W.ownsRow w4.heap.size 87 3 (.slice (some ⟨w4.heap.size,0,none⟩) 0 0) 0 []) ⟨HB5.out,HO5.out⟩ ?_
              clear HB5 HO5
              rintro W5 ⟨hB5,hO5⟩
              have HB5 := Rw.dh hB5
              have HO5 := Rw.dh hO5
              clear hB5 hO5
              refine HeT.one (i := 4) (by kernel_rfl) rfl ?_
              intro K hK
              refine step_appV Tryz.underlying75 infoEn rfl (by decide) (by decide) rfl _ _ rfl w4.heap.size HB5.out.size (.slice (some ⟨w4.heap.size,0,none⟩) 0 0) 0 [] rfl HO5.out _ y vc (Rw.flat enC (E.take y)) rfl ((((HSl.out.below HB5.out).take y)).src enC_len (by decide) (by simp; omega) (fun h => by cases h)) (by rw [Rw.flat_length enC_len]; simp; omega) (Rw.flat_one enC_one) (by omega) ?_
              intro v6 W6 O6 G6 hv6
              refine hK _ _ trivial ?_
              clear hK K
              (try simp only [Act.put,List.getElem_toArray,List.getElem_cons_succ,List.getElem_cons_zero,HeT.pT])
              have HB6 := Rw.dh (HB5.out.grown G6 HB5.out.size fun q hq => (HO5.out.lt q hq).1)
              have HO6 := Rw.dh O6
              obtain ⟨v6a,v6c,rfl⟩ := Rw.owns_slice O6
              clear O6 G6 hv6 HO5 HB5
              have hsl2 := HSl.out.below HB6.out
              refine HeT.one (i := 9) (by kernel_rfl) rfl ?_
              intro K hK
              refine step_appV Tryz.underlying75 infoEn rfl (by decide) (by decide) rfl _ _ rfl w4.heap.size HB6.out.size (.slice v6a (0 + y) v6c) (0 + y) ([] ++ Rw.flat enC (E.take y)) rfl HO6.out (some ⟨g,0 + (y + 1) * 3,none⟩) (E.length - (y + 1)) (vc - (y + 1)) (Rw.flat enC (E.drop (y + 1))) (by simp [Act.eval]) (Rw.SlG.src enC_len (by decide) (hsl2.drop (y + 1)) (by simp; try omega) (fun h => by cases h)) (by rw [Rw.flat_length enC_len]; simp; try omega) (Rw.flat_one enC_one) (by omega) ?_
              intro v7 W7 O7 G7 hv7
              refine hK _ _ trivial ?_
              clear hK K hsl2
              (try simp only [Act.put,List.getElem_toArray,List.getElem_cons_succ,List.getElem_cons_zero,HeT.pT])
              have HB7 := Rw.dh (HB6.out.grown G7 HB6.out.size fun q hq => (HO6.out.lt q hq).1)
              have HO7: Hid (W7.ownsRow w4.heap.size 87 3 v7 (E.eraseIdx y).length (Rw.flat enC (E.eraseIdx y))) := by
               have e1: (E.eraseIdx y).length = 0 + y + (E.length - (y + 1)) := by rw [List.length_eraseIdx]; simp [hye]; omega
               have e2: Rw.flat enC (E.eraseIdx y) = [] ++ Rw.flat enC (E.take y) ++ Rw.flat enC (E.drop (y + 1)) := by rw [List.eraseIdx_eq_take_drop_succ,Rw.flat_append]; rfl
               rw [e1,e2]
               exact O7
              have HF: Hid (StI w w1.heap.size (L.eraseIdx y) (E.eraseIdx y) v7 ob op W7) := HT4.out.swap HB7.out (fun e he => (List.eraseIdx_sublist _ _).subset he) HO7.out
              have hle2: (E.eraseIdx y).length <= E.length := (List.eraseIdx_sublist E y).length_le
              clear O7 G7 hv7 HB6 HB7 HO6 HO7 HT4 HSl
              refine HeT.rest2 (k := 10) rfl (by decide) (by kernel_rfl) ?_
              simp only [List.drop_succ_cons,List.drop_zero]
              go_wp2_with fail
              refine NoPanic.normal ?_
              go_wp2_with fail
              go_meet
              exact ⟨rfl,rfl,_,_,by omega,HSd.out.cut y,HF.out⟩
        · have hkq0: (op.k == 0) = false := by simpa using hk0
          have hkq: (op.k == 1) = false := by simpa using hk1
          clear hk0 hk1 HA2
          go_wp2_with fail
          go_meet
          exact ⟨rfl,rfl,_,_,by omega,HSd.out,HT.out⟩
       case rest =>
        obtain ⟨rfl,rfl,L2,E2,hE2,HS2,HT2⟩ := hcut
        clear HT HA2 HSd hE HFw
        have HR := Rw.dh (fun W (hb: Below w.heap.size w W) => HOp.out W hb)
        have hLe: L2.length = E2.length := HS2.out.len
        have HMa := Rw.dh (pmatch_any HT2.out.pl.ix op.r (by omega) (HR.out _ HT2.out.pl.bel).r (HR.out _ HT2.out.pl.bel).f)
        have c4 := HT2.out.c4
        obtain ⟨v2a,v2c,rfl⟩ := Rw.owns_slice HT2.out.pl.ls.own
        go_wp2_with fail
        refine HMa.out.mono ?_
        rintro e w5 ⟨a5,c5,rfl,hs5, -, hb5⟩
        have HT5 := Rw.dh (HT2.out.on hb5)
        obtain ⟨gl,hgl⟩: ∃ gl,gl = gotL L2 fun x => meetsC 30 op.r x.2.1.ts x.2.1.l := ⟨_,rfl⟩
        have hs5': Rw.SlG intC 1 w5 a5 gl := by rw [hgl]; exact hs5
        have HS5 := Rw.dh hs5'
        have hlen: (metL op.r L2).length = gl.length := by rw [hgl,gotL_len]; simp [metL]
        have HGn: Hid (∀ (i: Nat) (a b: Int),gl[i]? = some a -> gl[i + 1]? = some b -> a < b) := fun i a b h1 h2 => gotL_next HT2.out.pl.ix.ids (fun x => meetsC 30 op.r x.2.1.ts x.2.1.l) (by rw [<- hgl]; exact h1) (by rw [<- hgl]; exact h2)
        have HGm: Hid (∀ e ∈ E2,meetsC 30 op.r e.c.ts e.c.l = true -> e.id ∈ gl) := fun e he hm => by
         obtain ⟨k,hk⟩ := List.mem_iff_getElem?.1 he
         obtain ⟨x,hx,hi,hr⟩ := HS2.out.get hk
         rw [hgl,gotL_mem]
         exact ⟨x,List.mem_of_getElem? hx,by rw [<- hr]; exact hm,hi.symm⟩
        have HGc: Hid ((E2.filter fun e => meetsC 30 op.r e.c.ts e.c.l).length = gl.length) := by rw [Hid,side_count op.r HS2.out,hgl,gotL_len]
        have hgl60: gl.length <= 60 := by
         have h1 := HGc.out
         have h2 := List.length_filter_le (fun e: EnD => meetsC 30 op.r e.c.ts e.c.l) E2
         omega
        rw [hlen]
        clear hs5 hs5' hb5 hgl HMa HT2 c4 hlen
        go_wp2_with fail
        go_loopw [12] (fun i wr => ∃ k: Nat,1 <= k /\ (k <= gl.length \/ k = 1) /\ i = .int .i64 (k: Int) /\ Hid (StI w w1.heap.size L2 E2 (.slice v2a E2.length v2c) ob op wr) /\ Hid (Rw.SlG intC 1 wr a5 gl)) (fun i _ => gl.length - (intOf i).toNat)
        case atStart => exact ⟨1,Nat.le_refl _,Or.inr rfl,rfl,HT5.out,HS5.out⟩
        case round =>
         obtain ⟨k,hk1,hkl,rfl,HT,HS6⟩ := hrel
         clear HT5 HS5
         by_cases hlt2: k < gl.length
         · obtain ⟨q,qo,y,rfl,hq,hy,hc⟩ := HS6.out.at hlt2
           obtain ⟨q',qo',z,e',hq',hz,hc'⟩ := HS6.out.at (show k - 1 < gl.length by omega)
           cases e'
           have d0: wr.cell? ⟨q,qo + k,none⟩ = some (.int .i64 y) := by have := hc 0 _ rfl; simpa using this
           have d1: wr.cell? ⟨q,qo + (k - 1),none⟩ = some (.int .i64 z) := by have := hc' 0 _ rfl; simpa using this
           have hzy := HGn.out (k - 1) z y hz (by rw [show k - 1 + 1 = k by omega]; exact hy)
           have hle: decide (y <= z) = false := decide_eq_false (by omega)
           have hwk: IntKind.i64.wrap ((k: Int) - 1) = ((k - 1: Nat): Int) := by rw [IntKind.wrap_i64] <;> omega
           have hk2: k - 1 < gl.length := by omega
           have hk3: ((k - 1: Nat): Int) < (gl.length: Int) := by omega
           clear hc hc' hy hz
           go_wp2
           go_quiet (fail)
           go_wp2
           exact ⟨⟨k + 1,by omega,by omega,by go_num,HT.out.on (below_drewN (Below.refl _ _) _),HS6.out.below (below_drewN (Below.refl _ _) _)⟩,by simp [intOf]; omega⟩
         · have hkk: decide ((k: Int) < (gl.length: Int)) = false := decide_eq_false (by omega)
           clear HGn hk1 hkl
           go_wp2_with fail
           go_loopw [13,145] (fun c i wr => ∃ (m: Nat) (n: Nat),m <= E2.length /\ i = .int .i64 (m: Int) /\ c = .int .i64 (n: Int) /\ Hid (n = ((E2.take m).filter fun e => meetsC 30 op.r e.c.ts e.c.l).length) /\ Hid (StI w w1.heap.size L2 E2 (.slice v2a E2.length v2c) ob op wr) /\ Hid (Rw.SlG intC 1 wr a5 gl)) (fun _ i _ => E2.length - (intOf i).toNat)
           case atStart => exact ⟨0,0,Nat.zero_le _,rfl,rfl,rfl,HT.out,HS6.out⟩
           case round =>
            obtain ⟨m,n2,hm,rfl,rfl,HN,HT7,HS7⟩ := hrel
            clear HT HS6
            by_cases hml: m < E2.length
            · obtain ⟨vb,vo,e,rfl,hvb,hex,hec⟩ := ((Rw.owns_slg enC_len (by decide) HT7.out.pl.ls.own).2.1).at hml
              have d0: wr.cell? ⟨vb,vo + m * 3,none⟩ = some (.int .i64 e.id) := hec 0 _ rfl
              have d1: wr.cell? ⟨vb,vo + m * 3 + 1,none⟩ = some (.slice e.c.a e.c.ts.length e.c.c) := hec 1 _ rfl
              have d2: wr.cell? ⟨vb,vo + m * 3 + 2,none⟩ = some (.slice e.c.b e.c.l.length e.c.d) := hec 2 _ rfl
              have hb8 := Rw.below_alloc wr (.cells #[.int .i64 e.id, .slice e.c.a e.c.ts.length e.c.c, .slice e.c.b e.c.l.length e.c.d] 87)
              have HT8 := Rw.dh (HT7.out.on hb8)
              have HS8 := Rw.dh (HS7.out.below hb8)
              have HX8 := Rw.dh (Rw.heap_new wr (.cells #[.int .i64 e.id, .slice e.c.a e.c.ts.length e.c.c, .slice e.c.b e.c.l.length e.c.d] 87))
              have hmem := List.mem_of_getElem? hex
              have hfw := (HT7.out.pl.ls.few e hmem).2
              have HRm := Rw.dh (rmeets_walk (n := 30) e.c op.r (HT8.out.pl.ls.few e hmem).1 (by have := hfw.t; omega) hfw.d (by have := hfw.l; omega) (HR.out _ HT8.out.pl.bel).r (HR.out _ HT8.out.pl.bel).f)
              have HMe := Rw.dh (fun (h: meetsC 30 op.r e.c.ts e.c.l = true) => HGm.out e hmem h)
              have HTk: Hid (((E2.take (m + 1)).filter fun e => meetsC 30 op.r e.c.ts e.c.l).length = n2 + if meetsC 30 op.r e.c.ts e.c.l then 1 else 0) := by
               rw [Hid,List.take_add_one,hex,Option.toList_some,List.filter_append,List.length_append,HN.out]
               congr 1
               cases hB: meetsC 30 op.r e.c.ts e.c.l <;> simp [hB]
              have hcb := HT8.out.c4
              unfold cdV at HRm
              generalize meetsC 30 op.r e.c.ts e.c.l = B at *
              clear hec hex hmem hfw hb8 HT7 HS7 HN
              go_wp2_with fail
              refine HRm.out.mono ?_
              rintro e9 w9 ⟨rfl,hb9⟩
              have HT9 := Rw.dh (HT8.out.on hb9)
              have HS9 := Rw.dh (HS8.out.below hb9)
              have HX9 := Rw.dh ((hb9.block _ (by simp)).trans HX8.out)
              clear d0 d1 d2 hb9 HT8 HS8 HX8 HRm hcb
              generalize wr.heap.size = yb at *
              cases B with
              | false =>
               go_wp2
               exact ⟨⟨m + 1,n2,hml,by go_num,rfl,by have h := HTk.out; simp at h; exact h.symm,HT9.out,HS9.out⟩,by simp [intOf]; omega⟩
              | true =>
               have hin := HMe.out rfl
               have HIn := Rw.dh hin
               clear HMe hin
               have hn2: n2 <= 60 := by
                have h1 := HTk.out
                have h2 := List.length_filter_le (fun e: EnD => meetsC 30 op.r e.c.ts e.c.l) (E2.take (m + 1))
                have h3 := List.length_take_le (m + 1) E2
                have h4: (if true = true then 1 else 0) = 1 := rfl
                omega
               have hw2: IntKind.i64.wrap ((n2: Int) + 1) = ((n2 + 1: Nat): Int) := by rw [IntKind.wrap_i64] <;> omega
               go_wp2_with fail
               go_loopw [16,159] (fun f i wr => ∃ (t: Nat) (fb: Bool),t <= gl.length /\ i = .int .i64 (t: Int) /\ f = .bool fb /\ Hid (fb = (gl.take t).any fun z => z == e.id) /\ Hid (wr.heap[yb]? = some (.cells #[.int .i64 e.id, .slice e.c.a e.c.ts.length e.c.c, .slice e.c.b e.c.l.length e.c.d] 87 (0,0))) /\ Hid (StI w w1.heap.size L2 E2 (.slice (some ⟨vb,vo,none⟩) E2.length v2c) ob op wr) /\ Hid (Rw.SlG intC 1 wr a5 gl)) (fun _ i _ => gl.length - (intOf i).toNat)
               case atStart => exact ⟨0,false,Nat.zero_le _,rfl,rfl,rfl,HX9.out,HT9.out,HS9.out⟩
               case round =>
                obtain ⟨t,fb,ht,rfl,rfl,HFb,HXa,HTa,HSa⟩ := hrel
                clear HX9 HT9 HS9
                by_cases htl: t < gl.length
                · obtain ⟨q,qo,z,rfl,hq,hz,hc⟩ := HSa.out.at htl
                  have d0: wr.cell? ⟨q,qo + t,none⟩ = some (.int .i64 z) := by have := hc 0 _ rfl; simpa using this
                  have d1: wr.cell? ⟨yb,0,none⟩ = some (.int .i64 e.id) := by rw [cell_of_row _ _ _ _ _ _ HXa.out]; rfl
                  have hyl := (Array.getElem?_eq_some_iff.1 HXa.out).1
                  have HNx: Hid ((gl.take (t + 1)).any (fun z => z == e.id) = (fb || (z == e.id))) := by
                   rw [Hid,List.take_add_one,hz,Option.toList_some,List.any_append,HFb.out]
                   simp
                  clear hc hz HFb
                  cases fb with
                  | true =>
                   go_wp2
                   exact ⟨⟨t + 1,true,htl,by go_num,rfl,by rw [Hid,HNx.out]; rfl,HXa.out,HTa.out,HSa.out⟩,by simp [intOf]; omega⟩
                  | false =>
                   go_wp2
                   exact ⟨⟨t + 1,(z == e.id),htl,by go_num,rfl,by rw [Hid,HNx.out]; rfl,HXa.out,HTa.out,HSa.out⟩,by simp [intOf]; omega⟩
                · have htn: t = gl.length := by omega
                  subst htn
                  have hfb: fb = true := by
                   rw [HFb.out,List.take_length,List.any_eq_true]
                   exact ⟨e.id,HIn.out,by simp⟩
                  subst hfb
                  clear HFb HIn
                  go_wp2_with fail
                  exact ⟨⟨m + 1,n2 + 1,hml,by go_num,by go_num,by have h := HTk.out; simp at h; exact h.symm,HTa.out,HSa.out⟩,by simp [intOf]; omega⟩
            · have hmn: m = E2.length := by omega
              subst hmn
              have hn2: n2 = gl.length := by rw [HN.out,List.take_length]; exact HGc.out
              subst hn2
              have HLn: Hid (Calls Tryz.prog 31 #[.pointer (some ⟨w1.heap.size,0,none⟩)] wr fun e w' => e = .returned (.int .i64 E2.length) /\ Below wr.heap.size wr w') := by
               have := plen_any HT7.out.pl.ix
               rw [hLe] at this
               exact this
              have hne: ((gl.length: Int) != (gl.length: Int)) = false := by simp
              have hne2: ((E2.length: Int) != (E2.length: Int)) = false := by simp
              clear HN
              go_wp2_with fail
              refine HLn.out.mono ?_
              rintro e9 w9 ⟨rfl,hb9⟩
              have HT9 := Rw.dh (HT7.out.on hb9)
              clear hb9 HLn HT7
              go_wp2_with fail
              exact ⟨⟨j + 1,L2,E2,by omega,by go_num,hE2,HS2.out,HT9.out.pl⟩,by simp [intOf]; omega⟩
  · have hjn: j = os.length := by omega
    subst hjn
    have HB := Rw.dh HP.out.bel
    clear HP HSd
    clear HA HS HO HB1
    have HN1: Hid (Calls Tryz.prog 26 #[.pointer none, .int .i64 1, .agg #[.slice none 0 0, .slice none 0 0]] wr fun e w' => e = .returned (.int .i64 15) /\ Below wr.heap.size wr w') := padd_nil wr 1 none none 0 0 0 0
    go_wp2_with fail
    refine HN1.out.mono ?_
    rintro e w2 ⟨rfl,hb2⟩
    have HB2 := Rw.dh (Rw.below_on HB.out hb2 HB.out.size)
    clear hb2 HN1 HB
    have HN2: Hid (Calls Tryz.prog 28 #[.pointer none, .int .i64 1] w2 fun e w' => e = .returned (.int .i64 15) /\ Below w2.heap.size w2 w') := pcut_nil w2 1
    go_wp2_with fail
    refine HN2.out.mono ?_
    rintro e w3 ⟨rfl,hb3⟩
    have HB3 := Rw.dh (Rw.below_on HB2.out hb3 HB2.out.size)
    clear hb3 HN2 HB2
    go_wp2_with fail
    refine (pmatch_nil w3 none 0 0).mono ?_
    rintro e w4 ⟨rfl,hb4⟩
    have HB4 := Rw.dh (Rw.below_on HB3.out hb4 HB3.out.size)
    clear hb4 HB3
    go_wp2_with fail
    refine (plen_nil w4).mono ?_
    rintro e w5 ⟨rfl,hb5⟩
    have HB5 := Rw.dh (Rw.below_on HB4.out hb5 HB4.out.size)
    clear hb5 HB4
    go_wp2
    go_ret
    exact ⟨rfl,HB5.out⟩
end Go.Proofs.YteibhbnlcpejpaaGreat
