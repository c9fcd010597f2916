import Derived.Test.YteibhbnlcpejpaaGreatMAQ
import Derived.Test.YteibhbnlcpejpaaGreatMAR
set_option maxRecDepth 100000
set_option maxHeartbeats 4000000
namespace Go.Proofs.YteibhbnlcpejpaaGreat
open Go.RowKit
structure BelowW (W: World) where
 w: World
 below: Below W.heap.size W w
theorem wp_region_below {P: Program} {id: Nat} {Q: Exit -> Act -> World -> Prop} {a: Act} {W: World} {l: List Oper} (hm: P.follows .mixedOrders = true) (hB: Region.lexB .any l.toArray = true)
 (h: Nonempty (BelowW W) -> wpQuiet P l.toArray (fun w' => ∃ q: BelowW W,w' = q.w) (fun a' => ∀ w',(∃ q: BelowW W,w' = q.w) -> Q .normal a' w') l a): (Code.region id l.toArray true).wp P Q a W :=
 wp_region_quiet (C := fun w' => ∃ q: BelowW W,w' = q.w) hm hB ⟨⟨{ W with drawn := W.drawn + 1 },(Below.refl _ _).drew⟩,rfl⟩ (by simpa using h ⟨⟨W,Below.refl _ _⟩⟩)
theorem quiet_of_below {P: Program} {f: FuncId} {args: Array Value} {W: World} {q: BelowW W} {v: Value} (h: Calls P f args q.w fun e w' => e = .returned v /\ Below q.w.heap.size q.w w') :
 Calls P f args q.w fun e w'' => e = .returned v /\ ∃ q': BelowW W,w'' = q'.w :=
 h.mono fun _ w' ⟨he,hb⟩ => ⟨he,⟨w',q.below.trans (hb.mono q.below.size)⟩,rfl⟩
def FitP (w: World) (e: Ending) (W: World): Prop := ∃ B: Bool,e = .returned (.bool B) /\ Below w.heap.size w W
theorem ops_fit (l: List UInt8): (l == [118,97,108,117,101]) = true \/ ((l == [118,97,108,117,101]) = false /\ (l == [99,111,108,117,109,110]) = true) \/ ((l == [118,97,108,117,101]) = false /\ (l == [99,111,108,117,109,110]) = false /\ (l == [110,101,103]) = true) \/ ((l == [118,97,108,117,101]) = false /\ (l == [99,111,108,117,109,110]) = false /\ (l == [110,101,103]) = false /\ (l == [110,111,116]) = true) \/ ((l == [118,97,108,117,101]) = false /\ (l == [99,111,108,117,109,110]) = false /\ (l == [110,101,103]) = false /\ (l == [110,111,116]) = false /\ (l == [110,117,108,108]) = true) \/ ((l == [118,97,108,117,101]) = false /\ (l == [99,111,108,117,109,110]) = false /\ (l == [110,101,103]) = false /\ (l == [110,111,116]) = false /\ (l == [110,117,108,108]) = false) := by
 cases h1: (l == [118,97,108,117,101]) <;> cases h2: (l == [99,111,108,117,109,110]) <;> cases h3: (l == [110,101,103]) <;> cases h4: (l == [110,111,116]) <;> cases h5: (l == [110,117,108,108]) <;> simp
theorem fit_walk: ∀ (n: Nat) (x: NL) (w: World),InN n w x -> deepN n x = false -> Calls Tryz.prog 115 #[nV x] w (FitP w)
 | 0,_,_,_,h => by cases h
 | n + 1, .mk xo xk xn xs xv xc xa xp l,w,hi,hd => by
  have IH := Rw.dh (fit_walk n)
  have HS: Hid (Rw.SlG nC 7 w xa l) := hi.2.1
  have HK: Hid (∀ k ∈ l,InN n w k) := hi.2.2
  have HD: Hid (∀ k ∈ l,deepN n k = false) := fun k hk => by
   have: l.any (deepN n) = false := hd
   exact Bool.eq_false_iff.2 (List.any_eq_false.1 this k hk)
  have hkl: l.length <= 1599289640401 := hi.1.kids
  have HO := Rw.dh (ops_fit xo.toList)
  clear hi hd
  show Calls Tryz.prog 115 #[.agg #[.string xo, .int .i64 xk, .int .i64 xn, .string xs, .int .i64 xv, .int .i64 xc, .slice xa l.length xp]] w _
  rcases HO.out with h | ⟨h1,h⟩ | ⟨h1,h2,h⟩ | ⟨h1,h2,h3,h⟩ | ⟨h1,h2,h3,h4,h⟩ | ⟨h1,h2,h3,h4,h⟩
  all_goals
   clear HO
   go_enter Tryz.func115,Tryz.ntmps115
   go_wp2_with fail
   · go_ret
     exact ⟨false,rfl,Rw.below_alloc _ _⟩
   · rename (((l.length: Int) != _) = false) => hw
     go_loopw [4] (fun i wr => ∃ j: Nat,j <= l.length /\ i = .int .i64 (j: Int) /\ Hid (Below w.heap.size w wr /\ wr.heap[w.heap.size]? = some (.cells #[.string xo, .int .i64 xk, .int .i64 xn, .string xs, .int .i64 xv, .int .i64 xc, .slice xa l.length xp] 56 (0,0)))) (fun i _ => l.length - (intOf i).toNat)
     case atStart => exact ⟨0,Nat.zero_le _,rfl,Rw.below_alloc _ _,Rw.heap_new _ _⟩
     case round =>
      obtain ⟨j,hj,rfl,HR⟩ := hrel
      have z6: wr.cell? ⟨w.heap.size,6,none⟩ = some (.slice xa l.length xp) := by rw [cell_of_row _ _ _ _ _ _ HR.out.2]; rfl
      by_cases hlt: j < l.length
      · obtain ⟨b,o,k,rfl,hb,hx,hc⟩ := (HS.out.below HR.out.1).at hlt
        have HKk := Rw.dh ((HK.out k (List.mem_of_getElem? hx)).on HR.out.1)
        have HDk := Rw.dh (HD.out k (List.mem_of_getElem? hx))
        have c0: wr.cell? ⟨b,o + j * 7,none⟩ = some (.string k.op) := hc 0 _ rfl
        have c1: wr.cell? ⟨b,o + j * 7 + 1,none⟩ = some (.int .i64 k.vk) := hc 1 _ rfl
        have c2: wr.cell? ⟨b,o + j * 7 + 2,none⟩ = some (.int .i64 k.vn) := hc 2 _ rfl
        have c3: wr.cell? ⟨b,o + j * 7 + 3,none⟩ = some (.string k.vs) := hc 3 _ rfl
        have c4: wr.cell? ⟨b,o + j * 7 + 4,none⟩ = some (.int .i64 k.var) := hc 4 _ rfl
        have c5: wr.cell? ⟨b,o + j * 7 + 5,none⟩ = some (.int .i64 k.col) := hc 5 _ rfl
        have c6: wr.cell? ⟨b,o + j * 7 + 6,none⟩ = some (.slice k.a k.kids.length k.c) := hc 6 _ rfl
        clear hc hx
        go_wp2_with fail
        refine (IH.out k _ (by first | exact HKk.out | exact HKk.out.on (Rw.below_alloc _ _)) HDk.out).mono ?_
        rintro e w1 ⟨B,rfl,hb1⟩
        have hp := HR.out.2
        have HB1: Hid (Below w.heap.size w w1 /\ w1.heap[w.heap.size]? = some (.cells #[.string xo, .int .i64 xk, .int .i64 xn, .string xs, .int .i64 xv, .int .i64 xc, .slice (some ⟨b,o,none⟩) l.length xp] 56 (0,0))) := ⟨below_on HR.out.1 hb1,(hb1.block _ (Array.getElem?_eq_some_iff.1 hp).1).trans hp⟩
        clear hb1 hp c0 c1 c2 c3 c4 c5 c6 z6
        cases B
        · go_wp2
          go_ret
          exact ⟨false,rfl,HB1.out.1⟩
        · go_wp2
          go_roundw
          case rel =>
           rw [hw]
           refine ⟨_,_,_,_,_,_,_,_,_,_,_,_,_,_,_,_, ?_,rfl⟩
           exact ⟨j + 1,hlt,by go_num,HB1⟩
          case measure => simp [intOf]; omega
      · have hjs: j = l.length := by omega
        subst hjs
        go_wp2
        go_ret
        exact ⟨true,rfl,HR.out.1⟩
theorem pncells {W: World} {p: Nat} {k: NL} (h: W.heap[p]? = some (.cells (nC k).toArray 44 (0,0))): W.cell? ⟨p,0,none⟩ = some (.string k.op) /\ W.cell? ⟨p,1,none⟩ = some (.int .i64 k.vk) /\ W.cell? ⟨p,2,none⟩ = some (.int .i64 k.vn) /\ W.cell? ⟨p,3,none⟩ = some (.string k.vs) /\ W.cell? ⟨p,4,none⟩ = some (.int .i64 k.var) /\ W.cell? ⟨p,5,none⟩ = some (.int .i64 k.col) /\ W.cell? ⟨p,6,none⟩ = some (.slice k.a k.kids.length k.c) := by
 refine ⟨?_, ?_, ?_, ?_, ?_, ?_, ?_⟩ <;> (rw [cell_of_row _ _ _ _ _ _ h]; rfl)
def ShapedP (l: List NL) (w: World) (e: Ending) (W: World): Prop := ∃ B: Bool,e = .returned (.bool B) /\ (B = true -> (∀ k ∈ l,deepN 30 k = false) /\ l.length <= 20) /\ Below w.heap.size w W
theorem shaped_walk {l: List NL} {a: Option Addr} {c: Nat} {w: World} (hS: Rw.SlG nC 7 w a l) (hI: ∀ k ∈ l,InN 30 w k) (hl: l.length <= 1599289640401) :
 Calls Tryz.prog 78 #[.slice a l.length c] w (ShapedP l w) := by
 have HS := Rw.dh hS
 have HI := Rw.dh hI
 clear hS hI
 by_cases h1: 20 < l.length
 · have h1': (20: Int) < (l.length: Int) := by omega
   go_enter Tryz.func78,Tryz.ntmps78
   go_wp2
   go_ret
   exact ⟨false,rfl,fun h => (by cases h),Below.refl _ _⟩
 have h1': decide (20 < (l.length: Int)) = false := by simp; omega
 have HLl: Hid (l.length <= 20) := by rw [Hid]; omega
 clear h1
 go_enter Tryz.func78,Tryz.ntmps78
 go_wp2_with fail
 go_loopw [11] (fun i wr => ∃ j: Nat,j <= l.length /\ i = .int .i64 (j: Int) /\ Hid (Below w.heap.size w wr /\ ∀ k ∈ l.take j,deepN 30 k = false)) (fun i _ => l.length - (intOf i).toNat)
 case atStart => exact ⟨0,Nat.zero_le _,rfl,Below.refl _ _,fun k hk => by simp at hk⟩
 case round =>
  obtain ⟨j,hj,rfl,HW⟩ := hrel
  by_cases hlt: j < l.length
  · obtain ⟨b,o,k,rfl,hb,hx,hc⟩ := (HS.out.below HW.out.1).at hlt
    have HX := Rw.dh hx
    have HKk := Rw.dh (fun W (hb: Below wr.heap.size wr W) => (HI.out k (List.mem_of_getElem? hx)).on (below_on HW.out.1 hb))
    have c0: wr.cell? ⟨b,o + j * 7,none⟩ = some (.string k.op) := hc 0 _ rfl
    have c1: wr.cell? ⟨b,o + j * 7 + 1,none⟩ = some (.int .i64 k.vk) := hc 1 _ rfl
    have c2: wr.cell? ⟨b,o + j * 7 + 2,none⟩ = some (.int .i64 k.vn) := hc 2 _ rfl
    have c3: wr.cell? ⟨b,o + j * 7 + 3,none⟩ = some (.string k.vs) := hc 3 _ rfl
    have c4: wr.cell? ⟨b,o + j * 7 + 4,none⟩ = some (.int .i64 k.var) := hc 4 _ rfl
    have c5: wr.cell? ⟨b,o + j * 7 + 5,none⟩ = some (.int .i64 k.col) := hc 5 _ rfl
    have c6: wr.cell? ⟨b,o + j * 7 + 6,none⟩ = some (.slice k.a k.kids.length k.c) := hc 6 _ rfl
    clear hc hx
    go_wp2_with fail
    refine (pdeep_walk 30 (by decide) k _ (HKk.out _ (Rw.below_alloc _ _))).mono ?_
    rintro e w1 ⟨rfl,hb1⟩
    have p1: w1.heap[wr.heap.size]? = some (.cells (nC k).toArray 44 (0,0)) := (hb1.block _ (by simp)).trans (Rw.heap_new _ _)
    have HB1 := Rw.dh (below_on (Rw.below_alloc wr _) hb1)
    have HP1 := Rw.dh p1
    have hlt1 := (Array.getElem?_eq_some_iff.1 p1).1
    obtain ⟨d0,d1,d2,d3,d4,d5,d6⟩ := pncells p1
    clear hb1 p1 c0 c1 c2 c3 c4 c5 c6
    cases hd: deepN 30 k
    · go_wp2_with fail
      refine (nplain_walk 30 k _ (HKk.out _ HB1.out) hd).mono ?_
      rintro e w2 ⟨y,rfl,hL,hIy,hb2⟩
      have HSz := Rw.dh (fun W (hb: Below w2.heap.size w2 W) => nsize_walk 30 y W 200 40 ((hIy 30).1.on hb) ((hL.deep).symm.trans hd) (by decide) (by decide) (by decide) (by decide))
      have HFi := Rw.dh (fun W (hb: Below w2.heap.size w2 W) => fit_walk 30 y W ((hIy 30).1.on hb) ((hL.deep).symm.trans hd))
      have HB2 := Rw.dh (below_on HB1.out hb2)
      clear hb2 hL hIy d0 d1 d2 d3 d4 d5 d6
      unfold nV at HSz HFi ⊢
      go_wp2_with fail
      refine (HSz.out _ (Rw.below_alloc _ _)).mono ?_
      rintro e w3 ⟨v,rfl,hv1,hv2,hb3⟩
      have p3 := (hb3.block w2.heap.size (by simp)).trans (Rw.heap_new w2 (.cells #[.string y.op, .int .i64 y.vk, .int .i64 y.vn, .string y.vs, .int .i64 y.var, .int .i64 y.col, .slice y.a y.kids.length y.c] 56))
      have e0: w3.cell? ⟨w2.heap.size,0,none⟩ = some (.string y.op) := by rw [cell_of_row _ _ _ _ _ _ p3]; rfl
      have e1: w3.cell? ⟨w2.heap.size,1,none⟩ = some (.int .i64 y.vk) := by rw [cell_of_row _ _ _ _ _ _ p3]; rfl
      have e2: w3.cell? ⟨w2.heap.size,2,none⟩ = some (.int .i64 y.vn) := by rw [cell_of_row _ _ _ _ _ _ p3]; rfl
      have e3: w3.cell? ⟨w2.heap.size,3,none⟩ = some (.string y.vs) := by rw [cell_of_row _ _ _ _ _ _ p3]; rfl
      have e4: w3.cell? ⟨w2.heap.size,4,none⟩ = some (.int .i64 y.var) := by rw [cell_of_row _ _ _ _ _ _ p3]; rfl
      have e5: w3.cell? ⟨w2.heap.size,5,none⟩ = some (.int .i64 y.col) := by rw [cell_of_row _ _ _ _ _ _ p3]; rfl
      have e6: w3.cell? ⟨w2.heap.size,6,none⟩ = some (.slice y.a y.kids.length y.c) := by rw [cell_of_row _ _ _ _ _ _ p3]; rfl
      have HB3 := Rw.dh (below_on HB2.out (below_on (Rw.below_alloc w2 _) hb3))
      have HW3: Hid (Below w.heap.size w w3 /\ ∀ k ∈ l.take (j + 1),deepN 30 k = false) := ⟨below_on HW.out.1 HB3.out,fun k' hk' => by
       obtain ⟨hjl,hkj⟩ := List.getElem?_eq_some_iff.1 HX.out
       rw [List.take_succ_eq_append_getElem hjl,List.mem_append] at hk'
       rcases hk' with h | h
       · exact HW.out.2 k' h
       · simp only [List.mem_singleton] at h
         rw [h,hkj]; exact hd⟩
      have HFi3 := Rw.dh (HFi.out w3 (below_on (Rw.below_alloc w2 _) hb3))
      clear hb3 HSz HFi HB2 HB3 HB1 HP1 hlt1 p3
      by_cases hv: 200 < v
      · go_wp2
        go_ret
        exact ⟨false,rfl,fun h => (by cases h),HW3.out.1⟩
      · go_wp2_with fail
        refine HFi3.out.mono ?_
        rintro e w4 ⟨B,rfl,hb4⟩
        have HW4: Hid (Below w.heap.size w w4 /\ ∀ k ∈ l.take (j + 1),deepN 30 k = false) := ⟨below_on HW3.out.1 hb4,HW3.out.2⟩
        clear hb4 HW3 HFi3 e0 e1 e2 e3 e4 e5 e6
        cases B
        · go_wp2
          go_ret
          exact ⟨false,rfl,fun h => (by cases h),HW4.out.1⟩
        · go_wp2
          go_roundw
          case rel => exact ⟨j + 1,hlt,by go_num,HW4⟩
          case measure => simp [intOf]; omega
    · have HB2 := Rw.dh (below_on HW.out.1 HB1.out)
      go_wp2
      go_ret
      exact ⟨false,rfl,fun h => (by cases h),HB2.out⟩
  · have hjs: j = l.length := by omega
    subst hjs
    have HE: Hid (ShapedP l w (.returned (.bool true)) wr) := ⟨true,rfl,fun _ => ⟨by have := HW.out.2; rwa [List.take_length] at this,HLl.out⟩,HW.out.1⟩
    go_wp2
    go_ret
    exact HE.out
def GreatP (k: CondL) (w: World) (e: Ending) (W: World): Prop := ∃ B: Bool,e = .returned (.bool B) /\ (B = false -> (∀ x ∈ k.l,deepN 30 x = false) /\ k.l.length <= 20 /\ k.ts.length <= 20) /\ Below w.heap.size w W
theorem great_walk (k: CondL) {w: World} (hI: CdIn w k): Calls Tryz.prog 25 #[cdV k] w (GreatP k w) := by
 have HI := Rw.dh (fun W (hb: Below w.heap.size w W) => hI.on hb)
 have HSh := Rw.dh (fun W (hb: Below w.heap.size w W) => shaped_walk (c := k.d) (hI.ns.below hb) (fun x hx => (hI.ins x hx 30).on hb) hI.len)
 clear hI
 obtain ⟨ta,tc,ts,la,lc,l⟩ := k
 simp only at HSh
 unfold cdV
 by_cases h1: 20 < ts.length
 · have h1': (20: Int) < (ts.length: Int) := by omega
   go_enter Tryz.func25,Tryz.ntmps25
   go_wp2
   go_ret
   exact ⟨true,rfl,fun h => (by cases h),Rw.below_alloc _ _⟩
 have h1': decide (20 < (ts.length: Int)) = false := by simp; omega
 have HLt: Hid (ts.length <= 20) := by rw [Hid]; omega
 clear h1
 go_enter Tryz.func25,Tryz.ntmps25
 go_wp2_with fail
 refine (HSh.out _ (Rw.below_alloc _ _)).mono ?_
 rintro e w1 ⟨B,rfl,hB,hb1⟩
 have hc := (hb1.block w.heap.size (by simp)).trans (Rw.heap_new w _)
 have HW := Rw.dh (below_on (Rw.below_alloc w _) hb1)
 cases B
 · clear hb1 HSh hc
   go_wp2
   go_ret
   exact ⟨true,rfl,fun h => (by cases h),HW.out⟩
 have HL := Rw.dh (hB rfl)
 have d0: w1.cell? ⟨w.heap.size,0,none⟩ = some (.slice ta ts.length tc) := by rw [cell_of_row _ _ _ _ _ _ hc]; rfl
 clear hb1 hc HSh hB
 go_wp2_with fail
 go_loopw [18] (fun i wr => ∃ j: Nat,j <= ts.length /\ i = .int .i64 (j: Int) /\ Hid (Below w.heap.size w wr)) (fun i _ => ts.length - (intOf i).toNat)
 case atStart => exact ⟨0,Nat.zero_le _,rfl,HW.out⟩
 case round =>
  obtain ⟨j,hj,rfl,HR⟩ := hrel
  by_cases hlt: j < ts.length
  · obtain ⟨b,o,t,rfl,hb,hx,hc⟩ := (HI.out _ HR.out).ts.at hlt
    have c0: wr.cell? ⟨b,o + j * 11,none⟩ = some (.int .i64 t.col) := hc 0 _ rfl
    have c1: wr.cell? ⟨b,o + j * 11 + 1,none⟩ = some (.bool t.lo.has) := hc 1 _ rfl
    have c2: wr.cell? ⟨b,o + j * 11 + 2,none⟩ = some (.bool t.lo.incl) := hc 2 _ rfl
    have c3: wr.cell? ⟨b,o + j * 11 + 3,none⟩ = some (.int .i64 t.lo.v.k) := hc 3 _ rfl
    have c4: wr.cell? ⟨b,o + j * 11 + 4,none⟩ = some (.int .i64 t.lo.v.n) := hc 4 _ rfl
    have c5: wr.cell? ⟨b,o + j * 11 + 5,none⟩ = some (.string t.lo.v.s) := hc 5 _ rfl
    have c6: wr.cell? ⟨b,o + j * 11 + 6,none⟩ = some (.bool t.hi.has) := hc 6 _ rfl
    have c7: wr.cell? ⟨b,o + j * 11 + 7,none⟩ = some (.bool t.hi.incl) := hc 7 _ rfl
    have c8: wr.cell? ⟨b,o + j * 11 + 8,none⟩ = some (.int .i64 t.hi.v.k) := hc 8 _ rfl
    have c9: wr.cell? ⟨b,o + j * 11 + 9,none⟩ = some (.int .i64 t.hi.v.n) := hc 9 _ rfl
    have c10: wr.cell? ⟨b,o + j * 11 + 10,none⟩ = some (.string t.hi.v.s) := hc 10 _ rfl
    clear hc hx
    have h20: ts.length <= 20 := HLt.out
    have HRr := Rw.dh (below_on HR.out (Rw.below_alloc wr (.cells #[.int .i64 t.col, .bool t.lo.has, .bool t.lo.incl, .int .i64 t.lo.v.k, .int .i64 t.lo.v.n, .string t.lo.v.s, .bool t.hi.has, .bool t.hi.incl, .int .i64 t.hi.v.k, .int .i64 t.hi.v.n, .string t.hi.v.s] 175)))
    by_cases h2: 200 < (t.lo.v.s.size: Int)
    · go_wp2
      go_ret
      exact ⟨true,rfl,fun h => (by cases h),HRr.out⟩
    · by_cases h3: 200 < (t.hi.v.s.size: Int)
      · go_wp2
        go_ret
        exact ⟨true,rfl,fun h => (by cases h),HRr.out⟩
      · go_wp2
        go_roundw
        case rel => exact ⟨j + 1,hlt,by go_num,HRr⟩
        case measure => simp [intOf]; omega
  · have hjs: j = ts.length := by omega
    subst hjs
    have HE: Hid (GreatP ⟨ta,tc,ts,la,lc,l⟩ w (.returned (.bool false)) wr) := ⟨false,rfl,fun _ => ⟨HL.out.1,HL.out.2,HLt.out⟩,HR.out⟩
    go_wp2
    go_ret
    exact HE.out
end Go.Proofs.YteibhbnlcpejpaaGreat
