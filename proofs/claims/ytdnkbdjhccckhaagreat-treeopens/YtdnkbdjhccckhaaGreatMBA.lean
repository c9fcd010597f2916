import Derived.Lib.AppendZeros
import Derived.Test.YtdnkbdjhccckhaaGreatMAO
set_option maxRecDepth 100000
set_option maxHeartbeats 4000000
namespace Go.Proofs.YtdnkbdjhccckhaaGreat.L5
open Go.RowKit
theorem size_zc (z: Value) (hz: z.cells.size = 1) (n: Nat): (Builtin.zeroCells z.cells n).size = n := by
 rw [size_zeroCells,hz]; omega
theorem growS_nil (w: World): Calls Tryz.prog 148 #[.slice none 0 0, .int .i64 0] w fun e w' => e = .returned (.slice none 0 0) /\ w' = w := by
 go_enter Tryz.func148,Tryz.ntmps148
 go_wp2
 go_ret
 exact ⟨rfl,rfl⟩
theorem growS_walk (w: World) (n: Nat) (hn: n <= 1000000): Calls Tryz.prog 148 #[.slice none 0 0, .int .i64 (n: Int)] w fun e w' => ∃ v,e = .returned v /\ w'.ownsRow w.heap.size 9 1 v 0 [] /\ Below w.heap.size w w' := by
 by_cases h0: n = 0
 · subst h0
   exact (growS_nil w).mono fun _ _ ⟨he,hw⟩ => ⟨_,he,World.ownsRow_nil _ _ _ _,by rw [hw]; exact Below.refl _ _⟩
 obtain ⟨i,hi,hz⟩: ∃ i,Tryz.prog.info? 9 = some i /\ (i.zero,i.size,i.bytes) = (some (.string ⟨#[]⟩),1,16) :=
  Option.map_eq_some_iff.1 (show (Tryz.prog.info? 9).map (fun i => (i.zero,i.size,i.bytes)) = some (some (.string ⟨#[]⟩),1,16) by kernel_rfl)
 simp only [Prod.mk.injEq] at hz
 obtain ⟨h1,h2,h3⟩ := hz
 have hge := grownCap_ge w n 0 9
 have hle := grownCap_le_maxLen w n 0 9 (by unfold maxLen; omega)
 have HR: Hid ((Builtin.append_ #[33,3] 33 #[.slice none 0 0, .int .i64 (n: Int)]).run Tryz.prog w = .ok (.slice (some ⟨w.heap.size,0,none⟩) n (grownCap w n 0 9)) (w.drew.alloc (.cells (Builtin.zeroCells (.string ⟨#[]⟩: Value).cells n ++ Builtin.zeroCells (.string ⟨#[]⟩: Value).cells (grownCap w n 0 9 - n)) 9))) :=
  Lib.run_append_nil_zeros w 33 3 33 9 i (.string ⟨#[]⟩) .i64 .i64 Tryz.underlying33 Tryz.underlying3 hi h1 n (by omega) (by omega) (by omega) (by rw [h3]; omega)
 have HO: Hid ((w.drew.alloc (.cells (Builtin.zeroCells (.string ⟨#[]⟩: Value).cells n ++ Builtin.zeroCells (.string ⟨#[]⟩: Value).cells (grownCap w n 0 9 - n)) 9)).ownsRow w.heap.size 9 1 (.slice (some ⟨w.heap.size,0,none⟩) 0 (grownCap w n 0 9)) 0 []) :=
  World.ownsRow_made w.drew _ _ (Nat.le_refl _) hle (by rw [Array.size_append,size_zc _ rfl,size_zc _ rfl]; omega)
 have HB: Hid (Below w.heap.size w (w.drew.alloc (.cells (Builtin.zeroCells (.string ⟨#[]⟩: Value).cells n ++ Builtin.zeroCells (.string ⟨#[]⟩: Value).cells (grownCap w n 0 9 - n)) 9))) := (below_drew w).alloc (Nat.le_refl _) _
 have hn': (0: Int) < (n: Int) := by omega
 clear hi h1 h2 h3
 generalize Builtin.zeroCells (.string ⟨#[]⟩: Value).cells n ++ Builtin.zeroCells (.string ⟨#[]⟩: Value).cells (grownCap w n 0 9 - n) = Z at *
 generalize grownCap w n 0 9 = G at *
 go_enter Tryz.func148,Tryz.ntmps148
 go_wp2_with (first
  | (at_builtin
     refine Lib.wpList_append_run _ rfl _ _ _ _ rfl _ _ rfl rfl _ _ HR.out ?_)
  | go_in)
 go_ret
 exact ⟨_,rfl,HO.out,HB.out⟩
theorem growI_nil (w: World): Calls Tryz.prog 149 #[.slice none 0 0, .int .i64 0] w fun e w' => e = .returned (.slice none 0 0) /\ w' = w := by
 go_enter Tryz.func149,Tryz.ntmps149
 go_wp2
 go_ret
 exact ⟨rfl,rfl⟩
theorem growI_walk (w: World) (n: Nat) (hn: n <= 1000000): Calls Tryz.prog 149 #[.slice none 0 0, .int .i64 (n: Int)] w fun e w' => ∃ v,e = .returned v /\ w'.ownsRow w.heap.size 3 1 v 0 [] /\ Below w.heap.size w w' := by
 by_cases h0: n = 0
 · subst h0
   exact (growI_nil w).mono fun _ _ ⟨he,hw⟩ => ⟨_,he,World.ownsRow_nil _ _ _ _,by rw [hw]; exact Below.refl _ _⟩
 obtain ⟨i,hi,hz⟩: ∃ i,Tryz.prog.info? 3 = some i /\ (i.zero,i.size,i.bytes) = (some (.int .i64 0),1,8) :=
  Option.map_eq_some_iff.1 (show (Tryz.prog.info? 3).map (fun i => (i.zero,i.size,i.bytes)) = some (some (.int .i64 0),1,8) by kernel_rfl)
 simp only [Prod.mk.injEq] at hz
 obtain ⟨h1,h2,h3⟩ := hz
 have hge := grownCap_ge w n 0 3
 have hle := grownCap_le_maxLen w n 0 3 (by unfold maxLen; omega)
 have HR: Hid ((Builtin.append_ #[55,3] 55 #[.slice none 0 0, .int .i64 (n: Int)]).run Tryz.prog w = .ok (.slice (some ⟨w.heap.size,0,none⟩) n (grownCap w n 0 3)) (w.drew.alloc (.cells (Builtin.zeroCells (.int .i64 0: Value).cells n ++ Builtin.zeroCells (.int .i64 0: Value).cells (grownCap w n 0 3 - n)) 3))) :=
  Lib.run_append_nil_zeros w 55 3 55 3 i (.int .i64 0) .i64 .i64 Tryz.underlying55 Tryz.underlying3 hi h1 n (by omega) (by omega) (by omega) (by rw [h3]; omega)
 have HO: Hid ((w.drew.alloc (.cells (Builtin.zeroCells (.int .i64 0: Value).cells n ++ Builtin.zeroCells (.int .i64 0: Value).cells (grownCap w n 0 3 - n)) 3)).ownsRow w.heap.size 3 1 (.slice (some ⟨w.heap.size,0,none⟩) 0 (grownCap w n 0 3)) 0 []) :=
  World.ownsRow_made w.drew _ _ (Nat.le_refl _) hle (by rw [Array.size_append,size_zc _ rfl,size_zc _ rfl]; omega)
 have HB: Hid (Below w.heap.size w (w.drew.alloc (.cells (Builtin.zeroCells (.int .i64 0: Value).cells n ++ Builtin.zeroCells (.int .i64 0: Value).cells (grownCap w n 0 3 - n)) 3))) := (below_drew w).alloc (Nat.le_refl _) _
 have hn': (0: Int) < (n: Int) := by omega
 clear hi h1 h2 h3
 generalize Builtin.zeroCells (.int .i64 0: Value).cells n ++ Builtin.zeroCells (.int .i64 0: Value).cells (grownCap w n 0 3 - n) = Z at *
 generalize grownCap w n 0 3 = G at *
 go_enter Tryz.func149,Tryz.ntmps149
 go_wp2_with (first
  | (at_builtin
     refine Lib.wpList_append_run _ rfl _ _ _ _ rfl _ _ rfl rfl _ _ HR.out ?_)
  | go_in)
 go_ret
 exact ⟨_,rfl,HO.out,HB.out⟩
structure JW (w: World) (x y: Array Value) (wr: World): Prop where
 below: Below w.heap.size w wr
 b1: wr.heap[w.heap.size]? = some (.cells x 69 (0,0))
 b2: wr.heap[w.heap.size + 1]? = some (.cells y 69 (0,0))
 z: wr.heap[w.heap.size + 2]? = some zNode
theorem JW.on {w: World} {x y: Array Value} {wr wr': World} (h: JW w x y wr) (hb: Below wr.heap.size wr wr'): JW w x y wr' :=
 ⟨below_on h.below hb,(hb.block _ (Array.getElem?_eq_some_iff.1 h.b1).1).trans h.b1,(hb.block _ (Array.getElem?_eq_some_iff.1 h.b2).1).trans h.b2,(hb.block _ (Array.getElem?_eq_some_iff.1 h.z).1).trans h.z⟩
theorem JW.new (w: World) (x y: Array Value): JW w x y (((w.alloc (.cells x 69)).alloc (.cells y 69)).alloc zNode) := by
 have z1: (w.alloc (.cells x 69)).heap.size = w.heap.size + 1 := by simp
 have z2: ((w.alloc (.cells x 69)).alloc (.cells y 69)).heap.size = w.heap.size + 2 := by simp
 have B1 := below_alloc w (.cells x 69)
 have B2 := below_alloc (w.alloc (.cells x 69)) (.cells y 69)
 have B3 := below_alloc ((w.alloc (.cells x 69)).alloc (.cells y 69)) zNode
 refine ⟨below_on B1 (below_on B2 B3), ?_, ?_, ?_⟩
 · rw [B3.block _ (by omega),B2.block _ (by omega)]; exact heap_alloc_last _ _
 · rw [B3.block _ (by omega), <- z1]; exact heap_alloc_last _ _
 · rw [<- z2]; exact heap_alloc_last _ _
structure JR (w: World) (l: List ByteArray) (ks: List Int) (r k: Value) (W: World): Prop where
 o1: W.ownsRow w.heap.size 9 1 r l.length (svs l)
 o2: W.ownsRow w.heap.size 3 1 k ks.length (ivs ks)
 below: Below w.heap.size w W
def JOut (w: World) (l: List ByteArray) (ks: List Int) (u r k: Value) (W: World): Prop :=
 W.cell? ⟨w.heap.size + 2,0,none⟩ = some u /\ W.cell? ⟨w.heap.size + 2,1,none⟩ = some r /\ W.cell? ⟨w.heap.size + 2,2,none⟩ = some k /\ JR w l ks r k W
theorem join_end {w W: World} {l: List ByteArray} {ks: List Int} {r k: Value} (z: W.heap[w.heap.size + 2]? = some zNode) (h: JR w l ks r k W) (u: Value): JOut w l ks u r k (put3 W (w.heap.size + 2) u r k) := by
 have n2 := node_cells (put3_block z u r k)
 exact ⟨n2.1,n2.2.1,n2.2.2,owns_put3 h.o1 (by decide) z _ _ _,owns_put3 h.o2 (by decide) z _ _ _,put3_below h.below (by omega) _ _ _⟩
theorem run_append_none (w: World) (t ty e: TypeId) (i: TypeInfo) (ht: Tryz.prog.underlying t = some (.slice e)) (hi: Tryz.prog.info? e = some i) (a: Option Addr) (n c: Nat) (hn: n <= c) (a': Option Addr) (c': Nat): (Builtin.append_ #[t,t] ty #[.slice a n c, .slice a' 0 c']).run Tryz.prog w = .ok (.slice a n c) w := by
 cases a <;> cases a' <;> simp [Builtin.append_,run_underlying ht,sizeOf,typeInfo,hi,hn,Builtin.lenOf,Builtin.firstCells,loadCells,loadCellsFrom,storeCells]
structure Qc where
 a: Option Addr
 c: Nat
 l: List Value
structure Qcs (W: World) (p: Nat) (L: List Qc): Prop where
 cell: ∀ j (h: j < L.length),W.cell? ⟨p,j,none⟩ = some (.slice L[j].a L[j].l.length L[j].c)
 lt: p < W.heap.size
 rd: ∀ j (h: j < L.length),Rd W L[j].a L[j].c L[j].l
 one: ∀ j (h: j < L.length),∀ u ∈ L[j].l,u.oneCell' = true
theorem Qcs.on {W W': World} {p: Nat} {L: List Qc} (h: Qcs W p L) (hb: Below W.heap.size W W'): Qcs W' p L :=
 ⟨fun j hj => (hb.cell h.lt).trans (h.cell j hj),Nat.lt_of_lt_of_le h.lt hb.size,fun j hj => (h.rd j hj).below hb,h.one⟩
def totQ (L: List Qc): Nat := (L.map fun x => x.l.length).sum
def flatQ (L: List Qc): List Value := (L.map Qc.l).flatten
theorem totQ_snoc (L: List Qc) (j: Nat) (h: j < L.length): totQ (L.take (j + 1)) = totQ (L.take j) + L[j].l.length := by
 unfold totQ
 rw [List.take_succ_eq_append_getElem h,List.map_append,List.sum_append]
 rfl
theorem flatQ_snoc (L: List Qc) (j: Nat) (h: j < L.length): flatQ (L.take (j + 1)) = flatQ (L.take j) ++ L[j].l := by
 unfold flatQ
 rw [List.take_succ_eq_append_getElem h,List.map_append,List.flatten_append]
 simp
theorem totQ_take_le (L: List Qc) (j: Nat): totQ (L.take j) <= totQ L := by
 conv => rhs; rw [<- List.take_append_drop j L]
 unfold totQ
 rw [List.map_append,List.sum_append]
 omega
theorem concatS_wide {w: World} {p cap: Nat} {L: List Qc} (h: Qcs w p L) (hl: L.length <= 1000) (ht: totQ L <= 100000): Calls Tryz.prog 144 #[.slice (some ⟨p,0,none⟩) L.length cap] w fun e w' => ∃ v,e = .returned v /\ w'.ownsRow w.heap.size 9 1 v (totQ L) (flatQ L) /\ Below w.heap.size w w' := by
 have HP: Hid (Qcs w p L) := h
 have hpl := h.lt
 clear h
 go_enter Tryz.func144,Tryz.ntmps144
 go_wp2
 go_loop [3,11] (fun x i => ∃ j: Nat,j <= L.length /\ i = .int .i64 (j: Int) /\ x = .int .i64 (totQ (L.take j): Int)) (fun _ i => L.length - (intOf i).toNat)
 case atStart => exact ⟨0,Nat.zero_le _,rfl,by simp [totQ]⟩
 case round =>
  obtain ⟨j,hj,rfl,rfl⟩ := hrel
  have htj := totQ_take_le L j
  by_cases hlt: j < L.length
  · have hc := HP.out.cell j hlt
    have HT: Hid _ := totQ_snoc L j hlt
    have htj1 := totQ_take_le L (j + 1)
    have hts := totQ_snoc L j hlt
    have hlt': (j: Int) < (L.length: Int) := by omega
    generalize L[j] = x at *
    have hbx: x.l.length <= 100000 := by omega
    clear hts
    go_wp2
    go_round
    case rel => exact ⟨j + 1,hlt,by go_num,by rw [HT.out]; go_num⟩
    case measure => simp [intOf]; omega
  · have hjl: j = L.length := by omega
    subst hjl
    rw [List.take_length]
    go_wp2_with fail
    refine (growS_walk w (totQ L) (by omega)).mono ?_
    rintro e w1 ⟨v1,rfl,O1,B1⟩
    obtain ⟨a1,c1,rfl,_,_,_⟩ := owns_rd O1
    have HO1: Hid (w1.ownsRow w.heap.size 9 1 (.slice a1 0 c1) 0 []) := O1
    have HB1: Hid (Below w.heap.size w w1) := B1
    clear O1 B1
    go_wp2
    go_loopw [6,27] (fun x i wr => ∃ j: Nat,j <= L.length /\ i = .int .i64 (j: Int) /\ Hid (wr.ownsRow w.heap.size 9 1 x (totQ (L.take j)) (flatQ (L.take j))) /\ Hid (Below w.heap.size w wr)) (fun _ i _ => L.length - (intOf i).toNat)
    case atStart => exact ⟨0,Nat.zero_le _,rfl,HO1,HB1⟩
    case round =>
     obtain ⟨j,hj,rfl,HO,HB⟩ := hrel
     obtain ⟨a2,c2,rfl,_,_,_⟩ := owns_rd HO.out
     have htj := totQ_take_le L j
     by_cases hlt: j < L.length
     · have hc := (HP.out.on HB.out).cell j hlt
       have HRD: Hid _ := (HP.out.on HB.out).rd j hlt
       have HI: Hid _ := HP.out.one j hlt
       have HT: Hid _ := totQ_snoc L j hlt
       have HF: Hid _ := flatQ_snoc L j hlt
       have htj1 := totQ_take_le L (j + 1)
       have hts := totQ_snoc L j hlt
       have hpl2: p < wr.heap.size := Nat.lt_of_lt_of_le hpl HB.out.size
       have hlt': (j: Int) < (L.length: Int) := by omega
       generalize L[j] = x at *
       have hbx: x.l.length <= 100000 := by omega
       clear hts
       by_cases hx0: x.l.length = 0
       · have hcap2: totQ (L.take j) <= c2 := by
          obtain ⟨_,_,e2,_,hcc⟩ := owns_rd HO.out
          injection e2 with _ e3 e4
          first | done | omega
         have hnil: x.l = [] := List.length_eq_zero_iff.1 hx0
         obtain ⟨ii,hii,_⟩: ∃ i,Tryz.prog.info? 9 = some i /\ True := by
          obtain ⟨i,hi,_⟩ := Option.map_eq_some_iff.1 (show (Tryz.prog.info? 9).map (fun i => (i.zero,i.size,i.bytes)) = some (some (.string ⟨#[]⟩),1,16) by kernel_rfl)
          exact ⟨i,hi,trivial⟩
         have HR0: Hid ((Builtin.append_ #[33,33] 33 #[.slice a2 (totQ (L.take j)) c2, .slice x.a 0 x.c]).run Tryz.prog wr = .ok (.slice a2 (totQ (L.take j)) c2) wr) := run_append_none wr 33 33 9 ii Tryz.underlying33 hii a2 _ c2 hcap2 x.a x.c
         have HO2: Hid (wr.ownsRow w.heap.size 9 1 (.slice a2 (totQ (L.take j)) c2) (totQ (L.take (j + 1))) (flatQ (L.take (j + 1)))) := by
          show World.ownsRow _ _ _ _ _ _ _
          rw [HT.out,HF.out,hnil]
          simpa using HO.out
         clear hii hcap2 hnil htj1
         rw [hx0] at hc
         go_wp2_with (first
          | (at_builtin
             refine Lib.wpList_append_run _ rfl _ _ _ _ rfl _ _ rfl rfl _ _ HR0.out ?_)
          | go_in)
         exact ⟨⟨j + 1,hlt,by go_num,HO2,HB⟩,by simp [intOf]; omega⟩
       · obtain ⟨xb,xo,hxa⟩: ∃ b o,x.a = some ⟨b,o,none⟩ := by
          obtain ⟨b,o,e2,_⟩ := HRD.out.2.2 0 (x.l[0]'(by omega)) (List.getElem?_eq_getElem (by omega))
          exact ⟨b,o,e2⟩
         rw [hxa] at hc HRD
         have HC: Hid _ := Rd.cells (b := xb) (o := xo) HRD.out
         go_wp2_with (first
          | (at_builtin
             refine append_row (z := .string ⟨#[]⟩) (by_ := 16) Tryz.underlying33 (by kernel_rfl) (by decide) rfl w.heap.size HB.out.size rfl _ _ rfl (.slice a2 (totQ (L.take j)) c2) (totQ (L.take j)) (flatQ (L.take j)) x.l rfl HO.out (by omega) x.l.length (by omega) ⟨xb,xo,none⟩ x.c rfl rfl HC.out HI.out ?_
             intro v' W' hown hg _
             have HO2: Hid (W'.ownsRow w.heap.size 9 1 v' (totQ (L.take (j + 1))) (flatQ (L.take (j + 1)))) := (by rw [HT.out,HF.out]; exact hown)
             have HB2: Hid (Below w.heap.size w W') := HB.out.grown hg HB.out.size (fun k hk => (HO.out.lt k hk).1)
             clear hown hg)
          | go_in)
         exact ⟨⟨j + 1,hlt,by go_num,HO2,HB2⟩,by simp [intOf]; omega⟩
     · have hjl: j = L.length := by omega
       subst hjl
       rw [List.take_length] at HO ⊢
       go_wp2
       go_ret
       exact ⟨_,rfl,HO.out,HB.out⟩
theorem concatI_wide {w: World} {p cap: Nat} {L: List Qc} (h: Qcs w p L) (hl: L.length <= 1000) (ht: totQ L <= 100000): Calls Tryz.prog 145 #[.slice (some ⟨p,0,none⟩) L.length cap] w fun e w' => ∃ v,e = .returned v /\ w'.ownsRow w.heap.size 3 1 v (totQ L) (flatQ L) /\ Below w.heap.size w w' := by
 have HP: Hid (Qcs w p L) := h
 have hpl := h.lt
 clear h
 go_enter Tryz.func145,Tryz.ntmps145
 go_wp2
 go_loop [3,11] (fun x i => ∃ j: Nat,j <= L.length /\ i = .int .i64 (j: Int) /\ x = .int .i64 (totQ (L.take j): Int)) (fun _ i => L.length - (intOf i).toNat)
 case atStart => exact ⟨0,Nat.zero_le _,rfl,by simp [totQ]⟩
 case round =>
  obtain ⟨j,hj,rfl,rfl⟩ := hrel
  have htj := totQ_take_le L j
  by_cases hlt: j < L.length
  · have hc := HP.out.cell j hlt
    have HT: Hid _ := totQ_snoc L j hlt
    have htj1 := totQ_take_le L (j + 1)
    have hts := totQ_snoc L j hlt
    have hlt': (j: Int) < (L.length: Int) := by omega
    generalize L[j] = x at *
    have hbx: x.l.length <= 100000 := by omega
    clear hts
    go_wp2
    go_round
    case rel => exact ⟨j + 1,hlt,by go_num,by rw [HT.out]; go_num⟩
    case measure => simp [intOf]; omega
  · have hjl: j = L.length := by omega
    subst hjl
    rw [List.take_length]
    go_wp2_with fail
    refine (growI_walk w (totQ L) (by omega)).mono ?_
    rintro e w1 ⟨v1,rfl,O1,B1⟩
    obtain ⟨a1,c1,rfl,_,_,_⟩ := owns_rd O1
    have HO1: Hid (w1.ownsRow w.heap.size 3 1 (.slice a1 0 c1) 0 []) := O1
    have HB1: Hid (Below w.heap.size w w1) := B1
    clear O1 B1
    go_wp2
    go_loopw [6,27] (fun x i wr => ∃ j: Nat,j <= L.length /\ i = .int .i64 (j: Int) /\ Hid (wr.ownsRow w.heap.size 3 1 x (totQ (L.take j)) (flatQ (L.take j))) /\ Hid (Below w.heap.size w wr)) (fun _ i _ => L.length - (intOf i).toNat)
    case atStart => exact ⟨0,Nat.zero_le _,rfl,HO1,HB1⟩
    case round =>
     obtain ⟨j,hj,rfl,HO,HB⟩ := hrel
     obtain ⟨a2,c2,rfl,_,_,_⟩ := owns_rd HO.out
     have htj := totQ_take_le L j
     by_cases hlt: j < L.length
     · have hc := (HP.out.on HB.out).cell j hlt
       have HRD: Hid _ := (HP.out.on HB.out).rd j hlt
       have HI: Hid _ := HP.out.one j hlt
       have HT: Hid _ := totQ_snoc L j hlt
       have HF: Hid _ := flatQ_snoc L j hlt
       have htj1 := totQ_take_le L (j + 1)
       have hts := totQ_snoc L j hlt
       have hpl2: p < wr.heap.size := Nat.lt_of_lt_of_le hpl HB.out.size
       have hlt': (j: Int) < (L.length: Int) := by omega
       generalize L[j] = x at *
       have hbx: x.l.length <= 100000 := by omega
       clear hts
       by_cases hx0: x.l.length = 0
       · have hcap2: totQ (L.take j) <= c2 := by
          obtain ⟨_,_,e2,_,hcc⟩ := owns_rd HO.out
          injection e2 with _ e3 e4
          first | done | omega
         have hnil: x.l = [] := List.length_eq_zero_iff.1 hx0
         obtain ⟨ii,hii,_⟩: ∃ i,Tryz.prog.info? 3 = some i /\ True := by
          obtain ⟨i,hi,_⟩ := Option.map_eq_some_iff.1 (show (Tryz.prog.info? 3).map (fun i => (i.zero,i.size,i.bytes)) = some (some (.int .i64 0),1,8) by kernel_rfl)
          exact ⟨i,hi,trivial⟩
         have HR0: Hid ((Builtin.append_ #[55,55] 55 #[.slice a2 (totQ (L.take j)) c2, .slice x.a 0 x.c]).run Tryz.prog wr = .ok (.slice a2 (totQ (L.take j)) c2) wr) := run_append_none wr 55 55 3 ii Tryz.underlying55 hii a2 _ c2 hcap2 x.a x.c
         have HO2: Hid (wr.ownsRow w.heap.size 3 1 (.slice a2 (totQ (L.take j)) c2) (totQ (L.take (j + 1))) (flatQ (L.take (j + 1)))) := by
          show World.ownsRow _ _ _ _ _ _ _
          rw [HT.out,HF.out,hnil]
          simpa using HO.out
         clear hii hcap2 hnil htj1
         rw [hx0] at hc
         go_wp2_with (first
          | (at_builtin
             refine Lib.wpList_append_run _ rfl _ _ _ _ rfl _ _ rfl rfl _ _ HR0.out ?_)
          | go_in)
         exact ⟨⟨j + 1,hlt,by go_num,HO2,HB⟩,by simp [intOf]; omega⟩
       · obtain ⟨xb,xo,hxa⟩: ∃ b o,x.a = some ⟨b,o,none⟩ := by
          obtain ⟨b,o,e2,_⟩ := HRD.out.2.2 0 (x.l[0]'(by omega)) (List.getElem?_eq_getElem (by omega))
          exact ⟨b,o,e2⟩
         rw [hxa] at hc HRD
         have HC: Hid _ := Rd.cells (b := xb) (o := xo) HRD.out
         go_wp2_with (first
          | (at_builtin
             refine append_row (z := .int .i64 0) (by_ := 8) Tryz.underlying55 (by kernel_rfl) (by decide) rfl w.heap.size HB.out.size rfl _ _ rfl (.slice a2 (totQ (L.take j)) c2) (totQ (L.take j)) (flatQ (L.take j)) x.l rfl HO.out (by omega) x.l.length (by omega) ⟨xb,xo,none⟩ x.c rfl rfl HC.out HI.out ?_
             intro v' W' hown hg _
             have HO2: Hid (W'.ownsRow w.heap.size 3 1 v' (totQ (L.take (j + 1))) (flatQ (L.take (j + 1)))) := (by rw [HT.out,HF.out]; exact hown)
             have HB2: Hid (Below w.heap.size w W') := HB.out.grown hg HB.out.size (fun k hk => (HO.out.lt k hk).1)
             clear hown hg)
          | go_in)
         exact ⟨⟨j + 1,hlt,by go_num,HO2,HB2⟩,by simp [intOf]; omega⟩
     · have hjl: j = L.length := by omega
       subst hjl
       rw [List.take_length] at HO ⊢
       go_wp2
       go_ret
       exact ⟨_,rfl,HO.out,HB.out⟩
end Go.Proofs.YtdnkbdjhccckhaaGreat.L5
