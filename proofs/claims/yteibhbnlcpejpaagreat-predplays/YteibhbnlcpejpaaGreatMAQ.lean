import Derived.Test.YteibhbnlcpejpaaGreatMAP
set_option maxRecDepth 100000
set_option maxHeartbeats 4000000
namespace Go.Proofs.YteibhbnlcpejpaaGreat
open Go.RowKit
theorem any_take_falseN {α: Type} {l: List α} {f: α -> Bool} {j: Nat} {x: α} (hx: l[j]? = some x) (h: (l.take j).any f = false) (hf: f x = false): (l.take (j + 1)).any f = false := by
 obtain ⟨hjl,rfl⟩ := List.getElem?_eq_some_iff.1 hx
 rw [List.take_succ_eq_append_getElem hjl,List.any_append,h]
 simp [hf]
theorem ownV_walk (v: Vv) (hv: v.s.size <= 281474976710656) (w: World): Calls Tryz.prog 116 #[vvV v] w fun e w' => e = .returned (vvV v) /\ Below w.heap.size w w' := by
 obtain ⟨k,n,s⟩ := v
 have HC := Rw.dh (fun W => nsclone_walk s W hv)
 unfold vvV valV
 go_enter Tryz.func116,Tryz.ntmps116
 go_wp2_with fail
 refine (HC.out _).mono ?_
 rintro e w1 ⟨rfl,hb⟩
 have HB := Rw.dh (Bx.of hb)
 clear hb
 obtain ⟨a0,a1,a2,a3,a4,a5⟩ := HB.out.a
 obtain ⟨z0,z1,z2,z3,z4,z5⟩ := HB.out.z
 have hlt := HB.out.lt
 have hlt0: w.heap.size < w1.heap.size := by omega
 go_wp2
 exact bodyPost_ret (v := .agg #[.int .i64 k, .int .i64 n, .string s]) (by simp [results,Tryz.results116,go_sem,z0,z1,z2]) rfl ⟨rfl,below_set3 (Nat.le_succ _) (HB.out.bel.setCell (Nat.le_refl _) _) _ _ _⟩
theorem sclo_walk {n: Nat} (IH: ∀ (x: NL) (w: World),InN n w x -> Calls Tryz.prog 166 #[nV x, .int .i64 n] w fun e w' => e = .returned (.bool (!deepN n x)) /\ Below w.heap.size w w') (hn: n < 65536) (k: NL) {p: Nat} {w: World} (hI: InN n w k) (hp: w.heap[p]? = some (.cells #[.int .i64 (n + 1: Nat)] 3 (0,0))) :
 Calls Tryz.prog 198 #[nV k, .pointer (some ⟨p,0,none⟩)] w fun e w' => e = .returned (.bool (deepN n k)) /\ Below w.heap.size w w' := by
 have HM := Rw.dh (fun W (hb: Below w.heap.size w W) => IH k W (hI.on hb))
 have hlp := (Array.getElem?_eq_some_iff.1 hp).1
 have c0: w.cell? ⟨p,0,none⟩ = some (.int .i64 (n + 1: Nat)) := by rw [cell_of_row _ _ _ _ _ _ hp]; rfl
 clear hp hI IH
 generalize deepN n k = m at *
 obtain ⟨N,hN1,hN2,hN3,hN⟩: ∃ N: Int,1 <= N /\ N <= 65536 /\ N - 1 = (n: Int) /\ ((n + 1: Nat): Int) = N := ⟨_,by omega,by omega,by omega,rfl⟩
 rw [hN] at c0
 clear hN
 unfold nV at HM ⊢
 go_enter Tryz.func198,Tryz.ntmps198
 go_wp2_with fail
 refine (HM.out _ (by first | exact Below.refl _ _ | exact Rw.below_alloc _ _)).mono ?_
 rintro e w1 ⟨rfl,hb⟩
 have HB: Hid (Below w.heap.size w w1) := by first | exact hb | exact below_on (Rw.below_alloc _ _) hb
 clear hb
 go_wp2
 go_ret
 exact ⟨Rw.ret_bool (by cases m <;> rfl),HB.out⟩
theorem any_at_yes {f: NL -> Bool} {l: List NL} {j: Nat} {k: NL} (h: l[j]? = some k) (hm: f k = true): l.any f = true := List.any_eq_true.2 ⟨k,List.mem_of_getElem? h,hm⟩
theorem any_take_no {f: NL -> Bool} {l: List NL} {j: Nat} {k: NL} (h: l[j]? = some k) (hA: (l.take j).any f = false) (hm: f k = false): (l.take (j + 1)).any f = false := by
 obtain ⟨hj,e⟩ := List.getElem?_eq_some_iff.1 h
 rw [List.take_succ_eq_append_getElem hj,List.any_append,hA,e]
 simp [hm]
inductive IdxS: Bool -> Ending -> Prop
 | none: IdxS false (.returned (.int .i64 (-1)))
 | at (j: Nat): IdxS true (.returned (.int .i64 (j: Int)))
theorem idxS_walk {n: Nat} (IH: ∀ (x: NL) (w: World),InN n w x -> Calls Tryz.prog 166 #[nV x, .int .i64 n] w fun e w' => e = .returned (.bool (!deepN n x)) /\ Below w.heap.size w w') (hn: n < 65536) {l: List NL} {a: Option Addr} {c: Nat} {p: Nat} {w: World} (hS: Rw.SlG nC 7 w a l) (hl: l.length <= 1599289640401) (hI: ∀ k ∈ l,InN n w k) (hp: w.heap[p]? = some (.cells #[.int .i64 (n + 1: Nat)] 3 (0,0))) :
 Calls Tryz.prog 177 #[.slice a l.length c, .func (.func 198) #[] #[.pointer (some ⟨p,0,none⟩)]] w fun e W => IdxS (l.any (deepN n)) e /\ Below w.heap.size w W := by
 have HS := Rw.dh hS
 have HC := Rw.dh (fun k (hk: k ∈ l) W (hb: Below w.heap.size w W) => sclo_walk IH hn k (p := p) (w := W) ((hI k hk).on hb) ((hb.block _ (Array.getElem?_eq_some_iff.1 hp).1).trans hp))
 clear hS hI hp IH
 go_enter Tryz.func177,Tryz.ntmps177
 go_wp2_with fail
 go_loopw [8] (fun i wr => ∃ j: Nat,j <= l.length /\ i = .int .i64 (j: Int) /\ Hid (Below w.heap.size w wr) /\ Hid ((l.take j).any (deepN n) = false)) (fun i _ => l.length - (intOf i).toNat)
 case atStart => exact ⟨0,Nat.zero_le _,rfl,Below.refl _ _,rfl⟩
 case round =>
  obtain ⟨j,hj,rfl,HB,HA⟩ := hrel
  by_cases hlt: j < l.length
  · obtain ⟨b,o,k,rfl,hb,hx,hc⟩ := (HS.out.below HB.out).at hlt
    have hv := HC.out k (List.mem_of_getElem? hx) wr HB.out
    have HX := Rw.dh hx
    have c0: wr.cell? ⟨b,o + j * 7,none⟩ = some (.string k.op) := hc 0 _ rfl
    have c1: wr.cell? ⟨b,o + j * 7 + 1,none⟩ = some (.int .i64 k.vk) := hc 1 _ rfl
    have c2: wr.cell? ⟨b,o + j * 7 + 2,none⟩ = some (.int .i64 k.vn) := hc 2 _ rfl
    have c3: wr.cell? ⟨b,o + j * 7 + 3,none⟩ = some (.string k.vs) := hc 3 _ rfl
    have c4: wr.cell? ⟨b,o + j * 7 + 4,none⟩ = some (.int .i64 k.var) := hc 4 _ rfl
    have c5: wr.cell? ⟨b,o + j * 7 + 5,none⟩ = some (.int .i64 k.col) := hc 5 _ rfl
    have c6: wr.cell? ⟨b,o + j * 7 + 6,none⟩ = some (.slice k.a k.kids.length k.c) := hc 6 _ rfl
    clear hc hx
    unfold nV at hv
    go_wp2_with fail
    refine hv.mono ?_
    clear hv
    rintro e w1 ⟨rfl,hb1⟩
    have HB1 := Rw.dh (below_on HB.out hb1)
    clear hb1 c0 c1 c2 c3 c4 c5 c6 hb HB
    cases hm: deepN n k
    · have HA1 := Rw.dh (any_take_no HX.out HA.out hm)
      clear hm
      go_wp2
      go_roundw
      case rel => exact ⟨j + 1,hlt,by go_num,HB1,HA1⟩
      case measure => simp [intOf]; omega
    · have HE := Rw.dh (any_at_yes HX.out hm)
      clear hm
      go_wp2
      go_ret
      exact ⟨by rw [HE.out]; exact .at j,HB1.out⟩
  · have hjs: j = l.length := by omega
    subst hjs
    have hA := HA.out
    rw [List.take_length] at hA
    have HE := Rw.dh hA
    clear hA HA
    go_wp2
    go_ret
    exact ⟨by rw [HE.out]; exact .none,HB.out⟩
theorem conS_walk {n: Nat} (IH: ∀ (x: NL) (w: World),InN n w x -> Calls Tryz.prog 166 #[nV x, .int .i64 n] w fun e w' => e = .returned (.bool (!deepN n x)) /\ Below w.heap.size w w') (hn: n < 65536) {l: List NL} {a: Option Addr} {c: Nat} {p: Nat} {w: World} (hS: Rw.SlG nC 7 w a l) (hl: l.length <= 1599289640401) (hI: ∀ k ∈ l,InN n w k) (hp: w.heap[p]? = some (.cells #[.int .i64 (n + 1: Nat)] 3 (0,0))) :
 Calls Tryz.prog 135 #[.slice a l.length c, .func (.func 198) #[] #[.pointer (some ⟨p,0,none⟩)]] w fun e W => e = .returned (.bool (l.any (deepN n))) /\ Below w.heap.size w W := by
 have hX := idxS_walk (c := c) IH hn hS hl hI hp
 generalize l.any (deepN n) = m at *
 clear hS hI hp IH
 go_enter Tryz.func135,Tryz.ntmps135
 go_wp2_with fail
 refine hX.mono ?_
 clear hX
 rintro e w1 ⟨hW,hb⟩
 have HB := Rw.dh hb
 clear hb
 cases hW with
 | none =>
  go_wp2
  go_ret
  exact ⟨rfl,HB.out⟩
 | «at» j =>
  have h0: decide ((j: Int) ≥ 0) = true := by simp
  have h1: decide (0 <= (j: Int)) = true := by simp
  go_wp2
  go_ret
  exact ⟨rfl,HB.out⟩
theorem shallow_walk: ∀ (n: Nat),n <= 65536 -> ∀ (x: NL) (w: World),InN n w x -> Calls Tryz.prog 166 #[nV x, .int .i64 n] w fun e w' => e = .returned (.bool (!deepN n x)) /\ Below w.heap.size w w'
 | 0,_,x,w,_ => by
  have hmf: ∀ (fn: Fn) (first cap: Array Value) (w: World),(Instr.makeFunc fn first cap).run Tryz.prog w = .ok (.func fn first cap) w := fun _ _ _ _ => rfl
  unfold nV
  go_enter Tryz.func166,Tryz.ntmps166
  go_wp2
  go_ret
  exact ⟨rfl,below_two w _ _⟩
 | n + 1,hn, .mk xo xk xn xs xv xc xa xp l,w,hi => by
  have hmf: ∀ (fn: Fn) (first cap: Array Value) (w: World),(Instr.makeFunc fn first cap).run Tryz.prog w = .ok (.func fn first cap) w := fun _ _ _ _ => rfl
  have HC := Rw.dh (fun W (hb: Below w.heap.size w W) p hp => conS_walk (shallow_walk n (by omega)) (by omega) (c := xp) (p := p) (hi.2.1.below hb) hi.1.kids (fun k hk => (hi.2.2 k hk).on hb) hp)
  have HD: Hid (deepN (n + 1) (.mk xo xk xn xs xv xc xa xp l) = l.any (deepN n)) := rfl
  clear hi
  show Calls Tryz.prog 166 #[.agg #[.string xo, .int .i64 xk, .int .i64 xn, .string xs, .int .i64 xv, .int .i64 xc, .slice xa l.length xp], .int .i64 (n + 1: Nat)] w _
  generalize deepN (n + 1) (.mk xo xk xn xs xv xc xa xp l) = D at *
  obtain ⟨N,hN1,hN⟩: ∃ N: Int,0 < N /\ ((n + 1: Nat): Int) = N := ⟨_,by omega,rfl⟩
  rw [hN] at HC ⊢
  go_enter Tryz.func166,Tryz.ntmps166
  go_wp2_with fail
  refine (HC.out _ (below_two w _ _) _ (heap_two w _ _)).mono ?_
  rintro e w1 ⟨rfl,hb⟩
  have HB := Rw.dh (below_on (below_two w _ _) hb)
  clear hb HC
  go_wp2
  go_ret
  exact ⟨Rw.ret_bool (by rw [HD.out]; rfl),HB.out⟩
def SizeNP (M: Int) (w: World) (e: Ending) (W: World): Prop := ∃ v: Int,e = .returned (.int .i64 v) /\ 1 <= v /\ v <= M + 1 /\ Below w.heap.size w W
theorem nsize_walk: ∀ (n: Nat) (x: NL) (w: World) (M d: Int),InN n w x -> deepN n x = false -> 0 <= M -> M <= 1000 -> (n: Int) <= d -> d <= 1000 -> Calls Tryz.prog 114 #[nV x, .int .i64 M, .int .i64 d] w (SizeNP M w)
 | 0,_,_,_,_,_,h,_,_,_,_ => by cases h
 | n + 1, .mk xo xk xn xs xv xc xa xp l,w,M,d,hi,hd,hM0,hM1,hD0,hD1 => by
  have IH := Rw.dh (nsize_walk n)
  have HS: Hid (Rw.SlG nC 7 w xa l) := hi.2.1
  have HK: Hid (∀ k ∈ l,InN n w k) := hi.2.2
  have HD: Hid (∀ k ∈ l,deepN n k = false) := fun k hk => by
   have: l.any (deepN n) = false := hd
   exact Bool.eq_false_iff.2 (List.any_eq_false.1 this k hk)
  have hkl: l.length <= 1599289640401 := hi.1.kids
  clear hi hd
  have hd0: (d == 0) = false := beq_eq_false_iff_ne.2 (by omega)
  have hd1: (n: Int) <= d - 1 := by omega
  have hd2: d - 1 <= 1000 := by omega
  have hd3: 1 <= d := by omega
  clear hD0
  show Calls Tryz.prog 114 #[.agg #[.string xo, .int .i64 xk, .int .i64 xn, .string xs, .int .i64 xv, .int .i64 xc, .slice xa l.length xp], .int .i64 M, .int .i64 d] w _
  go_enter Tryz.func114,Tryz.ntmps114
  go_wp2_with fail
  go_loopw [7,8] (fun v i wr => ∃ (j: Nat) (N: Int),j <= l.length /\ i = .int .i64 (j: Int) /\ v = .int .i64 N /\ 1 <= N /\ N <= M + 1 /\ Hid (Below w.heap.size w wr) /\ wr.cell? ⟨w.heap.size,6,none⟩ = some (.slice xa l.length xp)) (fun _ i _ => l.length - (intOf i).toNat)
  case atStart => exact ⟨0,1,Nat.zero_le _,rfl,rfl,by omega,by omega,Rw.below_alloc _ _,by simp [go_sem]⟩
  case round =>
   obtain ⟨j,N,hj,rfl,rfl,hN1,hN2,HB,hcell⟩ := hrel
   have hsl: w.heap.size < wr.heap.size := World.block_lt_of_cell? _ _ hcell
   by_cases hlt: j < l.length
   · by_cases hNM: N <= M
     · obtain ⟨b,o,k,rfl,hb,hx,hc⟩ := (HS.out.below HB.out).at hlt
       have HC := Rw.dh (fun W (hW: Below wr.heap.size wr W) => IH.out k W (M - N) (d - 1) ((HK.out k (List.mem_of_getElem? hx)).on (below_on HB.out hW)) (HD.out k (List.mem_of_getElem? hx)) (by omega) (by omega) hd1 hd2)
       have c0: wr.cell? ⟨b,o + j * 7,none⟩ = some (.string k.op) := hc 0 _ rfl
       have c1: wr.cell? ⟨b,o + j * 7 + 1,none⟩ = some (.int .i64 k.vk) := hc 1 _ rfl
       have c2: wr.cell? ⟨b,o + j * 7 + 2,none⟩ = some (.int .i64 k.vn) := hc 2 _ rfl
       have c3: wr.cell? ⟨b,o + j * 7 + 3,none⟩ = some (.string k.vs) := hc 3 _ rfl
       have c4: wr.cell? ⟨b,o + j * 7 + 4,none⟩ = some (.int .i64 k.var) := hc 4 _ rfl
       have c5: wr.cell? ⟨b,o + j * 7 + 5,none⟩ = some (.int .i64 k.col) := hc 5 _ rfl
       have c6: wr.cell? ⟨b,o + j * 7 + 6,none⟩ = some (.slice k.a k.kids.length k.c) := hc 6 _ rfl
       clear hc hx
       go_wp2_with fail
       refine (HC.out _ (by first | exact Below.refl _ _ | exact Rw.below_alloc _ _)).mono ?_
       rintro e w1 ⟨v,rfl,hv1,hv2,hb1⟩
       have HB1 := Rw.dh (below_on HB.out hb1)
       have hcell1: w1.cell? ⟨w.heap.size,6,none⟩ = some (.slice (some ⟨b,o,none⟩) l.length xp) := by rw [hb1.cell hsl]; exact hcell
       clear hb1 HC c0 c1 c2 c3 c4 c5 c6
       go_wp2
       go_roundw
       case rel => exact ⟨j + 1,N + v,hlt,by go_num,rfl,by omega,by omega,HB1,hcell1⟩
       case measure => simp [intOf]; omega
     · go_wp2
       go_ret
       exact ⟨N,rfl,by omega,by omega,HB.out⟩
   · go_wp2
     go_ret
     exact ⟨N,rfl,by omega,by omega,HB.out⟩
theorem pdeep_walk: ∀ (n: Nat),n <= 1000 -> ∀ (x: NL) (w: World),InN n w x -> Calls Tryz.prog 113 #[nV x, .int .i64 n] w fun e w' => e = .returned (.bool (deepN n x)) /\ Below w.heap.size w w'
 | 0,_,x,w,_ => by
  unfold nV
  go_enter Tryz.func113,Tryz.ntmps113
  go_wp2
  go_ret
  exact ⟨rfl,by first | exact Rw.below_alloc _ _ | exact Below.refl _ _⟩
 | n + 1,hn, .mk xo xk xn xs xv xc xa xp l,w,hi => by
  have IH := Rw.dh (pdeep_walk n (by omega))
  have HS: Hid (Rw.SlG nC 7 w xa l) := hi.2.1
  have HK: Hid (∀ k ∈ l,InN n w k) := hi.2.2
  have hkl: l.length <= 1599289640401 := hi.1.kids
  have HD: Hid (deepN (n + 1) (.mk xo xk xn xs xv xc xa xp l) = l.any (deepN n)) := rfl
  clear hi
  obtain ⟨N,hN1,hN2,hN3,hN⟩: ∃ N: Int,1 <= N /\ N <= 1001 /\ N - 1 = (n: Int) /\ ((n + 1: Nat): Int) = N := ⟨_,by omega,by omega,by omega,rfl⟩
  have hz: (N == 0) = false := beq_eq_false_iff_ne.2 (by omega)
  show Calls Tryz.prog 113 #[.agg #[.string xo, .int .i64 xk, .int .i64 xn, .string xs, .int .i64 xv, .int .i64 xc, .slice xa l.length xp], .int .i64 (n + 1: Nat)] w _
  rw [hN]
  clear hN
  go_enter Tryz.func113,Tryz.ntmps113
  go_wp2_with fail
  go_loopw [12] (fun i wr => ∃ j: Nat,j <= l.length /\ i = .int .i64 (j: Int) /\ Hid (Below w.heap.size w wr /\ (l.take j).any (deepN n) = false)) (fun i _ => l.length - (intOf i).toNat)
  case atStart => exact ⟨0,Nat.zero_le _,rfl,Rw.below_alloc _ _,rfl⟩
  case round =>
   obtain ⟨j,hj,rfl,HR⟩ := hrel
   by_cases hlt: j < l.length
   · obtain ⟨b,o,k,rfl,hb,hx,hc⟩ := (HS.out.below HR.out.1).at hlt
     have HX := Rw.dh hx
     have HKk := Rw.dh ((HK.out k (List.mem_of_getElem? hx)).on HR.out.1)
     have c0: wr.cell? ⟨b,o + j * 7,none⟩ = some (.string k.op) := hc 0 _ rfl
     have c1: wr.cell? ⟨b,o + j * 7 + 1,none⟩ = some (.int .i64 k.vk) := hc 1 _ rfl
     have c2: wr.cell? ⟨b,o + j * 7 + 2,none⟩ = some (.int .i64 k.vn) := hc 2 _ rfl
     have c3: wr.cell? ⟨b,o + j * 7 + 3,none⟩ = some (.string k.vs) := hc 3 _ rfl
     have c4: wr.cell? ⟨b,o + j * 7 + 4,none⟩ = some (.int .i64 k.var) := hc 4 _ rfl
     have c5: wr.cell? ⟨b,o + j * 7 + 5,none⟩ = some (.int .i64 k.col) := hc 5 _ rfl
     have c6: wr.cell? ⟨b,o + j * 7 + 6,none⟩ = some (.slice k.a k.kids.length k.c) := hc 6 _ rfl
     clear hc hx
     go_wp2_with fail
     refine (IH.out k _ (HKk.out.on (Rw.below_alloc _ _))).mono ?_
     rintro e w1 ⟨rfl,hb1⟩
     have HB1 := Rw.dh (below_on HR.out.1 (below_on (Rw.below_alloc wr _) hb1))
     clear hb1
     cases hd: deepN n k
     · go_wp2
       go_roundw
       case rel => exact ⟨j + 1,hlt,by go_num,HB1.out,any_take_falseN HX.out HR.out.2 hd⟩
       case measure => simp [intOf]; omega
     · go_wp2
       go_ret
       refine ⟨Rw.ret_bool ?_,HB1.out⟩
       symm
       rw [HD.out,List.any_eq_true]
       exact ⟨k,List.mem_of_getElem? HX.out,hd⟩
   · have hjs: j = l.length := by omega
     subst hjs
     go_wp2
     go_ret
     refine ⟨Rw.ret_bool ?_,HR.out.1⟩
     have := HR.out.2
     rw [List.take_length] at this
     rw [HD.out,this]
end Go.Proofs.YteibhbnlcpejpaaGreat
