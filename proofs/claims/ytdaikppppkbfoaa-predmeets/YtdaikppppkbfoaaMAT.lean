import Derived.Test.YtdaikppppkbfoaaMAH
set_option maxRecDepth 100000
set_option maxHeartbeats 4000000
namespace Go.Proofs.Ytdaikppppkbfoaa
open Go.RowKit
theorem any_take_falseN {α: Type} {l: List α} {f: α -> Bool} {j: Nat} {x: α} (hx: l[j]? = some x) (h: (l.take j).any f = false) (hf: f x = false): (l.take (j + 1)).any f = false := by
 obtain ⟨hjl,rfl⟩ := List.getElem?_eq_some_iff.1 hx
 rw [List.take_succ_eq_append_getElem hjl,List.any_append,h]
 simp [hf]
def SizeNP (M: Int) (w: World) (e: Ending) (W: World): Prop := ∃ v: Int,e = .returned (.int .i64 v) /\ 1 <= v /\ v <= M + 1 /\ Below w.heap.size w W
theorem nsize_walk: ∀ (n: Nat) (x: NL) (w: World) (M d: Int),InN n w x -> deepN n x = false -> 0 <= M -> M <= 1000 -> (n: Int) <= d -> d <= 1000 -> Calls Try.prog 93 #[nV x, .int .i64 M, .int .i64 d] w (SizeNP M w)
 | 0,_,_,_,_,_,h,_,_,_,_ => by cases h
 | n + 1, .mk xo xk xn xs xv xc xa xp l,w,M,d,hi,hd,hM0,hM1,hD0,hD1 => by
  have IH := Rw.dh (nsize_walk n)
  have HS: Hid (Rw.SlG nC 7 w xa l) := hi.2.1
  have HK: Hid (∀ k ∈ l,InN n w k) := hi.2.2
  have HD: Hid (∀ k ∈ l,deepN n k = false) := fun k hk => by
   have: l.any (deepN n) = false := hd
   exact Bool.eq_false_iff.2 (List.any_eq_false.1 this k hk)
  have hkl: l.length <= 1599289640401 := hi.1.kids
  clear hi hd
  have hd0: (d == 0) = false := beq_eq_false_iff_ne.2 (by omega)
  have hd1: (n: Int) <= d - 1 := by omega
  have hd2: d - 1 <= 1000 := by omega
  have hd3: 1 <= d := by omega
  clear hD0
  show Calls Try.prog 93 #[.agg #[.string xo, .int .i64 xk, .int .i64 xn, .string xs, .int .i64 xv, .int .i64 xc, .slice xa l.length xp], .int .i64 M, .int .i64 d] w _
  go_enter Try.func93,Try.ntmps93
  go_wp2_with fail
  go_loopw [7,8] (fun v i wr => ∃ (j: Nat) (N: Int),j <= l.length /\ i = .int .i64 (j: Int) /\ v = .int .i64 N /\ 1 <= N /\ N <= M + 1 /\ Hid (Below w.heap.size w wr) /\ wr.cell? ⟨w.heap.size,6,none⟩ = some (.slice xa l.length xp)) (fun _ i _ => l.length - (intOf i).toNat)
  case atStart => exact ⟨0,1,Nat.zero_le _,rfl,rfl,by omega,by omega,Rw.below_alloc _ _,by simp [go_sem]⟩
  case round =>
   obtain ⟨j,N,hj,rfl,rfl,hN1,hN2,HB,hcell⟩ := hrel
   have hsl: w.heap.size < wr.heap.size := World.block_lt_of_cell? _ _ hcell
   by_cases hlt: j < l.length
   · by_cases hNM: N <= M
     · obtain ⟨b,o,k,rfl,hb,hx,hc⟩ := (HS.out.below HB.out).at hlt
       have HC := Rw.dh (fun W (hW: Below wr.heap.size wr W) => IH.out k W (M - N) (d - 1) ((HK.out k (List.mem_of_getElem? hx)).on (below_on HB.out hW)) (HD.out k (List.mem_of_getElem? hx)) (by omega) (by omega) hd1 hd2)
       have c0: wr.cell? ⟨b,o + j * 7,none⟩ = some (.string k.op) := hc 0 _ rfl
       have c1: wr.cell? ⟨b,o + j * 7 + 1,none⟩ = some (.int .i64 k.vk) := hc 1 _ rfl
       have c2: wr.cell? ⟨b,o + j * 7 + 2,none⟩ = some (.int .i64 k.vn) := hc 2 _ rfl
       have c3: wr.cell? ⟨b,o + j * 7 + 3,none⟩ = some (.string k.vs) := hc 3 _ rfl
       have c4: wr.cell? ⟨b,o + j * 7 + 4,none⟩ = some (.int .i64 k.var) := hc 4 _ rfl
       have c5: wr.cell? ⟨b,o + j * 7 + 5,none⟩ = some (.int .i64 k.col) := hc 5 _ rfl
       have c6: wr.cell? ⟨b,o + j * 7 + 6,none⟩ = some (.slice k.a k.kids.length k.c) := hc 6 _ rfl
       clear hc hx
       go_wp2_with fail
       refine (HC.out _ (by first | exact Below.refl _ _ | exact Rw.below_alloc _ _)).mono ?_
       rintro e w1 ⟨v,rfl,hv1,hv2,hb1⟩
       have HB1 := Rw.dh (below_on HB.out hb1)
       have hcell1: w1.cell? ⟨w.heap.size,6,none⟩ = some (.slice (some ⟨b,o,none⟩) l.length xp) := by rw [hb1.cell hsl]; exact hcell
       clear hb1 HC c0 c1 c2 c3 c4 c5 c6
       go_wp2
       go_roundw
       case rel => exact ⟨j + 1,N + v,hlt,by go_num,rfl,by omega,by omega,HB1,hcell1⟩
       case measure => simp [intOf]; omega
     · go_wp2
       go_ret
       exact ⟨N,rfl,by omega,by omega,HB.out⟩
   · go_wp2
     go_ret
     exact ⟨N,rfl,by omega,by omega,HB.out⟩
theorem pdeep_walk: ∀ (n: Nat),n <= 1000 -> ∀ (x: NL) (w: World),InN n w x -> Calls Try.prog 92 #[nV x, .int .i64 n] w fun e w' => e = .returned (.bool (deepN n x)) /\ Below w.heap.size w w'
 | 0,_,x,w,_ => by
  unfold nV
  go_enter Try.func92,Try.ntmps92
  go_wp2
  go_ret
  exact ⟨rfl,by first | exact Rw.below_alloc _ _ | exact Below.refl _ _⟩
 | n + 1,hn, .mk xo xk xn xs xv xc xa xp l,w,hi => by
  have IH := Rw.dh (pdeep_walk n (by omega))
  have HS: Hid (Rw.SlG nC 7 w xa l) := hi.2.1
  have HK: Hid (∀ k ∈ l,InN n w k) := hi.2.2
  have hkl: l.length <= 1599289640401 := hi.1.kids
  have HD: Hid (deepN (n + 1) (.mk xo xk xn xs xv xc xa xp l) = l.any (deepN n)) := rfl
  clear hi
  obtain ⟨N,hN1,hN2,hN3,hN⟩: ∃ N: Int,1 <= N /\ N <= 1001 /\ N - 1 = (n: Int) /\ ((n + 1: Nat): Int) = N := ⟨_,by omega,by omega,by omega,rfl⟩
  have hz: (N == 0) = false := beq_eq_false_iff_ne.2 (by omega)
  show Calls Try.prog 92 #[.agg #[.string xo, .int .i64 xk, .int .i64 xn, .string xs, .int .i64 xv, .int .i64 xc, .slice xa l.length xp], .int .i64 (n + 1: Nat)] w _
  rw [hN]
  clear hN
  go_enter Try.func92,Try.ntmps92
  go_wp2_with fail
  go_loopw [12] (fun i wr => ∃ j: Nat,j <= l.length /\ i = .int .i64 (j: Int) /\ Hid (Below w.heap.size w wr /\ (l.take j).any (deepN n) = false)) (fun i _ => l.length - (intOf i).toNat)
  case atStart => exact ⟨0,Nat.zero_le _,rfl,Rw.below_alloc _ _,rfl⟩
  case round =>
   obtain ⟨j,hj,rfl,HR⟩ := hrel
   by_cases hlt: j < l.length
   · obtain ⟨b,o,k,rfl,hb,hx,hc⟩ := (HS.out.below HR.out.1).at hlt
     have HX := Rw.dh hx
     have HKk := Rw.dh ((HK.out k (List.mem_of_getElem? hx)).on HR.out.1)
     have c0: wr.cell? ⟨b,o + j * 7,none⟩ = some (.string k.op) := hc 0 _ rfl
     have c1: wr.cell? ⟨b,o + j * 7 + 1,none⟩ = some (.int .i64 k.vk) := hc 1 _ rfl
     have c2: wr.cell? ⟨b,o + j * 7 + 2,none⟩ = some (.int .i64 k.vn) := hc 2 _ rfl
     have c3: wr.cell? ⟨b,o + j * 7 + 3,none⟩ = some (.string k.vs) := hc 3 _ rfl
     have c4: wr.cell? ⟨b,o + j * 7 + 4,none⟩ = some (.int .i64 k.var) := hc 4 _ rfl
     have c5: wr.cell? ⟨b,o + j * 7 + 5,none⟩ = some (.int .i64 k.col) := hc 5 _ rfl
     have c6: wr.cell? ⟨b,o + j * 7 + 6,none⟩ = some (.slice k.a k.kids.length k.c) := hc 6 _ rfl
     clear hc hx
     go_wp2_with fail
     refine (IH.out k _ (HKk.out.on (Rw.below_alloc _ _))).mono ?_
     rintro e w1 ⟨rfl,hb1⟩
     have HB1 := Rw.dh (below_on HR.out.1 (below_on (Rw.below_alloc wr _) hb1))
     clear hb1
     cases hd: deepN n k
     · go_wp2
       go_roundw
       case rel => exact ⟨j + 1,hlt,by go_num,HB1.out,any_take_falseN HX.out HR.out.2 hd⟩
       case measure => simp [intOf]; omega
     · go_wp2
       go_ret
       refine ⟨Rw.ret_bool ?_,HB1.out⟩
       symm
       rw [HD.out,List.any_eq_true]
       exact ⟨k,List.mem_of_getElem? HX.out,hd⟩
   · have hjs: j = l.length := by omega
     subst hjs
     go_wp2
     go_ret
     refine ⟨Rw.ret_bool ?_,HR.out.1⟩
     have := HR.out.2
     rw [List.take_length] at this
     rw [HD.out,this]
end Go.Proofs.Ytdaikppppkbfoaa
