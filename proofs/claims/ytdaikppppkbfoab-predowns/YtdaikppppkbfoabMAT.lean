import Derived.Test.YtdaikppppkbfoabMAS
set_option maxRecDepth 100000
set_option maxHeartbeats 4000000
namespace Go.Proofs.Ytdaikppppkbfoab
open Go.RowKit
theorem ownV_walk (v: Vv) (hv: v.s.size <= 281474976710656) (w: World): Calls Try.prog 19 #[vvV v] w fun e w' => e = .returned (vvV v) /\ Below w.heap.size w w' := by
 obtain ⟨k,n,s⟩ := v
 have HC := Rw.dh (fun W => nsclone_walk s W hv)
 unfold vvV valV
 go_enter Try.func19,Try.ntmps19
 go_wp2_with fail
 refine (HC.out _).mono ?_
 rintro e w1 ⟨rfl,hb⟩
 have HB := Rw.dh (Bx.of hb)
 clear hb
 obtain ⟨a0,a1,a2,a3,a4,a5⟩ := HB.out.a
 obtain ⟨z0,z1,z2,z3,z4,z5⟩ := HB.out.z
 have hlt := HB.out.lt
 have hlt0: w.heap.size < w1.heap.size := by omega
 go_wp2
 exact bodyPost_ret (v := .agg #[.int .i64 k, .int .i64 n, .string s]) (by simp [results,Try.results19,go_sem,z0,z1,z2]) rfl ⟨rfl,below_set3 (Nat.le_succ _) (HB.out.bel.setCell (Nat.le_refl _) _) _ _ _⟩
theorem sclo_walk {n: Nat} (IH: ∀ (x: NL) (w: World),InN n w x -> Calls Try.prog 35 #[nV x, .int .i64 n] w fun e w' => e = .returned (.bool (!deepN n x)) /\ Below w.heap.size w w') (hn: n < 65536) (k: NL) {p: Nat} {w: World} (hI: InN n w k) (hp: w.heap[p]? = some (.cells #[.int .i64 (n + 1: Nat)] 3 (0,0))) :
 Calls Try.prog 60 #[nV k, .pointer (some ⟨p,0,none⟩)] w fun e w' => e = .returned (.bool (deepN n k)) /\ Below w.heap.size w w' := by
 have HM := Rw.dh (fun W (hb: Below w.heap.size w W) => IH k W (hI.on hb))
 have hlp := (Array.getElem?_eq_some_iff.1 hp).1
 have c0: w.cell? ⟨p,0,none⟩ = some (.int .i64 (n + 1: Nat)) := by rw [cell_of_row _ _ _ _ _ _ hp]; rfl
 clear hp hI IH
 generalize deepN n k = m at *
 obtain ⟨N,hN1,hN2,hN3,hN⟩: ∃ N: Int,1 <= N /\ N <= 65536 /\ N - 1 = (n: Int) /\ ((n + 1: Nat): Int) = N := ⟨_,by omega,by omega,by omega,rfl⟩
 rw [hN] at c0
 clear hN
 unfold nV at HM ⊢
 go_enter Try.func60,Try.ntmps60
 go_wp2_with fail
 refine (HM.out _ (by first | exact Below.refl _ _ | exact Rw.below_alloc _ _)).mono ?_
 rintro e w1 ⟨rfl,hb⟩
 have HB: Hid (Below w.heap.size w w1) := by first | exact hb | exact below_on (Rw.below_alloc _ _) hb
 clear hb
 go_wp2
 go_ret
 exact ⟨Rw.ret_bool (by cases m <;> rfl),HB.out⟩
theorem any_at_yes {f: NL -> Bool} {l: List NL} {j: Nat} {k: NL} (h: l[j]? = some k) (hm: f k = true): l.any f = true := List.any_eq_true.2 ⟨k,List.mem_of_getElem? h,hm⟩
theorem any_take_no {f: NL -> Bool} {l: List NL} {j: Nat} {k: NL} (h: l[j]? = some k) (hA: (l.take j).any f = false) (hm: f k = false): (l.take (j + 1)).any f = false := by
 obtain ⟨hj,e⟩ := List.getElem?_eq_some_iff.1 h
 rw [List.take_succ_eq_append_getElem hj,List.any_append,hA,e]
 simp [hm]
inductive IdxS: Bool -> Ending -> Prop
 | none: IdxS false (.returned (.int .i64 (-1)))
 | at (j: Nat): IdxS true (.returned (.int .i64 (j: Int)))
theorem idxS_walk {n: Nat} (IH: ∀ (x: NL) (w: World),InN n w x -> Calls Try.prog 35 #[nV x, .int .i64 n] w fun e w' => e = .returned (.bool (!deepN n x)) /\ Below w.heap.size w w') (hn: n < 65536) {l: List NL} {a: Option Addr} {c: Nat} {p: Nat} {w: World} (hS: Rw.SlG nC 7 w a l) (hl: l.length <= 1599289640401) (hI: ∀ k ∈ l,InN n w k) (hp: w.heap[p]? = some (.cells #[.int .i64 (n + 1: Nat)] 3 (0,0))) :
 Calls Try.prog 55 #[.slice a l.length c, .func (.func 60) #[] #[.pointer (some ⟨p,0,none⟩)]] w fun e W => IdxS (l.any (deepN n)) e /\ Below w.heap.size w W := by
 have HS := Rw.dh hS
 have HC := Rw.dh (fun k (hk: k ∈ l) W (hb: Below w.heap.size w W) => sclo_walk IH hn k (p := p) (w := W) ((hI k hk).on hb) ((hb.block _ (Array.getElem?_eq_some_iff.1 hp).1).trans hp))
 clear hS hI hp IH
 go_enter Try.func55,Try.ntmps55
 go_wp2_with fail
 go_loopw [8] (fun i wr => ∃ j: Nat,j <= l.length /\ i = .int .i64 (j: Int) /\ Hid (Below w.heap.size w wr) /\ Hid ((l.take j).any (deepN n) = false)) (fun i _ => l.length - (intOf i).toNat)
 case atStart => exact ⟨0,Nat.zero_le _,rfl,Below.refl _ _,rfl⟩
 case round =>
  obtain ⟨j,hj,rfl,HB,HA⟩ := hrel
  by_cases hlt: j < l.length
  · obtain ⟨b,o,k,rfl,hb,hx,hc⟩ := (HS.out.below HB.out).at hlt
    have hv := HC.out k (List.mem_of_getElem? hx) wr HB.out
    have HX := Rw.dh hx
    have c0: wr.cell? ⟨b,o + j * 7,none⟩ = some (.string k.op) := hc 0 _ rfl
    have c1: wr.cell? ⟨b,o + j * 7 + 1,none⟩ = some (.int .i64 k.vk) := hc 1 _ rfl
    have c2: wr.cell? ⟨b,o + j * 7 + 2,none⟩ = some (.int .i64 k.vn) := hc 2 _ rfl
    have c3: wr.cell? ⟨b,o + j * 7 + 3,none⟩ = some (.string k.vs) := hc 3 _ rfl
    have c4: wr.cell? ⟨b,o + j * 7 + 4,none⟩ = some (.int .i64 k.var) := hc 4 _ rfl
    have c5: wr.cell? ⟨b,o + j * 7 + 5,none⟩ = some (.int .i64 k.col) := hc 5 _ rfl
    have c6: wr.cell? ⟨b,o + j * 7 + 6,none⟩ = some (.slice k.a k.kids.length k.c) := hc 6 _ rfl
    clear hc hx
    unfold nV at hv
    go_wp2_with fail
    refine hv.mono ?_
    clear hv
    rintro e w1 ⟨rfl,hb1⟩
    have HB1 := Rw.dh (below_on HB.out hb1)
    clear hb1 c0 c1 c2 c3 c4 c5 c6 hb HB
    cases hm: deepN n k
    · have HA1 := Rw.dh (any_take_no HX.out HA.out hm)
      clear hm
      go_wp2
      go_roundw
      case rel => exact ⟨j + 1,hlt,by go_num,HB1,HA1⟩
      case measure => simp [intOf]; omega
    · have HE := Rw.dh (any_at_yes HX.out hm)
      clear hm
      go_wp2
      go_ret
      exact ⟨by rw [HE.out]; exact .at j,HB1.out⟩
  · have hjs: j = l.length := by omega
    subst hjs
    have hA := HA.out
    rw [List.take_length] at hA
    have HE := Rw.dh hA
    clear hA HA
    go_wp2
    go_ret
    exact ⟨by rw [HE.out]; exact .none,HB.out⟩
theorem conS_walk {n: Nat} (IH: ∀ (x: NL) (w: World),InN n w x -> Calls Try.prog 35 #[nV x, .int .i64 n] w fun e w' => e = .returned (.bool (!deepN n x)) /\ Below w.heap.size w w') (hn: n < 65536) {l: List NL} {a: Option Addr} {c: Nat} {p: Nat} {w: World} (hS: Rw.SlG nC 7 w a l) (hl: l.length <= 1599289640401) (hI: ∀ k ∈ l,InN n w k) (hp: w.heap[p]? = some (.cells #[.int .i64 (n + 1: Nat)] 3 (0,0))) :
 Calls Try.prog 31 #[.slice a l.length c, .func (.func 60) #[] #[.pointer (some ⟨p,0,none⟩)]] w fun e W => e = .returned (.bool (l.any (deepN n))) /\ Below w.heap.size w W := by
 have hX := idxS_walk (c := c) IH hn hS hl hI hp
 generalize l.any (deepN n) = m at *
 clear hS hI hp IH
 go_enter Try.func31,Try.ntmps31
 go_wp2_with fail
 refine hX.mono ?_
 clear hX
 rintro e w1 ⟨hW,hb⟩
 have HB := Rw.dh hb
 clear hb
 cases hW with
 | none =>
  go_wp2
  go_ret
  exact ⟨rfl,HB.out⟩
 | «at» j =>
  have h0: decide ((j: Int) ≥ 0) = true := by simp
  have h1: decide (0 <= (j: Int)) = true := by simp
  go_wp2
  go_ret
  exact ⟨rfl,HB.out⟩
theorem shallow_walk: ∀ (n: Nat),n <= 65536 -> ∀ (x: NL) (w: World),InN n w x -> Calls Try.prog 35 #[nV x, .int .i64 n] w fun e w' => e = .returned (.bool (!deepN n x)) /\ Below w.heap.size w w'
 | 0,_,x,w,_ => by
  have hmf: ∀ (fn: Fn) (first cap: Array Value) (w: World),(Instr.makeFunc fn first cap).run Try.prog w = .ok (.func fn first cap) w := fun _ _ _ _ => rfl
  unfold nV
  go_enter Try.func35,Try.ntmps35
  go_wp2
  go_ret
  exact ⟨rfl,below_two w _ _⟩
 | n + 1,hn, .mk xo xk xn xs xv xc xa xp l,w,hi => by
  have hmf: ∀ (fn: Fn) (first cap: Array Value) (w: World),(Instr.makeFunc fn first cap).run Try.prog w = .ok (.func fn first cap) w := fun _ _ _ _ => rfl
  have HC := Rw.dh (fun W (hb: Below w.heap.size w W) p hp => conS_walk (shallow_walk n (by omega)) (by omega) (c := xp) (p := p) (hi.2.1.below hb) hi.1.kids (fun k hk => (hi.2.2 k hk).on hb) hp)
  have HD: Hid (deepN (n + 1) (.mk xo xk xn xs xv xc xa xp l) = l.any (deepN n)) := rfl
  clear hi
  show Calls Try.prog 35 #[.agg #[.string xo, .int .i64 xk, .int .i64 xn, .string xs, .int .i64 xv, .int .i64 xc, .slice xa l.length xp], .int .i64 (n + 1: Nat)] w _
  generalize deepN (n + 1) (.mk xo xk xn xs xv xc xa xp l) = D at *
  obtain ⟨N,hN1,hN⟩: ∃ N: Int,0 < N /\ ((n + 1: Nat): Int) = N := ⟨_,by omega,rfl⟩
  rw [hN] at HC ⊢
  go_enter Try.func35,Try.ntmps35
  go_wp2_with fail
  refine (HC.out _ (below_two w _ _) _ (heap_two w _ _)).mono ?_
  rintro e w1 ⟨rfl,hb⟩
  have HB := Rw.dh (below_on (below_two w _ _) hb)
  clear hb HC
  go_wp2
  go_ret
  exact ⟨Rw.ret_bool (by rw [HD.out]; rfl),HB.out⟩
end Go.Proofs.Ytdaikppppkbfoab
