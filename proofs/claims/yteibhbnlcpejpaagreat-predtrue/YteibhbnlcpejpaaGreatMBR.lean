import Derived.OrdersHeld
import Derived.Deep.RegionHeld3
import Derived.Test.YteibhbnlcpejpaaGreatMAP
import Derived.Test.YteibhbnlcpejpaaGreatMAR
set_option maxRecDepth 100000
set_option maxHeartbeats 4000000
namespace Go.Proofs.YteibhbnlcpejpaaGreat.HeT
open Go
section
variable {P: Program} {md: Region.Mode} {ops: Array Oper} {Q: Exit -> Act -> World -> Prop} {S: World -> Prop} {n: Nat}
theorem pT {α: Type}: (∀ (l: List α) (i: Nat) (x: α),l.toArray.setIfInBounds i x = (l.set i x).toArray) /\ (∀ (a: α) (l: List α) (b: α),(a :: l).set 0 b = b :: l) /\ (∀ (a: α) (l: List α) (n: Nat) (b: α),(a :: l).set (n + 1) b = a :: l.set n b) := ⟨fun _ _ _ => List.setIfInBounds_toArray .., fun _ _ _ => rfl,fun _ _ _ _ => rfl⟩
def wpAnyT (P: Program) (md: Region.Mode) (ops: Array Oper) (Q: Exit -> Act -> World -> Prop) (S: World -> Prop) (n: Nat): Nat -> Array Bool -> Act -> World -> Prop
 | 0,listed,a,w => Region.ready md ops listed = [] /\ Q .normal a w
 | fuel + 1,listed,a,w =>
  (Region.ready md ops listed = [] -> Q .normal a w) /\
  ∀ i ∈ Region.ready md ops listed,wpOp P ops Q i (fun a' w' => (i < n -> S w') /\ wpAnyT P md ops Q S n fuel (listed.setIfInBounds i true) a' w') a w
theorem any_of_T: ∀ (fuel: Nat) (listed: Array Bool) (a: Act) (w: World),wpAnyT P md ops Q S n fuel listed a w -> wpAny P md ops Q fuel listed a w
 | 0,_,_,_,h => h
 | fuel + 1,_,_,_,h => ⟨h.1,fun i hi => wpOp_mono (fun a' w' h' => any_of_T fuel _ a' w' h'.2) (h.2 i hi)⟩
theorem first {i: Nat} {oi: Oper} {v: Value} (hi: ops[i]? = some oi) (hsel: ∀ (j: Nat) (o: Oper) cs b,ops[j]? = some o -> o.op ≠ .select cs b)
 (hQ: ∀ c a w,Q (.panic c) (a.put oi.dst v) w -> Q (.panic c) a w) (ht: ∀ t ot,ops[t]? = some ot -> n <= t -> ∃ e ∈ ot.after,Region.binds md e = true /\ e.on = i) (hin: i < n) :
 ∀ (fuel: Nat) (listed: Array Bool) (a: Act) (w: World),
  (∀ j oj,ops[j]? = some oj -> j ≠ i -> listed.getD j true = false -> (∀ e ∈ oj.after,Region.binds md e = true -> e.on ≠ i) -> oi.apart ops oj = true) ->
  i ∈ Region.ready md ops listed -> YieldsIf P ops S oi v a -> S w ->
  wpAnyT P md ops Q S n fuel (listed.setIfInBounds i true) (a.put oi.dst v) w -> wpAnyT P md ops Q S n (fuel + 1) listed a w := by
 intro fuel
 induction fuel with
 | zero =>
  intro listed a w _ hr hy hS H
  refine ⟨fun h => (by rw [h] at hr; cases hr),fun j hj => ?_⟩
  by_cases hji: j = i
  · subst hji; exact hy.wpOp hi hS ⟨fun _ => hS,H⟩
  · have := ready_mono hj hji
    rw [H.1] at this
    cases this
 | succ fuel ih =>
  intro listed a w hfree hr hy hS H
  refine ⟨fun h => (by rw [h] at hr; cases hr),fun j hj => ?_⟩
  by_cases hji: j = i
  · subst hji; exact hy.wpOp hi hS ⟨fun _ => hS,H⟩
  · have h1 := H.2 j (ready_mono hj hji)
    obtain ⟨hjun,oj,hoj,hall⟩ := mem_ready.1 hj
    have hnot: ∀ e ∈ oj.after,Region.binds md e = true -> e.on ≠ i := fun e he hb heq => by
     have h1 := hall e he hb
     have h0 := (mem_ready.1 hr).1
     rw [heq] at h1
     rcases Nat.lt_or_ge i listed.size with h' | h'
     · simp [h'] at h0 h1; rw [h0] at h1; cases h1
     · simp [Array.getElem?_eq_none h'] at h1
    have hjn: j < n := Nat.lt_of_not_le fun hge => by
     obtain ⟨e,he,hb,heq⟩ := ht j oj hoj hge
     exact hnot e he hb heq
    have h2 := wpOp_putIf hoj (hfree j oj hoj hji hjun hnot) (fun cs b => hsel i oi cs b hi) (fun cs b => hsel j oj cs b hoj) hQ hy h1
    have hfree': ∀ k ok,ops[k]? = some ok -> k ≠ i -> (listed.setIfInBounds j true).getD k true = false ->
     (∀ e ∈ ok.after,Region.binds md e = true -> e.on ≠ i) -> oi.apart ops ok = true := fun k ok hk hki hun hno => by
     refine hfree k ok hk hki ?_ hno
     by_cases hjk: j = k
     · subst hjk; exact hjun
     · rw [getD_set_ne true hjk] at hun; exact hun
    refine wpOp_mono (fun a' w' h3 => ⟨h3.2.1,ih (listed.setIfInBounds j true) a' w' hfree' (ready_mono hr (Ne.symm hji)) h3.1 (h3.2.1 hjn) ?_⟩) h2
    rw [Array.setIfInBounds_comm _ _ hji]
    exact h3.2.2
def tailW (md: Region.Mode) (ops: Array Oper) (n i: Nat): Bool := (List.range ops.size).all fun t => decide (t < n) || Region.waitsFor md ops t i
theorem take {i: Nat} {oi: Oper} {v: Value} {fuel: Nat} {listed: Array Bool} {a: Act} {w: World} (hi: ops[i]? = some oi)
 (hs: Region.noSelect ops = true) (hf: Region.free md ops listed i = true) (hr: (Region.ready md ops listed).contains i = true) (ht: tailW md ops n i = true) (hin: i < n)
 (hQ: ∀ c a w,Q (.panic c) (a.put oi.dst v) w -> Q (.panic c) a w) (hy: YieldsIf P ops S oi v a) (hS: S w)
 (h: wpAnyT P md ops Q S n fuel (listed.setIfInBounds i true) (a.put oi.dst v) w): wpAnyT P md ops Q S n (fuel + 1) listed a w :=
 first hi (Region.noSelect_spec hs) hQ (fun t ot hot hge => by
  have h1 := List.all_eq_true.1 ht t (List.mem_range.2 (Array.getElem?_eq_some_iff.1 hot).1)
  simp only [Bool.or_eq_true,decide_eq_true_eq] at h1
  obtain ⟨o',ho',e,he,hb,hon⟩ := Region.waitsFor_spec (h1.resolve_left (by omega))
  have: o' = ot := Option.some.inj (ho'.symm.trans hot)
  subst this
  exact ⟨e,he,hb,hon⟩) hin fuel listed a w (Region.free_spec hi hf) (by simpa using hr) hy hS h
def StepT (P: Program) (md: Region.Mode) (ops: Array Oper) (Q: Exit -> Act -> World -> Prop) (S: World -> Prop) (n fuel: Nat) (listed: Array Bool) (a: Act) (w: World) (i: Nat) (o: Oper): Prop :=
 ∀ K: Act -> World -> Prop,(∀ a' w',S w' -> wpAnyT P md ops Q S n fuel (listed.setIfInBounds i true) a' w' -> K a' w') -> if Region.wanted o (yielded ops a.tmps) = true then Oper.wp P o a w K Q else K (a.put o.dst undef) w
theorem StepT.op {fuel: Nat} {listed: Array Bool} {a: Act} {w: World} {i: Nat} {o: Oper} (ho: ops[i]? = some o) (h: StepT P md ops Q S n fuel listed a w i o): wpOp P ops Q i (fun a' w' => (i < n -> S w') /\ wpAnyT P md ops Q S n fuel (listed.setIfInBounds i true) a' w') a w := by
 have h1 := h (fun a' w' => (i < n -> S w') /\ wpAnyT P md ops Q S n fuel (listed.setIfInBounds i true) a' w') fun a' w' hs hr => ⟨fun _ => hs,hr⟩
 unfold wpOp
 simp only [ho]
 split
 · rename_i hw; rw [if_pos hw] at h1; exact Or.inl h1
 · rename_i hw; rw [if_neg hw] at h1; exact h1
theorem one {fuel: Nat} {listed: Array Bool} {a: Act} {w: World} {i: Nat} {o: Oper} (hr: Region.ready md ops listed = [i]) (ho: ops[i]? = some o) (h: StepT P md ops Q S n fuel listed a w i o): wpAnyT P md ops Q S n (fuel + 1) listed a w :=
 ⟨(fun h0 => by rw [hr] at h0; cases h0),fun j hj => by
  rw [hr] at hj
  cases List.mem_singleton.1 hj
  exact h.op ho⟩
theorem two {fuel: Nat} {listed: Array Bool} {a: Act} {w: World} {i j: Nat} {o o': Oper} (hr: Region.ready md ops listed = [i,j]) (ho: ops[i]? = some o) (ho': ops[j]? = some o') (h: StepT P md ops Q S n fuel listed a w i o) (h': StepT P md ops Q S n fuel listed a w j o'): wpAnyT P md ops Q S n (fuel + 1) listed a w :=
 ⟨(fun h0 => by rw [hr] at h0; cases h0),fun k hk => by
  rw [hr] at hk
  rcases List.mem_cons.1 hk with rfl | hk
  · exact h.op ho
  · cases List.mem_singleton.1 hk
    exact h'.op ho'⟩
theorem rest: ∀ (l: List Oper) (k: Nat) (listed: Array Bool) (a: Act) (w: World),(∀ j,l[j]? = ops[k + j]?) -> n <= k -> Region.seqB md ops l.length k listed = true -> wpList P ops Q l a w -> wpAnyT P md ops Q S n l.length listed a w
 | [],_,_,_,_,_,_,hB,h => ⟨by simpa [Region.seqB] using hB,h⟩
 | o :: l,k,listed,a,w,hl,hk,hB,h => by
  have h0: ops[k]? = some o := by simpa using (hl 0).symm
  simp only [List.length_cons,Region.seqB,Bool.and_eq_true,decide_eq_true_eq] at hB
  refine ⟨fun h1 => (by rw [hB.1] at h1; cases h1),fun i hi => ?_⟩
  rw [hB.1] at hi
  have hik: i = k := by simpa using hi
  subst hik
  have hw: wpOp P ops Q i (wpList P ops Q l) a w := by unfold wpOp; simp only [h0]; exact h
  exact wpOp_mono (fun a' w' h' => ⟨fun hlt => absurd hlt (by omega),rest l (i + 1) _ a' w' (fun j => by have := hl (j + 1); simpa [Nat.add_assoc,Nat.add_comm 1 j] using this) (by omega) hB.2 h'⟩) hw
theorem rest2 {fuel k: Nat} {listed: Array Bool} {a: Act} {w: World} (hf: fuel = ops.size - k) (hk: n <= k) (hB: Region.seqB md ops (ops.size - k) k listed = true) (h: wpList P ops Q (ops.toList.drop k) a w): wpAnyT P md ops Q S n fuel listed a w := by
 have hl: (ops.toList.drop k).length = ops.size - k := by simp
 have := rest (P := P) (Q := Q) (S := S) (n := n) (md := md) (ops := ops) (ops.toList.drop k) k listed a w (fun j => by simp [List.getElem?_drop]) hk (by rw [hl]; exact hB) h
 rw [hl, <- hf] at this
 exact this
end
theorem begin_ {P: Program} {id: Nat} {ops: Array Oper} {Q: Exit -> Act -> World -> Prop} {a: Act} {w: World} (S: World -> Prop) (n: Nat) (hm: P.follows .mixedOrders = true)
 (h: wpAnyT P .any ops (NoPanic Q) S n ops.size (Array.replicate ops.size false) a w.drew): (Code.region id ops true).wp P Q a w :=
 wp_region_noPanic (wp_region_any hm (any_of_T _ _ _ _ h))
end Go.Proofs.YteibhbnlcpejpaaGreat.HeT
namespace Go.Proofs.YteibhbnlcpejpaaGreat
open Go.RowKit
theorem ownV_walk (v: Vv) (hv: v.s.size <= 281474976710656) (w: World): Calls Tryz.prog 116 #[vvV v] w fun e w' => e = .returned (vvV v) /\ Below w.heap.size w w' := by
 obtain ⟨k,n,s⟩ := v
 have HC := Rw.dh (fun W => nsclone_walk s W hv)
 unfold vvV valV
 go_enter Tryz.func116,Tryz.ntmps116
 go_wp2_with fail
 refine (HC.out _).mono ?_
 rintro e w1 ⟨rfl,hb⟩
 have HB := Rw.dh (Bx.of hb)
 clear hb
 obtain ⟨a0,a1,a2,a3,a4,a5⟩ := HB.out.a
 obtain ⟨z0,z1,z2,z3,z4,z5⟩ := HB.out.z
 have hlt := HB.out.lt
 have hlt0: w.heap.size < w1.heap.size := by omega
 go_wp2
 exact bodyPost_ret (v := .agg #[.int .i64 k, .int .i64 n, .string s]) (by simp [results,Tryz.results116,go_sem,z0,z1,z2]) rfl ⟨rfl,below_set3 (Nat.le_succ _) (HB.out.bel.setCell (Nat.le_refl _) _) _ _ _⟩
theorem sclo_walk {n: Nat} (IH: ∀ (x: NL) (w: World),InN n w x -> Calls Tryz.prog 166 #[nV x, .int .i64 n] w fun e w' => e = .returned (.bool (!deepN n x)) /\ Below w.heap.size w w') (hn: n < 65536) (k: NL) {p: Nat} {w: World} (hI: InN n w k) (hp: w.heap[p]? = some (.cells #[.int .i64 (n + 1: Nat)] 3 (0,0))) :
 Calls Tryz.prog 198 #[nV k, .pointer (some ⟨p,0,none⟩)] w fun e w' => e = .returned (.bool (deepN n k)) /\ Below w.heap.size w w' := by
 have HM := Rw.dh (fun W (hb: Below w.heap.size w W) => IH k W (hI.on hb))
 have hlp := (Array.getElem?_eq_some_iff.1 hp).1
 have c0: w.cell? ⟨p,0,none⟩ = some (.int .i64 (n + 1: Nat)) := by rw [cell_of_row _ _ _ _ _ _ hp]; rfl
 clear hp hI IH
 generalize deepN n k = m at *
 obtain ⟨N,hN1,hN2,hN3,hN⟩: ∃ N: Int,1 <= N /\ N <= 65536 /\ N - 1 = (n: Int) /\ ((n + 1: Nat): Int) = N := ⟨_,by omega,by omega,by omega,rfl⟩
 rw [hN] at c0
 clear hN
 unfold nV at HM ⊢
 go_enter Tryz.func198,Tryz.ntmps198
 go_wp2_with fail
 refine (HM.out _ (by first | exact Below.refl _ _ | exact Rw.below_alloc _ _)).mono ?_
 rintro e w1 ⟨rfl,hb⟩
 have HB: Hid (Below w.heap.size w w1) := by first | exact hb | exact below_on (Rw.below_alloc _ _) hb
 clear hb
 go_wp2
 go_ret
 exact ⟨Rw.ret_bool (by cases m <;> rfl),HB.out⟩
theorem any_at_yes {f: NL -> Bool} {l: List NL} {j: Nat} {k: NL} (h: l[j]? = some k) (hm: f k = true): l.any f = true := List.any_eq_true.2 ⟨k,List.mem_of_getElem? h,hm⟩
theorem any_take_no {f: NL -> Bool} {l: List NL} {j: Nat} {k: NL} (h: l[j]? = some k) (hA: (l.take j).any f = false) (hm: f k = false): (l.take (j + 1)).any f = false := by
 obtain ⟨hj,e⟩ := List.getElem?_eq_some_iff.1 h
 rw [List.take_succ_eq_append_getElem hj,List.any_append,hA,e]
 simp [hm]
inductive IdxS: Bool -> Ending -> Prop
 | none: IdxS false (.returned (.int .i64 (-1)))
 | at (j: Nat): IdxS true (.returned (.int .i64 (j: Int)))
theorem idxS_walk {n: Nat} (IH: ∀ (x: NL) (w: World),InN n w x -> Calls Tryz.prog 166 #[nV x, .int .i64 n] w fun e w' => e = .returned (.bool (!deepN n x)) /\ Below w.heap.size w w') (hn: n < 65536) {l: List NL} {a: Option Addr} {c: Nat} {p: Nat} {w: World} (hS: Rw.SlG nC 7 w a l) (hl: l.length <= 1599289640401) (hI: ∀ k ∈ l,InN n w k) (hp: w.heap[p]? = some (.cells #[.int .i64 (n + 1: Nat)] 3 (0,0))) :
 Calls Tryz.prog 177 #[.slice a l.length c, .func (.func 198) #[] #[.pointer (some ⟨p,0,none⟩)]] w fun e W => IdxS (l.any (deepN n)) e /\ Below w.heap.size w W := by
 have HS := Rw.dh hS
 have HC := Rw.dh (fun k (hk: k ∈ l) W (hb: Below w.heap.size w W) => sclo_walk IH hn k (p := p) (w := W) ((hI k hk).on hb) ((hb.block _ (Array.getElem?_eq_some_iff.1 hp).1).trans hp))
 clear hS hI hp IH
 go_enter Tryz.func177,Tryz.ntmps177
 go_wp2_with fail
 go_loopw [8] (fun i wr => ∃ j: Nat,j <= l.length /\ i = .int .i64 (j: Int) /\ Hid (Below w.heap.size w wr) /\ Hid ((l.take j).any (deepN n) = false)) (fun i _ => l.length - (intOf i).toNat)
 case atStart => exact ⟨0,Nat.zero_le _,rfl,Below.refl _ _,rfl⟩
 case round =>
  obtain ⟨j,hj,rfl,HB,HA⟩ := hrel
  by_cases hlt: j < l.length
  · obtain ⟨b,o,k,rfl,hb,hx,hc⟩ := (HS.out.below HB.out).at hlt
    have hv := HC.out k (List.mem_of_getElem? hx) wr HB.out
    have HX := Rw.dh hx
    have c0: wr.cell? ⟨b,o + j * 7,none⟩ = some (.string k.op) := hc 0 _ rfl
    have c1: wr.cell? ⟨b,o + j * 7 + 1,none⟩ = some (.int .i64 k.vk) := hc 1 _ rfl
    have c2: wr.cell? ⟨b,o + j * 7 + 2,none⟩ = some (.int .i64 k.vn) := hc 2 _ rfl
    have c3: wr.cell? ⟨b,o + j * 7 + 3,none⟩ = some (.string k.vs) := hc 3 _ rfl
    have c4: wr.cell? ⟨b,o + j * 7 + 4,none⟩ = some (.int .i64 k.var) := hc 4 _ rfl
    have c5: wr.cell? ⟨b,o + j * 7 + 5,none⟩ = some (.int .i64 k.col) := hc 5 _ rfl
    have c6: wr.cell? ⟨b,o + j * 7 + 6,none⟩ = some (.slice k.a k.kids.length k.c) := hc 6 _ rfl
    clear hc hx
    unfold nV at hv
    go_wp2_with fail
    refine hv.mono ?_
    clear hv
    rintro e w1 ⟨rfl,hb1⟩
    have HB1 := Rw.dh (below_on HB.out hb1)
    clear hb1 c0 c1 c2 c3 c4 c5 c6 hb HB
    cases hm: deepN n k
    · have HA1 := Rw.dh (any_take_no HX.out HA.out hm)
      clear hm
      go_wp2
      go_roundw
      case rel => exact ⟨j + 1,hlt,by go_num,HB1,HA1⟩
      case measure => simp [intOf]; omega
    · have HE := Rw.dh (any_at_yes HX.out hm)
      clear hm
      go_wp2
      go_ret
      exact ⟨by rw [HE.out]; exact .at j,HB1.out⟩
  · have hjs: j = l.length := by omega
    subst hjs
    have hA := HA.out
    rw [List.take_length] at hA
    have HE := Rw.dh hA
    clear hA HA
    go_wp2
    go_ret
    exact ⟨by rw [HE.out]; exact .none,HB.out⟩
theorem conS_walk {n: Nat} (IH: ∀ (x: NL) (w: World),InN n w x -> Calls Tryz.prog 166 #[nV x, .int .i64 n] w fun e w' => e = .returned (.bool (!deepN n x)) /\ Below w.heap.size w w') (hn: n < 65536) {l: List NL} {a: Option Addr} {c: Nat} {p: Nat} {w: World} (hS: Rw.SlG nC 7 w a l) (hl: l.length <= 1599289640401) (hI: ∀ k ∈ l,InN n w k) (hp: w.heap[p]? = some (.cells #[.int .i64 (n + 1: Nat)] 3 (0,0))) :
 Calls Tryz.prog 135 #[.slice a l.length c, .func (.func 198) #[] #[.pointer (some ⟨p,0,none⟩)]] w fun e W => e = .returned (.bool (l.any (deepN n))) /\ Below w.heap.size w W := by
 have hX := idxS_walk (c := c) IH hn hS hl hI hp
 generalize l.any (deepN n) = m at *
 clear hS hI hp IH
 go_enter Tryz.func135,Tryz.ntmps135
 go_wp2_with fail
 refine hX.mono ?_
 clear hX
 rintro e w1 ⟨hW,hb⟩
 have HB := Rw.dh hb
 clear hb
 cases hW with
 | none =>
  go_wp2
  go_ret
  exact ⟨rfl,HB.out⟩
 | «at» j =>
  have h0: decide ((j: Int) ≥ 0) = true := by simp
  have h1: decide (0 <= (j: Int)) = true := by simp
  go_wp2
  go_ret
  exact ⟨rfl,HB.out⟩
theorem shallow_walk: ∀ (n: Nat),n <= 65536 -> ∀ (x: NL) (w: World),InN n w x -> Calls Tryz.prog 166 #[nV x, .int .i64 n] w fun e w' => e = .returned (.bool (!deepN n x)) /\ Below w.heap.size w w'
 | 0,_,x,w,_ => by
  have hmf: ∀ (fn: Fn) (first cap: Array Value) (w: World),(Instr.makeFunc fn first cap).run Tryz.prog w = .ok (.func fn first cap) w := fun _ _ _ _ => rfl
  unfold nV
  go_enter Tryz.func166,Tryz.ntmps166
  go_wp2
  go_ret
  exact ⟨rfl,below_two w _ _⟩
 | n + 1,hn, .mk xo xk xn xs xv xc xa xp l,w,hi => by
  have hmf: ∀ (fn: Fn) (first cap: Array Value) (w: World),(Instr.makeFunc fn first cap).run Tryz.prog w = .ok (.func fn first cap) w := fun _ _ _ _ => rfl
  have HC := Rw.dh (fun W (hb: Below w.heap.size w W) p hp => conS_walk (shallow_walk n (by omega)) (by omega) (c := xp) (p := p) (hi.2.1.below hb) hi.1.kids (fun k hk => (hi.2.2 k hk).on hb) hp)
  have HD: Hid (deepN (n + 1) (.mk xo xk xn xs xv xc xa xp l) = l.any (deepN n)) := rfl
  clear hi
  show Calls Tryz.prog 166 #[.agg #[.string xo, .int .i64 xk, .int .i64 xn, .string xs, .int .i64 xv, .int .i64 xc, .slice xa l.length xp], .int .i64 (n + 1: Nat)] w _
  generalize deepN (n + 1) (.mk xo xk xn xs xv xc xa xp l) = D at *
  obtain ⟨N,hN1,hN⟩: ∃ N: Int,0 < N /\ ((n + 1: Nat): Int) = N := ⟨_,by omega,rfl⟩
  rw [hN] at HC ⊢
  go_enter Tryz.func166,Tryz.ntmps166
  go_wp2_with fail
  refine (HC.out _ (below_two w _ _) _ (heap_two w _ _)).mono ?_
  rintro e w1 ⟨rfl,hb⟩
  have HB := Rw.dh (below_on (below_two w _ _) hb)
  clear hb HC
  go_wp2
  go_ret
  exact ⟨Rw.ret_bool (by rw [HD.out]; rfl),HB.out⟩
structure KeepW (W0 W: World): Prop where
 bel: Below W0.heap.size W0 W
namespace KeepW
variable {W0 W W': World}
theorem drew (h: KeepW W0 W): KeepW W0 W.drew := ⟨h.bel.drew⟩
theorem alloc (h: KeepW W0 W) (o: Obj): KeepW W0 (W.alloc o) := ⟨h.bel.alloc h.bel.size o⟩
theorem set (h: KeepW W0 W) {p: Addr} (hp: W0.heap.size <= p.block) (v: Value): KeepW W0 (W.setCell p v) := ⟨Below.setCell h.bel hp v⟩
theorem on (h: KeepW W0 W) (hb: Below W.heap.size W W'): KeepW W0 W' := ⟨h.bel.trans (hb.mono h.bel.size)⟩
end KeepW
theorem zbox {W: World} {p: Nat} (h: W.heap[p]? = some (.cells #[.string ⟨#[]⟩, .int .i64 0, .int .i64 0, .string ⟨#[]⟩, .int .i64 0, .int .i64 0, .slice none 0 0] 44 (0,0))): W.cell? ⟨p,0,none⟩ = some (.string ⟨#[]⟩) /\ W.cell? ⟨p,1,none⟩ = some (.int .i64 0) /\ W.cell? ⟨p,2,none⟩ = some (.int .i64 0) /\ W.cell? ⟨p,3,none⟩ = some (.string ⟨#[]⟩) /\ W.cell? ⟨p,4,none⟩ = some (.int .i64 0) /\ W.cell? ⟨p,5,none⟩ = some (.int .i64 0) /\ W.cell? ⟨p,6,none⟩ = some (.slice none 0 0) /\ (∀ o,W.frozen? ⟨p,o,none⟩ = false) /\ W.heap[p]? = some (.cells #[.string ⟨#[]⟩, .int .i64 0, .int .i64 0, .string ⟨#[]⟩, .int .i64 0, .int .i64 0, .slice none 0 0] 44 (0,0)) := by
 refine ⟨?_, ?_, ?_, ?_, ?_, ?_, ?_,fun o => frozen_of_row _ _ o _ _ h,h⟩ <;> (rw [cell_of_row _ _ _ _ _ _ h]; rfl)
structure OwnB (w: World) (p: Nat) (xo: ByteArray) (xk xn: Int) (xs: ByteArray) (xv xc: Int) (xa: Option Addr) (xl xp: Nat) (v: Value) (W: World): Prop where
 old: w.heap.size + 2 <= p
 box: W.heap[p]? = some (.cells #[.string xo, .int .i64 xk, .int .i64 xn, .string xs, .int .i64 xv, .int .i64 xc,v] 44 (0,0))
 nb: W.heap[w.heap.size]? = some (.cells #[.string xo, .int .i64 xk, .int .i64 xn, .string xs, .int .i64 xv, .int .i64 xc, .slice xa xl xp] 44 (0,0))
 rb: W.heap[w.heap.size + 1]? = some (.cells #[.string ⟨#[]⟩, .int .i64 0, .int .i64 0, .string ⟨#[]⟩, .int .i64 0, .int .i64 0, .slice none 0 0] 44 (0,0))
 bel: Below w.heap.size w W
section
variable {w W0 w5 w6: World} {xo: ByteArray} {xk xn: Int} {xs: ByteArray} {xv xc: Int} {xa: Option Addr} {xl xp: Nat}
theorem own_new_ (hB: Below w.heap.size w W0) (hn: W0.heap[w.heap.size]? = some (.cells #[.string xo, .int .i64 xk, .int .i64 xn, .string xs, .int .i64 xv, .int .i64 xc, .slice xa xl xp] 44 (0,0))) (hr: W0.heap[w.heap.size + 1]? = some (.cells #[.string ⟨#[]⟩, .int .i64 0, .int .i64 0, .string ⟨#[]⟩, .int .i64 0, .int .i64 0, .slice none 0 0] 44 (0,0))) (hz: W0.heap.size = w.heap.size + 2) (h6: W0.heap.size <= w6.heap.size) (hb: Below W0.heap.size W0 w6) :
 OwnB w w6.heap.size xo xk xn xs xv xc xa xl xp (.slice none 0 0) (w6.alloc (.cells #[.string xo, .int .i64 xk, .int .i64 xn, .string xs, .int .i64 xv, .int .i64 xc, .slice none 0 0] 44)) :=
 ⟨by omega,Rw.heap_new _ _,(Below.heap_alloc _ _ _ (by omega)).trans ((hb.block _ (by omega)).trans hn),(Below.heap_alloc _ _ _ (by omega)).trans ((hb.block _ (by omega)).trans hr),(hB.trans (hb.mono hB.size)).alloc (by omega) _⟩
theorem own_old {p: Nat} (hB: Below w.heap.size w W0) (hn: W0.heap[w.heap.size]? = some (.cells #[.string xo, .int .i64 xk, .int .i64 xn, .string xs, .int .i64 xv, .int .i64 xc, .slice xa xl xp] 44 (0,0))) (hr: W0.heap[w.heap.size + 1]? = some (.cells #[.string ⟨#[]⟩, .int .i64 0, .int .i64 0, .string ⟨#[]⟩, .int .i64 0, .int .i64 0, .slice none 0 0] 44 (0,0))) (hz: W0.heap.size = w.heap.size + 2) (hp: W0.heap.size <= p) (hb: Below W0.heap.size W0 w6)
 (hy: w6.heap[p]? = some (.cells #[.string ⟨#[]⟩, .int .i64 0, .int .i64 0, .string ⟨#[]⟩, .int .i64 0, .int .i64 0, .slice none 0 0] 44 (0,0))) :
 OwnB w p xo xk xn xs xv xc xa xl xp (.slice none 0 0) (((((((w6.setCell ⟨p,0,none⟩ (.string xo)).setCell ⟨p,1,none⟩ (.int .i64 xk)).setCell ⟨p,2,none⟩ (.int .i64 xn)).setCell ⟨p,3,none⟩ (.string xs)).setCell ⟨p,4,none⟩ (.int .i64 xv)).setCell ⟨p,5,none⟩ (.int .i64 xc)).setCell ⟨p,6,none⟩ (.slice none 0 0)) := by
 have h0 := heap_setCell_same w6 p 0 _ _ (.string xo) hy
 have h1 := heap_setCell_same _ p 1 _ _ (.int .i64 xk) h0
 have h2 := heap_setCell_same _ p 2 _ _ (.int .i64 xn) h1
 have h3 := heap_setCell_same _ p 3 _ _ (.string xs) h2
 have h4 := heap_setCell_same _ p 4 _ _ (.int .i64 xv) h3
 have h5 := heap_setCell_same _ p 5 _ _ (.int .i64 xc) h4
 have h6 := heap_setCell_same _ p 6 _ _ (.slice none 0 0) h5
 have hw: w.heap.size <= p := by omega
 refine ⟨by omega,by simpa using h6, ?_, ?_, ?_⟩
 · rw [nheap_set7 (by omega)]; exact (hb.block _ (by omega)).trans hn
 · rw [nheap_set7 (by omega)]; exact (hb.block _ (by omega)).trans hr
 · exact nbelow_set7 hw (hB.trans (hb.mono hB.size)) _ _ _ _ _ _ _
end
theorem step_at {P: Program} {ops: Array Oper} {o: Oper} {a: Act} {K: Act -> World -> Prop} {Q: Exit -> Act -> World -> Prop} {E: Prop} {W1: World} {t e: TypeId} {z: Value} {size bytes: Nat} (ht: P.underlying t = some (.slice e)) (hinfo: (P.info? e).map (fun i => (i.zero,i.size,i.bytes)) = some (some z,size,bytes)) (hzs: z.cells.size = size) (hsz: 0 < size)
 (hgd: o.guard = none) (s x: Operand) (ho: o.op = .call { callee := .builtin .append,args := #[s,x],argTypes := #[t,t] })
 (base: Nat) (hbase: base <= W1.heap.size) (v: Value) (n: Nat) (xs: List Value) (hs: a.eval s = v) (h: W1.ownsRow base e size v n xs) (ad: Addr) (m cap: Nat) (news: List Value) (hx: a.eval x = .slice (some ad) m cap) (hl: news.length = m * size) (hm: ∀ j u,news[j]? = some u -> W1.cell? (ad.add j) = some u)
 (h1: ∀ u ∈ news,u.oneCell' = true) (hn: n + m <= maxLen) (hn2: (n + m) * bytes <= 140737488355328)
 (hK: ∀ v' W',W'.ownsRow base e size v' (n + m) (xs ++ news) -> W1.grownBy W' v.ownBlock -> (v'.ownBlock = v.ownBlock \/ v'.ownBlock = some W1.heap.size) -> K (a.put o.dst v') W') :
 if Region.wanted o (yielded ops a.tmps) = true then Oper.wp P o a W1 K Q else E := by
 have hw: Region.wanted o (yielded ops a.tmps) = true := by simp [Region.wanted,hgd]
 rw [if_pos hw]
 obtain ⟨i,hi,hz⟩ := Option.map_eq_some_iff.1 hinfo
 simp only [Prod.mk.injEq] at hz
 obtain ⟨h3,h4,h5⟩ := hz
 obtain ⟨v',w',hr,g2,g3, -, g5⟩ := run_append_own_at (P := P) W1 base t o.type e i z size bytes ht hi h3 h4 h5 hzs hsz v n xs h ad m cap news hl hm h1 hn hn2 hbase
 unfold Oper.wp execOp
 simp only [ho,resolve,invoke,builtin,Sem.run_bind,Sem.run_pure,Result.andThen_ok,List.map_toArray,List.map_cons,List.map_nil,hs,hx,hr]
 exact hK v' w' g2 g3 g5
theorem infoCN: (Tryz.prog.info? 44).map (fun i => (i.zero,i.size,i.bytes)) = some (some (nV zNL),7,88) := by kernel_rfl
theorem new_cells {W: World} {y: NL}: ∀ j u,(nC y)[j]? = some u -> (W.alloc (.cells (nC y).toArray 44)).cell? ((⟨W.heap.size,0,none⟩: Addr).add j) = some u := fun j u hu => by
 rw [Rw.add_none,Nat.zero_add,cell_of_row _ _ _ _ _ _ (Rw.heap_new W (.cells (nC y).toArray 44))]
 simpa using hu
structure ClI (n: Nat) (l: List NL) (w: World) (p: Nat) (xo: ByteArray) (xk xn: Int) (xs: ByteArray) (xv xc: Int) (xa: Option Addr) (xp: Nat) (W: World) (v: Value) (j: Nat) (l': List NL): Prop where
 o: OwnB w p xo xk xn xs xv xc xa l.length xp v W
 len: l'.length = j
 own: W.ownsRow (p + 1) 44 7 v j (Rw.flat nC l')
 ins: ∀ k ∈ l',∀ m,InN m W k /\ OffN (fun b => w.heap.size + 2 <= b /\ b ≠ p /\ v.ownBlock ≠ some b) m k
 like: ∀ (i: Nat) k k',l[i]? = some k -> l'[i]? = some k' -> LikeN n k k'
namespace ClI
variable {n: Nat} {l l': List NL} {w W w1 U W2: World} {p j: Nat} {xo: ByteArray} {xk xn: Int} {xs: ByteArray} {xv xc: Int} {xa: Option Addr} {xp: Nat} {v v2: Value} {k y: NL}
theorem zero (h: OwnB w p xo xk xn xs xv xc xa l.length xp (.slice none 0 0) W): ClI n l w p xo xk xn xs xv xc xa xp W (.slice none 0 0) 0 [] :=
 ⟨h,rfl,World.ownsRow_nil _ _ _ _,fun k hk => (by cases hk),fun i k k' _ h => (by cases h)⟩
theorem lt (h: ClI n l w p xo xk xn xs xv xc xa xp W v j l'): p < W.heap.size := (Array.getElem?_eq_some_iff.1 h.o.box).1
theorem ne (h: ClI n l w p xo xk xn xs xv xc xa xp W v j l'): v.ownBlock ≠ some p := fun e => by have := (h.own.lt p e).1; omega
theorem on (h: ClI n l w p xo xk xn xs xv xc xa xp W v j l') (hb: Below W.heap.size W U): ClI n l w p xo xk xn xs xv xc xa xp U v j l' :=
 ⟨⟨h.o.old,(hb.block _ h.lt).trans h.o.box,(hb.block _ (Array.getElem?_eq_some_iff.1 h.o.nb).1).trans h.o.nb,(hb.block _ (Array.getElem?_eq_some_iff.1 h.o.rb).1).trans h.o.rb,h.o.bel.trans (hb.mono h.o.bel.size)⟩,h.len,Rw.owns_on h.own hb,fun k hk m => ⟨((h.ins k hk m).1).on hb,(h.ins k hk m).2⟩,h.like⟩
theorem step (h: ClI n l w p xo xk xn xs xv xc xa xp W v j l') (hk: l[j]? = some k) (b0: Below W.heap.size W w1) (hL: LikeN n k y) (hI: ∀ m,InN m w1 y /\ OffN (fun b => W.heap.size <= b) m y) (bU: Below w1.heap.size w1 U)
 (O2: W2.ownsRow (p + 1) 44 7 v2 (j + 1) (Rw.flat nC (l' ++ [y]))) (G2: U.grownBy W2 v.ownBlock) (hv: v2.ownBlock = v.ownBlock \/ v2.ownBlock = some U.heap.size): ClI n l w p xo xk xn xs xv xc xa xp (W2.setCell ⟨p,6,none⟩ v2) v2 (j + 1) (l' ++ [y]) := by
 have hp := h.lt
 have hn := h.ne
 have hold := h.o.old
 have bA := below_on b0 bU
 have hpU: p < U.heap.size := Nat.lt_of_lt_of_le hp bA.size
 have gU: ∀ q,q < W.heap.size -> q ≠ p -> v.ownBlock ≠ some q -> (W2.setCell ⟨p,6,none⟩ v2).heap[q]? = W.heap[q]? := fun q h1 h2 h3 => (heap_setCell_other _ _ _ _ h2).trans ((G2.block q (Nat.lt_of_lt_of_le h1 bA.size) h3.symm).trans (bA.block q h1))
 have hlt: ∀ q,v.ownBlock = some q -> w.heap.size + 2 < q := fun q hq => by have := (h.own.lt q hq).1; omega
 have key: ∀ z m,InN m U z -> OffN (fun b => w.heap.size + 2 <= b /\ b ≠ p /\ v.ownBlock ≠ some b) m z -> InN m (W2.setCell ⟨p,6,none⟩ v2) z /\ OffN (fun b => w.heap.size + 2 <= b /\ b ≠ p /\ v2.ownBlock ≠ some b) m z := fun z m i1 o1 => by
  refine ⟨i1.turn o1 (by simpa using G2.size) fun b hb h3 => (heap_setCell_other _ _ _ _ h3.2.1).trans (G2.block b hb h3.2.2.symm),(i1.off o1).mono fun b hb => ⟨hb.1.1,hb.1.2.1, ?_⟩⟩
  rcases hv with e | e
  · rw [e]; exact hb.1.2.2
  · rw [e]; intro e'; cases e'; exact absurd hb.2 (Nat.lt_irrefl _)
 have hbU := (bA.block p hp).trans h.o.box
 have hb2 := (G2.block p hpU hn.symm).trans hbU
 refine ⟨⟨hold, ?_, ?_, ?_, ?_⟩,by simp [h.len], ?_, ?_, ?_⟩
 · have := heap_setCell_same W2 p 6 _ _ v2 hb2
   simpa using this
 · have h1 := (Array.getElem?_eq_some_iff.1 h.o.nb).1
   exact (gU _ h1 (by omega) fun e => by have := hlt _ e; omega).trans h.o.nb
 · have h1 := (Array.getElem?_eq_some_iff.1 h.o.rb).1
   exact (gU _ h1 (by omega) fun e => by have := hlt _ e; omega).trans h.o.rb
 · exact Below.setCell ((h.o.bel.trans (bA.mono h.o.bel.size)).grown G2 (Nat.le_trans h.o.bel.size bA.size) fun q hq => by have := hlt q hq; omega) (p := ⟨p,6,none⟩) (by show w.heap.size <= p; omega) v2
 · exact Rw.owns_below O2 fun q hq => heap_setCell_other _ _ _ _ (by have := (O2.lt q hq).1; show q ≠ p; omega)
 · intro z hz m
   rcases List.mem_append.1 hz with hz | hz
   · exact key z m ((h.ins z hz m).1.on bA) (h.ins z hz m).2
   · simp at hz
     subst hz
     refine key z m ((hI m).1.on bU) ((hI m).2.mono fun b hb => ⟨?_, ?_,fun e => ?_⟩)
     · omega
     · omega
     · have := (h.own.lt b e).2; omega
 · intro i a a' h1 h2
   by_cases hij: i < l'.length
   · rw [List.getElem?_append_left hij] at h2
     exact h.like i a a' h1 h2
   · rw [List.getElem?_append_right (by omega)] at h2
     have hi0: i - l'.length = 0 := by
      have := (List.getElem?_eq_some_iff.1 h2).1
      simp at this; omega
     rw [hi0] at h2
     simp at h2
     subst h2
     have: i = j := by have := h.len; omega
     subst this
     rw [hk] at h1
     cases h1
     exact hL
end ClI
theorem obox {W: World} {p: Nat} {v0 v1 v2 v3 v4 v5 v6: Value} {T: TypeId} (h: W.heap[p]? = some (.cells #[v0,v1,v2,v3,v4,v5,v6] T (0,0))): W.cell? ⟨p,0,none⟩ = some v0 /\ W.cell? ⟨p,1,none⟩ = some v1 /\ W.cell? ⟨p,2,none⟩ = some v2 /\ W.cell? ⟨p,3,none⟩ = some v3 /\ W.cell? ⟨p,4,none⟩ = some v4 /\ W.cell? ⟨p,5,none⟩ = some v5 /\ W.cell? ⟨p,6,none⟩ = some v6 := by
 refine ⟨?_, ?_, ?_, ?_, ?_, ?_, ?_⟩ <;> (rw [cell_of_row _ _ _ _ _ _ h]; rfl)
theorem clo_end {n: Nat} {l l': List NL} {w W W3: World} {p: Nat} {xo: ByteArray} {xk xn: Int} {xs: ByteArray} {xv xc: Int} {xa: Option Addr} {xp: Nat} {av: Option Addr} {cv: Nat} (HX: NOk (.mk xo xk xn xs xv xc xa xp l)) (h: ClI n l w p xo xk xn xs xv xc xa xp W (.slice av l.length cv) l.length l')
 (hs: W.heap.size <= W3.heap.size) (h3: ∀ q,q ≠ w.heap.size + 1 -> W3.heap[q]? = W.heap[q]?) (hb3: Below (w.heap.size + 1) W W3): PlainNP (n + 1) (.mk xo xk xn xs xv xc xa xp l) w (.returned (.agg #[.string xo, .int .i64 xk, .int .i64 xn, .string xs, .int .i64 xv, .int .i64 xc, .slice av l.length cv])) W3 := by
 have hold := h.o.old
 have hown: W3.ownsRow (p + 1) 44 7 (.slice av l.length cv) l.length (Rw.flat nC l') := Rw.owns_below h.own fun q hq => h3 q (by have := (h.own.lt q hq).1; omega)
 have hS := (Rw.owns_slg nC_len (by decide) hown).2.1
 refine ⟨.mk xo xk xn xs xv xc av cv l', ?_,⟨rfl,rfl,rfl,rfl,rfl,rfl,h.len.symm,h.like⟩, ?_,h.o.bel.trans (hb3.mono (by omega))⟩
 · show _ = Ending.returned (.agg #[.string xo, .int .i64 xk, .int .i64 xn, .string xs, .int .i64 xv, .int .i64 xc, .slice av l'.length cv])
   rw [h.len]
 · intro m
   cases m with
   | zero => exact ⟨trivial,trivial⟩
   | succ m =>
    refine ⟨⟨⟨HX.k,HX.n,HX.op,HX.vs, ?_⟩,hS,fun k hk => (h.ins k hk m).1.turn (h.ins k hk m).2 hs fun b _ hb => h3 b (by omega)⟩, ?_,fun k hk => (h.ins k hk m).2.mono fun b hb => by omega⟩
    · show l'.length <= _
      rw [h.len]; exact HX.kids
    · refine Or.inr fun b o ea => ?_
      have: av = some ⟨b,o,none⟩ := ea
      subst this
      rcases Rw.owns_addr hown with ⟨e,_⟩ | ⟨g,e⟩
      · cases e
      · cases e
        have := (hown.lt b rfl).1
        omega
def OpN: Nat -> NL -> Prop
 | 0,_ => True
 | n + 1,x => x.op.size <= 281474976710656 /\ ∀ k ∈ x.kids,OpN n k
theorem InN.opN: ∀ {n: Nat} {w: World} {x: NL},InN n w x -> OpN n x
 | 0,_,_,_ => trivial
 | _ + 1,_,_,h => ⟨h.1.op,fun k hk => (h.2.2 k hk).opN⟩
set_option linter.unusedSimpArgs false in
theorem cloned_walk: ∀ (n: Nat) (x: NL) (w: World),InN n w x -> OpN n x -> deepN n x = false -> Calls Tryz.prog 167 #[nV x] w (PlainNP n x w)
 | 0,_,_,_,_,h => by cases h
 | n + 1, .mk xo xk xn xs xv xc xa xp l,w,hi,ho,hd => by
  have hd': ∀ k ∈ l,deepN n k = false := fun k hk => by
   have: l.any (deepN n) = false := hd
   exact Bool.eq_false_iff.2 (List.any_eq_false.1 this k hk)
  have IH := Rw.dh (cloned_walk n)
  have HS: Hid (Rw.SlG nC 7 w xa l) := hi.2.1
  have HK: Hid (∀ k ∈ l,InN n w k) := hi.2.2
  have HD := Rw.dh hd'
  have HX := Rw.dh hi.1
  have HO: Hid (∀ k ∈ l,OpN n k) := ho.2
  have HC := Rw.dh (fun W => nsclone_walk xo W ho.1)
  have HV := Rw.dh (fun W => ownV_walk ⟨xk,xn,xs⟩ hi.1.vs W)
  unfold vvV valV at HV
  have hkl: l.length <= 1599289640401 := hi.1.kids
  clear hi hd hd' ho
  show Calls Tryz.prog 167 #[.agg #[.string xo, .int .i64 xk, .int .i64 xn, .string xs, .int .i64 xv, .int .i64 xc, .slice xa l.length xp]] w _
  go_enter Tryz.func167,Tryz.ntmps167
  go_wp2_with fail
  refine Rw.to_letter (F := fun W => Below w.heap.size w W /\ W.heap.size = w.heap.size + 2 /\ W.heap[w.heap.size]? = some (.cells #[.string xo, .int .i64 xk, .int .i64 xn, .string xs, .int .i64 xv, .int .i64 xc, .slice xa l.length xp] 44 (0,0)) /\ W.heap[w.heap.size + 1]? = some (.cells #[.string ⟨#[]⟩, .int .i64 0, .int .i64 0, .string ⟨#[]⟩, .int .i64 0, .int .i64 0, .slice none 0 0] 44 (0,0))) ⟨below_two w _ _,by simp,(Below.heap_alloc _ _ _ (by simp)).trans (Rw.heap_new w _),heap_two w _ _⟩ ?_
  rintro W0 ⟨hB0,hz0,hn0,hr0⟩
  have HB0 := Rw.dh hB0
  have HN0 := Rw.dh hn0
  have HR0 := Rw.dh hr0
  have KS: Hid (∀ W',KeepW W0 W' -> (fun W => W.cell? ⟨w.heap.size,0,none⟩ = some (.string xo) /\ W.cell? ⟨w.heap.size,1,none⟩ = some (.int .i64 xk) /\ W.cell? ⟨w.heap.size,2,none⟩ = some (.int .i64 xn) /\ W.cell? ⟨w.heap.size,3,none⟩ = some (.string xs) /\ W.cell? ⟨w.heap.size,4,none⟩ = some (.int .i64 xv) /\ W.cell? ⟨w.heap.size,5,none⟩ = some (.int .i64 xc) /\ W.cell? ⟨w.heap.size,6,none⟩ = some (.slice xa l.length xp)) W') := fun W' hk => by
   have g1 := (hk.bel.block w.heap.size (by omega)).trans hn0
   refine ⟨?_, ?_, ?_, ?_, ?_, ?_, ?_⟩ <;> (rw [cell_of_row _ _ _ _ _ _ g1]; rfl)
  have KR: Hid (KeepW W0 W0) := ⟨Below.refl _ _⟩
  have HZ0 := Rw.dh hz0
  clear hB0 hn0 hr0 hz0
  go_region_held (fun W => W.cell? ⟨w.heap.size,0,none⟩ = some (.string xo) /\ W.cell? ⟨w.heap.size,1,none⟩ = some (.int .i64 xk) /\ W.cell? ⟨w.heap.size,2,none⟩ = some (.int .i64 xn) /\ W.cell? ⟨w.heap.size,3,none⟩ = some (.string xs) /\ W.cell? ⟨w.heap.size,4,none⟩ = some (.int .i64 xv) /\ W.cell? ⟨w.heap.size,5,none⟩ = some (.int .i64 xc) /\ W.cell? ⟨w.heap.size,6,none⟩ = some (.slice xa l.length xp)) (exact KS.out _ (by repeat (first | with_reducible exact KR.out | with_reducible refine KeepW.drew ?_ | with_reducible refine KeepW.set ?_ (by first | omega | (simp; done) | (simp; omega)) _ | with_reducible refine KeepW.alloc ?_ _ | with_reducible refine KeepW.on ?_ (by with_reducible assumption)))) (first | (go_at_call 85; refine (HC.out _).mono ?_; rintro e w5 ⟨rfl,hb5⟩; have hz5: W0.heap.size <= w5.heap.size := (by have := hb5.size; first | omega | (simp at this; omega)); (try (have hx5 := zbox ((hb5.block W0.heap.size (by simp)).trans (Rw.heap_new W0 _)); obtain ⟨x0,x1,x2,x3,x4,x5,x6,fx,hx5⟩ := hx5))) | (go_at_call 116; refine (HV.out _).mono ?_; rintro e w6 ⟨rfl,hb6⟩; have hz6: w5.heap.size <= w6.heap.size := (by have := hb6.size; first | omega | (simp at this; omega)); (try (have hy6 := zbox ((hb6.block w5.heap.size (by simp)).trans (Rw.heap_new w5 _)); obtain ⟨y0,y1,y2,y3,y4,y5,y6,fy,hy6⟩ := hy6)); (try (have hx6 := zbox ((hb6.block W0.heap.size (Array.getElem?_eq_some_iff.1 hx5).1).trans hx5); obtain ⟨y0,y1,y2,y3,y4,y5,y6,fy,hy6⟩ := hx6))))
  · obtain ⟨p,hp⟩: ∃ p,p = w6.heap.size := ⟨_,rfl⟩
    have hO := own_new_ HB0.out HN0.out HR0.out HZ0.out (Nat.le_trans hz5 hz6) (KeepW.bel (W0 := W0) (W := w6) (by repeat (first | with_reducible exact KR.out | with_reducible refine KeepW.drew ?_ | with_reducible refine KeepW.on ?_ (by with_reducible assumption))))
    rw [<- hp] at hO ⊢
    clear hp
    refine Rw.to_letter hO ?_
    clear hO
    intro W1 hO
    have z6: W1.cell? ⟨w.heap.size,6,none⟩ = some (.slice xa l.length xp) := by rw [cell_of_row _ _ _ _ _ _ hO.nb]; rfl
    have HCl: Hid (ClI n l w p xo xk xn xs xv xc xa xp W1 (.slice none 0 0) 0 []) := ClI.zero hO
    clear hO
    go_wp2_with fail
    go_loopw [20] (fun i wr => ∃ (j: Nat) (v: Value) (l': List NL),j <= l.length /\ i = .int .i64 (j: Int) /\ Hid (ClI n l w p xo xk xn xs xv xc xa xp wr v j l')) (fun i _ => l.length - (intOf i).toNat)
    case atStart => exact ⟨0,_,[],Nat.zero_le _,rfl,HCl⟩
    case round =>
     obtain ⟨j,v,l',hj,rfl,HR⟩ := hrel
     have hlp := HR.out.lt
     by_cases hlt: j < l.length
     · obtain ⟨b,o,k,rfl,hb,hx,hc⟩ := (HS.out.below HR.out.o.bel).at hlt
       have HXk := Rw.dh hx
       have HKk := Rw.dh ((HK.out k (List.mem_of_getElem? hx)).on HR.out.o.bel)
       have HDk := Rw.dh (HD.out k (List.mem_of_getElem? hx))
       have HOk := Rw.dh (HO.out k (List.mem_of_getElem? hx))
       have c0: wr.cell? ⟨b,o + j * 7,none⟩ = some (.string k.op) := hc 0 _ rfl
       have c1: wr.cell? ⟨b,o + j * 7 + 1,none⟩ = some (.int .i64 k.vk) := hc 1 _ rfl
       have c2: wr.cell? ⟨b,o + j * 7 + 2,none⟩ = some (.int .i64 k.vn) := hc 2 _ rfl
       have c3: wr.cell? ⟨b,o + j * 7 + 3,none⟩ = some (.string k.vs) := hc 3 _ rfl
       have c4: wr.cell? ⟨b,o + j * 7 + 4,none⟩ = some (.int .i64 k.var) := hc 4 _ rfl
       have c5: wr.cell? ⟨b,o + j * 7 + 5,none⟩ = some (.int .i64 k.col) := hc 5 _ rfl
       have c6: wr.cell? ⟨b,o + j * 7 + 6,none⟩ = some (.slice k.a k.kids.length k.c) := hc 6 _ rfl
       clear hc hx z6
       go_wp2_with fail
       refine Rw.to_letter (F := fun V => Below wr.heap.size wr V /\ V.heap[wr.heap.size]? = some (.cells (nC k).toArray 44 (0,0))) ⟨Rw.below_alloc _ _,Rw.heap_new _ _⟩ ?_
       rintro V ⟨hV,hkb⟩
       have HRV := Rw.dh (HR.out.on hV)
       have HKV := Rw.dh (HKk.out.on hV)
       have KS: Hid (∀ W',Below V.heap.size V W' -> (fun w' => w'.cell? ⟨p,6,none⟩ = some v /\ w'.cell? ⟨wr.heap.size,0,none⟩ = some (.string k.op) /\ w'.cell? ⟨wr.heap.size,1,none⟩ = some (.int .i64 k.vk) /\ w'.cell? ⟨wr.heap.size,2,none⟩ = some (.int .i64 k.vn) /\ w'.cell? ⟨wr.heap.size,3,none⟩ = some (.string k.vs) /\ w'.cell? ⟨wr.heap.size,4,none⟩ = some (.int .i64 k.var) /\ w'.cell? ⟨wr.heap.size,5,none⟩ = some (.int .i64 k.col) /\ w'.cell? ⟨wr.heap.size,6,none⟩ = some (.slice k.a k.kids.length k.c)) W') := fun W' hb => by
        have g1 := (hb.block _ (Array.getElem?_eq_some_iff.1 hkb).1).trans hkb
        have g2 := (hb.block _ HRV.out.lt).trans HRV.out.o.box
        refine ⟨?_, ?_, ?_, ?_, ?_, ?_, ?_, ?_⟩
        · rw [cell_of_row _ _ _ _ _ _ g2]; rfl
        all_goals (rw [cell_of_row _ _ _ _ _ _ g1]; rfl)
       have hHeld: (fun w' => w'.cell? ⟨p,6,none⟩ = some v /\ w'.cell? ⟨wr.heap.size,0,none⟩ = some (.string k.op) /\ w'.cell? ⟨wr.heap.size,1,none⟩ = some (.int .i64 k.vk) /\ w'.cell? ⟨wr.heap.size,2,none⟩ = some (.int .i64 k.vn) /\ w'.cell? ⟨wr.heap.size,3,none⟩ = some (.string k.vs) /\ w'.cell? ⟨wr.heap.size,4,none⟩ = some (.int .i64 k.var) /\ w'.cell? ⟨wr.heap.size,5,none⟩ = some (.int .i64 k.col) /\ w'.cell? ⟨wr.heap.size,6,none⟩ = some (.slice k.a k.kids.length k.c)) V.drew := KS.out _ (Below.refl _ V).drew
       have HVk := Rw.dh (Array.getElem?_eq_some_iff.1 hkb).1
       have HKb := Rw.dh hkb
       have HVv: Hid (∀ q,v.ownBlock = some q -> wr.heap.size <= q -> False) := fun q hq h => by have := (HR.out.own.lt q hq).2; omega
       clear c0 c1 c2 c3 c4 c5 c6 hb hV hkb HR HKk hlp
       refine HeT.begin_ (fun w' => w'.cell? ⟨p,6,none⟩ = some v /\ w'.cell? ⟨wr.heap.size,0,none⟩ = some (.string k.op) /\ w'.cell? ⟨wr.heap.size,1,none⟩ = some (.int .i64 k.vk) /\ w'.cell? ⟨wr.heap.size,2,none⟩ = some (.int .i64 k.vn) /\ w'.cell? ⟨wr.heap.size,3,none⟩ = some (.string k.vs) /\ w'.cell? ⟨wr.heap.size,4,none⟩ = some (.int .i64 k.var) /\ w'.cell? ⟨wr.heap.size,5,none⟩ = some (.int .i64 k.col) /\ w'.cell? ⟨wr.heap.size,6,none⟩ = some (.slice k.a k.kids.length k.c)) 7 (by kernel_rfl) ?_
       refine HeT.take (i := 0) (v := ?_) rfl (by kernel_rfl) (by kernel_rfl) (by kernel_rfl) (by kernel_rfl) (by decide) (fun _ _ _ h => h) (Or.inl ⟨by rfl, ?_⟩) hHeld ?_
       rotate_left
       · intro w' hSw
         obtain ⟨s0,t0,t1,t2,t3,t4,t5,t6⟩ := hSw
         go_simp
         (try with_reducible rfl)
       (try simp only [Act.put,List.getElem_toArray,List.getElem_cons_succ,List.getElem_cons_zero,HeT.pT])
       refine HeT.take (i := 1) (v := ?_) rfl (by kernel_rfl) (by kernel_rfl) (by kernel_rfl) (by kernel_rfl) (by decide) (fun _ _ _ h => h) (Or.inl ⟨by rfl, ?_⟩) hHeld ?_
       rotate_left
       · intro w' hSw
         obtain ⟨s0,t0,t1,t2,t3,t4,t5,t6⟩ := hSw
         go_simp
         (try with_reducible rfl)
       (try simp only [Act.put,List.getElem_toArray,List.getElem_cons_succ,List.getElem_cons_zero,HeT.pT])
       refine HeT.take (i := 2) (v := ?_) rfl (by kernel_rfl) (by kernel_rfl) (by kernel_rfl) (by kernel_rfl) (by decide) (fun _ _ _ h => h) (Or.inl ⟨by rfl, ?_⟩) hHeld ?_
       rotate_left
       · intro w' hSw
         obtain ⟨s0,t0,t1,t2,t3,t4,t5,t6⟩ := hSw
         go_simp
         (try with_reducible rfl)
       (try simp only [Act.put,List.getElem_toArray,List.getElem_cons_succ,List.getElem_cons_zero,HeT.pT])
       refine HeT.one (i := 3) (by kernel_rfl) rfl ?_
       intro K hK
       go_simp
       refine (IH.out k _ (HKV.out.on (Below.refl _ V).drew) HOk.out HDk.out).mono ?_
       rintro e w1 ⟨y,rfl,hL,hIy,hb1⟩
       have hb2: Below V.heap.size V w1 := (Below.refl _ V).drew.trans hb1
       refine hK _ _ (KS.out _ hb2) ?_
       have HB2 := Rw.dh hb2
       have HLy := Rw.dh hL
       have HIy: Hid (∀ m,InN m w1 y /\ OffN (fun b => V.heap.size <= b) m y) := hIy
       clear hb1 hb2 hL hIy
       unfold nV
       clear hK K
       (try simp only [Act.put,List.getElem_toArray,List.getElem_cons_succ,List.getElem_cons_zero,HeT.pT])
       refine HeT.one (i := 4) (by kernel_rfl) rfl ?_
       intro K hK
       go_simp
       have hbU := HB2.out.alloc HB2.out.size (.cells #[.string y.op, .int .i64 y.vk, .int .i64 y.vn, .string y.vs, .int .i64 y.var, .int .i64 y.col, .slice y.a y.kids.length y.c] 44)
       refine hK _ _ (KS.out _ hbU) ?_
       have HBU := Rw.dh hbU
       clear hbU
       clear hK K
       (try simp only [Act.put,List.getElem_toArray,List.getElem_cons_succ,List.getElem_cons_zero,HeT.pT])
       refine HeT.one (i := 5) (by kernel_rfl) rfl ?_
       intro K hK
       have hHU := HRV.out.on HBU.out
       refine step_at Tryz.underlying42 infoCN rfl (by decide) rfl (.tmp 25) (.tmp 28) rfl (p + 1) hHU.lt v j (Rw.flat nC l') (by simp [Act.eval]) hHU.own ⟨w1.heap.size,0,none⟩ 1 1 (nC y) (by simp [Act.eval]) rfl new_cells (nC_one _) (by unfold maxLen; omega) (by omega) ?_
       intro v2 W2 O2 G2 hv2
       obtain ⟨av,cv,rfl⟩ := Rw.owns_slice O2
       have hpU := hHU.lt
       have hnv := hHU.ne
       have hb2 := (G2.block p hpU hnv.symm).trans hHU.o.box
       have hkb2 := (G2.block wr.heap.size (by have := HBU.out.size; have := HVk.out; omega) (fun e => HVv.out _ e.symm (Nat.le_refl _))).trans ((HBU.out.block _ HVk.out).trans HKb.out)
       have HR2 := Rw.dh (HRV.out.step HXk.out HB2.out HLy.out HIy.out (Rw.below_alloc w1 _) (by rw [Rw.flat_append]; simpa [Rw.flat] using O2) G2 hv2)
       have y0: W2.cell? ⟨p,6,none⟩ = some v := by rw [cell_of_row _ _ _ _ _ _ hb2]; rfl
       have y1: W2.frozen? ⟨p,6,none⟩ = false := frozen_of_row _ _ _ _ _ hb2
       have y2 := (Array.getElem?_eq_some_iff.1 hb2).1
       have hS2: (fun w' => w'.cell? ⟨p,6,none⟩ = some v /\ w'.cell? ⟨wr.heap.size,0,none⟩ = some (.string k.op) /\ w'.cell? ⟨wr.heap.size,1,none⟩ = some (.int .i64 k.vk) /\ w'.cell? ⟨wr.heap.size,2,none⟩ = some (.int .i64 k.vn) /\ w'.cell? ⟨wr.heap.size,3,none⟩ = some (.string k.vs) /\ w'.cell? ⟨wr.heap.size,4,none⟩ = some (.int .i64 k.var) /\ w'.cell? ⟨wr.heap.size,5,none⟩ = some (.int .i64 k.col) /\ w'.cell? ⟨wr.heap.size,6,none⟩ = some (.slice k.a k.kids.length k.c)) W2 := ⟨y0,by rw [cell_of_row _ _ _ _ _ _ hkb2]; rfl,by rw [cell_of_row _ _ _ _ _ _ hkb2]; rfl,by rw [cell_of_row _ _ _ _ _ _ hkb2]; rfl,by rw [cell_of_row _ _ _ _ _ _ hkb2]; rfl,by rw [cell_of_row _ _ _ _ _ _ hkb2]; rfl,by rw [cell_of_row _ _ _ _ _ _ hkb2]; rfl,by rw [cell_of_row _ _ _ _ _ _ hkb2]; rfl⟩
       refine hK _ _ hS2 ?_
       clear O2 G2 hv2 hb2 hkb2 hpU hnv hHU
       clear hK K
       (try simp only [Act.put,List.getElem_toArray,List.getElem_cons_succ,List.getElem_cons_zero,HeT.pT])
       refine HeT.one (i := 6) (by kernel_rfl) rfl ?_
       intro K hK
       go_simp
       refine hK _ _ hS2 ?_
       clear hK K
       (try simp only [Act.put,List.getElem_toArray,List.getElem_cons_succ,List.getElem_cons_zero,HeT.pT])
       clear hS2 hHeld KS HRV
       refine HeT.rest2 (k := 7) rfl (by decide) (by kernel_rfl) ?_
       simp only [List.drop_succ_cons,List.drop_zero]
       go_wp2_with fail
       refine NoPanic.normal ?_
       go_wp2_with fail
       exact ⟨⟨j + 1,_,_,hlt,by go_num,HR2⟩,by simp [intOf]; omega⟩
     · have hjs: j = l.length := by omega
       subst hjs
       obtain ⟨av,cv,rfl⟩ := Rw.owns_slice HR.out.own
       obtain ⟨z0,z1,z2,z3,z4,z5,z7⟩ := obox HR.out.o.box
       obtain ⟨r0,r1,r2,r3,r4,r5,r6,rf,hr9⟩ := zbox HR.out.o.rb
       have hrl := (Array.getElem?_eq_some_iff.1 hr9).1
       have HE := Rw.dh (fun (W3: World) hs h3 hb => clo_end (W3 := W3) HX.out HR.out hs h3 hb)
       clear hr9 HR
       go_wp2_with fail
       refine bodyPost_ret (v := .agg #[.string xo, .int .i64 xk, .int .i64 xn, .string xs, .int .i64 xv, .int .i64 xc, .slice av l.length cv]) (by simp [results,Tryz.results167,go_sem,r0,r1,r2,r3,r4,r5,r6]) rfl (HE.out _ (by simp) (fun q hq => nheap_set7 hq _ _ _ _ _ _ _ _) (nbelow_set7 (Nat.le_refl _) (Below.refl _ _) _ _ _ _ _ _ _))
  · obtain ⟨p,hp⟩: ∃ p,p = w5.heap.size := ⟨_,rfl⟩
    have hO := own_old HB0.out HN0.out HR0.out HZ0.out hz5 (KeepW.bel (W0 := W0) (W := w6) (by repeat (first | with_reducible exact KR.out | with_reducible refine KeepW.drew ?_ | with_reducible refine KeepW.alloc ?_ _ | with_reducible refine KeepW.on ?_ (by with_reducible assumption)))) hy6
    rw [<- hp] at hO ⊢
    clear hp
    refine Rw.to_letter hO ?_
    clear hO
    intro W1 hO
    have z6: W1.cell? ⟨w.heap.size,6,none⟩ = some (.slice xa l.length xp) := by rw [cell_of_row _ _ _ _ _ _ hO.nb]; rfl
    have HCl: Hid (ClI n l w p xo xk xn xs xv xc xa xp W1 (.slice none 0 0) 0 []) := ClI.zero hO
    clear hO
    go_wp2_with fail
    go_loopw [20] (fun i wr => ∃ (j: Nat) (v: Value) (l': List NL),j <= l.length /\ i = .int .i64 (j: Int) /\ Hid (ClI n l w p xo xk xn xs xv xc xa xp wr v j l')) (fun i _ => l.length - (intOf i).toNat)
    case atStart => exact ⟨0,_,[],Nat.zero_le _,rfl,HCl⟩
    case round =>
     obtain ⟨j,v,l',hj,rfl,HR⟩ := hrel
     have hlp := HR.out.lt
     by_cases hlt: j < l.length
     · obtain ⟨b,o,k,rfl,hb,hx,hc⟩ := (HS.out.below HR.out.o.bel).at hlt
       have HXk := Rw.dh hx
       have HKk := Rw.dh ((HK.out k (List.mem_of_getElem? hx)).on HR.out.o.bel)
       have HDk := Rw.dh (HD.out k (List.mem_of_getElem? hx))
       have HOk := Rw.dh (HO.out k (List.mem_of_getElem? hx))
       have c0: wr.cell? ⟨b,o + j * 7,none⟩ = some (.string k.op) := hc 0 _ rfl
       have c1: wr.cell? ⟨b,o + j * 7 + 1,none⟩ = some (.int .i64 k.vk) := hc 1 _ rfl
       have c2: wr.cell? ⟨b,o + j * 7 + 2,none⟩ = some (.int .i64 k.vn) := hc 2 _ rfl
       have c3: wr.cell? ⟨b,o + j * 7 + 3,none⟩ = some (.string k.vs) := hc 3 _ rfl
       have c4: wr.cell? ⟨b,o + j * 7 + 4,none⟩ = some (.int .i64 k.var) := hc 4 _ rfl
       have c5: wr.cell? ⟨b,o + j * 7 + 5,none⟩ = some (.int .i64 k.col) := hc 5 _ rfl
       have c6: wr.cell? ⟨b,o + j * 7 + 6,none⟩ = some (.slice k.a k.kids.length k.c) := hc 6 _ rfl
       clear hc hx z6
       go_wp2_with fail
       refine Rw.to_letter (F := fun V => Below wr.heap.size wr V /\ V.heap[wr.heap.size]? = some (.cells (nC k).toArray 44 (0,0))) ⟨Rw.below_alloc _ _,Rw.heap_new _ _⟩ ?_
       rintro V ⟨hV,hkb⟩
       have HRV := Rw.dh (HR.out.on hV)
       have HKV := Rw.dh (HKk.out.on hV)
       have KS: Hid (∀ W',Below V.heap.size V W' -> (fun w' => w'.cell? ⟨p,6,none⟩ = some v /\ w'.cell? ⟨wr.heap.size,0,none⟩ = some (.string k.op) /\ w'.cell? ⟨wr.heap.size,1,none⟩ = some (.int .i64 k.vk) /\ w'.cell? ⟨wr.heap.size,2,none⟩ = some (.int .i64 k.vn) /\ w'.cell? ⟨wr.heap.size,3,none⟩ = some (.string k.vs) /\ w'.cell? ⟨wr.heap.size,4,none⟩ = some (.int .i64 k.var) /\ w'.cell? ⟨wr.heap.size,5,none⟩ = some (.int .i64 k.col) /\ w'.cell? ⟨wr.heap.size,6,none⟩ = some (.slice k.a k.kids.length k.c)) W') := fun W' hb => by
        have g1 := (hb.block _ (Array.getElem?_eq_some_iff.1 hkb).1).trans hkb
        have g2 := (hb.block _ HRV.out.lt).trans HRV.out.o.box
        refine ⟨?_, ?_, ?_, ?_, ?_, ?_, ?_, ?_⟩
        · rw [cell_of_row _ _ _ _ _ _ g2]; rfl
        all_goals (rw [cell_of_row _ _ _ _ _ _ g1]; rfl)
       have hHeld: (fun w' => w'.cell? ⟨p,6,none⟩ = some v /\ w'.cell? ⟨wr.heap.size,0,none⟩ = some (.string k.op) /\ w'.cell? ⟨wr.heap.size,1,none⟩ = some (.int .i64 k.vk) /\ w'.cell? ⟨wr.heap.size,2,none⟩ = some (.int .i64 k.vn) /\ w'.cell? ⟨wr.heap.size,3,none⟩ = some (.string k.vs) /\ w'.cell? ⟨wr.heap.size,4,none⟩ = some (.int .i64 k.var) /\ w'.cell? ⟨wr.heap.size,5,none⟩ = some (.int .i64 k.col) /\ w'.cell? ⟨wr.heap.size,6,none⟩ = some (.slice k.a k.kids.length k.c)) V.drew := KS.out _ (Below.refl _ V).drew
       have HVk := Rw.dh (Array.getElem?_eq_some_iff.1 hkb).1
       have HKb := Rw.dh hkb
       have HVv: Hid (∀ q,v.ownBlock = some q -> wr.heap.size <= q -> False) := fun q hq h => by have := (HR.out.own.lt q hq).2; omega
       clear c0 c1 c2 c3 c4 c5 c6 hb hV hkb HR HKk hlp
       refine HeT.begin_ (fun w' => w'.cell? ⟨p,6,none⟩ = some v /\ w'.cell? ⟨wr.heap.size,0,none⟩ = some (.string k.op) /\ w'.cell? ⟨wr.heap.size,1,none⟩ = some (.int .i64 k.vk) /\ w'.cell? ⟨wr.heap.size,2,none⟩ = some (.int .i64 k.vn) /\ w'.cell? ⟨wr.heap.size,3,none⟩ = some (.string k.vs) /\ w'.cell? ⟨wr.heap.size,4,none⟩ = some (.int .i64 k.var) /\ w'.cell? ⟨wr.heap.size,5,none⟩ = some (.int .i64 k.col) /\ w'.cell? ⟨wr.heap.size,6,none⟩ = some (.slice k.a k.kids.length k.c)) 7 (by kernel_rfl) ?_
       refine HeT.take (i := 0) (v := ?_) rfl (by kernel_rfl) (by kernel_rfl) (by kernel_rfl) (by kernel_rfl) (by decide) (fun _ _ _ h => h) (Or.inl ⟨by rfl, ?_⟩) hHeld ?_
       rotate_left
       · intro w' hSw
         obtain ⟨s0,t0,t1,t2,t3,t4,t5,t6⟩ := hSw
         go_simp
         (try with_reducible rfl)
       (try simp only [Act.put,List.getElem_toArray,List.getElem_cons_succ,List.getElem_cons_zero,HeT.pT])
       refine HeT.take (i := 1) (v := ?_) rfl (by kernel_rfl) (by kernel_rfl) (by kernel_rfl) (by kernel_rfl) (by decide) (fun _ _ _ h => h) (Or.inl ⟨by rfl, ?_⟩) hHeld ?_
       rotate_left
       · intro w' hSw
         obtain ⟨s0,t0,t1,t2,t3,t4,t5,t6⟩ := hSw
         go_simp
         (try with_reducible rfl)
       (try simp only [Act.put,List.getElem_toArray,List.getElem_cons_succ,List.getElem_cons_zero,HeT.pT])
       refine HeT.take (i := 2) (v := ?_) rfl (by kernel_rfl) (by kernel_rfl) (by kernel_rfl) (by kernel_rfl) (by decide) (fun _ _ _ h => h) (Or.inl ⟨by rfl, ?_⟩) hHeld ?_
       rotate_left
       · intro w' hSw
         obtain ⟨s0,t0,t1,t2,t3,t4,t5,t6⟩ := hSw
         go_simp
         (try with_reducible rfl)
       (try simp only [Act.put,List.getElem_toArray,List.getElem_cons_succ,List.getElem_cons_zero,HeT.pT])
       refine HeT.one (i := 3) (by kernel_rfl) rfl ?_
       intro K hK
       go_simp
       refine (IH.out k _ (HKV.out.on (Below.refl _ V).drew) HOk.out HDk.out).mono ?_
       rintro e w1 ⟨y,rfl,hL,hIy,hb1⟩
       have hb2: Below V.heap.size V w1 := (Below.refl _ V).drew.trans hb1
       refine hK _ _ (KS.out _ hb2) ?_
       have HB2 := Rw.dh hb2
       have HLy := Rw.dh hL
       have HIy: Hid (∀ m,InN m w1 y /\ OffN (fun b => V.heap.size <= b) m y) := hIy
       clear hb1 hb2 hL hIy
       unfold nV
       clear hK K
       (try simp only [Act.put,List.getElem_toArray,List.getElem_cons_succ,List.getElem_cons_zero,HeT.pT])
       refine HeT.one (i := 4) (by kernel_rfl) rfl ?_
       intro K hK
       go_simp
       have hbU := HB2.out.alloc HB2.out.size (.cells #[.string y.op, .int .i64 y.vk, .int .i64 y.vn, .string y.vs, .int .i64 y.var, .int .i64 y.col, .slice y.a y.kids.length y.c] 44)
       refine hK _ _ (KS.out _ hbU) ?_
       have HBU := Rw.dh hbU
       clear hbU
       clear hK K
       (try simp only [Act.put,List.getElem_toArray,List.getElem_cons_succ,List.getElem_cons_zero,HeT.pT])
       refine HeT.one (i := 5) (by kernel_rfl) rfl ?_
       intro K hK
       have hHU := HRV.out.on HBU.out
       refine step_at Tryz.underlying42 infoCN rfl (by decide) rfl (.tmp 25) (.tmp 28) rfl (p + 1) hHU.lt v j (Rw.flat nC l') (by simp [Act.eval]) hHU.own ⟨w1.heap.size,0,none⟩ 1 1 (nC y) (by simp [Act.eval]) rfl new_cells (nC_one _) (by unfold maxLen; omega) (by omega) ?_
       intro v2 W2 O2 G2 hv2
       obtain ⟨av,cv,rfl⟩ := Rw.owns_slice O2
       have hpU := hHU.lt
       have hnv := hHU.ne
       have hb2 := (G2.block p hpU hnv.symm).trans hHU.o.box
       have hkb2 := (G2.block wr.heap.size (by have := HBU.out.size; have := HVk.out; omega) (fun e => HVv.out _ e.symm (Nat.le_refl _))).trans ((HBU.out.block _ HVk.out).trans HKb.out)
       have HR2 := Rw.dh (HRV.out.step HXk.out HB2.out HLy.out HIy.out (Rw.below_alloc w1 _) (by rw [Rw.flat_append]; simpa [Rw.flat] using O2) G2 hv2)
       have y0: W2.cell? ⟨p,6,none⟩ = some v := by rw [cell_of_row _ _ _ _ _ _ hb2]; rfl
       have y1: W2.frozen? ⟨p,6,none⟩ = false := frozen_of_row _ _ _ _ _ hb2
       have y2 := (Array.getElem?_eq_some_iff.1 hb2).1
       have hS2: (fun w' => w'.cell? ⟨p,6,none⟩ = some v /\ w'.cell? ⟨wr.heap.size,0,none⟩ = some (.string k.op) /\ w'.cell? ⟨wr.heap.size,1,none⟩ = some (.int .i64 k.vk) /\ w'.cell? ⟨wr.heap.size,2,none⟩ = some (.int .i64 k.vn) /\ w'.cell? ⟨wr.heap.size,3,none⟩ = some (.string k.vs) /\ w'.cell? ⟨wr.heap.size,4,none⟩ = some (.int .i64 k.var) /\ w'.cell? ⟨wr.heap.size,5,none⟩ = some (.int .i64 k.col) /\ w'.cell? ⟨wr.heap.size,6,none⟩ = some (.slice k.a k.kids.length k.c)) W2 := ⟨y0,by rw [cell_of_row _ _ _ _ _ _ hkb2]; rfl,by rw [cell_of_row _ _ _ _ _ _ hkb2]; rfl,by rw [cell_of_row _ _ _ _ _ _ hkb2]; rfl,by rw [cell_of_row _ _ _ _ _ _ hkb2]; rfl,by rw [cell_of_row _ _ _ _ _ _ hkb2]; rfl,by rw [cell_of_row _ _ _ _ _ _ hkb2]; rfl,by rw [cell_of_row _ _ _ _ _ _ hkb2]; rfl⟩
       refine hK _ _ hS2 ?_
       clear O2 G2 hv2 hb2 hkb2 hpU hnv hHU
       clear hK K
       (try simp only [Act.put,List.getElem_toArray,List.getElem_cons_succ,List.getElem_cons_zero,HeT.pT])
       refine HeT.one (i := 6) (by kernel_rfl) rfl ?_
       intro K hK
       go_simp
       refine hK _ _ hS2 ?_
       clear hK K
       (try simp only [Act.put,List.getElem_toArray,List.getElem_cons_succ,List.getElem_cons_zero,HeT.pT])
       clear hS2 hHeld KS HRV
       refine HeT.rest2 (k := 7) rfl (by decide) (by kernel_rfl) ?_
       simp only [List.drop_succ_cons,List.drop_zero]
       go_wp2_with fail
       refine NoPanic.normal ?_
       go_wp2_with fail
       exact ⟨⟨j + 1,_,_,hlt,by go_num,HR2⟩,by simp [intOf]; omega⟩
     · have hjs: j = l.length := by omega
       subst hjs
       obtain ⟨av,cv,rfl⟩ := Rw.owns_slice HR.out.own
       obtain ⟨z0,z1,z2,z3,z4,z5,z7⟩ := obox HR.out.o.box
       obtain ⟨r0,r1,r2,r3,r4,r5,r6,rf,hr9⟩ := zbox HR.out.o.rb
       have hrl := (Array.getElem?_eq_some_iff.1 hr9).1
       have HE := Rw.dh (fun (W3: World) hs h3 hb => clo_end (W3 := W3) HX.out HR.out hs h3 hb)
       clear hr9 HR
       go_wp2_with fail
       refine bodyPost_ret (v := .agg #[.string xo, .int .i64 xk, .int .i64 xn, .string xs, .int .i64 xv, .int .i64 xc, .slice av l.length cv]) (by simp [results,Tryz.results167,go_sem,r0,r1,r2,r3,r4,r5,r6]) rfl (HE.out _ (by simp) (fun q hq => nheap_set7 hq _ _ _ _ _ _ _ _) (nbelow_set7 (Nat.le_refl _) (Below.refl _ _) _ _ _ _ _ _ _))
  · obtain ⟨p,hp⟩: ∃ p,p = W0.heap.size := ⟨_,rfl⟩
    have hO := own_old HB0.out HN0.out HR0.out HZ0.out (Nat.le_refl _) (KeepW.bel (W0 := W0) (W := w6) (by repeat (first | with_reducible exact KR.out | with_reducible refine KeepW.drew ?_ | with_reducible refine KeepW.alloc ?_ _ | with_reducible refine KeepW.on ?_ (by with_reducible assumption)))) hy6
    rw [<- hp] at hO ⊢
    clear hp
    refine Rw.to_letter hO ?_
    clear hO
    intro W1 hO
    have z6: W1.cell? ⟨w.heap.size,6,none⟩ = some (.slice xa l.length xp) := by rw [cell_of_row _ _ _ _ _ _ hO.nb]; rfl
    have HCl: Hid (ClI n l w p xo xk xn xs xv xc xa xp W1 (.slice none 0 0) 0 []) := ClI.zero hO
    clear hO
    go_wp2_with fail
    go_loopw [20] (fun i wr => ∃ (j: Nat) (v: Value) (l': List NL),j <= l.length /\ i = .int .i64 (j: Int) /\ Hid (ClI n l w p xo xk xn xs xv xc xa xp wr v j l')) (fun i _ => l.length - (intOf i).toNat)
    case atStart => exact ⟨0,_,[],Nat.zero_le _,rfl,HCl⟩
    case round =>
     obtain ⟨j,v,l',hj,rfl,HR⟩ := hrel
     have hlp := HR.out.lt
     by_cases hlt: j < l.length
     · obtain ⟨b,o,k,rfl,hb,hx,hc⟩ := (HS.out.below HR.out.o.bel).at hlt
       have HXk := Rw.dh hx
       have HKk := Rw.dh ((HK.out k (List.mem_of_getElem? hx)).on HR.out.o.bel)
       have HDk := Rw.dh (HD.out k (List.mem_of_getElem? hx))
       have HOk := Rw.dh (HO.out k (List.mem_of_getElem? hx))
       have c0: wr.cell? ⟨b,o + j * 7,none⟩ = some (.string k.op) := hc 0 _ rfl
       have c1: wr.cell? ⟨b,o + j * 7 + 1,none⟩ = some (.int .i64 k.vk) := hc 1 _ rfl
       have c2: wr.cell? ⟨b,o + j * 7 + 2,none⟩ = some (.int .i64 k.vn) := hc 2 _ rfl
       have c3: wr.cell? ⟨b,o + j * 7 + 3,none⟩ = some (.string k.vs) := hc 3 _ rfl
       have c4: wr.cell? ⟨b,o + j * 7 + 4,none⟩ = some (.int .i64 k.var) := hc 4 _ rfl
       have c5: wr.cell? ⟨b,o + j * 7 + 5,none⟩ = some (.int .i64 k.col) := hc 5 _ rfl
       have c6: wr.cell? ⟨b,o + j * 7 + 6,none⟩ = some (.slice k.a k.kids.length k.c) := hc 6 _ rfl
       clear hc hx z6
       go_wp2_with fail
       refine Rw.to_letter (F := fun V => Below wr.heap.size wr V /\ V.heap[wr.heap.size]? = some (.cells (nC k).toArray 44 (0,0))) ⟨Rw.below_alloc _ _,Rw.heap_new _ _⟩ ?_
       rintro V ⟨hV,hkb⟩
       have HRV := Rw.dh (HR.out.on hV)
       have HKV := Rw.dh (HKk.out.on hV)
       have KS: Hid (∀ W',Below V.heap.size V W' -> (fun w' => w'.cell? ⟨p,6,none⟩ = some v /\ w'.cell? ⟨wr.heap.size,0,none⟩ = some (.string k.op) /\ w'.cell? ⟨wr.heap.size,1,none⟩ = some (.int .i64 k.vk) /\ w'.cell? ⟨wr.heap.size,2,none⟩ = some (.int .i64 k.vn) /\ w'.cell? ⟨wr.heap.size,3,none⟩ = some (.string k.vs) /\ w'.cell? ⟨wr.heap.size,4,none⟩ = some (.int .i64 k.var) /\ w'.cell? ⟨wr.heap.size,5,none⟩ = some (.int .i64 k.col) /\ w'.cell? ⟨wr.heap.size,6,none⟩ = some (.slice k.a k.kids.length k.c)) W') := fun W' hb => by
        have g1 := (hb.block _ (Array.getElem?_eq_some_iff.1 hkb).1).trans hkb
        have g2 := (hb.block _ HRV.out.lt).trans HRV.out.o.box
        refine ⟨?_, ?_, ?_, ?_, ?_, ?_, ?_, ?_⟩
        · rw [cell_of_row _ _ _ _ _ _ g2]; rfl
        all_goals (rw [cell_of_row _ _ _ _ _ _ g1]; rfl)
       have hHeld: (fun w' => w'.cell? ⟨p,6,none⟩ = some v /\ w'.cell? ⟨wr.heap.size,0,none⟩ = some (.string k.op) /\ w'.cell? ⟨wr.heap.size,1,none⟩ = some (.int .i64 k.vk) /\ w'.cell? ⟨wr.heap.size,2,none⟩ = some (.int .i64 k.vn) /\ w'.cell? ⟨wr.heap.size,3,none⟩ = some (.string k.vs) /\ w'.cell? ⟨wr.heap.size,4,none⟩ = some (.int .i64 k.var) /\ w'.cell? ⟨wr.heap.size,5,none⟩ = some (.int .i64 k.col) /\ w'.cell? ⟨wr.heap.size,6,none⟩ = some (.slice k.a k.kids.length k.c)) V.drew := KS.out _ (Below.refl _ V).drew
       have HVk := Rw.dh (Array.getElem?_eq_some_iff.1 hkb).1
       have HKb := Rw.dh hkb
       have HVv: Hid (∀ q,v.ownBlock = some q -> wr.heap.size <= q -> False) := fun q hq h => by have := (HR.out.own.lt q hq).2; omega
       clear c0 c1 c2 c3 c4 c5 c6 hb hV hkb HR HKk hlp
       refine HeT.begin_ (fun w' => w'.cell? ⟨p,6,none⟩ = some v /\ w'.cell? ⟨wr.heap.size,0,none⟩ = some (.string k.op) /\ w'.cell? ⟨wr.heap.size,1,none⟩ = some (.int .i64 k.vk) /\ w'.cell? ⟨wr.heap.size,2,none⟩ = some (.int .i64 k.vn) /\ w'.cell? ⟨wr.heap.size,3,none⟩ = some (.string k.vs) /\ w'.cell? ⟨wr.heap.size,4,none⟩ = some (.int .i64 k.var) /\ w'.cell? ⟨wr.heap.size,5,none⟩ = some (.int .i64 k.col) /\ w'.cell? ⟨wr.heap.size,6,none⟩ = some (.slice k.a k.kids.length k.c)) 7 (by kernel_rfl) ?_
       refine HeT.take (i := 0) (v := ?_) rfl (by kernel_rfl) (by kernel_rfl) (by kernel_rfl) (by kernel_rfl) (by decide) (fun _ _ _ h => h) (Or.inl ⟨by rfl, ?_⟩) hHeld ?_
       rotate_left
       · intro w' hSw
         obtain ⟨s0,t0,t1,t2,t3,t4,t5,t6⟩ := hSw
         go_simp
         (try with_reducible rfl)
       (try simp only [Act.put,List.getElem_toArray,List.getElem_cons_succ,List.getElem_cons_zero,HeT.pT])
       refine HeT.take (i := 1) (v := ?_) rfl (by kernel_rfl) (by kernel_rfl) (by kernel_rfl) (by kernel_rfl) (by decide) (fun _ _ _ h => h) (Or.inl ⟨by rfl, ?_⟩) hHeld ?_
       rotate_left
       · intro w' hSw
         obtain ⟨s0,t0,t1,t2,t3,t4,t5,t6⟩ := hSw
         go_simp
         (try with_reducible rfl)
       (try simp only [Act.put,List.getElem_toArray,List.getElem_cons_succ,List.getElem_cons_zero,HeT.pT])
       refine HeT.take (i := 2) (v := ?_) rfl (by kernel_rfl) (by kernel_rfl) (by kernel_rfl) (by kernel_rfl) (by decide) (fun _ _ _ h => h) (Or.inl ⟨by rfl, ?_⟩) hHeld ?_
       rotate_left
       · intro w' hSw
         obtain ⟨s0,t0,t1,t2,t3,t4,t5,t6⟩ := hSw
         go_simp
         (try with_reducible rfl)
       (try simp only [Act.put,List.getElem_toArray,List.getElem_cons_succ,List.getElem_cons_zero,HeT.pT])
       refine HeT.one (i := 3) (by kernel_rfl) rfl ?_
       intro K hK
       go_simp
       refine (IH.out k _ (HKV.out.on (Below.refl _ V).drew) HOk.out HDk.out).mono ?_
       rintro e w1 ⟨y,rfl,hL,hIy,hb1⟩
       have hb2: Below V.heap.size V w1 := (Below.refl _ V).drew.trans hb1
       refine hK _ _ (KS.out _ hb2) ?_
       have HB2 := Rw.dh hb2
       have HLy := Rw.dh hL
       have HIy: Hid (∀ m,InN m w1 y /\ OffN (fun b => V.heap.size <= b) m y) := hIy
       clear hb1 hb2 hL hIy
       unfold nV
       clear hK K
       (try simp only [Act.put,List.getElem_toArray,List.getElem_cons_succ,List.getElem_cons_zero,HeT.pT])
       refine HeT.one (i := 4) (by kernel_rfl) rfl ?_
       intro K hK
       go_simp
       have hbU := HB2.out.alloc HB2.out.size (.cells #[.string y.op, .int .i64 y.vk, .int .i64 y.vn, .string y.vs, .int .i64 y.var, .int .i64 y.col, .slice y.a y.kids.length y.c] 44)
       refine hK _ _ (KS.out _ hbU) ?_
       have HBU := Rw.dh hbU
       clear hbU
       clear hK K
       (try simp only [Act.put,List.getElem_toArray,List.getElem_cons_succ,List.getElem_cons_zero,HeT.pT])
       refine HeT.one (i := 5) (by kernel_rfl) rfl ?_
       intro K hK
       have hHU := HRV.out.on HBU.out
       refine step_at Tryz.underlying42 infoCN rfl (by decide) rfl (.tmp 25) (.tmp 28) rfl (p + 1) hHU.lt v j (Rw.flat nC l') (by simp [Act.eval]) hHU.own ⟨w1.heap.size,0,none⟩ 1 1 (nC y) (by simp [Act.eval]) rfl new_cells (nC_one _) (by unfold maxLen; omega) (by omega) ?_
       intro v2 W2 O2 G2 hv2
       obtain ⟨av,cv,rfl⟩ := Rw.owns_slice O2
       have hpU := hHU.lt
       have hnv := hHU.ne
       have hb2 := (G2.block p hpU hnv.symm).trans hHU.o.box
       have hkb2 := (G2.block wr.heap.size (by have := HBU.out.size; have := HVk.out; omega) (fun e => HVv.out _ e.symm (Nat.le_refl _))).trans ((HBU.out.block _ HVk.out).trans HKb.out)
       have HR2 := Rw.dh (HRV.out.step HXk.out HB2.out HLy.out HIy.out (Rw.below_alloc w1 _) (by rw [Rw.flat_append]; simpa [Rw.flat] using O2) G2 hv2)
       have y0: W2.cell? ⟨p,6,none⟩ = some v := by rw [cell_of_row _ _ _ _ _ _ hb2]; rfl
       have y1: W2.frozen? ⟨p,6,none⟩ = false := frozen_of_row _ _ _ _ _ hb2
       have y2 := (Array.getElem?_eq_some_iff.1 hb2).1
       have hS2: (fun w' => w'.cell? ⟨p,6,none⟩ = some v /\ w'.cell? ⟨wr.heap.size,0,none⟩ = some (.string k.op) /\ w'.cell? ⟨wr.heap.size,1,none⟩ = some (.int .i64 k.vk) /\ w'.cell? ⟨wr.heap.size,2,none⟩ = some (.int .i64 k.vn) /\ w'.cell? ⟨wr.heap.size,3,none⟩ = some (.string k.vs) /\ w'.cell? ⟨wr.heap.size,4,none⟩ = some (.int .i64 k.var) /\ w'.cell? ⟨wr.heap.size,5,none⟩ = some (.int .i64 k.col) /\ w'.cell? ⟨wr.heap.size,6,none⟩ = some (.slice k.a k.kids.length k.c)) W2 := ⟨y0,by rw [cell_of_row _ _ _ _ _ _ hkb2]; rfl,by rw [cell_of_row _ _ _ _ _ _ hkb2]; rfl,by rw [cell_of_row _ _ _ _ _ _ hkb2]; rfl,by rw [cell_of_row _ _ _ _ _ _ hkb2]; rfl,by rw [cell_of_row _ _ _ _ _ _ hkb2]; rfl,by rw [cell_of_row _ _ _ _ _ _ hkb2]; rfl,by rw [cell_of_row _ _ _ _ _ _ hkb2]; rfl⟩
       refine hK _ _ hS2 ?_
       clear O2 G2 hv2 hb2 hkb2 hpU hnv hHU
       clear hK K
       (try simp only [Act.put,List.getElem_toArray,List.getElem_cons_succ,List.getElem_cons_zero,HeT.pT])
       refine HeT.one (i := 6) (by kernel_rfl) rfl ?_
       intro K hK
       go_simp
       refine hK _ _ hS2 ?_
       clear hK K
       (try simp only [Act.put,List.getElem_toArray,List.getElem_cons_succ,List.getElem_cons_zero,HeT.pT])
       clear hS2 hHeld KS HRV
       refine HeT.rest2 (k := 7) rfl (by decide) (by kernel_rfl) ?_
       simp only [List.drop_succ_cons,List.drop_zero]
       go_wp2_with fail
       refine NoPanic.normal ?_
       go_wp2_with fail
       exact ⟨⟨j + 1,_,_,hlt,by go_num,HR2⟩,by simp [intOf]; omega⟩
     · have hjs: j = l.length := by omega
       subst hjs
       obtain ⟨av,cv,rfl⟩ := Rw.owns_slice HR.out.own
       obtain ⟨z0,z1,z2,z3,z4,z5,z7⟩ := obox HR.out.o.box
       obtain ⟨r0,r1,r2,r3,r4,r5,r6,rf,hr9⟩ := zbox HR.out.o.rb
       have hrl := (Array.getElem?_eq_some_iff.1 hr9).1
       have HE := Rw.dh (fun (W3: World) hs h3 hb => clo_end (W3 := W3) HX.out HR.out hs h3 hb)
       clear hr9 HR
       go_wp2_with fail
       refine bodyPost_ret (v := .agg #[.string xo, .int .i64 xk, .int .i64 xn, .string xs, .int .i64 xv, .int .i64 xc, .slice av l.length cv]) (by simp [results,Tryz.results167,go_sem,r0,r1,r2,r3,r4,r5,r6]) rfl (HE.out _ (by simp) (fun q hq => nheap_set7 hq _ _ _ _ _ _ _ _) (nbelow_set7 (Nat.le_refl _) (Below.refl _ _) _ _ _ _ _ _ _))
end Go.Proofs.YteibhbnlcpejpaaGreat
