import Derived.Test.YtdnkbdjhccckhaaGreatMAL
import Derived.Deep.OwnRows
set_option maxRecDepth 100000
set_option maxHeartbeats 4000000
namespace Go.Proofs.YtdnkbdjhccckhaaGreat.L4
open Go.RowKit
structure BelowW (W: World) where
 w: World
 below: Below W.heap.size W w
theorem wp_region_below {P: Program} {id: Nat} {Q: Exit -> Act -> World -> Prop} {a: Act} {W: World} {l: List Oper} (hm: P.follows .mixedOrders = true) (hB: Region.lexB .any l.toArray = true)
 (h: Nonempty (BelowW W) -> wpQuiet P l.toArray (fun w' => ∃ q: BelowW W,w' = q.w) (fun a' => ∀ w',(∃ q: BelowW W,w' = q.w) -> Q .normal a' w') l a): (Code.region id l.toArray true).wp P Q a W :=
 wp_region_quiet (C := fun w' => ∃ q: BelowW W,w' = q.w) hm hB ⟨⟨{ W with drawn := W.drawn + 1 },(Below.refl _ _).drew⟩,rfl⟩ (by simpa using h ⟨⟨W,Below.refl _ _⟩⟩)
theorem quiet_of_below {P: Program} {f: FuncId} {args: Array Value} {W: World} {q: BelowW W} {v: Value} (h: Calls P f args q.w fun e w' => e = .returned v /\ Below q.w.heap.size q.w w') :
 Calls P f args q.w fun e w'' => e = .returned v /\ ∃ q': BelowW W,w'' = q'.w :=
 h.mono fun _ w' ⟨he,hb⟩ => ⟨he,⟨w',below_on q.below hb⟩,rfl⟩
def arV (p: Nat): Value := .pointer (some ⟨p,0,none⟩)
def mayB (q: Int): Bool := decide (0 <= q) && decide (q <= 4096)
theorem mayBe_walk (q: Int) (w: World): Calls Tryz.prog 19 #[.int .i64 q] w fun e w' => e = .returned (.bool (mayB q)) /\ w' = w := by
 go_enter Tryz.func19,Tryz.ntmps19
 unfold mayB
 by_cases h: 0 <= q <;> by_cases h': q <= 4096
 all_goals
  go_wp2
  go_ret
  refine ⟨?_,rfl⟩
  simp [*]
  try omega
def Fresh (q: Nat) (w: World) (s: Ar) (w': World): Prop := ArP s w' /\ s.abs = ⟨[],[],q⟩ /\ Below w.heap.size w w' /\ ∀ k,s.own k -> w.heap.size <= k
theorem new_ok (q: Nat) (hq: q <= 4096) (w: World): Calls Tryz.prog 6 #[.int .i64 q] w fun e w' => ∃ s,e = .returned (.tuple #[arV s.p, .int .i64 0]) /\ Fresh q w s w' := by
 go_enter Tryz.func6,Tryz.ntmps6
 have hm: mayB q = true := by unfold mayB; simp; omega
 go_wp2_with (go_at_call 19; refine (mayBe_walk _ _).mono ?_; rintro e w' ⟨rfl,rfl⟩; rw [hm])
 go_ret2
 refine ⟨⟨_, .slice none 0 0, .slice none 0 0,[],[],q⟩,rfl, ?_,rfl,below_alloc _ _, ?_⟩
 · refine ⟨heap_alloc_new _ _,World.ownsRow_nil _ _ _ _,World.ownsRow_nil _ _ _ _,by simp⟩
 · rintro k (rfl | h | h)
   · exact Nat.le_refl _
   · simp [Value.ownBlock] at h
   · simp [Value.ownBlock] at h
theorem ArP.page {s: Ar} {W: World} (h: ArP s W) {m: Nat} {x: Option (Nat × List UInt8)} (hx: s.pg[m]? = some x): ∃ g cap,s.vp = .slice (some ⟨g,0,none⟩) s.pg.length cap /\ g < W.heap.size /\ m < s.pg.length /\ s.pg.length <= cap /\ W.cell? ⟨g,m,none⟩ = some (pgv x) /\ W.frozen? ⟨g,m,none⟩ = false := by
 have hm := (List.getElem?_eq_some_iff.1 hx).1
 have hr := h.rp
 obtain ⟨g,cap,hv,_,hg⟩ := hr.form (by omega)
 obtain ⟨_,cap',hv',_,hc⟩ := owns_slice hr
 rw [hv] at hr
 rw [hv] at hv'
 cases hv'
 refine ⟨g,cap,hv,hg,hm,hc, ?_,hr.frozenAt m⟩
 rw [hr.cellAt m (by omega),List.getElem?_map,hx]; rfl
theorem find_has {s: Ar} {w: World} (h: ArP s w) (hl: s.pg.length <= 4096) {m: Nat} {b: Nat} {c: List UInt8} (hx: s.pg[m]? = some (some (b,c))): Calls Tryz.prog 58 #[arV s.p, .int .i64 ((m: Int) + 1)] w fun e w' => e = .returned (.int .i64 0) /\ w' = w := by
 obtain ⟨g,cap,hv,hg,hm,hc,hcell,hfz⟩ := h.page hx
 obtain ⟨c0,c1,c2,hp,hf⟩ := h.cell
 rw [hv] at c0
 have hcell': w.cell? ⟨g,m,none⟩ = some (.pointer (some ⟨b,0,none⟩)) := hcell
 clear hv hcell h hx
 generalize s.pg.length = len at *
 generalize s.p = p at *
 unfold arV
 have hw: wrap64 (m: Int) = m := by unfold wrap64; omega
 go_enter Tryz.func58,Tryz.ntmps58
 go_wp2
 go_ret
 exact ⟨rfl,rfl⟩
theorem find_none {s: Ar} {w: World} (h: ArP s w) (hl: s.pg.length <= 4096) {m: Nat} (hx: s.pg[m]? = some none): Calls Tryz.prog 58 #[arV s.p, .int .i64 ((m: Int) + 1)] w fun e w' => e = .returned (.int .i64 2) /\ w' = w := by
 obtain ⟨g,cap,hv,hg,hm,hc,hcell,hfz⟩ := h.page hx
 obtain ⟨c0,c1,c2,hp,hf⟩ := h.cell
 rw [hv] at c0
 have hcell': w.cell? ⟨g,m,none⟩ = some (.pointer none) := hcell
 clear hv hcell h hx
 generalize s.pg.length = len at *
 generalize s.p = p at *
 unfold arV
 have hw: wrap64 (m: Int) = m := by unfold wrap64; omega
 go_enter Tryz.func58,Tryz.ntmps58
 go_wp2
 go_ret
 exact ⟨rfl,rfl⟩
theorem find_out {s: Ar} {w: World} (h: ArP s w) (n: Int) (hn: n < 1 \/ (s.pg.length: Int) < n): Calls Tryz.prog 58 #[arV s.p, .int .i64 n] w fun e w' => e = .returned (.int .i64 2) /\ w' = w := by
 obtain ⟨c0,c1,c2,hp,hf⟩ := h.cell
 obtain ⟨ad,cap,hv,_⟩ := owns_slice h.rp
 rw [hv] at c0
 clear hv h
 generalize s.pg.length = len at *
 generalize s.p = p at *
 unfold arV
 by_cases h1: n < 1
 · go_enter Tryz.func58,Tryz.ntmps58
   go_wp2
   go_ret
   exact ⟨rfl,rfl⟩
 · have h2: (len: Int) < n := by omega
   go_enter Tryz.func58,Tryz.ntmps58
   go_wp2
   go_ret
   exact ⟨rfl,rfl⟩
theorem find_walk {s: Ar} {w: World} (h: ArP s w) (hl: s.pg.length <= 4096) (n: Int): Calls Tryz.prog 58 #[arV s.p, .int .i64 n] w fun e w' => e = .returned (.int .i64 (if (s.abs.at n).isSome then 0 else 2)) /\ w' = w := by
 by_cases h1: n < 1 \/ (s.pg.length: Int) < n
 · have: s.abs.at n = none := by
    unfold Abs.at Ar.abs
    split
    · rw [List.getElem?_eq_none (by simp; omega)]; rfl
    · rfl
   rw [this]
   exact find_out h n h1
 · obtain ⟨m,rfl⟩: ∃ m: Nat,n = (m: Int) + 1 := ⟨(n - 1).toNat,by omega⟩
   have hm: m < s.pg.length := by omega
   have ha: s.abs.at ((m: Int) + 1) = (s.pg[m].map Prod.snd) := by
    unfold Abs.at Ar.abs
    rw [if_pos (by omega),show ((m: Int) + 1).toNat - 1 = m by omega]
    simp [List.getElem?_eq_getElem hm]
   rw [ha]
   have hx: s.pg[m]? = some s.pg[m] := List.getElem?_eq_getElem hm
   rcases hy: s.pg[m] with _ | ⟨b,c⟩
   · rw [hy] at hx; exact find_none h hl hx
   · rw [hy] at hx; exact find_has h hl hx
theorem owns_ints {s: Ar} {W: World} (h: ArP s W): (∃ ap cp,s.vp = .slice ap s.pg.length cp) /\ ∃ af cf,s.vf = .slice af s.fr.length cf := by
 obtain ⟨a,c,e,_⟩ := owns_slice h.rp
 obtain ⟨a',c',e',_⟩ := owns_slice h.rf
 exact ⟨⟨a,c,e⟩,a',c',e'⟩
theorem used_walk {s: Ar} {w: World} (h: ArP s w) (ho: s.abs.Ok): Calls Tryz.prog 54 #[arV s.p] w fun e w' => e = .returned (nv s.abs.used) /\ Below w.heap.size w w' := by
 have h1 := ho.le
 have h2 := ho.small
 obtain ⟨c0,c1,c2,hp,hf⟩ := h.cell
 obtain ⟨⟨ap,cp,e1⟩,af,cf,e2⟩ := owns_ints h
 have hu: nv s.abs.used = .int .i64 ((s.pg.length: Int) - s.fr.length) := by
  unfold Abs.used nv
  simp [Ar.abs] at h1 h2 ⊢
  omega
 rw [hu]
 have h1': s.fr.length <= s.pg.length := by simpa [Ar.abs] using h1
 have h2': s.pg.length <= 4096 := by simpa [Ar.abs] using h2
 rw [e1] at c0
 rw [e2] at c1
 clear hu e1 e2 h h1 h2 ho
 generalize s.pg.length = l1 at *
 generalize s.fr.length = l2 at *
 generalize s.p = p at *
 unfold arV
 have hw: IntKind.i64.wrap ((l1: Int) - l2) = (l1: Int) - l2 := wrap_small _ (by omega) (by omega)
 go_enter Tryz.func54,Tryz.ntmps54
 go_wp2
 go_quiet (fail)
 go_wp2
 go_ret
 exact ⟨rfl,below_drewN (Below.refl _ _) _⟩
theorem left_walk {s: Ar} {w: World} (h: ArP s w) (ho: s.abs.Ok): Calls Tryz.prog 25 #[arV s.p] w fun e w' => e = .returned (nv s.abs.left) /\ Below w.heap.size w w' := by
 have h1 := ho.le
 have h2 := ho.small
 have h3 := ho.quota
 have hq: s.abs.q = s.q := rfl
 have HU: ∀ q: BelowW w,Calls Tryz.prog 54 #[arV s.p] q.w fun e w' => e = .returned (nv s.abs.used) /\ Below q.w.heap.size q.w w' := fun q => used_walk (arSt.below h q.below) ho
 have c2: ∀ q: BelowW w,q.w.cell? ⟨s.p,2,none⟩ = some (nv s.q) := fun q => (arSt.below (s := s) h q.below: ArP s q.w).cell.2.2.1
 have hu: s.abs.used <= 4096 := by unfold Abs.used; omega
 have hleft: nv s.abs.left = .int .i64 (if (s.q: Int) - (s.abs.used: Int) < 0 then 0 else (s.q: Int) - (s.abs.used: Int)) := by
  unfold Abs.left nv
  congr 1
  rw [hq]
  split <;> omega
 rw [hleft]
 rw [hq] at h3
 clear hleft hq h1 h2 h ho
 generalize s.abs.used = u at *
 generalize s.p = p at *
 generalize s.q = q0 at *
 unfold arV nv at *
 have hw: IntKind.i64.wrap ((q0: Int) - u) = (q0: Int) - u := by rw [IntKind.wrap_i64]; omega
 go_enter Tryz.func25,Tryz.ntmps25
 go_wp2
 refine wp_region_below (by kernel_rfl) (by kernel_rfl) (fun _ => ?_)
 repeat (go_big_quiet_step (first | (go_at_call 54; exact quiet_of_below (HU _))))
 refine wpQuiet_nil ?_
 rintro _ ⟨q,rfl⟩
 have HB: Hid _ := q.below
 clear HU c2
 go_wp2
 all_goals
  go_ret
  exact ⟨rfl,HB.out⟩
theorem limit_no {p: Nat} {n: Int} (hm: mayB n = false) (w: World): Calls Tryz.prog 29 #[arV p, .int .i64 n] w fun e w' => e = .returned (.int .i64 15) /\ w' = w := by
 unfold arV
 go_enter Tryz.func29,Tryz.ntmps29
 go_wp2_with (go_at_call 19; refine (mayBe_walk _ _).mono ?_; rintro e w' ⟨rfl,rfl⟩; rw [hm])
 go_ret
 exact ⟨rfl,rfl⟩
theorem limit_ok {s: Ar} {w: World} (h: ArP s w) (n: Nat) (hn: n <= 4096): Calls Tryz.prog 29 #[arV s.p, .int .i64 n] w fun e w' => e = .returned (.int .i64 0) /\ Goes s w { s.abs with q := n } w' := by
 have hm: mayB n = true := by unfold mayB; simp; omega
 have HG: Hid _ := h.setq n
 obtain ⟨c0,c1,c2,hp,hf⟩ := h.cell
 clear h
 unfold arV
 go_enter Tryz.func29,Tryz.ntmps29
 go_wp2_with (go_at_call 19; refine (mayBe_walk _ _).mono ?_; rintro e w' ⟨rfl,rfl⟩; rw [hm])
 go_ret
 exact ⟨rfl,_,HG.out.1,rfl,rfl,HG.out.2⟩
theorem owns_cut {W: World} {b: Nat} {e: TypeId} {g n cap: Nat} {xs: List Value} (h: W.ownsRow b e 1 (.slice (some ⟨g,0,none⟩) n cap) n xs) (m: Nat) (hm: m <= n): W.ownsRow b e 1 (.slice (some ⟨g,0,none⟩) m cap) m (xs.take m) := by
 have hl := h.1
 rcases h.2 with ⟨h',_⟩ | ⟨g',cap',cur,h',hb,hg,hnc,hcm,hcs,htake⟩
 · simp at h'
 · simp only [Value.slice.injEq,Option.some.injEq,Addr.mk.injEq,and_true,true_and] at h'
   obtain ⟨rfl,rfl⟩ := h'
   refine ⟨by simp; omega, .inr ⟨g,cap,cur,rfl,hb,hg,by omega,hcm,hcs, ?_⟩⟩
   rw [<- htake,List.take_take]
   congr 1
   omega
theorem append_pp {ops: Array Oper} {rest: List Oper} {o: Oper} {a: Act} {Q: Exit -> Act -> World -> Prop} {W1: World} (hgd: o.guard = none) (s x: Operand) (ho: o.op = .call { callee := .builtin .append,args := #[s,x],argTypes := #[54,54] })
 (v: Value) (n: Nat) (xs: List Value) (hs: a.eval s = v) (h: W1.ownsRow 0 107 1 v n xs) (hl: n <= 1000000) (ad: Nat) (u: Value) (hu: u.oneCell' = true) (cap: Nat) (hx: a.eval x = .slice (some ⟨ad,0,none⟩) 1 cap) (hc: W1.cell? ⟨ad,0,none⟩ = some u)
 (hK: ∀ g cap W',W'.ownsRow 0 107 1 (.slice (some ⟨g,0,none⟩) (n + 1) cap) (n + 1) (xs ++ [u]) -> W1.grownBy W' v.ownBlock -> (v.ownBlock = some g \/ g = W1.heap.size) -> wpList Tryz.prog ops Q rest (a.put o.dst (.slice (some ⟨g,0,none⟩) (n + 1) cap)) W'): wpList Tryz.prog ops Q (o :: rest) a W1 := by
 obtain ⟨i,hi,hz⟩: ∃ i,Tryz.prog.info? 107 = some i /\ (i.zero,i.size,i.bytes) = (some (.pointer none),1,8) :=
  Option.map_eq_some_iff.1 (show (Tryz.prog.info? 107).map (fun i => (i.zero,i.size,i.bytes)) = some (some (.pointer none),1,8) by kernel_rfl)
 simp only [Prod.mk.injEq] at hz
 obtain ⟨h1,h2,h3⟩ := hz
 refine wpList_append_lies W1 hgd s x 54 ho 0 107 i _ 1 8 Tryz.underlying54 hi h1 h2 h3 rfl (by decide) v n xs hs h ⟨ad,0,none⟩ 1 cap [u] hx rfl (fun j y hj => ?_) (fun y hy => ?_) (by decide) (by unfold maxLen; omega) (by omega) (Nat.zero_le _) _ rfl (fun g cap W' h4 h5 h6 _ => hK g cap W' h4 h5 h6)
 · cases j with
   | zero => simp at hj; subst hj; exact hc
   | succ j => simp at hj
 · simp at hy; subst hy; exact hu
theorem append_int {ops: Array Oper} {rest: List Oper} {o: Oper} {a: Act} {Q: Exit -> Act -> World -> Prop} {W1: World} (base: Nat) (hbase: base <= W1.heap.size) (hgd: o.guard = none) (s x: Operand) (ho: o.op = .call { callee := .builtin .append,args := #[s,x],argTypes := #[55,55] })
 (v: Value) (n: Nat) (xs: List Value) (hs: a.eval s = v) (h: W1.ownsRow base 3 1 v n xs) (hl: n <= 1000000) (ad: Nat) (u: Value) (hu: u.oneCell' = true) (cap: Nat) (hx: a.eval x = .slice (some ⟨ad,0,none⟩) 1 cap) (hc: W1.cell? ⟨ad,0,none⟩ = some u)
 (hK: ∀ g cap W',W'.ownsRow base 3 1 (.slice (some ⟨g,0,none⟩) (n + 1) cap) (n + 1) (xs ++ [u]) -> W1.grownBy W' v.ownBlock -> (v.ownBlock = some g \/ g = W1.heap.size) -> wpList Tryz.prog ops Q rest (a.put o.dst (.slice (some ⟨g,0,none⟩) (n + 1) cap)) W'): wpList Tryz.prog ops Q (o :: rest) a W1 := by
 obtain ⟨i,hi,hz⟩: ∃ i,Tryz.prog.info? 3 = some i /\ (i.zero,i.size,i.bytes) = (some (.int .i64 0),1,8) :=
  Option.map_eq_some_iff.1 (show (Tryz.prog.info? 3).map (fun i => (i.zero,i.size,i.bytes)) = some (some (.int .i64 0),1,8) by kernel_rfl)
 simp only [Prod.mk.injEq] at hz
 obtain ⟨h1,h2,h3⟩ := hz
 refine wpList_append_lies W1 hgd s x 55 ho base 3 i _ 1 8 Tryz.underlying55 hi h1 h2 h3 rfl (by decide) v n xs hs h ⟨ad,0,none⟩ 1 cap [u] hx rfl (fun j y hj => ?_) (fun y hy => ?_) (by decide) (by unfold maxLen; omega) (by omega) hbase _ rfl (fun g cap W' h4 h5 h6 _ => hK g cap W' h4 h5 h6)
 · cases j with
   | zero => simp at hj; subst hj; exact hc
   | succ j => simp at hj
 · simp at hy; subst hy; exact hu
theorem ArP.rows {s: Ar} {w w': World} {r: Option Nat} (h: ArP s w) (hg: w.grownBy w' r) (hr: r ≠ some s.p): w'.cell? ⟨s.p,0,none⟩ = some s.vp /\ w'.cell? ⟨s.p,1,none⟩ = some s.vf /\ s.p < w'.heap.size /\ ∀ j,w'.frozen? ⟨s.p,j,none⟩ = false := by
 obtain ⟨c0,c1,c2,hp,hfz⟩ := h.cell
 refine ⟨?_, ?_,Nat.lt_of_lt_of_le hp hg.size,fun j => ?_⟩
 · rw [hg.cell_far _ hp (fun e => hr e.symm)]; exact c0
 · rw [hg.cell_far _ hp (fun e => hr e.symm)]; exact c1
 · rw [hg.frozen_far _ hp (fun e => hr e.symm)]; exact hfz j
theorem take_new {s: Ar} {w: World} (h: ArP s w) (hf: s.fr = []) (hl: s.pg.length <= 4096): Calls Tryz.prog 77 #[arV s.p] w fun e w' => e = .returned (nv (s.pg.length + 1)) /\ ∃ s',ArP s' w' /\ s'.p = s.p /\ s'.pg = s.pg ++ [none] /\ s'.fr = s.fr /\ s'.q = s.q /\ Moves arSt s s' w w' := by
 obtain ⟨⟨ap,cp,e1⟩,af,cf,e2⟩ := owns_ints h
 obtain ⟨c0,c1,c2,hp,hfz⟩ := h.cell
 have h1: ArP s (w.alloc (.cells #[.pointer none] 107)) := arSt.below h (below_alloc _ _)
 have HM: Hid (Moves arSt s s w (w.alloc (.cells #[.pointer none] 107))) := Moves.below (below_alloc _ _)
 have HP: Hid (ArP s (w.alloc (.cells #[.pointer none] 107))) := h1
 have HR: Hid (World.ownsRow (w.alloc (.cells #[.pointer none] 107)) 0 107 1 (.slice ap s.pg.length cp) s.pg.length (s.pg.map pgv)) := by rw [<- e1]; exact h1.rp
 rw [e1] at c0
 rw [hf] at e2
 rw [e2] at c1
 have E1: Hid (s.vp = .slice ap s.pg.length cp) := e1
 clear e1 e2 h h1
 have hne: s.vp.ownBlock ≠ some s.p := fun e => (HP.out.rp_ne e).1 rfl
 have hn: (.slice ap s.pg.length cp: Value).ownBlock ≠ some s.p := by rw [<- E1.out]; exact hne
 unfold arV
 go_enter Tryz.func77,Tryz.ntmps77
 go_wp2_with (first
  | (at_builtin
     refine append_pp rfl _ _ rfl (.slice ap s.pg.length cp) s.pg.length (s.pg.map pgv) rfl HR.out (by omega) w.heap.size (.pointer none) rfl _ rfl (by simp [go_sem]) ?_
     intro g cap W' hown hg hat
     have HG: Hid (World.grownBy (w.alloc (.cells #[.pointer none] 107)) W' s.vp.ownBlock) := by rw [E1.out]; exact hg
     obtain ⟨d0,d1,hp',hfz'⟩ := HP.out.rows HG.out hne
     have HA: Hid (s.vp.ownBlock = some g \/ g = (w.alloc (.cells #[.pointer none] 107)).heap.size) := by rw [E1.out]; exact hat
     have HO: Hid (W'.ownsRow 0 107 1 (.slice (some ⟨g,0,none⟩) (s.pg.length + 1) cap) (s.pg.length + 1) (s.pg.map pgv ++ [.pointer none])) := hown
     clear hown hg hat c0 c1 c2 hfz HR)
  | go_in)
 go_ret
 have K := HP.out.newp (pg' := s.pg ++ [none]) (v' := .slice (some ⟨g,0,none⟩) (s.pg.length + 1) cap) HG.out (by simpa [pgv] using HO.out) (fun k hk => by
  have e: g = k := by simpa [Value.ownBlock] using hk
  subst e
  exact HA.out.imp id (fun x => Nat.le_of_eq x.symm)) (by simp)
 exact ⟨rfl,_,K.1,rfl,rfl,rfl,rfl,HM.out.trans K.2⟩
theorem take_old {s: Ar} {w: World} (h: ArP s w) {ys: List Nat} {n: Nat} (hf: s.fr = ys ++ [n]) (hl: s.fr.length <= 4096): Calls Tryz.prog 77 #[arV s.p] w fun e w' => e = .returned (nv n) /\ ∃ s',ArP s' w' /\ s'.p = s.p /\ s'.pg = s.pg /\ s'.fr = ys /\ s'.q = s.q /\ Moves arSt s s' w w' := by
 obtain ⟨c0,c1,c2,hp,hfz⟩ := h.cell
 have hlen: s.fr.length = ys.length + 1 := by rw [hf]; simp
 have hr := h.rf
 obtain ⟨g,cap,hv,_,hg⟩ := hr.form (by omega)
 obtain ⟨_,cap',hv',_,hc⟩ := owns_slice hr
 rw [hv] at hr
 rw [hv] at hv'
 cases hv'
 have hcell: w.cell? ⟨g,ys.length,none⟩ = some (.int .i64 (n: Int)) := by
  rw [hr.cellAt _ (by omega),hf]; simp [nv]
 have hfr := hr.frozenAt ys.length
 have K := h.newf (fr' := ys) (v' := .slice (some ⟨g,0,none⟩) ys.length cap) (w' := w) ⟨rfl,rfl,rfl,Nat.le_refl _,fun _ _ _ => rfl⟩ (by
  have := owns_cut hr ys.length (by omega)
  rwa [hf, <- List.map_take,List.take_left] at this) (fun k hk => Or.inl (by rw [hv]; exact hk))
 have HK: Hid (ArP { s with vf := .slice (some ⟨g,0,none⟩) ys.length cap,fr := ys } (w.setCell ⟨s.p,1,none⟩ (.slice (some ⟨g,0,none⟩) ys.length cap))) := K.1
 have HM: Hid (Moves arSt s { s with vf := .slice (some ⟨g,0,none⟩) ys.length cap,fr := ys } w (w.setCell ⟨s.p,1,none⟩ (.slice (some ⟨g,0,none⟩) ys.length cap))) := K.2
 rw [hv,hlen] at c1
 have hb: ys.length + 1 <= cap := by omega
 have hs: ys.length < 4096 := by omega
 have hw: wrap64 (ys.length: Int) = ys.length := by unfold wrap64; omega
 clear hr hv hlen K h hf hl hc
 generalize ys.length = len at *
 unfold arV
 go_enter Tryz.func77,Tryz.ntmps77
 go_wp2
 go_ret
 exact ⟨rfl,_,HK.out,rfl,rfl,rfl,rfl,HM.out⟩
theorem map_at {l: List (Option (Nat × List UInt8))} {m: Nat} (h: (l.map (Option.map Prod.snd))[m]? = some none): l[m]? = some none := by
 rw [List.getElem?_map] at h
 cases hx: l[m]? with
 | none => simp [hx] at h
 | some y =>
  cases y with
  | none => rfl
  | some z => simp [hx] at h
theorem take_walk {s: Ar} {w: World} (h: ArP s w) (ho: s.abs.Ok): Calls Tryz.prog 77 #[arV s.p] w fun e w' => ∃ m: Nat,s.abs.next = m + 1 /\ e = .returned (.int .i64 ((m: Int) + 1)) /\ ∃ s',ArP s' w' /\ s'.p = s.p /\ s'.abs = s.abs.take /\ s'.pg[m]? = some none /\ Moves arSt s s' w w' := by
 have hs: s.pg.length <= 4096 := by simpa [Ar.abs] using ho.small
 have hle: s.fr.length <= s.pg.length := by simpa [Ar.abs] using ho.le
 cases hg: s.fr.getLast? with
 | none =>
  have hf: s.fr = [] := by simpa using hg
  refine (take_new h hf hs).mono ?_
  rintro e w' ⟨rfl,s',h1,h2,h3,h4,h5,h6⟩
  refine ⟨s.pg.length, ?_,rfl,s',h1,h2, ?_, ?_,h6⟩
  · unfold Abs.next Ar.abs; simp [hg]
  · unfold Abs.take Ar.abs; simp [hg,h3,h4,h5]
  · rw [h3]; simp
 | some n =>
  obtain ⟨ys,hy⟩ := List.getLast?_eq_some_iff.1 hg
  have hlow := ho.low n (show n ∈ s.fr by rw [hy]; simp)
  refine (take_old h hy (by omega)).mono ?_
  rintro e w' ⟨rfl,s',h1,h2,h3,h4,h5,h6⟩
  refine ⟨n - 1, ?_, ?_,s',h1,h2, ?_, ?_,h6⟩
  · unfold Abs.next Ar.abs; simp [hg]; omega
  · have := hlow.1
    unfold nv
    rw [show ((n - 1: Nat): Int) + 1 = (n: Int) by omega]
  · unfold Abs.take Ar.abs; simp [h3,h4,h5,hy]
  · rw [h3]; exact map_at hlow.2
theorem zero_page: (∀ w,(zeroValue 109).run Tryz.prog w = .ok (.agg (bcs zeroP).toArray) w) /\ (Tryz.prog.info? 109).map (·.size) = some 1024 :=
 zero_of_info (by kernel_rfl)
theorem alloc_ok {s: Ar} {w: World} (h: ArP s w) (ho: s.abs.Ok) (hl: 0 < s.abs.left): Calls Tryz.prog 52 #[arV s.p] w fun e w' => e = .returned (.tuple #[nv s.abs.next, .int .i64 0]) /\ Goes s w s.abs.alloc w' := by
 have HL := left_walk h ho
 have hz: ((s.abs.left: Int) == 0) = false := by rw [beq_eq_false_iff_ne]; omega
 have HH: Hid (ArP s w) := h
 have HO: Hid s.abs.Ok := ho
 clear h ho hl
 go_enter Tryz.func52,Tryz.ntmps52
 unfold arV nv at *
 generalize s.abs.left = left at *
 go_wp2_with (go_at_call 25; refine HL.mono ?_; rintro e w1 ⟨rfl,hb⟩)
 have H1: ArP s w1 := arSt.below HH.out hb
 have HT := take_walk H1 HO.out
 unfold arV at HT
 have HB: Hid (Below w.heap.size w w1) := hb
 clear hb HL H1
 go_wp2_with fail
 refine HT.mono ?_
 rintro e w2 ⟨m,hm,rfl,s2,H2,hp2,ha2,hx,HM⟩
 clear HT
 obtain ⟨g,cap,hv,hg,hml,hc,hcell,hfz⟩ := H2.page hx
 obtain ⟨c0,_,_,hp,hf⟩ := H2.cell
 rw [hv,hp2] at c0
 rw [hp2] at hp hf
 have HN: Hid (s.abs.next = m + 1) := hm
 have HA: Hid (s2.abs = s.abs.take) := ha2
 have HV: Hid (s2.vp = .slice (some ⟨g,0,none⟩) s2.pg.length cap) := hv
 have HX: Hid (s2.pg[m]? = some none) := hx
 have HMM: Hid (Moves arSt s s2 w1 w2) := HM
 have HP2: Hid (s2.p = s.p) := hp2
 have HA2: Hid (ArP s2 w2) := H2
 have hz := zero_page.1
 have hsm: s2.pg.length <= 4097 := by
  have h1 := HO.out.small
  have h2: s2.abs.pg.length <= s.abs.pg.length + 1 := by
   rw [ha2]; unfold Abs.take; split <;> simp
  have h3: s2.abs.pg.length = s2.pg.length := by simp [Ar.abs]
  omega
 have hw: wrap64 (m: Int) = m := by unfold wrap64; omega
 clear hm ha2 hv hx HM hp2 H2
 obtain ⟨Z,hZ⟩: ∃ Z,Hid (Z = (bcs zeroP).toArray) := ⟨_,rfl⟩
 rw [<- hZ.out] at hz
 go_wp2
 go_ret2
 have K := (arSt.below HA2.out (below_alloc w2 (.cells Z 109)): ArP s2 _).setp HV.out m (some (w2.heap.size,zeroP)) (fun b c e => by
  cases e
  rw [<- hZ.out]
  exact heap_alloc_new _ _)
 rw [show (w2.alloc (.cells Z 109)).setCell ⟨g,m,none⟩ (pgv (some (w2.heap.size,zeroP))) = (w2.setCell ⟨g,m,none⟩ (.pointer (some ⟨w2.heap.size,0,none⟩))).alloc (.cells Z 109) by
  show (w2.alloc (.cells Z 109)).setCell ⟨g,m,none⟩ (.pointer (some ⟨w2.heap.size,0,none⟩)) = _
  exact World.setCell_alloc_past _ _ _ _ hg] at K
 refine ⟨by rw [HN.out]; rfl,_,K.1,HP2.out, ?_,(((Moves.below HB.out).trans HMM.out).trans (Moves.below (below_alloc _ _))).trans K.2⟩
 have e1: s2.abs.lay (m + 1) (some zeroP) = s.abs.alloc := by unfold Abs.alloc; rw [HA.out,HN.out]
 rw [<- e1]
 unfold Abs.lay Ar.abs
 simp
theorem at_pg {s: Ar} {n: Int} {c: List UInt8} (h: s.abs.at n = some c): ∃ (m b: Nat),n = (m: Int) + 1 /\ s.pg[m]? = some (some (b,c)) := by
 obtain ⟨h1,h2,h3⟩ := Abs.at_some h
 refine ⟨n.toNat - 1, ?_⟩
 unfold Ar.abs at h3
 rw [List.getElem?_map] at h3
 cases hx: s.pg[n.toNat - 1]? with
 | none => simp [hx] at h3
 | some y =>
  cases y with
  | none => simp [hx] at h3
  | some z =>
   obtain ⟨b,c'⟩ := z
   simp [hx] at h3
   subst h3
   exact ⟨b,by omega,rfl⟩
theorem abs_set (s: Ar) (m: Nat) (x: Option (Nat × List UInt8)): Ar.abs { s with pg := s.pg.set m x } = s.abs.lay (m + 1) (x.map Prod.snd) := by
 unfold Ar.abs Abs.lay
 simp
theorem free_ok {s: Ar} {w: World} (h: ArP s w) (ho: s.abs.Ok) {n: Int} {c: List UInt8} (hn: s.abs.at n = some c): Calls Tryz.prog 75 #[arV s.p, .int .i64 n] w fun e w' => e = .returned (.int .i64 0) /\ Goes s w (s.abs.free n.toNat) w' := by
 have hl: s.pg.length <= 4096 := by simpa [Ar.abs] using ho.small
 have hle: s.fr.length <= s.pg.length := by simpa [Ar.abs] using ho.le
 have HF := find_walk h hl n
 rw [hn] at HF
 have HF': Calls Tryz.prog 58 #[arV s.p, .int .i64 n] w fun e w' => e = .returned (.int .i64 0) /\ w' = w := HF
 clear HF
 obtain ⟨m,b,rfl,hx⟩ := at_pg hn
 obtain ⟨g,cap,hv,hg,hml,hc,hcell,hfz⟩ := h.page hx
 obtain ⟨c0,_,_,hp,hf⟩ := h.cell
 obtain ⟨K1,K2⟩ := h.setp hv m none (by simp)
 have hgp: g ≠ s.p := (h.rp_ne (by rw [hv]; rfl)).1
 generalize hW: w.setCell ⟨g,m,none⟩ (pgv none) = W at K1 K2
 have hW': w.setCell ⟨g,m,none⟩ (.pointer none) = W := hW
 obtain ⟨d0,d1,_,hp',hf'⟩ := K1.cell
 have h1: ArP { s with pg := s.pg.set m none } (W.alloc (.cells #[.int .i64 ((m: Int) + 1)] 3)) := arSt.below K1 (below_alloc _ _)
 have HP: Hid (ArP { s with pg := s.pg.set m none } (W.alloc (.cells #[.int .i64 ((m: Int) + 1)] 3))) := h1
 have HM: Hid (Moves arSt s { s with pg := s.pg.set m none } w (W.alloc (.cells #[.int .i64 ((m: Int) + 1)] 3))) := K2.trans (Moves.below (below_alloc _ _))
 obtain ⟨_,af,cf,e2⟩ := owns_ints K1
 have HR: Hid (World.ownsRow (W.alloc (.cells #[.int .i64 ((m: Int) + 1)] 3)) 0 3 1 (.slice af s.fr.length cf) s.fr.length (s.fr.map nv)) := by
  have := h1.rf
  have e3: s.vf = .slice af s.fr.length cf := e2
  have t: World.ownsRow (W.alloc (.cells #[.int .i64 ((m: Int) + 1)] 3)) 0 3 1 s.vf s.fr.length (s.fr.map nv) := this
  rwa [e3] at t
 have E2: Hid (s.vf = .slice af s.fr.length cf) := e2
 rw [hv] at c0
 have d1': W.cell? ⟨s.p,1,none⟩ = some (.slice af s.fr.length cf) := by rw [<- E2.out]; exact d1
 have hpw: s.p < W.heap.size := hp'
 have hfw: ∀ j,W.frozen? ⟨s.p,j,none⟩ = false := hf'
 have hne: s.vf.ownBlock ≠ some s.p := fun e => (h.rf_ne e).1 rfl
 have hw: wrap64 (m: Int) = m := by unfold wrap64; omega
 have hcell': w.cell? ⟨g,m,none⟩ = some (.pointer (some ⟨b,0,none⟩)) := hcell
 clear d0 d1 hp' hf' h1 K1 K2 e2 hn hx hv hcell hW ho h
 unfold arV at *
 go_enter Tryz.func75,Tryz.ntmps75
 go_wp2_with (first
  | (go_at_call 58; refine HF'.mono ?_; rintro e w1 ⟨rfl,rfl⟩)
  | (at_builtin
     refine append_int 0 (Nat.zero_le _) rfl _ _ rfl (.slice af s.fr.length cf) s.fr.length (s.fr.map nv) rfl HR.out (by omega) W.heap.size (.int .i64 ((m: Int) + 1)) rfl _ rfl (by simp [go_sem]) ?_
     intro g' cap' W' hown hgr hat
     have HG: Hid (World.grownBy (W.alloc (.cells #[.int .i64 ((m: Int) + 1)] 3)) W' s.vf.ownBlock) := by rw [E2.out]; exact hgr
     obtain ⟨d0,d1,hp',hfz'⟩ := HP.out.rows HG.out hne
     have d1'': W'.cell? ⟨s.p,1,none⟩ = some s.vf := d1
     have hp'': s.p < W'.heap.size := hp'
     have hfz'': ∀ j,W'.frozen? ⟨s.p,j,none⟩ = false := hfz'
     have HA: Hid (s.vf.ownBlock = some g' \/ g' = (W.alloc (.cells #[.int .i64 ((m: Int) + 1)] 3)).heap.size) := by rw [E2.out]; exact hat
     have HO: Hid (W'.ownsRow 0 3 1 (.slice (some ⟨g',0,none⟩) (s.fr.length + 1) cap') (s.fr.length + 1) (s.fr.map nv ++ [.int .i64 ((m: Int) + 1)])) := hown
     clear hown hgr hat hW' HR d0 d1 hp' hfz')
  | go_in)
 go_ret
 have K := HP.out.newf (fr' := s.fr ++ [m + 1]) (v' := .slice (some ⟨g',0,none⟩) (s.fr.length + 1) cap') HG.out (by simpa [nv] using HO.out) (fun k hk => by
  have e: g' = k := by simpa [Value.ownBlock] using hk
  subst e
  exact HA.out.imp id (fun x => Nat.le_of_eq x.symm))
 refine ⟨rfl,_,K.1,rfl, ?_,HM.out.trans K.2⟩
 unfold Abs.free Abs.lay Ar.abs
 simp
def BS (W: World) (b: Nat) (v: Value) (c: List UInt8): Prop := v = .slice (some ⟨b,0,none⟩) c.length c.length /\ ∃ t,W.heap[b]? = some (.cells (bcs c).toArray t (0,0))
theorem BS.cell {W: World} {b: Nat} {v: Value} {c: List UInt8} (h: BS W b v c): b < W.heap.size /\ (∀ j d,c[j]? = some d -> W.cell? ⟨b,j,none⟩ = some (.int .u8 (d.toNat: Int))) /\ ∀ j,W.frozen? ⟨b,j,none⟩ = false := by
 obtain ⟨_,t,h⟩ := h
 refine ⟨(Array.getElem?_eq_some_iff.1 h).1,fun j d hd => ?_,fun j => frozen_of_row _ _ _ _ _ h⟩
 rw [cell_of_row _ _ _ _ _ _ h]
 simp [bcs,hd]
theorem page_load {w: World} {b: Nat} {c: List UInt8} (h: w.heap[b]? = some (.cells (bcs c).toArray 109 (0,0))) (hc: c.length = 1024): (Instr.loadAt 109 (.pointer (some ⟨b,0,none⟩))).run Tryz.prog w = .ok (.agg (bcs c).toArray) w := by
 have hsz: (Tryz.prog.info? 109).map (·.size) = some (bcs c).toArray.size := by rw [zero_page.2,List.size_toArray,bcs_length,hc]
 simp only [Instr.loadAt,Instr.sureAddr,Sem.run_bind,Sem.run_pure,Result.andThen]
 exact run_loadVar_row _ _ _ _ _ (0,0) _ h Tryz.underlying109 rfl hsz
theorem page_store (w: World) {c: List UInt8} (hc: c.length = 1024): (Instr.storeAt 109 (.pointer (some ⟨w.heap.size,0,none⟩)) (.agg (bcs c).toArray)).run Tryz.prog (w.alloc (.cells (bcs zeroP).toArray 109)) = .ok () (w.alloc (.cells (bcs c).toArray 109)) := by
 have hsz: (Tryz.prog.info? 109).map (·.size) = some (bcs c).toArray.size := by rw [zero_page.2,List.size_toArray,bcs_length,hc]
 refine run_storeAt_new w _ _ _ hsz ?_ ?_
 · rw [List.size_toArray,List.size_toArray,bcs_length,bcs_length,hc,zeroP_length]
 · rw [Array.all_eq_true]
   intro i hi
   simp [bcs,Value.oneCell']
theorem wp_load_page {ops: Array Oper} {rest: List Oper} {op: Oper} {a: Act} {w: World} {Q: Exit -> Act -> World -> Prop} (hgd: op.guard = none) (x: Operand) (ho: op.op = .load 109 x) (b: Nat) (hx: a.eval x = .pointer (some ⟨b,0,none⟩)) (C: Array Value)
 (hl: (Instr.loadAt 109 (.pointer (some ⟨b,0,none⟩))).run Tryz.prog w = .ok (.agg C) w) (h: wpList Tryz.prog ops Q rest (a.put op.dst (.agg C)) w): wpList Tryz.prog ops Q (op :: rest) a w :=
 wpList_plain hgd fun _ hK => by
  unfold Oper.wp execOp
  simp only [ho,hx,Sem.run_bind,Sem.run_pure,Result.andThen_ok,hl]
  exact hK _ _ h
theorem wp_store_page {ops: Array Oper} {rest: List Oper} {op: Oper} {a: Act} {w w': World} {Q: Exit -> Act -> World -> Prop} (hgd: op.guard = none) (x y: Operand) (ho: op.op = .store 109 x y) (b: Nat) (C: Array Value) (hx: a.eval x = .pointer (some ⟨b,0,none⟩)) (hy: a.eval y = .agg C)
 (hs: (Instr.storeAt 109 (.pointer (some ⟨b,0,none⟩)) (.agg C)).run Tryz.prog w = .ok () w') (h: wpList Tryz.prog ops Q rest (a.put op.dst undef) w'): wpList Tryz.prog ops Q (op :: rest) a w :=
 wpList_plain hgd fun _ hK => by
  unfold Oper.wp execOp
  simp only [ho,hx,hy,Sem.run_bind,Sem.run_pure,Result.andThen_ok,hs]
  exact hK _ _ h
theorem load_blk {s: Ar} {w: World} (h: ArP s w) (ho: s.abs.Ok) {n: Int} {c: List UInt8} (hn: s.abs.at n = some c): Calls Tryz.prog 33 #[arV s.p, .int .i64 n] w fun e w' => e = .returned (.tuple #[.slice (some ⟨w.heap.size,0,none⟩) 1024 1024, .int .i64 0]) /\ w'.heap[w.heap.size]? = some (.cells (bcs c).toArray 109 (0,0)) /\ Below w.heap.size w w' := by
 have hl: s.pg.length <= 4096 := by simpa [Ar.abs] using ho.small
 have HF := find_walk h hl n
 rw [hn] at HF
 have HF': Calls Tryz.prog 58 #[arV s.p, .int .i64 n] w fun e w' => e = .returned (.int .i64 0) /\ w' = w := HF
 clear HF
 obtain ⟨m,b,rfl,hx⟩ := at_pg hn
 have hc1: c.length = 1024 := ho.len c (List.mem_of_getElem? (Abs.at_some hn).2.2)
 have hpg := h.pgs b c (List.mem_of_getElem? hx)
 obtain ⟨g,cap,hv,hg,hml,hc,hcell,hfz⟩ := h.page hx
 obtain ⟨c0,_,_,hp,hf⟩ := h.cell
 have hld := page_load hpg hc1
 obtain ⟨Z,hZ⟩: ∃ Z,Hid (Z = (bcs zeroP).toArray) := ⟨_,rfl⟩
 obtain ⟨C,hC⟩: ∃ C,Hid (C = (bcs c).toArray) := ⟨_,rfl⟩
 have hst: (Instr.storeAt 109 (.pointer (some ⟨w.heap.size,0,none⟩)) (.agg C)).run Tryz.prog (w.alloc (.cells Z 109)) = .ok () (w.alloc (.cells C 109)) := by
  rw [hZ.out,hC.out]
  exact page_store w hc1
 have hz := zero_page.1
 rw [<- hZ.out] at hz
 rw [<- hC.out] at hld
 rw [hv] at c0
 have hw: wrap64 (m: Int) = m := by unfold wrap64; omega
 have hcell': w.cell? ⟨g,m,none⟩ = some (.pointer (some ⟨b,0,none⟩)) := hcell
 clear hn hx hv hcell ho h hpg
 unfold arV at *
 go_enter Tryz.func33,Tryz.ntmps33
 go_wp2_with fail
 refine HF'.mono ?_
 rintro e w1 ⟨rfl,rfl⟩
 have HL: Hid ((Instr.loadAt 109 (.pointer (some ⟨b,0,none⟩))).run Tryz.prog w1 = .ok (.agg C) w1) := hld
 have HS: Hid ((Instr.storeAt 109 (.pointer (some ⟨w1.heap.size,0,none⟩)) (.agg C)).run Tryz.prog (w1.alloc (.cells Z 109)) = .ok () (w1.alloc (.cells C 109))) := hst
 clear hld hst
 go_wp2_with (first | (refine wp_load_page rfl _ rfl b rfl C HL.out ?_) | (refine wp_store_page rfl _ _ rfl w1.heap.size C rfl rfl HS.out ?_) | go_in)
 go_ret2
 exact ⟨rfl,by rw [<- hC.out]; exact heap_alloc_new _ _,below_alloc _ _⟩
theorem wp_copy_page {ops: Array Oper} {rest: List Oper} {op: Oper} {a: Act} {w w': World} {Q: Exit -> Act -> World -> Prop} (hgd: op.guard = none) (x y: Operand) (ho: op.op = .call { callee := .builtin .copy,args := #[x,y],argTypes := #[81,81] }) (vx vy r: Value) (hx: a.eval x = vx) (hy: a.eval y = vy)
 (hs: ∀ ty,(Builtin.copy_ #[81,81] ty #[vx,vy]).run Tryz.prog w = .ok r w') (h: wpList Tryz.prog ops Q rest (a.put op.dst r) w'): wpList Tryz.prog ops Q (op :: rest) a w :=
 wpList_plain hgd fun _ hK => by
  unfold Oper.wp execOp
  simp only [ho,resolve,invoke,builtin,Sem.run_bind,Sem.run_pure,Result.andThen_ok,List.map_toArray,List.map_cons,List.map_nil,hx,hy,hs]
  exact hK _ _ h
theorem page_copy (w: World) {b: Nat} {v: Value} {d: List UInt8} (hv: BS w b v d) (hd: d.length = 1024) (ty: TypeId): (Builtin.copy_ #[81,81] ty #[.slice (some ⟨w.heap.size,0,none⟩) 1024 1024, .slice (some ⟨b,0,none⟩) d.length d.length]).run Tryz.prog (w.alloc (.cells (bcs zeroP).toArray 109)) = .ok (goInt 1024) (w.alloc (.cells (bcs d).toArray 109)) := by
 obtain ⟨hb,hc,_⟩ := hv.cell
 have hl: (bcs d).length = 1024 := by rw [bcs_length,hd]
 have hz: (bcs zeroP).length = 1024 := by rw [bcs_length,zeroP_length]
 have := run_copy_row (P := Tryz.prog) (w.alloc (.cells (bcs zeroP).toArray 109)) 81 81 ty 5 w.heap.size 0 1024 1024 ⟨b,0,none⟩ d.length d.length (bcs zeroP).toArray 109 (bcs d) Tryz.underlying81 (by kernel_rfl) (heap_alloc_new _ _) (by rw [hl,hd]; rfl) (fun j u hj => by
  rw [show (⟨b,0,none⟩: Addr).add j = ⟨b,j,none⟩ by unfold Addr.add; split <;> simp_all]
  simp only [bcs,List.getElem?_map,Option.map_eq_some_iff] at hj
  obtain ⟨c,hj,rfl⟩ := hj
  rw [(below_alloc w _).cell hb]
  exact hc j c hj) (by rw [hl,List.size_toArray,hz]; exact Nat.le_refl _) (fun u hu => by
  simp only [bcs,List.mem_map] at hu
  obtain ⟨c,_,rfl⟩ := hu
  rfl)
 rw [this,hl,World.setRow_alloc_new]
 congr 3
 simp only [List.take_zero,List.nil_append,Nat.zero_add]
 rw [List.drop_eq_nil_of_le (by rw [hz]; exact Nat.le_refl _),List.append_nil]
theorem store_ok {s: Ar} {w: World} (h: ArP s w) (ho: s.abs.Ok) {n: Int} {c: List UInt8} (hn: s.abs.at n = some c) {v: Value} {b': Nat} {d: List UInt8} (hv': BS w b' v d) (hd: d.length = 1024): Calls Tryz.prog 74 #[arV s.p, .int .i64 n,v] w fun e w' => e = .returned (.int .i64 0) /\ Goes s w (s.abs.lay n.toNat (some d)) w' := by
 have hl: s.pg.length <= 4096 := by simpa [Ar.abs] using ho.small
 have HF := find_walk h hl n
 rw [hn] at HF
 have HF': Calls Tryz.prog 58 #[arV s.p, .int .i64 n] w fun e w' => e = .returned (.int .i64 0) /\ w' = w := HF
 clear HF
 obtain ⟨m,b,rfl,hx⟩ := at_pg hn
 obtain ⟨g,cap,hv,hg,hml,hc,hcell,hfz⟩ := h.page hx
 obtain ⟨c0,_,_,hp,hf⟩ := h.cell
 have hcp := page_copy w hv' hd
 rw [hv'.1]
 rw [hd] at hcp ⊢
 obtain ⟨Z,hZ⟩: ∃ Z,Hid (Z = (bcs zeroP).toArray) := ⟨_,rfl⟩
 obtain ⟨C,hC⟩: ∃ C,Hid (C = (bcs d).toArray) := ⟨_,rfl⟩
 have hz := zero_page.1
 rw [<- hZ.out] at hz hcp
 rw [<- hC.out] at hcp
 have K := (arSt.below h (below_alloc w (.cells C 109)): ArP s _).setp hv m (some (w.heap.size,d)) (fun b c e => by
  cases e
  rw [<- hC.out]
  exact heap_alloc_new _ _)
 rw [show (w.alloc (.cells C 109)).setCell ⟨g,m,none⟩ (pgv (some (w.heap.size,d))) = (w.setCell ⟨g,m,none⟩ (.pointer (some ⟨w.heap.size,0,none⟩))).alloc (.cells C 109) by
  show (w.alloc (.cells C 109)).setCell ⟨g,m,none⟩ (.pointer (some ⟨w.heap.size,0,none⟩)) = _
  exact World.setCell_alloc_past _ _ _ _ hg] at K
 have HK: Hid (Goes s w (s.abs.lay (m + 1) (some d)) ((w.setCell ⟨g,m,none⟩ (.pointer (some ⟨w.heap.size,0,none⟩))).alloc (.cells C 109))) := ⟨_,K.1,rfl,abs_set _ _ _,(Moves.below (below_alloc _ _)).trans K.2⟩
 have hm1: ((m: Int) + 1).toNat = m + 1 := by omega
 rw [hm1]
 rw [hv] at c0
 have hw: wrap64 (m: Int) = m := by unfold wrap64; omega
 have hcell': w.cell? ⟨g,m,none⟩ = some (.pointer (some ⟨b,0,none⟩)) := hcell
 clear hn hx hv hcell ho h hv' K
 unfold arV at *
 go_enter Tryz.func74,Tryz.ntmps74
 go_wp2_with fail
 refine HF'.mono ?_
 rintro e w1 ⟨rfl,rfl⟩
 have HL: Hid _ := hcp
 clear hcp
 go_wp2_with (first | (refine wp_copy_page rfl _ _ rfl _ _ _ rfl rfl HL.out ?_) | go_in)
 go_ret
 exact ⟨rfl,HK.out⟩
def upto {β: Type} (pg: List (Option β)) (j: Nat): List Nat := ((List.range j).filter fun i => ((pg[i]?).join).isSome).map (· + 1)
theorem upto_succ {β: Type} (pg: List (Option β)) (j: Nat): upto pg (j + 1) = upto pg j ++ (if ((pg[j]?).join).isSome then [j + 1] else []) := by
 unfold upto
 rw [List.range_succ,List.filter_append,List.map_append]
 congr 1
 by_cases h: ((pg[j]?).join).isSome <;> simp [h]
theorem upto_length {β: Type} (pg: List (Option β)) (j: Nat): (upto pg j).length <= j := by
 unfold upto
 rw [List.length_map]
 exact Nat.le_trans (List.length_filter_le _ _) (by simp)
def Abs.pages (a: Abs): List Nat := upto a.pg a.pg.length
theorem upto_abs (s: Ar) (j: Nat): upto s.abs.pg j = upto s.pg j := by
 unfold upto Ar.abs
 congr 1
 apply List.filter_congr
 intro i _
 simp only [List.getElem?_map]
 cases s.pg[i]? with
 | none => rfl
 | some x => cases x <;> rfl
def IS (base: Nat) (W: World) (v: Value) (l: List Nat): Prop := W.ownsRow base 3 1 v l.length (l.map nv)
theorem IS.below {base: Nat} {W W': World} {v: Value} {l: List Nat} (h: IS base W v l) (hb: Below W.heap.size W W'): IS base W' v l :=
 owns_of_block h fun k hk => hb.block k (World.ownsRow.lt h k hk).2
theorem pages_walk {s: Ar} {w: World} (h: ArP s w) (ho: s.abs.Ok): Calls Tryz.prog 32 #[arV s.p] w fun e w' => ∃ v,e = .returned v /\ IS w.heap.size w' v s.abs.pages /\ Below w.heap.size w w' := by
 have hl: s.pg.length <= 4096 := by simpa [Ar.abs] using ho.small
 obtain ⟨⟨ap,cp,e1⟩,_⟩ := owns_ints h
 obtain ⟨c0,_,_,hp,hf⟩ := h.cell
 have hpp: s.abs.pages = upto s.pg s.pg.length := by
  unfold Abs.pages
  rw [upto_abs]; simp [Ar.abs]
 rw [hpp]
 rw [e1] at c0
 have HH: Hid (ArP s w) := h
 have E1: Hid (s.vp = .slice ap s.pg.length cp) := e1
 clear h ho e1 hpp
 unfold arV
 go_enter Tryz.func32,Tryz.ntmps32
 go_wp2
 go_loopw [3,14] (fun v i wr => ∃ j: Nat,j <= s.pg.length /\ i = .int .i64 (j: Int) /\ Hid (IS w.heap.size wr v (upto s.pg j)) /\ Below w.heap.size w wr) (fun _ i _ => s.pg.length - (intOf i).toNat)
 case atStart => exact ⟨0,by omega,rfl,World.ownsRow_nil _ _ _ _,Below.refl _ _⟩
 case round =>
  obtain ⟨j,hj,rfl,HI,B⟩ := hrel
  have HB: Hid (Below w.heap.size w wr) := B
  have hsz := B.size
  clear B c0 hf hp
  obtain ⟨av,cv,rfl,_⟩ := owns_slice HI.out
  have hul := upto_length s.pg j
  by_cases hlt: j < s.pg.length
  · have hx: s.pg[j]? = some s.pg[j] := List.getElem?_eq_getElem hlt
    obtain ⟨g,cap,hv,hg,_,hc,hcell,hfz⟩ := (arSt.below HH.out HB.out: ArP s wr).page hx
    rw [E1.out] at hv
    cases hv
    have HU: Hid _ := upto_succ s.pg j
    rw [hx] at HU
    rcases hy: s.pg[j] with _ | ⟨b,c⟩
    · rw [hy] at hcell HU
      have hcell': wr.cell? ⟨g,j,none⟩ = some (.pointer none) := hcell
      have HU': Hid (upto s.pg (j + 1) = upto s.pg j) := by
       show upto s.pg (j + 1) = upto s.pg j
       have := HU.out
       simpa using this
      clear hcell HU hx hy
      go_wp2
      refine ⟨⟨j + 1,by omega,by go_num, ?_,HB.out⟩,by simp [intOf]; omega⟩
      rw [HU'.out]; exact HI.out
    · rw [hy] at hcell HU
      have hcell': wr.cell? ⟨g,j,none⟩ = some (.pointer (some ⟨b,0,none⟩)) := hcell
      have HU': Hid (upto s.pg (j + 1) = upto s.pg j ++ [j + 1]) := by
       show upto s.pg (j + 1) = upto s.pg j ++ [j + 1]
       have := HU.out
       simpa using this
      clear hcell HU hx hy
      generalize upto s.pg j = acc at *
      have HR: Hid (World.ownsRow (wr.alloc (.cells #[.int .i64 ((j: Int) + 1)] 3)) w.heap.size 3 1 (.slice av acc.length cv) acc.length (acc.map nv)) := World.ownsRow.alloc HI.out _
      go_wp2_with (first
       | (at_builtin
          refine append_int w.heap.size (Nat.le_trans hsz (by simp)) rfl _ _ rfl (.slice av acc.length cv) acc.length (acc.map nv) rfl HR.out (by omega) wr.heap.size (.int .i64 ((j: Int) + 1)) rfl _ rfl (by simp [go_sem]) ?_
          intro g' cap' W' hown hgr hat
          have HO: Hid (W'.ownsRow w.heap.size 3 1 (.slice (some ⟨g',0,none⟩) (acc.length + 1) cap') (acc.length + 1) (acc.map nv ++ [.int .i64 ((j: Int) + 1)])) := hown
          have HB': Hid (Below w.heap.size w W') := (HB.out.alloc hsz _).grown hgr (Nat.le_trans hsz (by simp)) (fun k hk => (World.ownsRow.lt HR.out k hk).1)
          clear hown hgr hat)
       | go_in)
      refine ⟨⟨j + 1,by omega,by go_num, ?_,HB'.out⟩,by simp [intOf]; omega⟩
      rw [HU'.out]
      show World.ownsRow _ _ _ _ _ _ _
      simpa [nv] using HO.out
  · have hj': j = s.pg.length := by omega
    subst hj'
    go_wp2
    go_ret
    exact ⟨_,rfl,HI.out,HB.out⟩
end Go.Proofs.YtdnkbdjhccckhaaGreat.L4
