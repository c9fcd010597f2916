/-
  Tree: lost: a node with nothing left; joined, where there is no neighbour.
-/
import Derived.Test.YtfdfamjajhmihaaGreatMBF
import Derived.Test.YtfdfamjajhmihaaGreatMAR
import Derived.Test.YtfdfamjajhmihaaGreatMBE
namespace Go.Proofs.YtfdfamjajhmihaaGreat
open Go.RowKit
open L4 (Ar ArP Abs arV nv)

/-- A step in a row of steps, in memory. -/
structure UpS (N : Nat) (w : World) (g off : Nat) (cs : Array Value) (u : Pl) (vr vk : Value) : Prop where
  blk : w.heap[g]? = some (.cells cs 100 (0, 0))
  c0 : cs[off]? = some (.int .i64 (u.at_ : Int))
  c1 : cs[off + 1]? = some (.bool u.n.leaf)
  c2 : cs[off + 2]? = some vr
  c3 : cs[off + 3]? = some vk
  c4 : cs[off + 4]? = some (.int .i64 (u.kid : Int))
  rr : w.ownsRow N 9 1 vr u.n.recs.length (L5.svs u.n.recs)
  rk : w.ownsRow N 3 1 vk u.n.kids.length (L5.ivs u.n.kids)

theorem UpS.on {N : Nat} {w w' : World} {g off : Nat} {cs : Array Value} {u : Pl} {vr vk : Value} (k : UpS N w g off cs u vr vk) (hb : Below w.heap.size w w') : UpS N w' g off cs u vr vk :=
  ⟨(hb.block _ (Array.getElem?_eq_some_iff.1 k.blk).1).trans k.blk, k.c0, k.c1, k.c2, k.c3, k.c4, L5.owns_of_block k.rr fun q hq => hb.block q (k.rr.lt q hq).2, L5.owns_of_block k.rk fun q hq => hb.block q (k.rk.lt q hq).2⟩

set_option maxRecDepth 100000 in
set_option maxHeartbeats 1000000 in
/-- There is no neighbour. -/
theorem joined_none {N : Nat} {w : World} {x g off : Nat} {cs : Array Value} {u : Pl} {vr vk v0 v1 v2 v3 v4 : Value} {i : Int} (k : UpS N w g off cs u vr vk) (hi : i < 0 ∨ (u.n.recs.length : Int) ≤ i) :
    Calls Tryz.prog 134 #[.pointer (some ⟨x, 0, none⟩), .pointer (some ⟨g, off, none⟩), .int .i64 i, .agg #[v0, v1, v2, v3, v4]] w fun e w' => e = .returned (.bool false) ∧ Below w.heap.size w w' := by
  obtain ⟨ra, rc, rfl⟩ := own_slice k.rr
  have HB0 := thid (tbelow w (.cells #[v0, v1, v2, v3, v4] 100))
  have k1 := k.on HB0.out
  have q2 : (w.alloc (.cells #[v0, v1, v2, v3, v4] 100)).cell? ⟨g, off + 2, none⟩ = some (.slice ra u.n.recs.length rc) := (cell_of_row _ _ _ _ _ _ k1.blk).trans k.c2
  have gl := (Array.getElem?_eq_some_iff.1 k1.blk).1
  clear k k1
  by_cases hn : i < 0
  · have hn' : decide (i < 0) = true := by simpa using hn
    go_enter Tryz.func134, Tryz.ntmps134
    go_wp2_with fail
    go_ret
    exact ⟨rfl, HB0.out⟩
  · have hn' : decide (i < 0) = false := by simpa using hn
    have hr' : decide ((u.n.recs.length : Int) ≤ i) = true := by simp; omega
    go_enter Tryz.func134, Tryz.ntmps134
    go_wp2_with fail
    go_ret
    exact ⟨rfl, HB0.out⟩

/-- What lost leaves, where the node had nothing left. -/
structure LostG (N B : Nat) (s : Ar) (t x r h l xr xh xl : Nat) (tk ld gn : Value) (T : List Nat) (Ld : List Lay) (G : List Nat) (g off : Nat) (cs : Array Value) (u : Pl) (vr vk : Value) (w : World) (gn' vr' vk' : Value) (w' : World) : Prop where
  es : Es B s t x r h l xr xh xl tk ld gn' T Ld G w'
  blk : w'.heap[g]? = some (.cells ((cs.setIfInBounds (off + 2) vr').setIfInBounds (off + 3) vk') 100 (0, 0))
  rr : w'.ownsRow N 9 1 vr' (cutK u.n (u.kid - 1) u.kid).recs.length (L5.svs (cutK u.n (u.kid - 1) u.kid).recs)
  rk : w'.ownsRow N 3 1 vk' (cutK u.n (u.kid - 1) u.kid).kids.length (L5.ivs (cutK u.n (u.kid - 1) u.kid).kids)
  only : Only (fun q => q = x ∨ gn.ownBlock = some q ∨ q = g ∨ vr.ownBlock = some q ∨ vk.ownBlock = some q) w w'
  nr : vr'.ownBlock = vr.ownBlock
  nk : vk'.ownBlock = vk.ownBlock
  ng : ∀ q, gn'.ownBlock = some q → gn.ownBlock = some q ∨ w.heap.size ≤ q

/-- A number onto a row of numbers, as a step of a region that draws. -/
theorem step_gone {ops : Array Oper} {o : Oper} {a : Act} {K : Act → World → Prop} {Q : Exit → Act → World → Prop} {E : Prop} {W1 : World} (base : Nat) (hbase : base ≤ W1.heap.size) (hgd : o.guard = none) (s x : Operand) (ho : o.op = .call { callee := .builtin .append, args := #[s, x], argTypes := #[49, 49] })
    (v : Value) (n : Nat) (ys : List Value) (y : Int) (hs : a.eval s = v) (h : W1.ownsRow base 3 1 v n ys) (hn : n ≤ 10000) (ad : Addr) (cap : Nat) (hx : a.eval x = .slice (some ad) 1 cap) (hc : W1.cell? ad = some (.int .i64 y))
    (hK : ∀ v' W', W'.ownsRow base 3 1 v' (n + 1) (ys ++ [.int .i64 y]) → W1.grownBy W' v.ownBlock → (∀ k, v'.ownBlock = some k → v.ownBlock = some k ∨ W1.heap.size ≤ k) → K (a.put o.dst v') W') :
    if Region.wanted o (yielded ops a.tmps) = true then Oper.wp Tryz.prog o a W1 K Q else E := by
  have hw : Region.wanted o (yielded ops a.tmps) = true := by simp [Region.wanted, hgd]
  rw [if_pos hw]
  have hinfo : (Tryz.prog.info? 3).map (fun i => (i.zero, i.size, i.bytes)) = some (some (.int .i64 0), 1, 8) := by kernel_rfl
  obtain ⟨i, hi, hz⟩ := Option.map_eq_some_iff.1 hinfo
  simp only [Prod.mk.injEq] at hz
  obtain ⟨h3, h4, h5⟩ := hz
  obtain ⟨v', w', hr, h2, h6, _, h7⟩ := run_append_own_at (P := Tryz.prog) W1 base 49 o.type 3 i (.int .i64 0) 1 8 Tryz.underlying49 hi h3 h4 h5 rfl (by decide) v n ys h ad 1 cap [.int .i64 y] rfl (fun j u hj => by
    have hj0 : j = 0 := by
      have := (List.getElem?_eq_some_iff.1 hj).1
      simpa using this
    subst hj0
    simp at hj
    subst hj
    obtain ⟨b, o, sp⟩ := ad
    have hsp := World.cell?_spot hc
    simp only at hsp
    subst hsp
    rw [Addr.add_lit]
    exact hc) (fun u hu => by simp at hu; subst hu; rfl) (by unfold maxLen; omega) (by omega) hbase
  unfold Oper.wp execOp
  simp only [ho, resolve, invoke, builtin, Sem.run_bind, Sem.run_pure, Result.andThen_ok, List.map_toArray, List.map_cons, List.map_nil, hs, hx, hr]
  refine hK v' w' h2 h6 fun k hk => ?_
  rcases h7 with h7 | h7
  · rw [h7] at hk; exact Or.inl hk
  · rw [h7] at hk; cases hk; exact Or.inr (Nat.le_refl _)

set_option maxRecDepth 100000 in
set_option maxHeartbeats 1000000 in
theorem lost_gone {N B : Nat} {s : Ar} {t x r h l xr xh xl : Nat} {tk ld gn : Value} {T : List Nat} {Ld : List Lay} {G : List Nat} {w : World} {g off : Nat} {cs : Array Value} {u : Pl} {vr vk : Value} {at_ : Nat} {la lb : Option Addr} {lc ld' : Nat} {lf : Bool} {v4 : Value}
    (hE : Es B s t x r h l xr xh xl tk ld gn T Ld G w) (hG : G.length ≤ 10000) (k : UpS N w g off cs u vr vk) (zg : g < B) (zr : ∀ q, vr.ownBlock = some q → q < B) (zk : ∀ q, vk.ownBlock = some q → q < B ∧ ¬ s.own q) (hk : u.kid < u.n.kids.length) (hkr : u.n.recs.length ≠ 0 → u.kid - 1 < u.n.recs.length) (hus : u.n.small) :
    Calls Tryz.prog 111 #[.pointer (some ⟨x, 0, none⟩), .pointer (some ⟨g, off, none⟩), .agg #[.int .i64 (at_ : Int), .bool lf, .slice la 0 lc, .slice lb 0 ld', v4]] w fun e w' => e = .returned (.bool true) ∧ ∃ gn' vr' vk', LostG N B s t x r h l xr xh xl tk ld gn T Ld (G ++ [at_]) g off cs u vr vk w gn' vr' vk' w' := by
  have HB0 := thid (tbelow w (.cells #[.int .i64 (at_ : Int), .bool lf, .slice la 0 lc, .slice lb 0 ld', v4] 100))
  have HK := thid k
  have HE := thid hE
  have HZ := thid (And.intro zg (And.intro zr zk))
  have HE0 := thid (hE.below HB0.out)
  obtain ⟨d0, d1, d2, d3, d4, d5, d6, dl, df⟩ := HE0.out.ed.cells
  have HB2 := thid (HB0.out.trans (((Below.refl _ _).drew.alloc (Nat.le_refl _) (.cells #[.int .i64 (at_ : Int)] 3) : Below _ (w.alloc (.cells #[.int .i64 (at_ : Int), .bool lf, .slice la 0 lc, .slice lb 0 ld', v4] 100)) _).mono HB0.out.size))
  have HK2 := thid (hE.below HB2.out)
  obtain ⟨f0, f1, f2, f3, f4, f5, f6, fl, ff⟩ := HK2.out.ed.cells
  have n0 : (w.alloc (.cells #[.int .i64 (at_ : Int), .bool lf, .slice la 0 lc, .slice lb 0 ld', v4] 100)).cell? ⟨w.heap.size, 0, none⟩ = some (.int .i64 (at_ : Int)) := by rw [cell_of_row _ _ _ _ _ _ (heap_alloc_new _ _)]; rfl
  have nl : w.heap.size < (w.alloc (.cells #[.int .i64 (at_ : Int), .bool lf, .slice la 0 lc, .slice lb 0 ld', v4] 100)).heap.size := by simp
  have HC : Hid (((w.alloc (.cells #[.int .i64 (at_ : Int), .bool lf, .slice la 0 lc, .slice lb 0 ld', v4] 100)).drew.alloc (.cells #[.int .i64 (at_ : Int)] 3)).cell? ⟨w.heap.size + 1, 0, none⟩ = some (.int .i64 (at_ : Int))) := by
    show World.cell? _ _ = _
    rw [show w.heap.size + 1 = (w.alloc (.cells #[.int .i64 (at_ : Int), .bool lf, .slice la 0 lc, .slice lb 0 ld', v4] 100)).drew.heap.size by simp, cell_of_row _ _ _ _ _ _ (heap_alloc_new _ _)]
    rfl
  have f6' : ((w.alloc (.cells #[.int .i64 (at_ : Int), .bool lf, .slice la 0 lc, .slice lb 0 ld', v4] 100)).alloc (.cells #[.int .i64 (at_ : Int)] 3)).cell? ⟨x, 6, none⟩ = some gn := f6
  clear k hE zg zr zk
  go_enter Tryz.func111, Tryz.ntmps111
  go_upto_region 2 with fail
  go_cut [] (fun wx => ∃ gn', Hid (Es B s t x r h l xr xh xl tk ld gn' T Ld (G ++ [at_]) wx ∧ Only (fun q => q = x ∨ gn.ownBlock = some q) w wx ∧ (∀ q, gn'.ownBlock = some q → gn.ownBlock = some q ∨ w.heap.size ≤ q)))
  case first =>
    go_region_law (first
      | (refine step_gone B HK2.out.bs rfl (.tmp 21) (.tmp 24) rfl gn G.length _ (at_ : Int) ?_ HK2.out.rg (by omega) ⟨w.heap.size + 1, 0, none⟩ 1 ?_ HC.out ?_
         · first | (simp [Act.eval]; done) | (simp [Act.eval, Act.put]; done)
         · first | (simp [Act.eval]; done) | (simp [Act.eval, Act.put]; done)
         intro v2 w2 hown hgr hnw
         obtain ⟨ad2, cp2, rfl⟩ := own_slice hown
         obtain ⟨g1, g2, g3, g4⟩ := HE.out.gave (nx := at_) HB2.out hgr rfl hown hnw
         have HM := thid (And.intro g1 (And.intro g3 g4))
         have x2 : w2.heap[x]? = some (.cells #[.pointer (some ⟨t, 0, none⟩), .int .i64 (xr : Int), .int .i64 (xh : Int), .int .i64 (xl : Int), tk, ld, gn] 87 (0, 0)) := by
           rw [hgr.block x fl (fun e => row_ne HK2.out.ed HK2.out.rg (by decide) e.symm)]
           exact HK2.out.ed
         have y6 : w2.cell? ⟨x, 6, none⟩ = some gn := (EdC.cells x2).2.2.2.2.2.2.1
         have yl := (EdC.cells x2).2.2.2.2.2.2.2.1
         have yf := (EdC.cells x2).2.2.2.2.2.2.2.2
         clear g1 g2 g3 g4 hown hgr hnw x2))
    all_goals
      go_wp2_with fail
      go_meet
      exact ⟨_, HM⟩
  case rest =>
    obtain ⟨gn', HM⟩ := hcut
    clear d0 d1 d2 d3 d4 d5 d6 dl df f0 f1 f2 f3 f4 f5 f6 fl ff n0 nl HC f6' HK2 HB2 HE0
    have hx' : ∀ {q : Nat} {cc : Array Value} {e : TypeId}, w.heap[q]? = some (.cells cc e (0, 0)) → e ≠ 87 → e ≠ 3 → wc.heap[q]? = w.heap[q]? := fun hq h1 h2 => HM.out.2.1.block _ (Array.getElem?_eq_some_iff.1 hq).1 fun z => by
      rcases z with z | z
      · exact tag_ne hq HE.out.ed h1 z
      · exact row_ne hq HE.out.rg h2 z
    have hrow : ∀ {e : TypeId} {v : Value} {m : Nat} {xs : List Value}, w.ownsRow N e 1 v m xs → e ≠ 87 → (∀ q, v.ownBlock = some q → q < B) → wc.ownsRow N e 1 v m xs := fun hr h1 h2 => L5.owns_of_block hr fun q hq => HM.out.2.1.block q (hr.lt q hq).2 fun z => by
      rcases z with z | z
      · exact row_ne HE.out.ed hr (fun e => h1 e.symm) (z ▸ hq)
      · have := (HE.out.rg.lt q z).1
        have := h2 q hq
        omega
    have HBK : Hid (wc.heap[g]? = some (.cells cs 100 (0, 0))) := (hx' HK.out.blk (by decide) (by decide)).trans HK.out.blk
    have hkid : u.kid ≤ 1000 := by have := hus.kids; omega
    have hmax : max ((u.kid : Int) - 1) 0 = ((u.kid - 1 : Nat) : Int) := by omega
    have HRR := thid (hrow HK.out.rr (by decide) HZ.out.2.1)
    have HRK := thid (hrow HK.out.rk (by decide) fun q hq => (HZ.out.2.2 q hq).1)
    have p4 : wc.cell? ⟨g, off + 4, none⟩ = some (.int .i64 (u.kid : Int)) := (cell_of_row _ _ _ _ _ _ HBK.out).trans HK.out.c4
    have pl := (Array.getElem?_eq_some_iff.1 HBK.out).1
    clear hx' hrow
    have hws : IntKind.i64.wrap ((u.kid : Int) - 1) = (u.kid : Int) - 1 := by rw [IntKind.wrap_i64]; omega
    go_wp2_with fail
    refine wp_region_quiet_tail (fun w' => ∃ n, w' = World.drewN wc n) 11 (by kernel_rfl) (by kernel_rfl) ⟨1, rfl⟩ ?_
    simp only [List.take_succ_cons, List.take_zero, List.drop_succ_cons, List.drop_zero]
    repeat (go_big_quiet_step (first | rfl | fail))
    refine wpQuiet_nil ?_
    rintro _ ⟨nq, rfl⟩
    have HCU := thid (cut_ok (w := wc.drewN nq) (i := u.kid - 1) (kid := u.kid) (show (wc.drewN nq).heap[g]? = some (.cells cs 100 (0, 0)) from HBK.out) HK.out.c2 HK.out.c3 (L5.owns_of_block HRR.out fun _ _ => rfl) (L5.owns_of_block HRK.out fun _ _ => rfl) hkr hk hus)
    clear hmax hws p4 pl
    go_wp2_with fail
    refine HCU.out.mono ?_
    rintro e w9 ⟨rfl, vr', vk', hC⟩
    have HF : Hid (LostG N B s t x r h l xr xh xl tk ld gn T Ld (G ++ [at_]) g off cs u vr vk w gn' vr' vk' w9) := by
      obtain ⟨m1, m2, m3⟩ := HM.out
      obtain ⟨z1, z2, z3⟩ := HZ.out
      have hE9 : Es B s t x r h l xr xh xl tk ld gn' T Ld (G ++ [at_]) w9 := m1.keep (Z := fun q => q = g ∨ vr.ownBlock = some q ∨ vk.ownBlock = some q) hC.only.size (fun q hq hz => hC.only.block q hq hz) (fun q hz => by
          rcases hz with rfl | hz | hz
          · exact z1
          · exact z2 q hz
          · exact (z3 q hz).1) (fun q hz => by
          rcases hz with rfl | hz | hz
          · exact not_own m1.ar HBK.out (by decide) (by decide) (by decide)
          · exact row_not_own m1.ar HRR.out (by decide) (by decide) (by decide) hz
          · exact (z3 q hz).2) (fun q hz => by
          rcases hz with rfl | hz | hz
          · exact ⟨tag_ne HBK.out m1.tr.blk (by decide), tag_ne HBK.out m1.ed (by decide)⟩
          · exact ⟨fun e => row_ne m1.tr.blk HRR.out (by decide) (e ▸ hz), fun e => row_ne m1.ed HRR.out (by decide) (e ▸ hz)⟩
          · exact ⟨fun e => row_ne m1.tr.blk HRK.out (by decide) (e ▸ hz), fun e => row_ne m1.ed HRK.out (by decide) (e ▸ hz)⟩) (fun q hz cc hq => by
          rcases hz with rfl | hz | hz
          · rw [HBK.out] at hq; simp at hq
          · exact row_ne hq HRR.out (by decide) hz
          · exact row_ne hq HRK.out (by decide) hz)
      refine ⟨hE9, hC.blk, hC.rr, hC.rk, ?_, hC.nr, hC.nk, m3⟩
      have hd : Only (fun q => q = x ∨ gn.ownBlock = some q ∨ q = g ∨ vr.ownBlock = some q ∨ vk.ownBlock = some q) w (wc.drewN nq) := (m2.weaken fun q _ y => y.imp id Or.inl).drewN nq
      exact hd.trans ((hC.only.weaken fun q _ y => Or.inr (Or.inr y)))
    clear hC HCU HM HK HE HZ HBK HRR HRK HB0
    go_wp2
    go_ret
    exact ⟨rfl, _, _, _, HF.out⟩
end Go.Proofs.YtfdfamjajhmihaaGreat
