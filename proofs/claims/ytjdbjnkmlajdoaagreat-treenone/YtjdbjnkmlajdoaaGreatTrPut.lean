/-
  Tree: put.
-/
import Derived.Test.YtjdbjnkmlajdoaaGreatTrEd
namespace Go.Proofs.YtjdbjnkmlajdoaaGreat
open Go.RowKit
open L4 (Ar ArP Abs arV nv)

def zStep : Value := .agg #[.int .i64 0, .bool false, .slice none 0 0, .slice none 0 0, .int .i64 0]

/-- A step onto a row of steps, as a step of a region that draws. -/
theorem step_step {ops : Array Oper} {o : Oper} {a : Act} {K : Act → World → Prop} {Q : Exit → Act → World → Prop} {E : Prop} {W1 : World} (base : Nat) (hbase : base ≤ W1.heap.size) (hgd : o.guard = none) (s x : Operand) (ho : o.op = .call { callee := .builtin .append, args := #[s, x], argTypes := #[86, 86] })
    (v : Value) (n : Nat) (ys xs : List Value) (hs : a.eval s = v) (h : W1.ownsRow base 101 5 v n ys) (hn : n ≤ 10000) (ad : Addr) (cap : Nat) (hx : a.eval x = .slice (some ad) 1 cap) (hl : xs.length = 5) (hc : ∀ j u, xs[j]? = some u → W1.cell? (ad.add j) = some u) (h1 : ∀ u ∈ xs, u.oneCell' = true)
    (hK : ∀ v' W', W'.ownsRow base 101 5 v' (n + 1) (ys ++ xs) → W1.grownBy W' v.ownBlock → K (a.put o.dst v') W') :
    if Region.wanted o (yielded ops a.tmps) = true then Oper.wp Tryz.prog o a W1 K Q else E := by
  have hw : Region.wanted o (yielded ops a.tmps) = true := by simp [Region.wanted, hgd]
  rw [if_pos hw]
  have hinfo : (Tryz.prog.info? 101).map (fun i => (i.zero, i.size, i.bytes)) = some (some zStep, 5, 72) := by kernel_rfl
  obtain ⟨i, hi, hz⟩ := Option.map_eq_some_iff.1 hinfo
  simp only [Prod.mk.injEq] at hz
  obtain ⟨h3, h4, h5⟩ := hz
  exact wp_append_own (P := Tryz.prog) W1 s x 86 ho base 101 i zStep 5 72 Tryz.underlying86 hi h3 h4 h5 rfl (by decide) v n ys hs h ad 1 cap xs hx (by omega) hc h1 (by unfold maxLen; omega) (by omega) hbase fun v' W' hown hg _ => hK v' W' hown hg

theorem own_slice {W : World} {B : Nat} {e : TypeId} {m : Nat} {v : Value} {n : Nat} {xs : List Value} (h : W.ownsRow B e m v n xs) : ∃ ad cap, v = .slice ad n cap := by
  rcases h.2 with ⟨rfl, rfl⟩ | ⟨g, cap, cur, rfl, _⟩
  · exact ⟨_, _, rfl⟩
  · exact ⟨_, _, rfl⟩

/-- laid has one more. -/
theorem Es.laid {B : Nat} {s : Ar} {t x r h l xr xh xl : Nat} {tk ld gn : Value} {T : List Nat} {Ld : List Lay} {G : List Nat} {w w1 w2 : World} {v' : Value} {y0 : Lay} {m : Nat} (k : Es B s t x r h l xr xh xl tk ld gn T Ld G w) (hb : Below w.heap.size w w1) (hg : w1.grownBy w2 ld.ownBlock) (hm : m = Ld.length + 1) (ho : w2.ownsRow B 101 5 v' m (Ld.flatMap Lay.cells ++ y0.cells))
    (yr : w.ownsRow B 9 1 y0.vr y0.n.recs.length (L5.svs y0.n.recs)) (yk : w.ownsRow B 3 1 y0.vk y0.n.kids.length (L5.ivs y0.n.kids)) (b1 : ∀ q, s.own q → y0.vk.ownBlock ≠ some q) (b2 : ∀ q, tk.ownBlock = some q → y0.vk.ownBlock ≠ some q) (b3 : ∀ q, gn.ownBlock = some q → y0.vk.ownBlock ≠ some q) :
    Es B s t x r h l xr xh xl tk v' gn T (Ld ++ [y0]) G (w2.setCell ⟨x, 5, none⟩ v') ∧ Stp B s s t x w (w2.setCell ⟨x, 5, none⟩ v') := by
  subst hm
  have hc := core (v' := v') (x := x) (i := 5) hb hg
  have hsz : (w2.setCell ⟨x, 5, none⟩ v').heap.size = w2.heap.size := by simp [World.setCell]
  have hle : w.heap.size ≤ w2.heap.size := Nat.le_trans hb.size hg.size
  have xlt := (Array.getElem?_eq_some_iff.1 k.ed).1
  have hx2 : w2.heap[x]? = some (.cells #[.pointer (some ⟨t, 0, none⟩), .int .i64 (xr : Int), .int .i64 (xh : Int), .int .i64 (xl : Int), tk, ld, gn] 88 (0, 0)) := by
    rw [hg.block x (Nat.lt_of_lt_of_le xlt hb.size) (fun e => row_ne k.ed k.rl (by decide) e.symm), hb.block x xlt]
    exact k.ed
  have row : ∀ {e : TypeId} {m : Nat} {v : Value} {n : Nat} {xs : List Value}, w.ownsRow B e m v n xs → e ≠ 88 → e ≠ 101 → (w2.setCell ⟨x, 5, none⟩ v').ownsRow B e m v n xs := fun hr he he2 => L5.owns_of_block hr fun q hq => hc q (hr.lt q hq).2 (rows_ne hr k.rl he2 q hq) (fun e => row_ne k.ed hr (fun e => he e.symm) (e ▸ hq))
  have all : ∀ {P : Lay → Prop}, (∀ y ∈ Ld, P y) → P y0 → ∀ y ∈ Ld ++ [y0], P y := fun h1 h2 y hy => by
    rcases List.mem_append.1 hy with hy | hy
    · exact h1 y hy
    · simp at hy; subst hy; exact h2
  refine ⟨⟨core_ar k.ar k.rl k.ed hc (fun q hq e => row_not_own k.ar k.rl (by decide) (by decide) (by decide) e hq) (by decide), ⟨?_⟩, ?_, by rw [hsz]; exact Nat.le_trans k.bs hle, row k.rt (by decide) (by decide), ?_, row k.rg (by decide) (by decide), all (fun y hy => row (k.rr y hy) (by decide) (by decide)) (row yr (by decide) (by decide)), all (fun y hy => row (k.rk y hy) (by decide) (by decide)) (row yk (by decide) (by decide)), fun q hq => ⟨(k.a1 q hq).1, (k.a1 q hq).2.1, all (k.a1 q hq).2.2 (b1 q hq)⟩, fun q hq => ⟨(k.a2 q hq).1, all (k.a2 q hq).2 (b2 q hq)⟩, fun q hq => all (k.a3 q hq) (b3 q hq)⟩, core_only hb hg (fun q hq => (k.rl.lt q hq).1)⟩
  · exact (hc t (Array.getElem?_eq_some_iff.1 k.tr.blk).1 (row_ne k.tr.blk k.rl (by decide)) (tag_ne k.tr.blk k.ed (by decide))).trans k.tr.blk
  · exact heap_setCell_same w2 x 5 _ _ v' hx2
  · have e1 : (Ld ++ [y0]).flatMap Lay.cells = Ld.flatMap Lay.cells ++ y0.cells := by simp
    rw [e1, List.length_append]
    refine L5.owns_of_block ho fun q hq => heap_setCell_other _ _ _ _ fun e => ?_
    have e' : q = x := e
    subst e'
    exact row_ne hx2 ho (by decide) hq

set_option maxRecDepth 100000 in
set_option maxHeartbeats 1000000 in
theorem put_ok {B : Nat} {s : Ar} {t x r h l xr xh xl : Nat} {tk ld gn : Value} {T : List Nat} {Ld : List Lay} {G : List Nat} {w : World} (k : Es B s t x r h l xr xh xl tk ld gn T Ld G w) (hL : Ld.length ≤ 10000) {n : L5.No} {at_ : Nat} {ra ka : Option Addr} {rc kc : Nat}
    (yr : w.ownsRow B 9 1 (.slice ra n.recs.length rc) n.recs.length (L5.svs n.recs)) (yk : w.ownsRow B 3 1 (.slice ka n.kids.length kc) n.kids.length (L5.ivs n.kids)) (b1 : ∀ q, s.own q → (Value.slice ka n.kids.length kc).ownBlock ≠ some q) (b2 : ∀ q, tk.ownBlock = some q → (Value.slice ka n.kids.length kc).ownBlock ≠ some q) (b3 : ∀ q, gn.ownBlock = some q → (Value.slice ka n.kids.length kc).ownBlock ≠ some q) :
    Calls Tryz.prog 46 #[.pointer (some ⟨x, 0, none⟩), .int .i64 (at_ : Int), .agg #[.bool n.leaf, .slice ra n.recs.length rc, .slice ka n.kids.length kc]] w fun e w' => e = .returned (.tuple #[]) ∧ ∃ ld', Es B s t x r h l xr xh xl tk ld' gn T (Ld ++ [⟨at_, n, .slice ra n.recs.length rc, .slice ka n.kids.length kc, 0⟩]) G w' ∧ Stp B s s t x w w' := by
  have HK := thid k
  have HR := thid yr
  have HKK := thid yk
  obtain ⟨d0, d1, d2, d3, d4, d5, d6, dl, df⟩ := k.ed.cells
  clear k yr yk
  have HB1 := thid (tbelow w (.cells #[.bool n.leaf, .slice ra n.recs.length rc, .slice ka n.kids.length kc] 91))
  have HB2 := thid (HB1.out.trans (((Below.refl _ _).drew.alloc (Nat.le_refl _) (.cells #[.int .i64 (at_ : Int), .bool n.leaf, .slice ra n.recs.length rc, .slice ka n.kids.length kc, .int .i64 0] 101) : Below _ (w.alloc (.cells #[.bool n.leaf, .slice ra n.recs.length rc, .slice ka n.kids.length kc] 91)) _).mono HB1.out.size))
  have HK2 := thid (HK.out.below HB2.out)
  have HK1 := thid (HK.out.below HB1.out)
  have n0 := (L5.box_cells w (.bool n.leaf) (.slice ra n.recs.length rc) (.slice ka n.kids.length kc) 91).1
  have n1 := (L5.box_cells w (.bool n.leaf) (.slice ra n.recs.length rc) (.slice ka n.kids.length kc) 91).2.1
  have n2 := (L5.box_cells w (.bool n.leaf) (.slice ra n.recs.length rc) (.slice ka n.kids.length kc) 91).2.2
  have nl : w.heap.size < (w.alloc (.cells #[.bool n.leaf, .slice ra n.recs.length rc, .slice ka n.kids.length kc] 91)).heap.size := by simp
  clear d0 d1 d2 d3 d4 d5 d6 dl df
  obtain ⟨d0, d1, d2, d3, d4, d5, d6, dl, df⟩ := HK1.out.ed.cells
  obtain ⟨f0, f1, f2, f3, f4, f5, f6, fl, ff⟩ := HK2.out.ed.cells
  go_enter Tryz.func46, Tryz.ntmps46
  go_wp2_with fail
  have HC := thid (fun (j : Nat) (u : Value) (hj : ([.int .i64 (at_ : Int), .bool n.leaf, .slice ra n.recs.length rc, .slice ka n.kids.length kc, .int .i64 0] : List Value)[j]? = some u) => show ((w.alloc (.cells #[.bool n.leaf, .slice ra n.recs.length rc, .slice ka n.kids.length kc] 91)).drew.alloc (.cells #[.int .i64 (at_ : Int), .bool n.leaf, .slice ra n.recs.length rc, .slice ka n.kids.length kc, .int .i64 0] 101)).cell? ((⟨w.heap.size + 1, 0, none⟩ : Addr).add j) = some u from by
    rw [Addr.add_lit, show w.heap.size + 1 = (w.alloc (.cells #[.bool n.leaf, .slice ra n.recs.length rc, .slice ka n.kids.length kc] 91)).drew.heap.size by simp, cell_of_row _ _ _ _ _ _ (heap_alloc_new _ _)]
    simpa using hj)
  have f5' : ((w.alloc (.cells #[.bool n.leaf, .slice ra n.recs.length rc, .slice ka n.kids.length kc] 91)).alloc (.cells #[.int .i64 (at_ : Int), .bool n.leaf, .slice ra n.recs.length rc, .slice ka n.kids.length kc, .int .i64 0] 101)).cell? ⟨x, 5, none⟩ = some ld := f5
  go_region_law (first
    | (refine step_step B HK2.out.bs rfl (.tmp 10) (.tmp 14) rfl ld Ld.length _ [.int .i64 (at_ : Int), .bool n.leaf, .slice ra n.recs.length rc, .slice ka n.kids.length kc, .int .i64 0] ?_ HK2.out.rl (by omega) ⟨w.heap.size + 1, 0, none⟩ 1 ?_ rfl HC.out (by simp; exact ⟨rfl, rfl, rfl, rfl, rfl⟩) ?_
       · first | (simp [Act.eval]; done) | (simp [Act.eval, Act.put]; done)
       · first | (simp [Act.eval]; done) | (simp [Act.eval, Act.put]; done)
       intro v2 w2 hown hgr
       obtain ⟨ad2, cp2, rfl⟩ := own_slice hown
       obtain ⟨HE, HS⟩ := HK.out.laid (y0 := ⟨at_, n, .slice ra n.recs.length rc, .slice ka n.kids.length kc, 0⟩) HB2.out hgr rfl hown HR.out HKK.out b1 b2 b3
       have HE5 := thid HE
       have HS5 := thid HS
       have x2 : w2.heap[x]? = some (.cells #[.pointer (some ⟨t, 0, none⟩), .int .i64 (xr : Int), .int .i64 (xh : Int), .int .i64 (xl : Int), tk, ld, gn] 88 (0, 0)) := by
         rw [hgr.block x fl (fun e => row_ne HK2.out.ed HK2.out.rl (by decide) e.symm)]
         exact HK2.out.ed
       have y5 : w2.cell? ⟨x, 5, none⟩ = some ld := (EdC.cells x2).2.2.2.2.2.1
       have yl := (EdC.cells x2).2.2.2.2.2.2.2.1
       have yf := (EdC.cells x2).2.2.2.2.2.2.2.2
       clear HE HS hown hgr x2))
  all_goals
    clear f5' n0 n1 n2 nl d0 d1 d2 d3 d4 d5 d6 dl df f0 f1 f2 f3 f4 f5 f6 fl ff HB1 HB2 HK1 HK2 HK HC y5 yl yf
    go_wp2
    go_end0
    exact ⟨rfl, _, HE5.out, HS5.out⟩
end Go.Proofs.YtjdbjnkmlajdoaaGreat
