/-
  Tree: an edit's cells; take, put.
-/
import Derived.Test.YtjdbjnkmlajdoaaGreatTrRd
import Derived.Test.YtjdbjnkmlajdoaaGreatTrRow
namespace Go.Proofs.YtjdbjnkmlajdoaaGreat
open Go.RowKit
open L4 (Ar ArP Abs arV nv)

/-- An edit's cells. -/
def EdC (w : World) (x t r h l : Nat) (tk ld gn : Value) : Prop := w.heap[x]? = some (.cells #[.pointer (some ⟨t, 0, none⟩), .int .i64 (r : Int), .int .i64 (h : Int), .int .i64 (l : Int), tk, ld, gn] 88 (0, 0))

theorem EdC.cells {w : World} {x t r h l : Nat} {tk ld gn : Value} (k : EdC w x t r h l tk ld gn) : w.cell? ⟨x, 0, none⟩ = some (.pointer (some ⟨t, 0, none⟩)) ∧ w.cell? ⟨x, 1, none⟩ = some (.int .i64 (r : Int)) ∧ w.cell? ⟨x, 2, none⟩ = some (.int .i64 (h : Int)) ∧ w.cell? ⟨x, 3, none⟩ = some (.int .i64 (l : Int)) ∧ w.cell? ⟨x, 4, none⟩ = some tk ∧ w.cell? ⟨x, 5, none⟩ = some ld ∧ w.cell? ⟨x, 6, none⟩ = some gn ∧ x < w.heap.size ∧ ∀ i, w.frozen? ⟨x, i, none⟩ = false := by
  refine ⟨?_, ?_, ?_, ?_, ?_, ?_, ?_, (Array.getElem?_eq_some_iff.1 k).1, fun i => frozen_of_row _ _ _ _ _ k⟩ <;> rw [cell_of_row _ _ _ _ _ _ k] <;> rfl

theorem EdC.on {w w' : World} {x t r h l : Nat} {tk ld gn : Value} (k : EdC w x t r h l tk ld gn) (hb : Below w.heap.size w w') : EdC w' x t r h l tk ld gn := (hb.block _ (Array.getElem?_eq_some_iff.1 k).1).trans k

/-- A node that is to be written. -/
structure Lay where
  at_ : Nat
  n : L5.No
  vr : Value
  vk : Value
  kid : Nat

def Lay.cells (y : Lay) : List Value := [nv y.at_, .bool y.n.leaf, y.vr, y.vk, nv y.kid]

/-- An edit under way: the arena, the tree, the edit's own rows, the nodes that are to be written; what it has made lies in blocks from B on. -/
structure Es (B : Nat) (s : Ar) (t x r h l xr xh xl : Nat) (tk ld gn : Value) (T : List Nat) (Ld : List Lay) (G : List Nat) (w : World) : Prop where
  ar : ArP s w
  tr : TrC w t s.p r h l
  ed : EdC w x t xr xh xl tk ld gn
  bs : B ≤ w.heap.size
  rt : w.ownsRow B 3 1 tk T.length (T.map nv)
  rl : w.ownsRow B 101 5 ld Ld.length (Ld.flatMap Lay.cells)
  rg : w.ownsRow B 3 1 gn G.length (G.map nv)
  rr : ∀ y ∈ Ld, w.ownsRow B 9 1 y.vr y.n.recs.length (L5.svs y.n.recs)
  rk : ∀ y ∈ Ld, w.ownsRow B 3 1 y.vk y.n.kids.length (L5.ivs y.n.kids)
  a1 : ∀ k, s.own k → tk.ownBlock ≠ some k ∧ gn.ownBlock ≠ some k ∧ ∀ y ∈ Ld, y.vk.ownBlock ≠ some k
  a2 : ∀ k, tk.ownBlock = some k → gn.ownBlock ≠ some k ∧ ∀ y ∈ Ld, y.vk.ownBlock ≠ some k
  a3 : ∀ k, gn.ownBlock = some k → ∀ y ∈ Ld, y.vk.ownBlock ≠ some k

/-- What a step of an edit may turn: the arena, the tree, the edit, what is new. -/
structure Stp (B : Nat) (s s' : Ar) (t x : Nat) (w w' : World) : Prop where
  only : Only (fun k => s.own k ∨ k = t ∨ k = x ∨ B ≤ k) w w'
  own : ∀ k, s'.own k → s.own k ∨ B ≤ k

theorem Stp.refl (B : Nat) (s : Ar) (t x : Nat) (w : World) : Stp B s s t x w w := ⟨Only.refl _ _, fun _ h => Or.inl h⟩

theorem Stp.trans {B : Nat} {s s' s'' : Ar} {t x : Nat} {w w1 w2 : World} (h : Stp B s s' t x w w1) (h' : Stp B s' s'' t x w1 w2) : Stp B s s'' t x w w2 := by
  have z := h.only.size
  refine ⟨⟨h'.only.os.trans h.only.os, h'.only.tape.trans h.only.tape, h'.only.output.trans h.only.output, Nat.le_trans z h'.only.size, fun k hk hs => ?_⟩, fun k hk => ?_⟩
  · rw [h'.only.block k (by omega) fun y => by
      rcases y with y | y
      · rcases h.own k y with y | y
        · exact hs (Or.inl y)
        · exact hs (Or.inr (Or.inr (Or.inr y)))
      · exact hs (Or.inr y)]
    exact h.only.block k hk hs
  · rcases h'.own k hk with y | y
    · exact h.own k y
    · exact Or.inr y

theorem Stp.below {B : Nat} {s : Ar} {t x : Nat} {w w' : World} (hb : Below w.heap.size w w') : Stp B s s t x w w' := ⟨Only.of_below hb, fun _ h => Or.inl h⟩

theorem Stp.moves {B : Nat} {s s' : Ar} {t x : Nat} {w w' : World} (hB : B ≤ w.heap.size) (hm : L4.Moves L4.arSt s s' w w') : Stp B s s' t x w w' :=
  ⟨hm.only.weaken fun _ _ y => Or.inl y, fun k y => (hm.own k y).imp id fun z => Nat.le_trans hB z⟩

/-- Nothing of the arena's has such a tag. -/
theorem not_own {s : Ar} {w : World} (h : ArP s w) {k : Nat} {cs : Array Value} {e : TypeId} (hk : w.heap[k]? = some (.cells cs e (0, 0))) (h1 : e ≠ 81) (h2 : e ≠ 118) (h3 : e ≠ 3) : ¬ s.own k := fun x => by
  obtain ⟨cur, t, e1, e2⟩ := h.tag x
  rw [hk] at e1
  cases e1
  rcases e2 with e2 | e2 | e2
  · exact h1 e2
  · exact h2 e2
  · exact h3 e2

theorem row_not_own {s : Ar} {w : World} (h : ArP s w) {B : Nat} {e : TypeId} {m : Nat} {v : Value} {n : Nat} {xs : List Value} (hr : w.ownsRow B e m v n xs) (h1 : e ≠ 81) (h2 : e ≠ 118) (h3 : e ≠ 3) {k : Nat} (hk : v.ownBlock = some k) : ¬ s.own k := by
  obtain ⟨cur, hc⟩ := L4.owns_tag hr hk
  exact not_own h hc h1 h2 h3

theorem Es.below {B : Nat} {s : Ar} {t x r h l xr xh xl : Nat} {tk ld gn : Value} {T : List Nat} {Ld : List Lay} {G : List Nat} {w w' : World} (k : Es B s t x r h l xr xh xl tk ld gn T Ld G w) (hb : Below w.heap.size w w') : Es B s t x r h l xr xh xl tk ld gn T Ld G w' :=
  have row : ∀ {e : TypeId} {m : Nat} {v : Value} {n : Nat} {xs : List Value}, w.ownsRow B e m v n xs → w'.ownsRow B e m v n xs := fun hr => L5.owns_of_block hr fun q hq => hb.block q (hr.lt q hq).2
  ⟨L4.arSt.below k.ar hb, k.tr.on hb, k.ed.on hb, Nat.le_trans k.bs hb.size, row k.rt, row k.rl, row k.rg, fun y hy => row (k.rr y hy), fun y hy => row (k.rk y hy), k.a1, k.a2, k.a3⟩

/-- The arena moves. -/
theorem Es.moves {B : Nat} {s s' : Ar} {t x r h l xr xh xl : Nat} {tk ld gn : Value} {T : List Nat} {Ld : List Lay} {G : List Nat} {w w' : World} (k : Es B s t x r h l xr xh xl tk ld gn T Ld G w) (hA : ArP s' w') (hp : s'.p = s.p) (hm : L4.Moves L4.arSt s s' w w') : Es B s' t x r h l xr xh xl tk ld gn T Ld G w' := by
  have blk : ∀ {q : Nat}, q < w.heap.size → ¬ s.own q → w'.heap[q]? = w.heap[q]? := fun hq hn => hm.only.block _ hq hn
  have row : ∀ {e : TypeId} {m : Nat} {v : Value} {n : Nat} {xs : List Value}, w.ownsRow B e m v n xs → (∀ q, v.ownBlock = some q → ¬ s.own q) → w'.ownsRow B e m v n xs := fun hr hn => L5.owns_of_block hr fun q hq => blk (hr.lt q hq).2 (hn q hq)
  have nt : ∀ q, s'.own q → s.own q ∨ w.heap.size ≤ q := hm.own
  refine ⟨hA, ⟨?_⟩, (blk (Array.getElem?_eq_some_iff.1 k.ed).1 (not_own k.ar k.ed (by decide) (by decide) (by decide))).trans k.ed, Nat.le_trans k.bs hm.only.size, row k.rt fun q hq x => (k.a1 q x).1 hq, row k.rl fun q hq => row_not_own k.ar k.rl (by decide) (by decide) (by decide) hq, row k.rg fun q hq x => (k.a1 q x).2.1 hq, fun y hy => row (k.rr y hy) fun q hq => row_not_own k.ar (k.rr y hy) (by decide) (by decide) (by decide) hq, fun y hy => row (k.rk y hy) fun q hq x => (k.a1 q x).2.2 y hy hq, ?_, k.a2, k.a3⟩
  · rw [hp]
    exact (blk (Array.getElem?_eq_some_iff.1 k.tr.blk).1 (not_own k.ar k.tr.blk (by decide) (by decide) (by decide))).trans k.tr.blk
  · intro q hq
    rcases nt q hq with hq | hq
    · exact k.a1 q hq
    · exact ⟨fun e => by have := (k.rt.lt q e).2; omega, fun e => by have := (k.rg.lt q e).2; omega, fun y hy e => by have := ((k.rk y hy).lt q e).2; omega⟩

theorem tag_ne {w : World} {q q' : Nat} {c c' : Array Value} {e e' : TypeId} (h : w.heap[q]? = some (.cells c e (0, 0))) (h' : w.heap[q']? = some (.cells c' e' (0, 0))) (he : e ≠ e') : q ≠ q' := fun x => by
  subst x
  rw [h] at h'
  cases h'
  exact he rfl

theorem row_ne {w : World} {B : Nat} {q : Nat} {c : Array Value} {e e' : TypeId} {m n : Nat} {v : Value} {xs : List Value} (h : w.heap[q]? = some (.cells c e (0, 0))) (h' : w.ownsRow B e' m v n xs) (he : e ≠ e') : v.ownBlock ≠ some q := fun x => by
  obtain ⟨cur, hc⟩ := L4.owns_tag h' x
  exact tag_ne h hc he rfl

theorem rows_ne {w : World} {B B' : Nat} {e e' : TypeId} {m m' n n' : Nat} {v v' : Value} {xs xs' : List Value} (h : w.ownsRow B e m v n xs) (h' : w.ownsRow B' e' m' v' n' xs') (he : e ≠ e') (q : Nat) (hq : v.ownBlock = some q) : v'.ownBlock ≠ some q := by
  obtain ⟨cur, hc⟩ := L4.owns_tag h hq
  exact row_ne hc h' he

/-- What stands behind an append to a row v0 and the store of what came of it into a cell of x. -/
theorem core {w w1 w2 : World} {v0 v' : Value} {x i : Nat} (hb : Below w.heap.size w w1) (hg : w1.grownBy w2 v0.ownBlock) : ∀ q, q < w.heap.size → v0.ownBlock ≠ some q → q ≠ x → (w2.setCell ⟨x, i, none⟩ v').heap[q]? = w.heap[q]? := fun q hq hn hx => by
  rw [heap_setCell_other _ _ _ _ hx, hg.block q (Nat.lt_of_lt_of_le hq hb.size) (fun e => hn e.symm), hb.block q hq]

theorem core_only {w w1 w2 : World} {v0 v' : Value} {x i B : Nat} {s : Ar} {t : Nat} (hb : Below w.heap.size w w1) (hg : w1.grownBy w2 v0.ownBlock) (h0 : ∀ q, v0.ownBlock = some q → B ≤ q) : Stp B s s t x w (w2.setCell ⟨x, i, none⟩ v') :=
  ⟨⟨hg.os.trans hb.os, hg.tape.trans hb.tape, hg.output.trans hb.output, by have := hg.size; have := hb.size; simp [World.setCell]; omega, fun q hq hn => core hb hg q hq (fun e => hn (Or.inr (Or.inr (Or.inr (h0 q e))))) (fun e => hn (Or.inr (Or.inr (Or.inl e))))⟩, fun _ h => Or.inl h⟩

/-- The arena, the tree, behind such a step. -/
theorem core_ar {s : Ar} {w W : World} {v0 : Value} {x : Nat} {e0 : TypeId} {B m n : Nat} {xs : List Value} {cx : Array Value} (hA : ArP s w) (h0 : w.ownsRow B e0 m v0 n xs) (hx : w.heap[x]? = some (.cells cx 88 (0, 0))) (hc : ∀ q, q < w.heap.size → v0.ownBlock ≠ some q → q ≠ x → W.heap[q]? = w.heap[q]?) (hn : ∀ q, s.own q → v0.ownBlock ≠ some q) (he : e0 ≠ 131) : ArP s W :=
  L4.arSt.keep s w W hA (fun q hq => hc q (L4.arSt.lt s w q hA hq) (hn q hq) (fun e => not_own hA hx (by decide) (by decide) (by decide) (e ▸ hq))) fun q cs hq => hc q (Array.getElem?_eq_some_iff.1 hq).1 (row_ne hq h0 (fun e => he e.symm)) (tag_ne hq hx (by decide))

/-- taken has one more. -/
theorem Es.took {B : Nat} {s : Ar} {t x r h l xr xh xl : Nat} {tk ld gn : Value} {T : List Nat} {Ld : List Lay} {G : List Nat} {w w1 w2 : World} {v' : Value} {nx m : Nat} (k : Es B s t x r h l xr xh xl tk ld gn T Ld G w) (hb : Below w.heap.size w w1) (hg : w1.grownBy w2 tk.ownBlock) (hm : m = T.length + 1) (ho : w2.ownsRow B 3 1 v' m (T.map nv ++ [nv nx])) (hat : ∀ q, v'.ownBlock = some q → tk.ownBlock = some q ∨ w1.heap.size ≤ q) :
    Es B s t x r h l xr xh xl v' ld gn (T ++ [nx]) Ld G (w2.setCell ⟨x, 4, none⟩ v') ∧ Stp B s s t x w (w2.setCell ⟨x, 4, none⟩ v') := by
  subst hm
  have hc := core (v' := v') (x := x) (i := 4) hb hg
  have hsz : (w2.setCell ⟨x, 4, none⟩ v').heap.size = w2.heap.size := by simp [World.setCell]
  have hle : w.heap.size ≤ w2.heap.size := Nat.le_trans hb.size hg.size
  have xlt := (Array.getElem?_eq_some_iff.1 k.ed).1
  have hx2 : w2.heap[x]? = some (.cells #[.pointer (some ⟨t, 0, none⟩), .int .i64 (xr : Int), .int .i64 (xh : Int), .int .i64 (xl : Int), tk, ld, gn] 88 (0, 0)) := by
    rw [hg.block x (Nat.lt_of_lt_of_le xlt hb.size) (fun e => row_ne k.ed k.rt (by decide) e.symm), hb.block x xlt]
    exact k.ed
  have new : ∀ q, v'.ownBlock = some q → tk.ownBlock = some q ∨ w.heap.size ≤ q := fun q hq => (hat q hq).imp id fun y => Nat.le_trans hb.size y
  have row : ∀ {e : TypeId} {m : Nat} {v : Value} {n : Nat} {xs : List Value}, w.ownsRow B e m v n xs → e ≠ 88 → (∀ q, v.ownBlock = some q → tk.ownBlock ≠ some q) → (w2.setCell ⟨x, 4, none⟩ v').ownsRow B e m v n xs := fun hr he hn => L5.owns_of_block hr fun q hq => hc q (hr.lt q hq).2 (hn q hq) (fun e => row_ne k.ed hr (fun e => he e.symm) (e ▸ hq))
  refine ⟨⟨core_ar k.ar k.rt k.ed hc (fun q hq => (k.a1 q hq).1) (by decide), ⟨?_⟩, ?_, by rw [hsz]; exact Nat.le_trans k.bs hle, ?_, row k.rl (by decide) fun q hq => rows_ne k.rl k.rt (by decide) q hq, row k.rg (by decide) fun q hq e => (k.a2 q e).1 hq, fun y hy => row (k.rr y hy) (by decide) fun q hq => rows_ne (k.rr y hy) k.rt (by decide) q hq, fun y hy => row (k.rk y hy) (by decide) fun q hq e => (k.a2 q e).2 y hy hq, fun q hq => ⟨fun e => ?_, (k.a1 q hq).2⟩, fun q hq => ?_, k.a3⟩, core_only hb hg (fun q hq => (k.rt.lt q hq).1)⟩
  · exact (hc t (Array.getElem?_eq_some_iff.1 k.tr.blk).1 (row_ne k.tr.blk k.rt (by decide)) (tag_ne k.tr.blk k.ed (by decide))).trans k.tr.blk
  · exact heap_setCell_same w2 x 4 _ _ v' hx2
  · rw [List.map_append, List.length_append]
    refine L5.owns_of_block ho fun q hq => heap_setCell_other _ _ _ _ fun e => ?_
    have e' : q = x := e
    subst e'
    exact row_ne hx2 ho (by decide) hq
  · rcases new q e with e | e
    · exact (k.a1 q hq).1 e
    · have := L4.arSt.lt s w q k.ar hq
      omega
  · rcases new q hq with e | e
    · exact k.a2 q e
    · exact ⟨fun y => by have := (k.rg.lt q y).2; omega, fun y hy z => by have := ((k.rk y hy).lt q z).2; omega⟩

set_option maxRecDepth 100000 in
set_option maxHeartbeats 1000000 in
theorem take_ok {B : Nat} {s : Ar} {t x r h l xr xh xl : Nat} {tk ld gn : Value} {T : List Nat} {Ld : List Lay} {G : List Nat} {w : World} (k : Es B s t x r h l xr xh xl tk ld gn T Ld G w) (ho : s.abs.Ok) (hl : 0 < s.abs.left) (hT : T.length ≤ 10000) :
    Calls Tryz.prog 45 #[.pointer (some ⟨x, 0, none⟩)] w fun e w' => e = .returned (nv s.abs.next) ∧ ∃ s' tk', s'.p = s.p ∧ s'.abs = s.abs.alloc ∧ Es B s' t x r h l xr xh xl tk' ld gn (T ++ [s.abs.next]) Ld G w' ∧ Stp B s s' t x w w' := by
  have HK := thid k
  have HA := thid (L4.alloc_ok k.ar ho hl)
  obtain ⟨c0, c1, c2, c3, ct, cf⟩ := k.tr.cells
  obtain ⟨d0, d1, d2, d3, d4, d5, d6, dl, df⟩ := k.ed.cells
  clear k
  go_enter Tryz.func45, Tryz.ntmps45
  go_wp2_with fail
  refine HA.out.mono ?_
  rintro e w1 ⟨rfl, s', hA', hp, hab, hm⟩
  have HK1 := thid (HK.out.moves hA' hp hm)
  have HS1 := thid (Stp.moves (t := t) (x := x) HK.out.bs hm)
  clear HA HK c0 c1 c2 c3 ct cf d0 d1 d2 d3 d4 d5 d6 dl df hA' hm
  obtain ⟨d0, d1, d2, d3, d4, d5, d6, dl, df⟩ := HK1.out.ed.cells
  obtain ⟨nx, hnx⟩ : ∃ nx, Hid (s.abs.next = nx) := ⟨_, rfl⟩
  rw [hnx.out]
  unfold nv
  go_wp2_with (first
    | (go_at_call 76; refine (L1.check_ok _).mono ?_; rintro e w3 ⟨rfl, rfl⟩)
    | (at_builtin
       revert HK1)
    | fail)
  intro HK1
  have HB4 := thid (tbelow w3 (.cells #[.int .i64 (nx : Int)] 3))
  have HK4 := thid (HK1.out.below HB4.out)
  refine L5.append_row (z := .int .i64 0) (by_ := 8) Tryz.underlying49 (by kernel_rfl) (by decide) rfl B HK4.out.bs rfl _ _ rfl tk T.length (T.map nv) [nv nx] rfl HK4.out.rt (by omega) 1 (by omega) ⟨w3.heap.size, 0, none⟩ 1 rfl rfl (L5.one_int w3 _ _) (fun u hu => by simp at hu; subst hu; rfl) ?_
  intro v' w5 hown hg hat
  obtain ⟨ad, cp, rfl⟩ := L5.owns_at hown
  obtain ⟨HE, HS⟩ := HK1.out.took HB4.out hg rfl hown hat
  have HE5 := thid HE
  have HS5 := thid (HS1.out.trans HS)
  have x2 : w5.heap[x]? = some (.cells #[.pointer (some ⟨t, 0, none⟩), .int .i64 (xr : Int), .int .i64 (xh : Int), .int .i64 (xl : Int), tk, ld, gn] 88 (0, 0)) := by
    rw [hg.block x (by simp; omega) (fun e => row_ne HK1.out.ed HK1.out.rt (by decide) e.symm), HB4.out.block x dl]
    exact HK1.out.ed
  have y4 : w5.cell? ⟨x, 4, none⟩ = some tk := (EdC.cells x2).2.2.2.2.1
  have yl := (EdC.cells x2).2.2.2.2.2.2.2.1
  have yf := (EdC.cells x2).2.2.2.2.2.2.2.2
  clear d0 d1 d2 d3 d4 d5 d6 dl df HK1 HB4 HK4 HS1 HE HS hown hg hat x2
  go_wp2
  go_ret
  exact ⟨by rw [hnx.out]; rfl, s', _, hp, hab, by rw [hnx.out]; exact HE5.out, HS5.out⟩
end Go.Proofs.YtjdbjnkmlajdoaaGreat
