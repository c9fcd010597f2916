/-
  Bytes; the program's arena: Load, Store.
-/
import Derived.Deep.OwnRows
import Derived.Test.YtfdfamjajhmihaaGreatMAK
namespace Go.Proofs.YtfdfamjajhmihaaGreat.L4
open Go.RowKit

/-- A slice of bytes that fill a block. -/
def BS (W : World) (b : Nat) (v : Value) (c : List UInt8) : Prop := v = .slice (some ⟨b, 0, none⟩) c.length c.length ∧ ∃ t, W.heap[b]? = some (.cells (bcs c).toArray t (0, 0))

theorem BS.cell {W : World} {b : Nat} {v : Value} {c : List UInt8} (h : BS W b v c) : b < W.heap.size ∧ (∀ j d, c[j]? = some d → W.cell? ⟨b, j, none⟩ = some (.int .u8 (d.toNat : Int))) ∧ ∀ j, W.frozen? ⟨b, j, none⟩ = false := by
  obtain ⟨_, t, h⟩ := h
  refine ⟨(Array.getElem?_eq_some_iff.1 h).1, fun j d hd => ?_, fun j => frozen_of_row _ _ _ _ _ h⟩
  rw [cell_of_row _ _ _ _ _ _ h]
  simp [bcs, hd]

theorem BS.below {W W' : World} {b : Nat} {v : Value} {c : List UInt8} (h : BS W b v c) (hb : Below W.heap.size W W') : BS W' b v c := by
  obtain ⟨hv, t, h⟩ := h
  exact ⟨hv, t, (hb.block b (Array.getElem?_eq_some_iff.1 h).1).trans h⟩

/-- A page as a whole, out of its block and into a new one. -/
theorem page_load {w : World} {b : Nat} {c : List UInt8} (h : w.heap[b]? = some (.cells (bcs c).toArray 130 (0, 0))) (hc : c.length = 1024) : (Instr.loadAt 130 (.pointer (some ⟨b, 0, none⟩))).run Tryz.prog w = .ok (.agg (bcs c).toArray) w := by
  have hsz : (Tryz.prog.info? 130).map (·.size) = some (bcs c).toArray.size := by rw [zero_page.2, List.size_toArray, bcs_length, hc]
  simp only [Instr.loadAt, Instr.sureAddr, Sem.run_bind, Sem.run_pure, Result.andThen]
  exact run_loadVar_row _ _ _ _ _ (0, 0) _ h Tryz.underlying130 rfl hsz

theorem page_store (w : World) {c : List UInt8} (hc : c.length = 1024) : (Instr.storeAt 130 (.pointer (some ⟨w.heap.size, 0, none⟩)) (.agg (bcs c).toArray)).run Tryz.prog (w.alloc (.cells (bcs zeroP).toArray 130)) = .ok () (w.alloc (.cells (bcs c).toArray 130)) := by
  have hsz : (Tryz.prog.info? 130).map (·.size) = some (bcs c).toArray.size := by rw [zero_page.2, List.size_toArray, bcs_length, hc]
  refine run_storeAt_new w _ _ _ hsz ?_ ?_
  · rw [List.size_toArray, List.size_toArray, bcs_length, bcs_length, hc, zeroP_length]
  · rw [Array.all_eq_true]
    intro i hi
    simp [bcs, Value.oneCell']

theorem wp_load_page {ops : Array Oper} {rest : List Oper} {op : Oper} {a : Act} {w : World} {Q : Exit → Act → World → Prop} (hgd : op.guard = none) (x : Operand) (ho : op.op = .load 130 x) (b : Nat) (hx : a.eval x = .pointer (some ⟨b, 0, none⟩)) (C : Array Value)
    (hl : (Instr.loadAt 130 (.pointer (some ⟨b, 0, none⟩))).run Tryz.prog w = .ok (.agg C) w) (h : wpList Tryz.prog ops Q rest (a.put op.dst (.agg C)) w) : wpList Tryz.prog ops Q (op :: rest) a w :=
  wpList_plain hgd fun _ hK => by
    unfold Oper.wp execOp
    simp only [ho, hx, Sem.run_bind, Sem.run_pure, Result.andThen_ok, hl]
    exact hK _ _ h

theorem wp_store_page {ops : Array Oper} {rest : List Oper} {op : Oper} {a : Act} {w w' : World} {Q : Exit → Act → World → Prop} (hgd : op.guard = none) (x y : Operand) (ho : op.op = .store 130 x y) (b : Nat) (C : Array Value) (hx : a.eval x = .pointer (some ⟨b, 0, none⟩)) (hy : a.eval y = .agg C)
    (hs : (Instr.storeAt 130 (.pointer (some ⟨b, 0, none⟩)) (.agg C)).run Tryz.prog w = .ok () w') (h : wpList Tryz.prog ops Q rest (a.put op.dst undef) w') : wpList Tryz.prog ops Q (op :: rest) a w :=
  wpList_plain hgd fun _ hK => by
    unfold Oper.wp execOp
    simp only [ho, hx, hy, Sem.run_bind, Sem.run_pure, Result.andThen_ok, hs]
    exact hK _ _ h

set_option maxRecDepth 100000 in
theorem load_blk {s : Ar} {w : World} (h : ArP s w) (ho : s.abs.Ok) {n : Int} {c : List UInt8} (hn : s.abs.at n = some c) : Calls Tryz.prog 53 #[arV s.p, .int .i64 n] w fun e w' => e = .returned (.tuple #[.slice (some ⟨w.heap.size, 0, none⟩) 1024 1024, .int .i64 0]) ∧ w'.heap[w.heap.size]? = some (.cells (bcs c).toArray 130 (0, 0)) ∧ Below w.heap.size w w' := by
  have hl : s.pg.length ≤ 4096 := by simpa [Ar.abs] using ho.small
  have HF := find_walk h hl n
  rw [hn] at HF
  have HF' : Calls Tryz.prog 78 #[arV s.p, .int .i64 n] w fun e w' => e = .returned (.int .i64 0) ∧ w' = w := HF
  clear HF
  obtain ⟨m, b, rfl, hx⟩ := at_pg hn
  have hc1 : c.length = 1024 := ho.len c (List.mem_of_getElem? (Abs.at_some hn).2.2)
  have hpg := h.pgs b c (List.mem_of_getElem? hx)
  obtain ⟨g, cap, hv, hg, hml, hc, hcell, hfz⟩ := h.page hx
  obtain ⟨c0, _, _, hp, hf⟩ := h.cell
  have hld := page_load hpg hc1
  obtain ⟨Z, hZ⟩ : ∃ Z, Hid (Z = (bcs zeroP).toArray) := ⟨_, rfl⟩
  obtain ⟨C, hC⟩ : ∃ C, Hid (C = (bcs c).toArray) := ⟨_, rfl⟩
  have hst : (Instr.storeAt 130 (.pointer (some ⟨w.heap.size, 0, none⟩)) (.agg C)).run Tryz.prog (w.alloc (.cells Z 130)) = .ok () (w.alloc (.cells C 130)) := by
    rw [hZ.out, hC.out]
    exact page_store w hc1
  have hz := zero_page.1
  rw [← hZ.out] at hz
  rw [← hC.out] at hld
  rw [hv] at c0
  have hw : wrap64 (m : Int) = m := by unfold wrap64; omega
  have hcell' : w.cell? ⟨g, m, none⟩ = some (.pointer (some ⟨b, 0, none⟩)) := hcell
  clear hn hx hv hcell ho h hpg
  unfold arV at *
  go_enter Tryz.func53, Tryz.ntmps53
  go_wp2_with fail
  refine HF'.mono ?_
  rintro e w1 ⟨rfl, rfl⟩
  have HL : Hid ((Instr.loadAt 130 (.pointer (some ⟨b, 0, none⟩))).run Tryz.prog w1 = .ok (.agg C) w1) := hld
  have HS : Hid ((Instr.storeAt 130 (.pointer (some ⟨w1.heap.size, 0, none⟩)) (.agg C)).run Tryz.prog (w1.alloc (.cells Z 130)) = .ok () (w1.alloc (.cells C 130))) := hst
  clear hld hst
  go_wp2_with (first | (refine wp_load_page rfl _ rfl b rfl C HL.out ?_) | (refine wp_store_page rfl _ _ rfl w1.heap.size C rfl rfl HS.out ?_) | go_in)
  go_ret2
  exact ⟨rfl, by rw [← hC.out]; exact heap_alloc_new _ _, below_alloc _ _⟩

theorem load_ok {s : Ar} {w : World} (h : ArP s w) (ho : s.abs.Ok) {n : Int} {c : List UInt8} (hn : s.abs.at n = some c) : Calls Tryz.prog 53 #[arV s.p, .int .i64 n] w fun e w' => ∃ v, e = .returned (.tuple #[v, .int .i64 0]) ∧ BS w' w.heap.size v c ∧ Below w.heap.size w w' := by
  have hc1 : c.length = 1024 := ho.len c (List.mem_of_getElem? (Abs.at_some hn).2.2)
  exact (load_blk h ho hn).mono fun _ _ ⟨he, hk, hb⟩ => ⟨_, he, ⟨by rw [hc1], _, hk⟩, hb⟩

theorem wp_copy_page {ops : Array Oper} {rest : List Oper} {op : Oper} {a : Act} {w w' : World} {Q : Exit → Act → World → Prop} (hgd : op.guard = none) (x y : Operand) (ho : op.op = .call { callee := .builtin .copy, args := #[x, y], argTypes := #[102, 102] }) (vx vy r : Value) (hx : a.eval x = vx) (hy : a.eval y = vy)
    (hs : ∀ ty, (Builtin.copy_ #[102, 102] ty #[vx, vy]).run Tryz.prog w = .ok r w') (h : wpList Tryz.prog ops Q rest (a.put op.dst r) w') : wpList Tryz.prog ops Q (op :: rest) a w :=
  wpList_plain hgd fun _ hK => by
    unfold Oper.wp execOp
    simp only [ho, resolve, invoke, builtin, Sem.run_bind, Sem.run_pure, Result.andThen_ok, List.map_toArray, List.map_cons, List.map_nil, hx, hy, hs]
    exact hK _ _ h

set_option maxRecDepth 100000 in
theorem page_copy (w : World) {b : Nat} {v : Value} {d : List UInt8} (hv : BS w b v d) (hd : d.length = 1024) (ty : TypeId) : (Builtin.copy_ #[102, 102] ty #[.slice (some ⟨w.heap.size, 0, none⟩) 1024 1024, .slice (some ⟨b, 0, none⟩) d.length d.length]).run Tryz.prog (w.alloc (.cells (bcs zeroP).toArray 130)) = .ok (goInt 1024) (w.alloc (.cells (bcs d).toArray 130)) := by
  obtain ⟨hb, hc, _⟩ := hv.cell
  have hl : (bcs d).length = 1024 := by rw [bcs_length, hd]
  have hz : (bcs zeroP).length = 1024 := by rw [bcs_length, zeroP_length]
  have := run_copy_row (P := Tryz.prog) (w.alloc (.cells (bcs zeroP).toArray 130)) 102 102 ty 5 w.heap.size 0 1024 1024 ⟨b, 0, none⟩ d.length d.length (bcs zeroP).toArray 130 (bcs d) Tryz.underlying102 (by kernel_rfl) (heap_alloc_new _ _) (by rw [hl, hd]; rfl) (fun j u hj => by
    rw [show (⟨b, 0, none⟩ : Addr).add j = ⟨b, j, none⟩ by unfold Addr.add; split <;> simp_all]
    simp only [bcs, List.getElem?_map, Option.map_eq_some_iff] at hj
    obtain ⟨c, hj, rfl⟩ := hj
    rw [(below_alloc w _).cell hb]
    exact hc j c hj) (by rw [hl, List.size_toArray, hz]; exact Nat.le_refl _) (fun u hu => by
    simp only [bcs, List.mem_map] at hu
    obtain ⟨c, _, rfl⟩ := hu
    rfl)
  rw [this, hl, World.setRow_alloc_new]
  congr 3
  simp only [List.take_zero, List.nil_append, Nat.zero_add]
  rw [List.drop_eq_nil_of_le (by rw [hz]; exact Nat.le_refl _), List.append_nil]

set_option maxRecDepth 100000 in
theorem store_ok {s : Ar} {w : World} (h : ArP s w) (ho : s.abs.Ok) {n : Int} {c : List UInt8} (hn : s.abs.at n = some c) {v : Value} {b' : Nat} {d : List UInt8} (hv' : BS w b' v d) (hd : d.length = 1024) : Calls Tryz.prog 94 #[arV s.p, .int .i64 n, v] w fun e w' => e = .returned (.int .i64 0) ∧ Goes s w (s.abs.lay n.toNat (some d)) w' := by
  have hl : s.pg.length ≤ 4096 := by simpa [Ar.abs] using ho.small
  have HF := find_walk h hl n
  rw [hn] at HF
  have HF' : Calls Tryz.prog 78 #[arV s.p, .int .i64 n] w fun e w' => e = .returned (.int .i64 0) ∧ w' = w := HF
  clear HF
  obtain ⟨m, b, rfl, hx⟩ := at_pg hn
  obtain ⟨g, cap, hv, hg, hml, hc, hcell, hfz⟩ := h.page hx
  obtain ⟨c0, _, _, hp, hf⟩ := h.cell
  have hcp := page_copy w hv' hd
  rw [hv'.1]
  rw [hd] at hcp ⊢
  obtain ⟨Z, hZ⟩ : ∃ Z, Hid (Z = (bcs zeroP).toArray) := ⟨_, rfl⟩
  obtain ⟨C, hC⟩ : ∃ C, Hid (C = (bcs d).toArray) := ⟨_, rfl⟩
  have hz := zero_page.1
  rw [← hZ.out] at hz hcp
  rw [← hC.out] at hcp
  have K := (arSt.below h (below_alloc w (.cells C 130)) : ArP s _).setp hv m (some (w.heap.size, d)) (fun b c e => by
    cases e
    rw [← hC.out]
    exact heap_alloc_new _ _)
  rw [show (w.alloc (.cells C 130)).setCell ⟨g, m, none⟩ (pgv (some (w.heap.size, d))) = (w.setCell ⟨g, m, none⟩ (.pointer (some ⟨w.heap.size, 0, none⟩))).alloc (.cells C 130) by
    show (w.alloc (.cells C 130)).setCell ⟨g, m, none⟩ (.pointer (some ⟨w.heap.size, 0, none⟩)) = _
    exact World.setCell_alloc_past _ _ _ _ hg] at K
  have HK : Hid (Goes s w (s.abs.lay (m + 1) (some d)) ((w.setCell ⟨g, m, none⟩ (.pointer (some ⟨w.heap.size, 0, none⟩))).alloc (.cells C 130))) := ⟨_, K.1, rfl, abs_set _ _ _, (Moves.below (below_alloc _ _)).trans K.2⟩
  have hm1 : ((m : Int) + 1).toNat = m + 1 := by omega
  rw [hm1]
  rw [hv] at c0
  have hw : wrap64 (m : Int) = m := by unfold wrap64; omega
  have hcell' : w.cell? ⟨g, m, none⟩ = some (.pointer (some ⟨b, 0, none⟩)) := hcell
  clear hn hx hv hcell ho h hv' K
  unfold arV at *
  go_enter Tryz.func94, Tryz.ntmps94
  go_wp2_with fail
  refine HF'.mono ?_
  rintro e w1 ⟨rfl, rfl⟩
  have HL : Hid _ := hcp
  clear hcp
  go_wp2_with (first | (refine wp_copy_page rfl _ _ rfl _ _ _ rfl rfl HL.out ?_) | go_in)
  go_ret
  exact ⟨rfl, HK.out⟩
end Go.Proofs.YtfdfamjajhmihaaGreat.L4
/-
  The program's arena: Pages.
-/
namespace Go.Proofs.YtfdfamjajhmihaaGreat.L4
open Go.RowKit

/-- The numbers in use, of the first j. -/
def upto {β : Type} (pg : List (Option β)) (j : Nat) : List Nat := ((List.range j).filter fun i => ((pg[i]?).join).isSome).map (· + 1)

theorem upto_succ {β : Type} (pg : List (Option β)) (j : Nat) : upto pg (j + 1) = upto pg j ++ (if ((pg[j]?).join).isSome then [j + 1] else []) := by
  unfold upto
  rw [List.range_succ, List.filter_append, List.map_append]
  congr 1
  by_cases h : ((pg[j]?).join).isSome <;> simp [h]

def Abs.pages (a : Abs) : List Nat := upto a.pg a.pg.length

/-- Numbers in a row of the call's own. -/
def IS (base : Nat) (W : World) (v : Value) (l : List Nat) : Prop := W.ownsRow base 3 1 v l.length (l.map nv)

theorem IS.below {base : Nat} {W W' : World} {v : Value} {l : List Nat} (h : IS base W v l) (hb : Below W.heap.size W W') : IS base W' v l :=
  owns_of_block h fun k hk => hb.block k (World.ownsRow.lt h k hk).2

end Go.Proofs.YtfdfamjajhmihaaGreat.L4
/-
  An arena of the call's own (Has), what each call makes of it; the document's example (awake).
-/
namespace Go.Proofs.YtfdfamjajhmihaaGreat.L4
open Go.RowKit

/-- The arena a at p, all of whose blocks are newer than w0; nothing older has turned. -/
def Has (w0 : World) (p : Nat) (a : Abs) (w : World) : Prop := ∃ s, s.p = p ∧ ArP s w ∧ s.abs = a ∧ a.Ok ∧ Below w0.heap.size w0 w ∧ ∀ k, s.own k → w0.heap.size ≤ k

theorem Has.ok {w0 w : World} {p : Nat} {a : Abs} (h : Has w0 p a w) : a.Ok := by obtain ⟨_, _, _, _, h, _⟩ := h; exact h
theorem Has.B {w0 w : World} {p : Nat} {a : Abs} (h : Has w0 p a w) : Below w0.heap.size w0 w := by obtain ⟨_, _, _, _, _, h, _⟩ := h; exact h

theorem Has.below {w0 w w' : World} {p : Nat} {a : Abs} (h : Has w0 p a w) (hb : Below w.heap.size w w') : Has w0 p a w' := by
  obtain ⟨s, h1, h2, h3, h4, h5, h6⟩ := h
  exact ⟨s, h1, arSt.below h2 hb, h3, h4, below_on h5 hb, h6⟩

theorem small_of {s : Ar} (h : s.abs.Ok) : s.pg.length ≤ 4096 := by simpa [Ar.abs] using h.small

/-- Bytes that lie apart stay as they are. -/
def Bk (W W' : World) : Prop := ∀ (k : Nat) (cs : Array Value), W.heap[k]? = some (Obj.cells cs 5 (0, 0)) → W'.heap[k]? = W.heap[k]?

theorem Goes.bk {s : Ar} {w w' : World} {a : Abs} (h : ArP s w) (hg : Goes s w a w') : Bk w w' := by
  obtain ⟨s', _, _, _, hm⟩ := hg
  intro k cs hk
  refine hm.only.block k (Array.getElem?_eq_some_iff.1 hk).1 fun x => ?_
  obtain ⟨cur, t, h1, h2⟩ := h.tag x
  rw [hk] at h1
  simp only [Option.some.injEq, Obj.cells.injEq] at h1
  rcases h2 with h2 | h2 | h2 <;> (rw [h2] at h1; simp at h1)

/-- A page's bytes lie in a block. -/
def HeldP (W : World) (b : Nat) (c : List UInt8) : Prop := W.heap[b]? = some (.cells (bcs c).toArray 130 (0, 0))

theorem HeldP.pk {W W' : World} {b : Nat} {c : List UInt8} (h : HeldP W b c) (hp : Pk W W') : HeldP W' b c := (hp b _ h).trans h

end Go.Proofs.YtfdfamjajhmihaaGreat.L4
