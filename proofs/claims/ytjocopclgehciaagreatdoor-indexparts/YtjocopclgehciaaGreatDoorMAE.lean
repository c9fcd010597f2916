/-
  Bytes; the program's arena: Load, Store.
-/
import Derived.Deep.OwnRows
import Derived.Test.YtjocopclgehciaaGreatDoorMAD
import Derived.Deep.AppendLies
import Derived.Deep.WholeRow
import Derived.Deep.QuietTactic
import Derived.BigQuiet
import Derived.Laws.OwnMore
import Derived.Laws.Cover1
import Derived.Laws.AppendOwn
import Derived.Maps.AppendAt
import Derived.Test.YtjocopclgehciaaGreatDoorChecked
namespace Go.Proofs.YtjocopclgehciaaGreatDoor.L4
open Go.RowKit

/-- A slice of bytes that fill a block. -/
def BS (W : World) (b : Nat) (v : Value) (c : List UInt8) : Prop := v = .slice (some ⟨b, 0, none⟩) c.length c.length ∧ ∃ t, W.heap[b]? = some (.cells (bcs c).toArray t (0, 0))

theorem BS.cell {W : World} {b : Nat} {v : Value} {c : List UInt8} (h : BS W b v c) : b < W.heap.size ∧ (∀ j d, c[j]? = some d → W.cell? ⟨b, j, none⟩ = some (.int .u8 (d.toNat : Int))) ∧ ∀ j, W.frozen? ⟨b, j, none⟩ = false := by
  obtain ⟨_, t, h⟩ := h
  refine ⟨(Array.getElem?_eq_some_iff.1 h).1, fun j d hd => ?_, fun j => frozen_of_row _ _ _ _ _ h⟩
  rw [cell_of_row _ _ _ _ _ _ h]
  simp [bcs, hd]

theorem BS.below {W W' : World} {b : Nat} {v : Value} {c : List UInt8} (h : BS W b v c) (hb : Below W.heap.size W W') : BS W' b v c := by
  obtain ⟨hv, t, h⟩ := h
  exact ⟨hv, t, (hb.block b (Array.getElem?_eq_some_iff.1 h).1).trans h⟩

theorem row_block {W : World} {b : Nat} {t : TypeId} {n : Nat} {c : List UInt8} (h : W.rowIs b t n (fun i => .int .u8 ((c.getD i 0).toNat : Int))) (hn : c.length = n) : W.heap[b]? = some (.cells (bcs c).toArray t (0, 0)) := by
  obtain ⟨C, h1, h2, h3⟩ := h
  rw [h1]
  congr 2
  apply Array.ext
  · simp [bcs, h2, hn]
  · intro i hi hi'
    have h4 := h3 i (by omega)
    rw [Array.getElem?_eq_getElem hi] at h4
    simp at h4
    simp [bcs, h4]
    have hlt : i < c.length := by omega
    simp [List.getElem?_eq_getElem hlt]

/-- The text of a slice of bytes. -/
theorem conv_bs {W : World} {b : Nat} {c : List UInt8} {t : TypeId} (h : W.heap[b]? = some (.cells (bcs c).toArray t (0, 0))) (cap : Nat) : (convert 119 9 (.slice (some ⟨b, 0, none⟩) c.length cap)).run Tryz.prog W = .ok (.string ⟨c.toArray⟩) W := by
  refine run_convert_bytes_back (P := Tryz.prog) W 119 9 5 ⟨b, 0, none⟩ cap c Tryz.underlying119 Tryz.underlying5 Tryz.underlying9 (fun j hj => ?_)
  rw [show (⟨b, 0, none⟩ : Addr).add j = ⟨b, j, none⟩ by unfold Addr.add; split <;> simp_all, cell_of_row _ _ _ _ _ _ h]
  simp [bcs, List.getElem?_eq_getElem hj]

set_option maxRecDepth 100000 in
theorem load_nil (n : Int) (w : World) : Calls Tryz.prog 131 #[.pointer none, .int .i64 n] w fun e w' => e = .returned (.tuple #[.slice none 0 0, .int .i64 15]) ∧ w' = w := by
  go_enter Tryz.func131, Tryz.ntmps131
  go_wp2_with (go_at_call 90; refine (find_nil _ _).mono ?_; rintro e w1 ⟨rfl, rfl⟩)
  go_ret2
  exact ⟨rfl, rfl⟩

set_option maxRecDepth 100000 in
theorem load_no {s : Ar} {w : World} (h : ArP s w) (hl : s.pg.length ≤ 4096) {n : Int} (hn : s.abs.at n = none) : Calls Tryz.prog 131 #[arV s.p, .int .i64 n] w fun e w' => e = .returned (.tuple #[.slice none 0 0, .int .i64 2]) ∧ w' = w := by
  have HF := find_walk h hl n
  rw [hn] at HF
  have HF' : Calls Tryz.prog 90 #[arV s.p, .int .i64 n] w fun e w' => e = .returned (.int .i64 2) ∧ w' = w := HF
  clear HF
  unfold arV at *
  go_enter Tryz.func131, Tryz.ntmps131
  go_wp2_with (go_at_call 90; refine HF'.mono ?_; rintro e w1 ⟨rfl, rfl⟩)
  go_ret2
  exact ⟨rfl, rfl⟩

/-- A page as a whole, out of its block and into a new one. -/
theorem page_load {w : World} {b : Nat} {c : List UInt8} (h : w.heap[b]? = some (.cells (bcs c).toArray 149 (0, 0))) (hc : c.length = 1024) : (Instr.loadAt 149 (.pointer (some ⟨b, 0, none⟩))).run Tryz.prog w = .ok (.agg (bcs c).toArray) w := by
  have hsz : (Tryz.prog.info? 149).map (·.size) = some (bcs c).toArray.size := by rw [zero_page.2, List.size_toArray, bcs_length, hc]
  simp only [Instr.loadAt, Instr.sureAddr, Sem.run_bind, Sem.run_pure, Result.andThen]
  exact run_loadVar_row _ _ _ _ _ (0, 0) _ h Tryz.underlying149 rfl hsz

theorem page_store (w : World) {c : List UInt8} (hc : c.length = 1024) : (Instr.storeAt 149 (.pointer (some ⟨w.heap.size, 0, none⟩)) (.agg (bcs c).toArray)).run Tryz.prog (w.alloc (.cells (bcs zeroP).toArray 149)) = .ok () (w.alloc (.cells (bcs c).toArray 149)) := by
  have hsz : (Tryz.prog.info? 149).map (·.size) = some (bcs c).toArray.size := by rw [zero_page.2, List.size_toArray, bcs_length, hc]
  refine run_storeAt_new w _ _ _ hsz ?_ ?_
  · rw [List.size_toArray, List.size_toArray, bcs_length, bcs_length, hc, zeroP_length]
  · rw [Array.all_eq_true]
    intro i hi
    simp [bcs, Value.oneCell']

theorem wp_load_page {ops : Array Oper} {rest : List Oper} {op : Oper} {a : Act} {w : World} {Q : Exit → Act → World → Prop} (hgd : op.guard = none) (x : Operand) (ho : op.op = .load 149 x) (b : Nat) (hx : a.eval x = .pointer (some ⟨b, 0, none⟩)) (C : Array Value)
    (hl : (Instr.loadAt 149 (.pointer (some ⟨b, 0, none⟩))).run Tryz.prog w = .ok (.agg C) w) (h : wpList Tryz.prog ops Q rest (a.put op.dst (.agg C)) w) : wpList Tryz.prog ops Q (op :: rest) a w :=
  wpList_plain hgd fun _ hK => by
    unfold Oper.wp execOp
    simp only [ho, hx, Sem.run_bind, Sem.run_pure, Result.andThen_ok, hl]
    exact hK _ _ h

theorem wp_store_page {ops : Array Oper} {rest : List Oper} {op : Oper} {a : Act} {w w' : World} {Q : Exit → Act → World → Prop} (hgd : op.guard = none) (x y : Operand) (ho : op.op = .store 149 x y) (b : Nat) (C : Array Value) (hx : a.eval x = .pointer (some ⟨b, 0, none⟩)) (hy : a.eval y = .agg C)
    (hs : (Instr.storeAt 149 (.pointer (some ⟨b, 0, none⟩)) (.agg C)).run Tryz.prog w = .ok () w') (h : wpList Tryz.prog ops Q rest (a.put op.dst undef) w') : wpList Tryz.prog ops Q (op :: rest) a w :=
  wpList_plain hgd fun _ hK => by
    unfold Oper.wp execOp
    simp only [ho, hx, hy, Sem.run_bind, Sem.run_pure, Result.andThen_ok, hs]
    exact hK _ _ h

set_option maxRecDepth 100000 in
theorem load_blk {s : Ar} {w : World} (h : ArP s w) (ho : s.abs.Ok) {n : Int} {c : List UInt8} (hn : s.abs.at n = some c) : Calls Tryz.prog 131 #[arV s.p, .int .i64 n] w fun e w' => e = .returned (.tuple #[.slice (some ⟨w.heap.size, 0, none⟩) 1024 1024, .int .i64 0]) ∧ w'.heap[w.heap.size]? = some (.cells (bcs c).toArray 149 (0, 0)) ∧ Below w.heap.size w w' := by
  have hl : s.pg.length ≤ 4096 := by simpa [Ar.abs] using ho.small
  have HF := find_walk h hl n
  rw [hn] at HF
  have HF' : Calls Tryz.prog 90 #[arV s.p, .int .i64 n] w fun e w' => e = .returned (.int .i64 0) ∧ w' = w := HF
  clear HF
  obtain ⟨m, b, rfl, hx⟩ := at_pg hn
  have hc1 : c.length = 1024 := ho.len c (List.mem_of_getElem? (Abs.at_some hn).2.2)
  have hpg := h.pgs b c (List.mem_of_getElem? hx)
  obtain ⟨g, cap, hv, hg, hml, hc, hcell, hfz⟩ := h.page hx
  obtain ⟨c0, _, _, hp, hf⟩ := h.cell
  have hld := page_load hpg hc1
  obtain ⟨Z, hZ⟩ : ∃ Z, Hid (Z = (bcs zeroP).toArray) := ⟨_, rfl⟩
  obtain ⟨C, hC⟩ : ∃ C, Hid (C = (bcs c).toArray) := ⟨_, rfl⟩
  have hst : (Instr.storeAt 149 (.pointer (some ⟨w.heap.size, 0, none⟩)) (.agg C)).run Tryz.prog (w.alloc (.cells Z 149)) = .ok () (w.alloc (.cells C 149)) := by
    rw [hZ.out, hC.out]
    exact page_store w hc1
  have hz := zero_page.1
  rw [← hZ.out] at hz
  rw [← hC.out] at hld
  rw [hv] at c0
  have hw : wrap64 (m : Int) = m := by unfold wrap64; omega
  have hcell' : w.cell? ⟨g, m, none⟩ = some (.pointer (some ⟨b, 0, none⟩)) := hcell
  clear hn hx hv hcell ho h hpg
  unfold arV at *
  go_enter Tryz.func131, Tryz.ntmps131
  go_wp2_with fail
  refine HF'.mono ?_
  rintro e w1 ⟨rfl, rfl⟩
  have HL : Hid ((Instr.loadAt 149 (.pointer (some ⟨b, 0, none⟩))).run Tryz.prog w1 = .ok (.agg C) w1) := hld
  have HS : Hid ((Instr.storeAt 149 (.pointer (some ⟨w1.heap.size, 0, none⟩)) (.agg C)).run Tryz.prog (w1.alloc (.cells Z 149)) = .ok () (w1.alloc (.cells C 149))) := hst
  clear hld hst
  go_wp2_with (first | (refine wp_load_page rfl _ rfl b rfl C HL.out ?_) | (refine wp_store_page rfl _ _ rfl w1.heap.size C rfl rfl HS.out ?_) | go_in)
  go_ret2
  exact ⟨rfl, by rw [← hC.out]; exact heap_alloc_new _ _, below_alloc _ _⟩

theorem load_ok {s : Ar} {w : World} (h : ArP s w) (ho : s.abs.Ok) {n : Int} {c : List UInt8} (hn : s.abs.at n = some c) : Calls Tryz.prog 131 #[arV s.p, .int .i64 n] w fun e w' => ∃ v, e = .returned (.tuple #[v, .int .i64 0]) ∧ BS w' w.heap.size v c ∧ Below w.heap.size w w' := by
  have hc1 : c.length = 1024 := ho.len c (List.mem_of_getElem? (Abs.at_some hn).2.2)
  exact (load_blk h ho hn).mono fun _ _ ⟨he, hk, hb⟩ => ⟨_, he, ⟨by rw [hc1], _, hk⟩, hb⟩

set_option maxRecDepth 100000 in
theorem store_nil (n : Int) (v : Value) (w : World) : Calls Tryz.prog 93 #[.pointer none, .int .i64 n, v] w fun e w' => e = .returned (.int .i64 15) ∧ w' = w := by
  go_enter Tryz.func93, Tryz.ntmps93
  go_wp2_with (go_at_call 90; refine (find_nil _ _).mono ?_; rintro e w1 ⟨rfl, rfl⟩)
  go_ret
  exact ⟨rfl, rfl⟩

set_option maxRecDepth 100000 in
theorem store_no {s : Ar} {w : World} (h : ArP s w) (hl : s.pg.length ≤ 4096) {n : Int} (hn : s.abs.at n = none) (v : Value) : Calls Tryz.prog 93 #[arV s.p, .int .i64 n, v] w fun e w' => e = .returned (.int .i64 2) ∧ w' = w := by
  have HF := find_walk h hl n
  rw [hn] at HF
  have HF' : Calls Tryz.prog 90 #[arV s.p, .int .i64 n] w fun e w' => e = .returned (.int .i64 2) ∧ w' = w := HF
  clear HF
  unfold arV at *
  go_enter Tryz.func93, Tryz.ntmps93
  go_wp2_with (go_at_call 90; refine HF'.mono ?_; rintro e w1 ⟨rfl, rfl⟩)
  go_ret
  exact ⟨rfl, rfl⟩

set_option maxRecDepth 100000 in
theorem store_long {s : Ar} {w : World} (h : ArP s w) (hl : s.pg.length ≤ 4096) {n : Int} {c : List UInt8} (hn : s.abs.at n = some c) {v : Value} {b : Nat} {d : List UInt8} (hv : BS w b v d) (hd : d.length ≠ 1024) : Calls Tryz.prog 93 #[arV s.p, .int .i64 n, v] w fun e w' => e = .returned (.int .i64 15) ∧ w' = w := by
  have HF := find_walk h hl n
  rw [hn] at HF
  have HF' : Calls Tryz.prog 90 #[arV s.p, .int .i64 n] w fun e w' => e = .returned (.int .i64 0) ∧ w' = w := HF
  clear HF
  rw [hv.1]
  have hd' : ((d.length : Int) == 1024) = false := by rw [beq_eq_false_iff_ne]; omega
  clear hv hd h hn
  unfold arV at *
  go_enter Tryz.func93, Tryz.ntmps93
  go_wp2_with (go_at_call 90; refine HF'.mono ?_; rintro e w1 ⟨rfl, rfl⟩)
  go_ret
  exact ⟨rfl, rfl⟩

theorem wp_copy_page {ops : Array Oper} {rest : List Oper} {op : Oper} {a : Act} {w w' : World} {Q : Exit → Act → World → Prop} (hgd : op.guard = none) (x y : Operand) (ho : op.op = .call { callee := .builtin .copy, args := #[x, y], argTypes := #[119, 119] }) (vx vy r : Value) (hx : a.eval x = vx) (hy : a.eval y = vy)
    (hs : ∀ ty, (Builtin.copy_ #[119, 119] ty #[vx, vy]).run Tryz.prog w = .ok r w') (h : wpList Tryz.prog ops Q rest (a.put op.dst r) w') : wpList Tryz.prog ops Q (op :: rest) a w :=
  wpList_plain hgd fun _ hK => by
    unfold Oper.wp execOp
    simp only [ho, resolve, invoke, builtin, Sem.run_bind, Sem.run_pure, Result.andThen_ok, List.map_toArray, List.map_cons, List.map_nil, hx, hy, hs]
    exact hK _ _ h

set_option maxRecDepth 100000 in
theorem page_copy (w : World) {b : Nat} {v : Value} {d : List UInt8} (hv : BS w b v d) (hd : d.length = 1024) (ty : TypeId) : (Builtin.copy_ #[119, 119] ty #[.slice (some ⟨w.heap.size, 0, none⟩) 1024 1024, .slice (some ⟨b, 0, none⟩) d.length d.length]).run Tryz.prog (w.alloc (.cells (bcs zeroP).toArray 149)) = .ok (goInt 1024) (w.alloc (.cells (bcs d).toArray 149)) := by
  obtain ⟨hb, hc, _⟩ := hv.cell
  have hl : (bcs d).length = 1024 := by rw [bcs_length, hd]
  have hz : (bcs zeroP).length = 1024 := by rw [bcs_length, zeroP_length]
  have := run_copy_row (P := Tryz.prog) (w.alloc (.cells (bcs zeroP).toArray 149)) 119 119 ty 5 w.heap.size 0 1024 1024 ⟨b, 0, none⟩ d.length d.length (bcs zeroP).toArray 149 (bcs d) Tryz.underlying119 (by kernel_rfl) (heap_alloc_new _ _) (by rw [hl, hd]; rfl) (fun j u hj => by
    rw [show (⟨b, 0, none⟩ : Addr).add j = ⟨b, j, none⟩ by unfold Addr.add; split <;> simp_all]
    simp only [bcs, List.getElem?_map, Option.map_eq_some_iff] at hj
    obtain ⟨c, hj, rfl⟩ := hj
    rw [(below_alloc w _).cell hb]
    exact hc j c hj) (by rw [hl, List.size_toArray, hz]; exact Nat.le_refl _) (fun u hu => by
    simp only [bcs, List.mem_map] at hu
    obtain ⟨c, _, rfl⟩ := hu
    rfl)
  rw [this, hl, World.setRow_alloc_new]
  congr 3
  simp only [List.take_zero, List.nil_append, Nat.zero_add]
  rw [List.drop_eq_nil_of_le (by rw [hz]; exact Nat.le_refl _), List.append_nil]

set_option maxRecDepth 100000 in
theorem store_ok {s : Ar} {w : World} (h : ArP s w) (ho : s.abs.Ok) {n : Int} {c : List UInt8} (hn : s.abs.at n = some c) {v : Value} {b' : Nat} {d : List UInt8} (hv' : BS w b' v d) (hd : d.length = 1024) : Calls Tryz.prog 93 #[arV s.p, .int .i64 n, v] w fun e w' => e = .returned (.int .i64 0) ∧ Goes s w (s.abs.lay n.toNat (some d)) w' := by
  have hl : s.pg.length ≤ 4096 := by simpa [Ar.abs] using ho.small
  have HF := find_walk h hl n
  rw [hn] at HF
  have HF' : Calls Tryz.prog 90 #[arV s.p, .int .i64 n] w fun e w' => e = .returned (.int .i64 0) ∧ w' = w := HF
  clear HF
  obtain ⟨m, b, rfl, hx⟩ := at_pg hn
  obtain ⟨g, cap, hv, hg, hml, hc, hcell, hfz⟩ := h.page hx
  obtain ⟨c0, _, _, hp, hf⟩ := h.cell
  have hcp := page_copy w hv' hd
  rw [hv'.1]
  rw [hd] at hcp ⊢
  obtain ⟨Z, hZ⟩ : ∃ Z, Hid (Z = (bcs zeroP).toArray) := ⟨_, rfl⟩
  obtain ⟨C, hC⟩ : ∃ C, Hid (C = (bcs d).toArray) := ⟨_, rfl⟩
  have hz := zero_page.1
  rw [← hZ.out] at hz hcp
  rw [← hC.out] at hcp
  have K := (arSt.below h (below_alloc w (.cells C 149)) : ArP s _).setp hv m (some (w.heap.size, d)) (fun b c e => by
    cases e
    rw [← hC.out]
    exact heap_alloc_new _ _)
  rw [show (w.alloc (.cells C 149)).setCell ⟨g, m, none⟩ (pgv (some (w.heap.size, d))) = (w.setCell ⟨g, m, none⟩ (.pointer (some ⟨w.heap.size, 0, none⟩))).alloc (.cells C 149) by
    show (w.alloc (.cells C 149)).setCell ⟨g, m, none⟩ (.pointer (some ⟨w.heap.size, 0, none⟩)) = _
    exact World.setCell_alloc_past _ _ _ _ hg] at K
  have HK : Hid (Goes s w (s.abs.lay (m + 1) (some d)) ((w.setCell ⟨g, m, none⟩ (.pointer (some ⟨w.heap.size, 0, none⟩))).alloc (.cells C 149))) := ⟨_, K.1, rfl, abs_set _ _ _, (Moves.below (below_alloc _ _)).trans K.2⟩
  have hm1 : ((m : Int) + 1).toNat = m + 1 := by omega
  rw [hm1]
  rw [hv] at c0
  have hw : wrap64 (m : Int) = m := by unfold wrap64; omega
  have hcell' : w.cell? ⟨g, m, none⟩ = some (.pointer (some ⟨b, 0, none⟩)) := hcell
  clear hn hx hv hcell ho h hv' K
  unfold arV at *
  go_enter Tryz.func93, Tryz.ntmps93
  go_wp2_with fail
  refine HF'.mono ?_
  rintro e w1 ⟨rfl, rfl⟩
  have HL : Hid _ := hcp
  clear hcp
  go_wp2_with (first | (refine wp_copy_page rfl _ _ rfl _ _ _ rfl rfl HL.out ?_) | go_in)
  go_ret
  exact ⟨rfl, HK.out⟩
end Go.Proofs.YtjocopclgehciaaGreatDoor.L4
/-
  The program's arena: Pages.
-/
namespace Go.Proofs.YtjocopclgehciaaGreatDoor.L4
open Go.RowKit

/-- The numbers in use, of the first j. -/
def upto {β : Type} (pg : List (Option β)) (j : Nat) : List Nat := ((List.range j).filter fun i => ((pg[i]?).join).isSome).map (· + 1)

theorem upto_succ {β : Type} (pg : List (Option β)) (j : Nat) : upto pg (j + 1) = upto pg j ++ (if ((pg[j]?).join).isSome then [j + 1] else []) := by
  unfold upto
  rw [List.range_succ, List.filter_append, List.map_append]
  congr 1
  by_cases h : ((pg[j]?).join).isSome <;> simp [h]

theorem upto_length {β : Type} (pg : List (Option β)) (j : Nat) : (upto pg j).length ≤ j := by
  unfold upto
  rw [List.length_map]
  exact Nat.le_trans (List.length_filter_le _ _) (by simp)

def Abs.pages (a : Abs) : List Nat := upto a.pg a.pg.length

theorem upto_abs (s : Ar) (j : Nat) : upto s.abs.pg j = upto s.pg j := by
  unfold upto Ar.abs
  congr 1
  apply List.filter_congr
  intro i _
  simp only [List.getElem?_map]
  cases s.pg[i]? with
  | none => rfl
  | some x => cases x <;> rfl

/-- Numbers in a row of the call's own. -/
def IS (base : Nat) (W : World) (v : Value) (l : List Nat) : Prop := W.ownsRow base 3 1 v l.length (l.map nv)

theorem IS.below {base : Nat} {W W' : World} {v : Value} {l : List Nat} (h : IS base W v l) (hb : Below W.heap.size W W') : IS base W' v l :=
  owns_of_block h fun k hk => hb.block k (World.ownsRow.lt h k hk).2

end Go.Proofs.YtjocopclgehciaaGreatDoor.L4
/-
  An arena of the call's own (Has), what each call makes of it; the document's example (awake).
-/
namespace Go.Proofs.YtjocopclgehciaaGreatDoor.L4
open Go.RowKit

/-- The arena a at p, all of whose blocks are newer than w0; nothing older has turned. -/
def Has (w0 : World) (p : Nat) (a : Abs) (w : World) : Prop := ∃ s, s.p = p ∧ ArP s w ∧ s.abs = a ∧ a.Ok ∧ Below w0.heap.size w0 w ∧ ∀ k, s.own k → w0.heap.size ≤ k

theorem Has.ok {w0 w : World} {p : Nat} {a : Abs} (h : Has w0 p a w) : a.Ok := by obtain ⟨_, _, _, _, h, _⟩ := h; exact h
theorem Has.B {w0 w : World} {p : Nat} {a : Abs} (h : Has w0 p a w) : Below w0.heap.size w0 w := by obtain ⟨_, _, _, _, _, h, _⟩ := h; exact h

theorem Has.below {w0 w w' : World} {p : Nat} {a : Abs} (h : Has w0 p a w) (hb : Below w.heap.size w w') : Has w0 p a w' := by
  obtain ⟨s, h1, h2, h3, h4, h5, h6⟩ := h
  exact ⟨s, h1, arSt.below h2 hb, h3, h4, below_on h5 hb, h6⟩

theorem Has.goes {w0 w w' : World} {s : Ar} {a : Abs} (hb : Below w0.heap.size w0 w) (hn : ∀ k, s.own k → w0.heap.size ≤ k) (hg : Goes s w a w') (ho : a.Ok) : Has w0 s.p a w' := by
  obtain ⟨s', h1, h2, h3, h4⟩ := hg
  obtain ⟨h5, h6⟩ := Moves.fresh hb h4 hn
  exact ⟨s', h2, h1, h3, ho, h5, h6⟩

theorem has_new (q : Nat) (hq : q ≤ 4096) (w : World) : Calls Tryz.prog 8 #[.int .i64 q] w fun e w' => ∃ p, e = .returned (.tuple #[arV p, .int .i64 0]) ∧ Has w p ⟨[], [], q⟩ w' :=
  (new_ok q hq w).mono fun _ _ ⟨s, he, h1, h2, h3, h4⟩ => ⟨s.p, he, s, rfl, h1, h2, abs_new q hq, h3, h4⟩

theorem has_alloc {w0 w : World} {p : Nat} {a : Abs} (h : Has w0 p a w) (hl : 0 < a.left) : Calls Tryz.prog 69 #[arV p] w fun e w' => e = .returned (.tuple #[nv a.next, .int .i64 0]) ∧ Has w0 p a.alloc w' := by
  obtain ⟨s, rfl, h2, rfl, h4, h5, h6⟩ := h
  exact (alloc_ok h2 h4 hl).mono fun _ _ ⟨he, hg⟩ => ⟨he, Has.goes h5 h6 hg (h4.alloc hl).1⟩

theorem has_full {w0 w : World} {p : Nat} {a : Abs} (h : Has w0 p a w) (hl : a.left = 0) : Calls Tryz.prog 69 #[arV p] w fun e w' => e = .returned (.tuple #[.int .i64 0, .int .i64 9]) ∧ Has w0 p a w' := by
  have h' := h
  obtain ⟨s, rfl, h2, rfl, h4, h5, h6⟩ := h
  exact (alloc_full h2 h4 hl).mono fun _ _ ⟨he, hb⟩ => ⟨he, h'.below hb⟩

theorem small_of {s : Ar} (h : s.abs.Ok) : s.pg.length ≤ 4096 := by simpa [Ar.abs] using h.small

theorem has_free {w0 w : World} {p : Nat} {a : Abs} (h : Has w0 p a w) {n : Int} {c : List UInt8} (hn : a.at n = some c) : Calls Tryz.prog 64 #[arV p, .int .i64 n] w fun e w' => e = .returned (.int .i64 0) ∧ Has w0 p (a.free n.toNat) w' := by
  obtain ⟨s, rfl, h2, rfl, h4, h5, h6⟩ := h
  exact (free_ok h2 h4 hn).mono fun _ _ ⟨he, hg⟩ => ⟨he, Has.goes h5 h6 hg (h4.free hn)⟩

theorem has_free_no {w0 w : World} {p : Nat} {a : Abs} (h : Has w0 p a w) {n : Int} (hn : a.at n = none) : Calls Tryz.prog 64 #[arV p, .int .i64 n] w fun e w' => e = .returned (.int .i64 2) ∧ Has w0 p a w' := by
  have h' := h
  obtain ⟨s, rfl, h2, rfl, h4, h5, h6⟩ := h
  exact (free_no h2 (small_of h4) hn).mono fun _ _ ⟨he, hb⟩ => ⟨he, by rw [hb]; exact h'⟩

theorem has_load {w0 w : World} {p : Nat} {a : Abs} (h : Has w0 p a w) {n : Int} {c : List UInt8} (hn : a.at n = some c) : Calls Tryz.prog 131 #[arV p, .int .i64 n] w fun e w' => ∃ v, e = .returned (.tuple #[v, .int .i64 0]) ∧ BS w' w.heap.size v c ∧ Has w0 p a w' ∧ Below w.heap.size w w' := by
  have h' := h
  obtain ⟨s, rfl, h2, rfl, h4, h5, h6⟩ := h
  exact (load_ok h2 h4 hn).mono fun _ _ ⟨v, he, hv, hb⟩ => ⟨v, he, hv, h'.below hb, hb⟩

theorem has_load_no {w0 w : World} {p : Nat} {a : Abs} (h : Has w0 p a w) {n : Int} (hn : a.at n = none) : Calls Tryz.prog 131 #[arV p, .int .i64 n] w fun e w' => e = .returned (.tuple #[.slice none 0 0, .int .i64 2]) ∧ Has w0 p a w' := by
  have h' := h
  obtain ⟨s, rfl, h2, rfl, h4, h5, h6⟩ := h
  exact (load_no h2 (small_of h4) hn).mono fun _ _ ⟨he, hb⟩ => ⟨he, by rw [hb]; exact h'⟩

theorem has_store {w0 w : World} {p : Nat} {a : Abs} (h : Has w0 p a w) {n : Int} {c : List UInt8} (hn : a.at n = some c) {v : Value} {b : Nat} {d : List UInt8} (hv : BS w b v d) (hd : d.length = 1024) : Calls Tryz.prog 93 #[arV p, .int .i64 n, v] w fun e w' => e = .returned (.int .i64 0) ∧ Has w0 p (a.lay n.toNat (some d)) w' := by
  obtain ⟨s, rfl, h2, rfl, h4, h5, h6⟩ := h
  exact (store_ok h2 h4 hn hv hd).mono fun _ _ ⟨he, hg⟩ => ⟨he, Has.goes h5 h6 hg (h4.lay hn hd)⟩

theorem has_store_no {w0 w : World} {p : Nat} {a : Abs} (h : Has w0 p a w) {n : Int} (hn : a.at n = none) (v : Value) : Calls Tryz.prog 93 #[arV p, .int .i64 n, v] w fun e w' => e = .returned (.int .i64 2) ∧ Has w0 p a w' := by
  have h' := h
  obtain ⟨s, rfl, h2, rfl, h4, h5, h6⟩ := h
  exact (store_no h2 (small_of h4) hn v).mono fun _ _ ⟨he, hb⟩ => ⟨he, by rw [hb]; exact h'⟩

theorem has_used {w0 w : World} {p : Nat} {a : Abs} (h : Has w0 p a w) : Calls Tryz.prog 19 #[arV p] w fun e w' => e = .returned (nv a.used) ∧ Has w0 p a w' ∧ Below w.heap.size w w' := by
  have h' := h
  obtain ⟨s, rfl, h2, rfl, h4, h5, h6⟩ := h
  exact (used_walk h2 h4).mono fun _ _ ⟨he, hb⟩ => ⟨he, h'.below hb, hb⟩

theorem has_left {w0 w : World} {p : Nat} {a : Abs} (h : Has w0 p a w) : Calls Tryz.prog 76 #[arV p] w fun e w' => e = .returned (nv a.left) ∧ Has w0 p a w' ∧ Below w.heap.size w w' := by
  have h' := h
  obtain ⟨s, rfl, h2, rfl, h4, h5, h6⟩ := h
  exact (left_walk h2 h4).mono fun _ _ ⟨he, hb⟩ => ⟨he, h'.below hb, hb⟩

/-- Bytes that lie apart stay as they are. -/
def Bk (W W' : World) : Prop := ∀ (k : Nat) (cs : Array Value), W.heap[k]? = some (Obj.cells cs 5 (0, 0)) → W'.heap[k]? = W.heap[k]?

theorem Goes.bk {s : Ar} {w w' : World} {a : Abs} (h : ArP s w) (hg : Goes s w a w') : Bk w w' := by
  obtain ⟨s', _, _, _, hm⟩ := hg
  intro k cs hk
  refine hm.only.block k (Array.getElem?_eq_some_iff.1 hk).1 fun x => ?_
  obtain ⟨cur, t, h1, h2⟩ := h.tag x
  rw [hk] at h1
  simp only [Option.some.injEq, Obj.cells.injEq] at h1
  rcases h2 with h2 | h2 | h2 <;> (rw [h2] at h1; simp at h1)

theorem has_store_bk {w0 w : World} {p : Nat} {a : Abs} (h : Has w0 p a w) {n : Int} {c : List UInt8} (hn : a.at n = some c) {v : Value} {b : Nat} {d : List UInt8} (hv : BS w b v d) (hd : d.length = 1024) : Calls Tryz.prog 93 #[arV p, .int .i64 n, v] w fun e w' => e = .returned (.int .i64 0) ∧ Has w0 p (a.lay n.toNat (some d)) w' ∧ Bk w w' := by
  obtain ⟨s, rfl, h2, rfl, h4, h5, h6⟩ := h
  exact (store_ok h2 h4 hn hv hd).mono fun _ _ ⟨he, hg⟩ => ⟨he, Has.goes h5 h6 hg (h4.lay hn hd), hg.bk h2⟩

/-- A page's bytes lie in a block. -/
def HeldP (W : World) (b : Nat) (c : List UInt8) : Prop := W.heap[b]? = some (.cells (bcs c).toArray 149 (0, 0))

theorem HeldP.pk {W W' : World} {b : Nat} {c : List UInt8} (h : HeldP W b c) (hp : Pk W W') : HeldP W' b c := (hp b _ h).trans h

theorem has_load_blk {w0 w : World} {p : Nat} {a : Abs} (h : Has w0 p a w) {n : Int} {c : List UInt8} (hn : a.at n = some c) : Calls Tryz.prog 131 #[arV p, .int .i64 n] w fun e w' => e = .returned (.tuple #[.slice (some ⟨w.heap.size, 0, none⟩) 1024 1024, .int .i64 0]) ∧ HeldP w' w.heap.size c ∧ Has w0 p a w' ∧ Below w.heap.size w w' := by
  have h' := h
  obtain ⟨s, rfl, h2, rfl, h4, h5, h6⟩ := h
  exact (load_blk h2 h4 hn).mono fun _ _ ⟨he, hv, hb⟩ => ⟨he, hv, h'.below hb, hb⟩

theorem has_store_pk {w0 w : World} {p : Nat} {a : Abs} (h : Has w0 p a w) {n : Int} {c : List UInt8} (hn : a.at n = some c) {v : Value} {b : Nat} {d : List UInt8} (hv : BS w b v d) (hd : d.length = 1024) : Calls Tryz.prog 93 #[arV p, .int .i64 n, v] w fun e w' => e = .returned (.int .i64 0) ∧ Has w0 p (a.lay n.toNat (some d)) w' ∧ Pk w w' := by
  obtain ⟨s, rfl, h2, rfl, h4, h5, h6⟩ := h
  refine (store_ok h2 h4 hn hv hd).mono fun _ _ ⟨he, hg⟩ => ⟨he, Has.goes h5 h6 hg (h4.lay hn hd), ?_⟩
  obtain ⟨s', _, _, _, hm⟩ := hg
  exact arSt.pk h2 hm.only

/-- A store elsewhere. -/
theorem Has.poke {w0 w : World} {p : Nat} {a : Abs} (h : Has w0 p a w) {b : Nat} {cs : Array Value} (hb : w.heap[b]? = some (.cells cs 5 (0, 0))) (h0 : w0.heap.size ≤ b) (j : Nat) (u : Value) : Has w0 p a (w.setCell ⟨b, j, none⟩ u) := by
  obtain ⟨s, h1, h2, h3, h4, h5, h6⟩ := h
  have hne : ∀ (k : Nat) (cur : Array Value) (t : TypeId), w.heap[k]? = some (Obj.cells cur t (0, 0)) → t ≠ 5 → (w.setCell ⟨b, j, none⟩ u).heap[k]? = w.heap[k]? := fun k cur t hk ht => heap_setCell_other _ _ _ _ fun e => by
    rw [show k = b from e, hb] at hk
    simp only [Option.some.injEq, Obj.cells.injEq] at hk
    exact ht hk.2.1.symm
  refine ⟨s, h1, arSt.keep s w _ h2 (fun k hk => ?_) (fun k cs hk => hne k _ _ hk (by decide)), h3, h4, h5.setCell h0 u, h6⟩
  obtain ⟨cur, t, h7, h8⟩ := h2.tag hk
  refine hne k _ _ h7 ?_
  rcases h8 with h8 | h8 | h8 <;> (rw [h8]; decide)

/-- A store into what Load has answered. -/
theorem has_load_poke {w0 w : World} {p : Nat} {a : Abs} (h : Has w0 p a w) {n : Int} {c : List UInt8} (hn : a.at n = some c) : Calls Tryz.prog 131 #[arV p, .int .i64 n] w fun e w' => ∃ v, e = .returned (.tuple #[v, .int .i64 0]) ∧ BS w' w.heap.size v c ∧ (∀ j u, Has w0 p a (w'.setCell ⟨w.heap.size, j, none⟩ u)) := by
  obtain ⟨s, rfl, h2, rfl, h4, h5, h6⟩ := h
  refine (load_ok h2 h4 hn).mono fun _ w' ⟨v, he, hv, hb⟩ => ⟨v, he, hv, fun j u => ?_⟩
  have hbb : Below w.heap.size w (w'.setCell ⟨w.heap.size, j, none⟩ u) := hb.setCell (Nat.le_refl _) u
  exact ⟨s, rfl, arSt.below h2 hbb, rfl, h4, below_on h5 hbb, h6⟩

def aw0 : Abs := ⟨[], [], 2⟩
def aw1 : Abs := ⟨[some zeroP], [], 2⟩
def aw2 : Abs := ⟨[some zeroP, some zeroP], [], 2⟩
def aw3 : Abs := ⟨[none, some zeroP], [1], 2⟩

end Go.Proofs.YtjocopclgehciaaGreatDoor.L4
/-
  Arenas: how many are in use, and which, behind each call. Of no program but for what an arena is.
-/
namespace Go.Proofs.YtjocopclgehciaaGreatDoor.L4
open Go.RowKit

theorem upto_count {β : Type} (pg : List (Option β)) : ∀ j, j ≤ pg.length → (upto pg j).length = (pg.take j).countP Option.isSome := by
  intro j
  induction j with
  | zero => intro _; simp [upto]
  | succ j ih =>
    intro hj
    rw [upto_succ, List.length_append, ih (by omega), List.take_add_one, List.countP_append]
    congr 1
    have : pg[j]? = some pg[j] := List.getElem?_eq_getElem (by omega)
    rw [this]
    cases pg[j] <;> simp

theorem Abs.Ok.pages {a : Abs} (h : a.Ok) : a.pages.length = a.used := by
  unfold Abs.pages Abs.used
  rw [upto_count _ _ (Nat.le_refl _), List.take_length, ← h.count]
  have := List.length_eq_countP_add_countP Option.isSome (l := a.pg)
  have e : a.pg.countP (fun x => decide ¬ x.isSome = true) = a.pg.countP Option.isNone := by
    congr 1
    funext x
    cases x <;> rfl
  omega

theorem Abs.next_pos {a : Abs} (h : a.Ok) : 1 ≤ a.next := by
  unfold Abs.next
  split
  · omega
  · rename_i n hn
    exact (h.low n (List.mem_of_getLast? hn)).1

theorem Abs.at_nat (a : Abs) (n : Nat) (hn : 1 ≤ n) : a.at (n : Int) = (a.pg[n - 1]?).join := by
  unfold Abs.at
  rw [if_pos (by omega), Int.toNat_natCast]

theorem Abs.take_pg {a : Abs} (h : a.Ok) : a.take.pg[a.next - 1]? = some none ∧ a.take.q = a.q ∧ a.take.pg.length - a.take.fr.length = a.used + 1 ∧ a.take.fr.length ≤ a.take.pg.length := by
  have hle := h.le
  unfold Abs.take Abs.next Abs.used
  cases hg : a.fr.getLast? with
  | none =>
    have hf : a.fr = [] := by simpa using hg
    refine ⟨by simp, rfl, ?_, ?_⟩
    · simp [hf]
    · simp [hf]
  | some n =>
    have hm := List.mem_of_getLast? hg
    have hl : 0 < a.fr.length := List.length_pos_of_mem hm
    refine ⟨(h.low n hm).2, rfl, ?_, ?_⟩
    · simp only [List.length_dropLast]; omega
    · simp only [List.length_dropLast]; omega

theorem Abs.alloc_used {a : Abs} (h : a.Ok) : a.alloc.used = a.used + 1 ∧ a.alloc.q = a.q ∧ a.alloc.at (a.next : Int) = some zeroP := by
  obtain ⟨h1, h2, h3, _⟩ := Abs.take_pg h
  refine ⟨?_, h2, ?_⟩
  · unfold Abs.alloc Abs.lay
    show (a.take.pg.set (a.next - 1) (some zeroP)).length - a.take.fr.length = _
    rw [List.length_set]
    exact h3
  · rw [Abs.at_nat _ _ (Abs.next_pos h)]
    have hlt := (List.getElem?_eq_some_iff.1 h1).1
    show ((a.take.pg.set (a.next - 1) (some zeroP))[a.next - 1]?).join = _
    rw [List.getElem?_set_self hlt]
    rfl

theorem Abs.lay_used (a : Abs) (n : Nat) (c : Option (List UInt8)) : (a.lay n c).used = a.used ∧ (a.lay n c).q = a.q := by
  unfold Abs.lay Abs.used
  simp

theorem Abs.free_used {a : Abs} {n : Nat} : (a.free n).used ≤ a.used ∧ (a.free n).q = a.q := by
  unfold Abs.free Abs.lay Abs.used
  simp
  omega
end Go.Proofs.YtjocopclgehciaaGreatDoor.L4
/-
  An arena beside anything that stands while it moves (HG), and what each call makes of it.
-/
namespace Go.Proofs.YtjocopclgehciaaGreatDoor.L4
open Go.RowKit

/-- Whatever an arena's call does, it stands. -/
def Stable (Φ : Ar → World → Prop) : Prop := ∀ s s' w w', ArP s w → Φ s w → ArP s' w' → s'.p = s.p → Moves arSt s s' w w' → Φ s' w'

/-- The arena a at p, and Φ. -/
def HG (Φ : Ar → World → Prop) (p : Nat) (a : Abs) (w : World) : Prop := ∃ s, s.p = p ∧ ArP s w ∧ s.abs = a ∧ a.Ok ∧ Φ s w

variable {Φ : Ar → World → Prop} {p : Nat} {a : Abs} {w : World}

theorem HG.ok (h : HG Φ p a w) : a.Ok := by obtain ⟨_, _, _, _, h, _⟩ := h; exact h

theorem HG.below (hs : Stable Φ) {w' : World} (h : HG Φ p a w) (hb : Below w.heap.size w w') : HG Φ p a w' := by
  obtain ⟨s, h1, h2, h3, h4, h5⟩ := h
  exact ⟨s, h1, arSt.below h2 hb, h3, h4, hs s s w w' h2 h5 (arSt.below h2 hb) rfl (Moves.below hb)⟩

theorem HG.goes (hs : Stable Φ) {w' : World} {s : Ar} {a' : Abs} (h : ArP s w) (hΦ : Φ s w) (hg : Goes s w a' w') (ho : a'.Ok) : HG Φ s.p a' w' := by
  obtain ⟨s', h1, h2, h3, h4⟩ := hg
  exact ⟨s', h2, h1, h3, ho, hs s s' w w' h hΦ h1 h2 h4⟩

theorem g_alloc (hs : Stable Φ) (h : HG Φ p a w) (hl : 0 < a.left) : Calls Tryz.prog 69 #[arV p] w fun e w' => e = .returned (.tuple #[nv a.next, .int .i64 0]) ∧ HG Φ p a.alloc w' := by
  obtain ⟨s, rfl, h2, rfl, h4, h5⟩ := h
  exact (alloc_ok h2 h4 hl).mono fun _ _ ⟨he, hg⟩ => ⟨he, HG.goes hs h2 h5 hg (h4.alloc hl).1⟩

theorem g_full (hs : Stable Φ) (h : HG Φ p a w) (hl : a.left = 0) : Calls Tryz.prog 69 #[arV p] w fun e w' => e = .returned (.tuple #[.int .i64 0, .int .i64 9]) ∧ HG Φ p a w' := by
  have h' := h
  obtain ⟨s, rfl, h2, rfl, h4, h5⟩ := h
  exact (alloc_full h2 h4 hl).mono fun _ _ ⟨he, hb⟩ => ⟨he, h'.below hs hb⟩

theorem g_free (hs : Stable Φ) (h : HG Φ p a w) {n : Int} {c : List UInt8} (hn : a.at n = some c) : Calls Tryz.prog 64 #[arV p, .int .i64 n] w fun e w' => e = .returned (.int .i64 0) ∧ HG Φ p (a.free n.toNat) w' := by
  obtain ⟨s, rfl, h2, rfl, h4, h5⟩ := h
  exact (free_ok h2 h4 hn).mono fun _ _ ⟨he, hg⟩ => ⟨he, HG.goes hs h2 h5 hg (h4.free hn)⟩

theorem g_free_no (h : HG Φ p a w) {n : Int} (hn : a.at n = none) : Calls Tryz.prog 64 #[arV p, .int .i64 n] w fun e w' => e = .returned (.int .i64 2) ∧ HG Φ p a w' := by
  have h' := h
  obtain ⟨s, rfl, h2, rfl, h4, h5⟩ := h
  exact (free_no h2 (small_of h4) hn).mono fun _ _ ⟨he, hb⟩ => ⟨he, by rw [hb]; exact h'⟩

theorem g_load (hs : Stable Φ) (h : HG Φ p a w) {n : Int} {c : List UInt8} (hn : a.at n = some c) : Calls Tryz.prog 131 #[arV p, .int .i64 n] w fun e w' => e = .returned (.tuple #[.slice (some ⟨w.heap.size, 0, none⟩) 1024 1024, .int .i64 0]) ∧ HeldP w' w.heap.size c ∧ HG Φ p a w' ∧ Below w.heap.size w w' := by
  have h' := h
  obtain ⟨s, rfl, h2, rfl, h4, h5⟩ := h
  exact (load_blk h2 h4 hn).mono fun _ _ ⟨he, hv, hb⟩ => ⟨he, hv, h'.below hs hb, hb⟩

theorem g_load_no (h : HG Φ p a w) {n : Int} (hn : a.at n = none) : Calls Tryz.prog 131 #[arV p, .int .i64 n] w fun e w' => e = .returned (.tuple #[.slice none 0 0, .int .i64 2]) ∧ HG Φ p a w' := by
  have h' := h
  obtain ⟨s, rfl, h2, rfl, h4, h5⟩ := h
  exact (load_no h2 (small_of h4) hn).mono fun _ _ ⟨he, hb⟩ => ⟨he, by rw [hb]; exact h'⟩

theorem g_store (hs : Stable Φ) (h : HG Φ p a w) {n : Int} {c : List UInt8} (hn : a.at n = some c) {v : Value} {b : Nat} {d : List UInt8} (hv : BS w b v d) (hd : d.length = 1024) : Calls Tryz.prog 93 #[arV p, .int .i64 n, v] w fun e w' => e = .returned (.int .i64 0) ∧ HG Φ p (a.lay n.toNat (some d)) w' := by
  obtain ⟨s, rfl, h2, rfl, h4, h5⟩ := h
  exact (store_ok h2 h4 hn hv hd).mono fun _ _ ⟨he, hg⟩ => ⟨he, HG.goes hs h2 h5 hg (h4.lay hn hd)⟩

theorem g_store_long (h : HG Φ p a w) {n : Int} {c : List UInt8} (hn : a.at n = some c) {v : Value} {b : Nat} {d : List UInt8} (hv : BS w b v d) (hd : d.length ≠ 1024) : Calls Tryz.prog 93 #[arV p, .int .i64 n, v] w fun e w' => e = .returned (.int .i64 15) ∧ HG Φ p a w' := by
  have h' := h
  obtain ⟨s, rfl, h2, rfl, h4, h5⟩ := h
  exact (store_long h2 (small_of h4) hn hv hd).mono fun _ _ ⟨he, hb⟩ => ⟨he, by rw [hb]; exact h'⟩

theorem g_store_no (h : HG Φ p a w) {n : Int} (hn : a.at n = none) (v : Value) : Calls Tryz.prog 93 #[arV p, .int .i64 n, v] w fun e w' => e = .returned (.int .i64 2) ∧ HG Φ p a w' := by
  have h' := h
  obtain ⟨s, rfl, h2, rfl, h4, h5⟩ := h
  exact (store_no h2 (small_of h4) hn v).mono fun _ _ ⟨he, hb⟩ => ⟨he, by rw [hb]; exact h'⟩

theorem g_used (hs : Stable Φ) (h : HG Φ p a w) : Calls Tryz.prog 19 #[arV p] w fun e w' => e = .returned (nv a.used) ∧ HG Φ p a w' ∧ Below w.heap.size w w' := by
  have h' := h
  obtain ⟨s, rfl, h2, rfl, h4, h5⟩ := h
  exact (used_walk h2 h4).mono fun _ _ ⟨he, hb⟩ => ⟨he, h'.below hs hb, hb⟩

theorem g_left (hs : Stable Φ) (h : HG Φ p a w) : Calls Tryz.prog 76 #[arV p] w fun e w' => e = .returned (nv a.left) ∧ HG Φ p a w' ∧ Below w.heap.size w w' := by
  have h' := h
  obtain ⟨s, rfl, h2, rfl, h4, h5⟩ := h
  exact (left_walk h2 h4).mono fun _ _ ⟨he, hb⟩ => ⟨he, h'.below hs hb, hb⟩

end Go.Proofs.YtjocopclgehciaaGreatDoor.L4
/-
  Nodes: what they are, how they lie in memory.
-/
namespace Go.Proofs.YtjocopclgehciaaGreatDoor.L5
open Go.RowKit

theorem below_alloc (w : World) (o : Obj) : Below w.heap.size w (w.alloc o) := (Below.refl _ _).alloc (Nat.le_refl _) o
theorem below_on {a b c : World} (h : Below a.heap.size a b) (k : Below b.heap.size b c) : Below a.heap.size a c := h.trans (k.mono h.size)
theorem bcell {W w1 : World} (hb : Below W.heap.size W w1) : (∀ b o, b < W.heap.size → w1.cell? ⟨b, o, none⟩ = W.cell? ⟨b, o, none⟩) ∧ (∀ b o, b < W.heap.size → w1.frozen? ⟨b, o, none⟩ = W.frozen? ⟨b, o, none⟩) :=
  ⟨fun b o h => hb.cell (p := ⟨b, o, none⟩) h, fun b o h => hb.frozen (p := ⟨b, o, none⟩) h⟩
theorem ret_int {k : IntKind} {a b : Int} (h : a = b) : Ending.returned (.int k a) = .returned (.int k b) := by rw [h]
theorem ret_bool {a b : Bool} (h : a = b) : Ending.returned (.bool a) = .returned (.bool b) := by rw [h]

/-- A node. -/
structure No where
  leaf : Bool
  recs : List ByteArray
  kids : List Int

def iv (k : Int) : Value := .int .i64 k
def svs (l : List ByteArray) : List Value := l.map Value.string
def ivs (l : List Int) : List Value := l.map iv
/-- Bytes as cells. -/
def bcs (l : List UInt8) : List Value := l.map fun c => Value.int .u8 (c.toNat : Int)

theorem bcs_length (l : List UInt8) : (bcs l).length = l.length := by simp [bcs]
theorem svs_length (l : List ByteArray) : (svs l).length = l.length := by simp [svs]
theorem ivs_length (l : List Int) : (ivs l).length = l.length := by simp [ivs]

/-- Values that lie one behind the other at an address, c cells of room. -/
def Rd (W : World) (a : Option Addr) (c : Nat) (l : List Value) : Prop := l.length ≤ c ∧ c ≤ maxLen ∧ ∀ j u, l[j]? = some u → ∃ b o, a = some ⟨b, o, none⟩ ∧ b < W.heap.size ∧ W.cell? ⟨b, o + j, none⟩ = some u

theorem Rd.below {W W' : World} {a : Option Addr} {c : Nat} {l : List Value} (h : Rd W a c l) (hb : Below W.heap.size W W') : Rd W' a c l :=
  ⟨h.1, h.2.1, fun j u hj => by
    obtain ⟨b, o, h1, h2, h3⟩ := h.2.2 j u hj
    exact ⟨b, o, h1, Nat.lt_of_lt_of_le h2 hb.size, by rw [hb.cell h2]; exact h3⟩⟩

theorem Rd.str {W : World} {a : Option Addr} {c : Nat} {l : List ByteArray} (h : Rd W a c (svs l)) (j : Nat) (hj : j < l.length) : ∃ b o, a = some ⟨b, o, none⟩ ∧ b < W.heap.size ∧ W.cell? ⟨b, o + j, none⟩ = some (.string l[j]) :=
  h.2.2 j _ (by simp [svs, List.getElem?_eq_getElem hj])

theorem Rd.int {W : World} {a : Option Addr} {c : Nat} {l : List Int} (h : Rd W a c (ivs l)) (j : Nat) (hj : j < l.length) : ∃ b o, a = some ⟨b, o, none⟩ ∧ b < W.heap.size ∧ W.cell? ⟨b, o + j, none⟩ = some (.int .i64 l[j]) :=
  h.2.2 j _ (by simp [ivs, iv, List.getElem?_eq_getElem hj])

theorem Rd.take {W : World} {a : Option Addr} {c : Nat} {l : List Value} (h : Rd W a c l) (k : Nat) : Rd W a c (l.take k) :=
  ⟨Nat.le_trans (by simp; omega) h.1, h.2.1, fun j u hj => h.2.2 j u (by
    rw [List.getElem?_take] at hj
    split at hj
    · exact hj
    · cases hj)⟩

/-- What is behind a place. -/
theorem Rd.drop {W : World} {b o : Nat} {c : Nat} {l : List Value} (h : Rd W (some ⟨b, o, none⟩) c l) (k : Nat) : Rd W (some ⟨b, o + k, none⟩) (c - k) (l.drop k) :=
  ⟨by have := h.1; simp; omega, by have := h.2.1; omega, fun j u hj => by
    rw [List.getElem?_drop] at hj
    obtain ⟨b', o', h1, h2, h3⟩ := h.2.2 _ u hj
    cases h1
    exact ⟨b, o + k, rfl, h2, by rw [Nat.add_assoc]; exact h3⟩⟩

/-- A node's value. -/
def nodeV (n : No) (a : Option Addr) (c : Nat) (a' : Option Addr) (c' : Nat) : Value := .agg #[.bool n.leaf, .slice a n.recs.length c, .slice a' n.kids.length c']

/-- A node that can be read. -/
structure NR (W : World) (n : No) (a : Option Addr) (c : Nat) (a' : Option Addr) (c' : Nat) : Prop where
  recs : Rd W a c (svs n.recs)
  kids : Rd W a' c' (ivs n.kids)

theorem NR.below {W W' : World} {n : No} {a : Option Addr} {c : Nat} {a' : Option Addr} {c' : Nat} (h : NR W n a c a' c') (hb : Below W.heap.size W W') : NR W' n a c a' c' := ⟨h.recs.below hb, h.kids.below hb⟩

/-- Not more than is played: lists of at most 1000, texts of at most 5000. -/
structure No.small (n : No) : Prop where
  recs : n.recs.length ≤ 1000
  kids : n.kids.length ≤ 1000
  each : ∀ s ∈ n.recs, s.size ≤ 5000

def weigh (l : List ByteArray) : Nat := (l.map fun s => 4 + s.size).sum
def No.size (n : No) : Nat := 3 + 4 * n.kids.length + weigh n.recs

theorem weigh_snoc (l : List ByteArray) (j : Nat) (h : j < l.length) : weigh (l.take (j + 1)) = weigh (l.take j) + (4 + l[j].size) := by
  unfold weigh
  rw [List.take_succ_eq_append_getElem h, List.map_append, List.sum_append]
  rfl

theorem weigh_le (l : List ByteArray) (h : ∀ s ∈ l, s.size ≤ 5000) : weigh l ≤ 5004 * l.length := by
  induction l with
  | nil => exact Nat.le_refl _
  | cons x l ih =>
    have h1 := ih fun s hs => h s (by simp [hs])
    have h2 := h x (by simp)
    unfold weigh at h1 ⊢
    simp only [List.map_cons, List.sum_cons, List.length_cons]
    omega

theorem weigh_take_le (l : List ByteArray) (h : ∀ s ∈ l, s.size ≤ 5000) (hl : l.length ≤ 1000) (j : Nat) : weigh (l.take j) ≤ 5004000 := by
  have := weigh_le (l.take j) (fun s hs => h s (List.mem_of_mem_take hs))
  have h2 : (l.take j).length ≤ 1000 := by simp; omega
  omega

/-- Is the entry i as it must be? -/
def recOk (l : List ByteArray) (i : Nat) : Bool := match l[i]? with
  | none => false
  | some s => decide (1 ≤ s.size) && decide (s.size ≤ 400) && (i == 0 || Op.bytesLess (l[i - 1]?.getD ⟨#[]⟩).toList s.toList)

def kidOk (k : Int) : Bool := decide (1 ≤ k) && decide (k ≤ 4096)

/-- Right but for its size. -/
def No.shaped (n : No) : Bool := (List.range n.recs.length).all (recOk n.recs) && n.kids.all kidOk && (n.kids.length == if n.leaf then 0 else n.recs.length + 1)

end Go.Proofs.YtjocopclgehciaaGreatDoor.L5
/-
  great, Plain, Size (the program's and the document's), Weigh.
-/
namespace Go.Proofs.YtjocopclgehciaaGreatDoor.L5
open Go.RowKit

def greatB (n : No) : Bool := decide (400 < n.recs.length) || decide (400 < n.kids.length) || n.recs.any (fun s => decide (1000 < s.size))

theorem great_small {n : No} (h : greatB n = false) : n.recs.length ≤ 400 ∧ n.kids.length ≤ 400 ∧ ∀ s ∈ n.recs, s.size ≤ 1000 := by
  simpa [greatB, and_assoc] using h

theorem small_of_great {n : No} (h : greatB n = false) : n.small := by
  obtain ⟨h1, h2, h3⟩ := great_small h
  exact ⟨by omega, by omega, fun s hs => by have := h3 s hs; omega⟩

/-- The cells of a node that was boxed last. -/
theorem box_cells (w : World) (x y z : Value) (t : TypeId) : (w.alloc (.cells #[x, y, z] t)).cell? ⟨w.heap.size, 0, none⟩ = some x ∧ (w.alloc (.cells #[x, y, z] t)).cell? ⟨w.heap.size, 1, none⟩ = some y ∧ (w.alloc (.cells #[x, y, z] t)).cell? ⟨w.heap.size, 2, none⟩ = some z := by
  refine ⟨?_, ?_, ?_⟩ <;> simp [go_sem]

set_option maxRecDepth 100000 in
set_option maxHeartbeats 400000 in
theorem size_walk {n : No} {a : Option Addr} {c : Nat} {a' : Option Addr} {c' : Nat} {w : World} (hr : NR w n a c a' c') (hs : n.small) :
    Calls Tryz.prog 103 #[nodeV n a c a' c'] w fun e w' => e = .returned (.int .i64 (n.size : Int)) ∧ Below w.heap.size w w' := by
  have h1 := hs.recs
  have h2 := hs.kids
  have HR : Hid (Rd (w.alloc (.cells #[.bool n.leaf, .slice a n.recs.length c, .slice a' n.kids.length c'] 94)) a c (svs n.recs)) := hr.recs.below (below_alloc _ _)
  clear hr
  go_enter Tryz.func103, Tryz.ntmps103
  unfold nodeV
  obtain ⟨b0, b1, b2⟩ := box_cells w (.bool n.leaf) (.slice a n.recs.length c) (.slice a' n.kids.length c') 94
  have HB := below_alloc w (.cells #[.bool n.leaf, .slice a n.recs.length c, .slice a' n.kids.length c'] 94)
  have hz : w.heap.size < (w.alloc (.cells #[.bool n.leaf, .slice a n.recs.length c, .slice a' n.kids.length c'] 94)).heap.size := by simp
  go_wp2
  generalize w.alloc (.cells #[.bool n.leaf, .slice a n.recs.length c, .slice a' n.kids.length c'] 94) = W at *
  go_loop [3, 14] (fun x i => ∃ j : Nat, j ≤ n.recs.length ∧ i = .int .i64 (j : Int) ∧ x = .int .i64 ((3 + 4 * n.kids.length + weigh (n.recs.take j) : Nat) : Int)) (fun _ i => n.recs.length - (intOf i).toNat)
  case atStart => exact ⟨0, Nat.zero_le _, rfl, by simp [weigh]⟩
  case round =>
    obtain ⟨j, hj, rfl, rfl⟩ := hrel
    have hw := weigh_take_le n.recs hs.each h1 j
    by_cases hlt : j < n.recs.length
    · obtain ⟨b, o, rfl, hb, hc⟩ := HR.out.str j hlt
      have HW : Hid _ := weigh_snoc n.recs j hlt
      have hsz := hs.each _ (List.getElem_mem hlt)
      have hlt' : (j : Int) < (n.recs.length : Int) := by omega
      generalize n.recs[j] = s at *
      go_wp2
      go_round
      case rel => exact ⟨j + 1, hlt, by go_num, by rw [HW.out]; go_num⟩
      case measure => simp [intOf]; omega
    · have hlt' : (n.recs.length : Int) ≤ (j : Int) := by omega
      go_wp2
      go_ret
      refine ⟨ret_int ?_, HB⟩
      rw [List.take_of_length_le (by omega)]
      unfold No.size
      omega

end Go.Proofs.YtjocopclgehciaaGreatDoor.L5
/-
  Which nodes are right: rising, numbered, sound, Right; the document's Shaped.
-/
namespace Go.Proofs.YtjocopclgehciaaGreatDoor.L5
open Go.RowKit

theorem bytesLess_lt (x : List UInt8) : ∀ y, Op.bytesLess x y = decide (x < y) := by
  induction x with
  | nil => intro y; cases y <;> simp [Op.bytesLess]
  | cons a x ih =>
    intro y
    cases y with
    | nil => simp [Op.bytesLess]
    | cons b y =>
      rw [Op.bytesLess, ih, Bool.eq_iff_iff]
      simp [List.cons_lt_cons_iff]

/-- At most is: not above. -/
theorem le_not_lt (x y : List UInt8) : (Op.bytesLess x y || x == y) = !Op.bytesLess y x := by
  rw [bytesLess_lt, bytesLess_lt, Bool.eq_iff_iff]
  simp only [Bool.or_eq_true, decide_eq_true_eq, beq_iff_eq, Bool.not_eq_true', decide_eq_false_iff_not]
  constructor
  · rintro (h | rfl)
    · exact fun h2 => List.lt_irrefl x (List.lt_trans h h2)
    · exact List.lt_irrefl x
  · intro h
    have h1 : x ≤ y := List.not_lt.1 h
    by_cases e : x = y
    · exact Or.inr e
    · left
      exact Classical.byContradiction fun h2 => e (List.le_antisymm h1 (List.not_lt.1 h2))

theorem empty_size (s : ByteArray) : (s.toList == []) = decide (s.size = 0) := by
  rw [Bool.eq_iff_iff]
  simp only [beq_iff_eq, decide_eq_true_eq]
  rw [ByteArray.toList_eq]
  constructor
  · intro h
    have := congrArg List.length h
    simpa using this
  · intro h
    apply List.eq_nil_of_length_eq_zero
    simpa using h

theorem isEmpty_size (s : ByteArray) : s.toList.isEmpty = decide (s.size = 0) := by
  rw [← empty_size]
  cases s.toList <;> rfl

def risesB (l : List ByteArray) : Bool := (List.range l.length).all (recOk l)
def numbB (n : No) : Bool := if n.leaf then n.kids.length == 0 else n.kids.all kidOk && n.kids.length == n.recs.length + 1

theorem shaped_eq (n : No) : n.shaped = (risesB n.recs && numbB n) := by
  unfold No.shaped risesB numbB
  cases n.leaf
  · simp [Bool.and_assoc]
  · simp only [if_true, Bool.and_assoc]
    congr 1
    cases h : n.kids with
    | nil => rfl
    | cons x l => simp

/-- The entry j, held against the one ahead of it. -/
theorem recOk_zero (l : List ByteArray) (h : 0 < l.length) : recOk l 0 = (decide (1 ≤ l[0].size) && decide (l[0].size ≤ 400)) := by
  unfold recOk
  rw [List.getElem?_eq_getElem h]
  simp

theorem recOk_succ (l : List ByteArray) (j : Nat) (h : j + 1 < l.length) : recOk l (j + 1) = (decide (1 ≤ l[j + 1].size) && decide (l[j + 1].size ≤ 400) && Op.bytesLess l[j].toList l[j + 1].toList) := by
  unfold recOk
  rw [List.getElem?_eq_getElem h]
  have : (j + 1 == 0) = false := by simp
  simp only [this, Bool.false_or, Nat.add_sub_cancel]
  rw [List.getElem?_eq_getElem (by omega)]
  rfl

theorem rises_of (l : List ByteArray) (h : ∀ i, i < l.length → recOk l i = true) : risesB l = true :=
  List.all_eq_true.2 fun i hi => h i (by simpa using hi)

theorem rises_not (l : List ByteArray) (j : Nat) (hj : j < l.length) (h : recOk l j = false) : risesB l = false :=
  List.all_eq_false.2 ⟨j, by simpa using hj, by simp [h]⟩

/-- What is asked of an entry, one by one. -/
inductive RecCase (l : List ByteArray) (j : Nat) (s : ByteArray) : Prop
  | empty (h : s.size = 0) (no : recOk l j = false)
  | long (h : 400 < s.size) (no : recOk l j = false)
  | first (h0 : j = 0) (h : 1 ≤ s.size) (h' : s.size ≤ 400) (ok : recOk l j = true)
  | above (p : ByteArray) (h0 : 0 < j) (hp : l[j - 1]? = some p) (h : 1 ≤ s.size) (h' : s.size ≤ 400) (hl : Op.bytesLess p.toList s.toList = true) (ok : recOk l j = true)
  | below (p : ByteArray) (h0 : 0 < j) (hp : l[j - 1]? = some p) (h : 1 ≤ s.size) (h' : s.size ≤ 400) (hl : Op.bytesLess p.toList s.toList = false) (no : recOk l j = false)

theorem rec_cases (l : List ByteArray) (j : Nat) (hj : j < l.length) : RecCase l j l[j] := by
  by_cases h1 : l[j].size = 0
  · refine .empty h1 ?_
    unfold recOk
    rw [List.getElem?_eq_getElem hj]
    simp [h1]
  by_cases h2 : 400 < l[j].size
  · refine .long h2 ?_
    unfold recOk
    rw [List.getElem?_eq_getElem hj]
    have : decide (l[j].size ≤ 400) = false := by simp; omega
    simp [this]
  have e1 : decide (1 ≤ l[j].size) = true := by simp; omega
  have e2 : decide (l[j].size ≤ 400) = true := by simp; omega
  cases j with
  | zero => exact .first rfl (by omega) (by omega) (by rw [recOk_zero l hj, e1, e2]; rfl)
  | succ j =>
    have hp : l[j + 1 - 1]? = some l[j] := by rw [Nat.add_sub_cancel]; exact List.getElem?_eq_getElem (by omega)
    cases hb : Op.bytesLess l[j].toList l[j + 1].toList
    · exact .below l[j] (by omega) hp (by omega) (by omega) hb (by rw [recOk_succ l j hj, e1, e2, hb]; rfl)
    · exact .above l[j] (by omega) hp (by omega) (by omega) hb (by rw [recOk_succ l j hj, e1, e2, hb]; rfl)

set_option maxRecDepth 100000 in
set_option maxHeartbeats 1000000 in
theorem rising_walk {l : List ByteArray} {a : Option Addr} {c : Nat} {w : World} (hr : Rd w a c (svs l)) (h1 : l.length ≤ 1000) :
    Calls Tryz.prog 145 #[.slice a l.length c] w fun e w' => e = .returned (.bool (risesB l)) ∧ w' = w := by
  have HR : Hid (Rd w a c (svs l)) := hr
  clear hr
  go_enter Tryz.func145, Tryz.ntmps145
  go_wp2
  go_loop [7] (fun i => ∃ j : Nat, j ≤ l.length ∧ i = .int .i64 (j : Int) ∧ Hid (∀ i, i < j → recOk l i = true)) (fun i => l.length - (intOf i).toNat)
  case atStart => exact ⟨0, Nat.zero_le _, rfl, fun i h => by omega⟩
  case round =>
    obtain ⟨j, hj, rfl, HI⟩ := hrel
    by_cases hlt : j < l.length
    · obtain ⟨b, o, rfl, hb, hc⟩ := HR.out.str j hlt
      have hlt' : (j : Int) < (l.length : Int) := by omega
      have HC := rec_cases l j hlt
      have HN : Hid (recOk l j = false → risesB l = false) := rises_not l j hlt
      have HS : Hid (recOk l j = true → ∀ i, i < j + 1 → recOk l i = true) := fun h i hi => by
        by_cases e : i = j
        · rw [e]; exact h
        · exact HI.out i (by omega)
      generalize l[j] = s at *
      have hem := isEmpty_size s
      rcases HC with ⟨h, no⟩ | ⟨h, no⟩ | ⟨h0, h, h', ok⟩ | ⟨p, h0, hp, h, h', hl, ok⟩ | ⟨p, h0, hp, h, h', hl, no⟩
      · have hn : Hid _ := HN.out no
        clear HN HS HI no
        rw [h] at hem
        have hem' : s.toList.isEmpty = true := hem
        clear hem
        go_wp2
        go_ret
        exact ⟨ret_bool hn.out.symm, rfl⟩
      · have hn : Hid _ := HN.out no
        clear HN HS HI no
        have hem' : s.toList.isEmpty = false := by rw [hem]; exact decide_eq_false (by omega)
        have h'' : (400 : Int) < (s.size : Int) := by omega
        clear hem
        go_wp2
        go_ret
        exact ⟨ret_bool hn.out.symm, rfl⟩
      · have HT : Hid _ := HS.out ok
        clear HN HS HI ok
        have hem' : s.toList.isEmpty = false := by rw [hem]; exact decide_eq_false (by omega)
        have h'' : (s.size : Int) ≤ 400 := by omega
        have h0' : (j : Int) ≤ 0 := by omega
        clear hem h0
        go_wp2
        go_round
        case rel => exact ⟨j + 1, hlt, by go_num, HT⟩
        case measure => simp [intOf]; omega
      · have HT : Hid _ := HS.out ok
        clear HN HS HI ok
        have hem' : s.toList.isEmpty = false := by rw [hem]; exact decide_eq_false (by omega)
        have h'' : (s.size : Int) ≤ 400 := by omega
        have h0' : (0 : Int) < (j : Int) := by omega
        have hle := le_not_lt s.toList p.toList
        rw [hl] at hle
        simp only [Bool.not_true, Bool.or_eq_false_iff] at hle
        obtain ⟨hle1, hle2⟩ := hle
        obtain ⟨b', o', e', _, hc'⟩ := HR.out.2.2 (j - 1) (.string p) (by simp [svs, hp])
        cases e'
        have hj1 : ((j : Int) - 1).toNat = j - 1 := by omega
        have hj2 : (0 : Int) ≤ (j : Int) - 1 := by omega
        have hj3 : (j : Int) - 1 < (l.length : Int) := by omega
        clear hem hl hp
        go_wp2
        go_round
        case rel => exact ⟨j + 1, hlt, by go_num, HT⟩
        case measure => simp [intOf]; omega
      · have hn : Hid _ := HN.out no
        clear HN HS HI no
        have hem' : s.toList.isEmpty = false := by rw [hem]; exact decide_eq_false (by omega)
        have h'' : (s.size : Int) ≤ 400 := by omega
        have h0' : (0 : Int) < (j : Int) := by omega
        have hle := le_not_lt s.toList p.toList
        rw [hl] at hle
        simp only [Bool.not_false] at hle
        obtain ⟨b', o', e', _, hc'⟩ := HR.out.2.2 (j - 1) (.string p) (by simp [svs, hp])
        cases e'
        have hj1 : ((j : Int) - 1).toNat = j - 1 := by omega
        have hj2 : (0 : Int) ≤ (j : Int) - 1 := by omega
        have hj3 : (j : Int) - 1 < (l.length : Int) := by omega
        clear hem hl hp
        cases hb1 : Op.bytesLess s.toList p.toList
        · rw [hb1, Bool.false_or] at hle
          go_wp2
          go_ret
          exact ⟨ret_bool hn.out.symm, rfl⟩
        · clear hle
          go_wp2
          go_ret
          exact ⟨ret_bool hn.out.symm, rfl⟩
    · have hlt' : (l.length : Int) ≤ (j : Int) := by omega
      have hn : Hid _ := rises_of l fun i hi => HI.out i (by omega)
      clear HI
      go_wp2
      go_ret
      exact ⟨ret_bool hn.out.symm, rfl⟩
end Go.Proofs.YtjocopclgehciaaGreatDoor.L5
