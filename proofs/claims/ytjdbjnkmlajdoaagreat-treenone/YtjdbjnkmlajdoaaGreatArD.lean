/-
  Bytes; the program's arena: Load, Store.
-/
import Derived.Deep.OwnRows
import Derived.Test.YtjdbjnkmlajdoaaGreatArC
namespace Go.Proofs.YtjdbjnkmlajdoaaGreat.L4
open Go.RowKit

/-- A slice of bytes that fill a block. -/
def BS (W : World) (b : Nat) (v : Value) (c : List UInt8) : Prop := v = .slice (some ⟨b, 0, none⟩) c.length c.length ∧ ∃ t, W.heap[b]? = some (.cells (bcs c).toArray t (0, 0))

theorem BS.cell {W : World} {b : Nat} {v : Value} {c : List UInt8} (h : BS W b v c) : b < W.heap.size ∧ (∀ j d, c[j]? = some d → W.cell? ⟨b, j, none⟩ = some (.int .u8 (d.toNat : Int))) ∧ ∀ j, W.frozen? ⟨b, j, none⟩ = false := by
  obtain ⟨_, t, h⟩ := h
  refine ⟨(Array.getElem?_eq_some_iff.1 h).1, fun j d hd => ?_, fun j => frozen_of_row _ _ _ _ _ h⟩
  rw [cell_of_row _ _ _ _ _ _ h]
  simp [bcs, hd]

theorem BS.below {W W' : World} {b : Nat} {v : Value} {c : List UInt8} (h : BS W b v c) (hb : Below W.heap.size W W') : BS W' b v c := by
  obtain ⟨hv, t, h⟩ := h
  exact ⟨hv, t, (hb.block b (Array.getElem?_eq_some_iff.1 h).1).trans h⟩

theorem row_block {W : World} {b : Nat} {t : TypeId} {n : Nat} {c : List UInt8} (h : W.rowIs b t n (fun i => .int .u8 ((c.getD i 0).toNat : Int))) (hn : c.length = n) : W.heap[b]? = some (.cells (bcs c).toArray t (0, 0)) := by
  obtain ⟨C, h1, h2, h3⟩ := h
  rw [h1]
  congr 2
  apply Array.ext
  · simp [bcs, h2, hn]
  · intro i hi hi'
    have h4 := h3 i (by omega)
    rw [Array.getElem?_eq_getElem hi] at h4
    simp at h4
    simp [bcs, h4]
    have hlt : i < c.length := by omega
    simp [List.getElem?_eq_getElem hlt]

/-- The text of a slice of bytes. -/
theorem conv_bs {W : World} {b : Nat} {c : List UInt8} {t : TypeId} (h : W.heap[b]? = some (.cells (bcs c).toArray t (0, 0))) (cap : Nat) : (convert 103 9 (.slice (some ⟨b, 0, none⟩) c.length cap)).run Tryz.prog W = .ok (.string ⟨c.toArray⟩) W := by
  refine run_convert_bytes_back (P := Tryz.prog) W 103 9 5 ⟨b, 0, none⟩ cap c Tryz.underlying103 Tryz.underlying5 Tryz.underlying9 (fun j hj => ?_)
  rw [show (⟨b, 0, none⟩ : Addr).add j = ⟨b, j, none⟩ by unfold Addr.add; split <;> simp_all, cell_of_row _ _ _ _ _ _ h]
  simp [bcs, List.getElem?_eq_getElem hj]

set_option maxRecDepth 100000 in
theorem load_nil (n : Int) (w : World) : Calls Tryz.prog 56 #[.pointer none, .int .i64 n] w fun e w' => e = .returned (.tuple #[.slice none 0 0, .int .i64 15]) ∧ w' = w := by
  go_enter Tryz.func56, Tryz.ntmps56
  go_wp2_with (go_at_call 80; refine (find_nil _ _).mono ?_; rintro e w1 ⟨rfl, rfl⟩)
  go_ret2
  exact ⟨rfl, rfl⟩

set_option maxRecDepth 100000 in
theorem load_no {s : Ar} {w : World} (h : ArP s w) (hl : s.pg.length ≤ 4096) {n : Int} (hn : s.abs.at n = none) : Calls Tryz.prog 56 #[arV s.p, .int .i64 n] w fun e w' => e = .returned (.tuple #[.slice none 0 0, .int .i64 2]) ∧ w' = w := by
  have HF := find_walk h hl n
  rw [hn] at HF
  have HF' : Calls Tryz.prog 80 #[arV s.p, .int .i64 n] w fun e w' => e = .returned (.int .i64 2) ∧ w' = w := HF
  clear HF
  unfold arV at *
  go_enter Tryz.func56, Tryz.ntmps56
  go_wp2_with (go_at_call 80; refine HF'.mono ?_; rintro e w1 ⟨rfl, rfl⟩)
  go_ret2
  exact ⟨rfl, rfl⟩

/-- A page as a whole, out of its block and into a new one. -/
theorem page_load {w : World} {b : Nat} {c : List UInt8} (h : w.heap[b]? = some (.cells (bcs c).toArray 131 (0, 0))) (hc : c.length = 1024) : (Instr.loadAt 131 (.pointer (some ⟨b, 0, none⟩))).run Tryz.prog w = .ok (.agg (bcs c).toArray) w := by
  have hsz : (Tryz.prog.info? 131).map (·.size) = some (bcs c).toArray.size := by rw [zero_page.2, List.size_toArray, bcs_length, hc]
  simp only [Instr.loadAt, Instr.sureAddr, Sem.run_bind, Sem.run_pure, Result.andThen]
  exact run_loadVar_row _ _ _ _ _ (0, 0) _ h Tryz.underlying131 rfl hsz

theorem page_store (w : World) {c : List UInt8} (hc : c.length = 1024) : (Instr.storeAt 131 (.pointer (some ⟨w.heap.size, 0, none⟩)) (.agg (bcs c).toArray)).run Tryz.prog (w.alloc (.cells (bcs zeroP).toArray 131)) = .ok () (w.alloc (.cells (bcs c).toArray 131)) := by
  have hsz : (Tryz.prog.info? 131).map (·.size) = some (bcs c).toArray.size := by rw [zero_page.2, List.size_toArray, bcs_length, hc]
  refine run_storeAt_new w _ _ _ hsz ?_ ?_
  · rw [List.size_toArray, List.size_toArray, bcs_length, bcs_length, hc, zeroP_length]
  · rw [Array.all_eq_true]
    intro i hi
    simp [bcs, Value.oneCell']

theorem wp_load_page {ops : Array Oper} {rest : List Oper} {op : Oper} {a : Act} {w : World} {Q : Exit → Act → World → Prop} (hgd : op.guard = none) (x : Operand) (ho : op.op = .load 131 x) (b : Nat) (hx : a.eval x = .pointer (some ⟨b, 0, none⟩)) (C : Array Value)
    (hl : (Instr.loadAt 131 (.pointer (some ⟨b, 0, none⟩))).run Tryz.prog w = .ok (.agg C) w) (h : wpList Tryz.prog ops Q rest (a.put op.dst (.agg C)) w) : wpList Tryz.prog ops Q (op :: rest) a w :=
  wpList_plain hgd fun _ hK => by
    unfold Oper.wp execOp
    simp only [ho, hx, Sem.run_bind, Sem.run_pure, Result.andThen_ok, hl]
    exact hK _ _ h

theorem wp_store_page {ops : Array Oper} {rest : List Oper} {op : Oper} {a : Act} {w w' : World} {Q : Exit → Act → World → Prop} (hgd : op.guard = none) (x y : Operand) (ho : op.op = .store 131 x y) (b : Nat) (C : Array Value) (hx : a.eval x = .pointer (some ⟨b, 0, none⟩)) (hy : a.eval y = .agg C)
    (hs : (Instr.storeAt 131 (.pointer (some ⟨b, 0, none⟩)) (.agg C)).run Tryz.prog w = .ok () w') (h : wpList Tryz.prog ops Q rest (a.put op.dst undef) w') : wpList Tryz.prog ops Q (op :: rest) a w :=
  wpList_plain hgd fun _ hK => by
    unfold Oper.wp execOp
    simp only [ho, hx, hy, Sem.run_bind, Sem.run_pure, Result.andThen_ok, hs]
    exact hK _ _ h

set_option maxRecDepth 100000 in
theorem load_blk {s : Ar} {w : World} (h : ArP s w) (ho : s.abs.Ok) {n : Int} {c : List UInt8} (hn : s.abs.at n = some c) : Calls Tryz.prog 56 #[arV s.p, .int .i64 n] w fun e w' => e = .returned (.tuple #[.slice (some ⟨w.heap.size, 0, none⟩) 1024 1024, .int .i64 0]) ∧ w'.heap[w.heap.size]? = some (.cells (bcs c).toArray 131 (0, 0)) ∧ Below w.heap.size w w' := by
  have hl : s.pg.length ≤ 4096 := by simpa [Ar.abs] using ho.small
  have HF := find_walk h hl n
  rw [hn] at HF
  have HF' : Calls Tryz.prog 80 #[arV s.p, .int .i64 n] w fun e w' => e = .returned (.int .i64 0) ∧ w' = w := HF
  clear HF
  obtain ⟨m, b, rfl, hx⟩ := at_pg hn
  have hc1 : c.length = 1024 := ho.len c (List.mem_of_getElem? (Abs.at_some hn).2.2)
  have hpg := h.pgs b c (List.mem_of_getElem? hx)
  obtain ⟨g, cap, hv, hg, hml, hc, hcell, hfz⟩ := h.page hx
  obtain ⟨c0, _, _, hp, hf⟩ := h.cell
  have hld := page_load hpg hc1
  obtain ⟨Z, hZ⟩ : ∃ Z, Hid (Z = (bcs zeroP).toArray) := ⟨_, rfl⟩
  obtain ⟨C, hC⟩ : ∃ C, Hid (C = (bcs c).toArray) := ⟨_, rfl⟩
  have hst : (Instr.storeAt 131 (.pointer (some ⟨w.heap.size, 0, none⟩)) (.agg C)).run Tryz.prog (w.alloc (.cells Z 131)) = .ok () (w.alloc (.cells C 131)) := by
    rw [hZ.out, hC.out]
    exact page_store w hc1
  have hz := zero_page.1
  rw [← hZ.out] at hz
  rw [← hC.out] at hld
  rw [hv] at c0
  have hw : wrap64 (m : Int) = m := by unfold wrap64; omega
  have hcell' : w.cell? ⟨g, m, none⟩ = some (.pointer (some ⟨b, 0, none⟩)) := hcell
  clear hn hx hv hcell ho h hpg
  unfold arV at *
  go_enter Tryz.func56, Tryz.ntmps56
  go_wp2_with fail
  refine HF'.mono ?_
  rintro e w1 ⟨rfl, rfl⟩
  have HL : Hid ((Instr.loadAt 131 (.pointer (some ⟨b, 0, none⟩))).run Tryz.prog w1 = .ok (.agg C) w1) := hld
  have HS : Hid ((Instr.storeAt 131 (.pointer (some ⟨w1.heap.size, 0, none⟩)) (.agg C)).run Tryz.prog (w1.alloc (.cells Z 131)) = .ok () (w1.alloc (.cells C 131))) := hst
  clear hld hst
  go_wp2_with (first | (refine wp_load_page rfl _ rfl b rfl C HL.out ?_) | (refine wp_store_page rfl _ _ rfl w1.heap.size C rfl rfl HS.out ?_) | go_in)
  go_ret2
  exact ⟨rfl, by rw [← hC.out]; exact heap_alloc_new _ _, below_alloc _ _⟩

theorem load_ok {s : Ar} {w : World} (h : ArP s w) (ho : s.abs.Ok) {n : Int} {c : List UInt8} (hn : s.abs.at n = some c) : Calls Tryz.prog 56 #[arV s.p, .int .i64 n] w fun e w' => ∃ v, e = .returned (.tuple #[v, .int .i64 0]) ∧ BS w' w.heap.size v c ∧ Below w.heap.size w w' := by
  have hc1 : c.length = 1024 := ho.len c (List.mem_of_getElem? (Abs.at_some hn).2.2)
  exact (load_blk h ho hn).mono fun _ _ ⟨he, hk, hb⟩ => ⟨_, he, ⟨by rw [hc1], _, hk⟩, hb⟩

set_option maxRecDepth 100000 in
theorem store_nil (n : Int) (v : Value) (w : World) : Calls Tryz.prog 96 #[.pointer none, .int .i64 n, v] w fun e w' => e = .returned (.int .i64 15) ∧ w' = w := by
  go_enter Tryz.func96, Tryz.ntmps96
  go_wp2_with (go_at_call 80; refine (find_nil _ _).mono ?_; rintro e w1 ⟨rfl, rfl⟩)
  go_ret
  exact ⟨rfl, rfl⟩

set_option maxRecDepth 100000 in
theorem store_no {s : Ar} {w : World} (h : ArP s w) (hl : s.pg.length ≤ 4096) {n : Int} (hn : s.abs.at n = none) (v : Value) : Calls Tryz.prog 96 #[arV s.p, .int .i64 n, v] w fun e w' => e = .returned (.int .i64 2) ∧ w' = w := by
  have HF := find_walk h hl n
  rw [hn] at HF
  have HF' : Calls Tryz.prog 80 #[arV s.p, .int .i64 n] w fun e w' => e = .returned (.int .i64 2) ∧ w' = w := HF
  clear HF
  unfold arV at *
  go_enter Tryz.func96, Tryz.ntmps96
  go_wp2_with (go_at_call 80; refine HF'.mono ?_; rintro e w1 ⟨rfl, rfl⟩)
  go_ret
  exact ⟨rfl, rfl⟩

set_option maxRecDepth 100000 in
theorem store_long {s : Ar} {w : World} (h : ArP s w) (hl : s.pg.length ≤ 4096) {n : Int} {c : List UInt8} (hn : s.abs.at n = some c) {v : Value} {b : Nat} {d : List UInt8} (hv : BS w b v d) (hd : d.length ≠ 1024) : Calls Tryz.prog 96 #[arV s.p, .int .i64 n, v] w fun e w' => e = .returned (.int .i64 15) ∧ w' = w := by
  have HF := find_walk h hl n
  rw [hn] at HF
  have HF' : Calls Tryz.prog 80 #[arV s.p, .int .i64 n] w fun e w' => e = .returned (.int .i64 0) ∧ w' = w := HF
  clear HF
  rw [hv.1]
  have hd' : ((d.length : Int) == 1024) = false := by rw [beq_eq_false_iff_ne]; omega
  clear hv hd h hn
  unfold arV at *
  go_enter Tryz.func96, Tryz.ntmps96
  go_wp2_with (go_at_call 80; refine HF'.mono ?_; rintro e w1 ⟨rfl, rfl⟩)
  go_ret
  exact ⟨rfl, rfl⟩

theorem wp_copy_page {ops : Array Oper} {rest : List Oper} {op : Oper} {a : Act} {w w' : World} {Q : Exit → Act → World → Prop} (hgd : op.guard = none) (x y : Operand) (ho : op.op = .call { callee := .builtin .copy, args := #[x, y], argTypes := #[103, 103] }) (vx vy r : Value) (hx : a.eval x = vx) (hy : a.eval y = vy)
    (hs : ∀ ty, (Builtin.copy_ #[103, 103] ty #[vx, vy]).run Tryz.prog w = .ok r w') (h : wpList Tryz.prog ops Q rest (a.put op.dst r) w') : wpList Tryz.prog ops Q (op :: rest) a w :=
  wpList_plain hgd fun _ hK => by
    unfold Oper.wp execOp
    simp only [ho, resolve, invoke, builtin, Sem.run_bind, Sem.run_pure, Result.andThen_ok, List.map_toArray, List.map_cons, List.map_nil, hx, hy, hs]
    exact hK _ _ h

set_option maxRecDepth 100000 in
theorem page_copy (w : World) {b : Nat} {v : Value} {d : List UInt8} (hv : BS w b v d) (hd : d.length = 1024) (ty : TypeId) : (Builtin.copy_ #[103, 103] ty #[.slice (some ⟨w.heap.size, 0, none⟩) 1024 1024, .slice (some ⟨b, 0, none⟩) d.length d.length]).run Tryz.prog (w.alloc (.cells (bcs zeroP).toArray 131)) = .ok (goInt 1024) (w.alloc (.cells (bcs d).toArray 131)) := by
  obtain ⟨hb, hc, _⟩ := hv.cell
  have hl : (bcs d).length = 1024 := by rw [bcs_length, hd]
  have hz : (bcs zeroP).length = 1024 := by rw [bcs_length, zeroP_length]
  have := run_copy_row (P := Tryz.prog) (w.alloc (.cells (bcs zeroP).toArray 131)) 103 103 ty 5 w.heap.size 0 1024 1024 ⟨b, 0, none⟩ d.length d.length (bcs zeroP).toArray 131 (bcs d) Tryz.underlying103 (by kernel_rfl) (heap_alloc_new _ _) (by rw [hl, hd]; rfl) (fun j u hj => by
    rw [show (⟨b, 0, none⟩ : Addr).add j = ⟨b, j, none⟩ by unfold Addr.add; split <;> simp_all]
    simp only [bcs, List.getElem?_map, Option.map_eq_some_iff] at hj
    obtain ⟨c, hj, rfl⟩ := hj
    rw [(below_alloc w _).cell hb]
    exact hc j c hj) (by rw [hl, List.size_toArray, hz]; exact Nat.le_refl _) (fun u hu => by
    simp only [bcs, List.mem_map] at hu
    obtain ⟨c, _, rfl⟩ := hu
    rfl)
  rw [this, hl, World.setRow_alloc_new]
  congr 3
  simp only [List.take_zero, List.nil_append, Nat.zero_add]
  rw [List.drop_eq_nil_of_le (by rw [hz]; exact Nat.le_refl _), List.append_nil]

set_option maxRecDepth 100000 in
theorem store_ok {s : Ar} {w : World} (h : ArP s w) (ho : s.abs.Ok) {n : Int} {c : List UInt8} (hn : s.abs.at n = some c) {v : Value} {b' : Nat} {d : List UInt8} (hv' : BS w b' v d) (hd : d.length = 1024) : Calls Tryz.prog 96 #[arV s.p, .int .i64 n, v] w fun e w' => e = .returned (.int .i64 0) ∧ Goes s w (s.abs.lay n.toNat (some d)) w' := by
  have hl : s.pg.length ≤ 4096 := by simpa [Ar.abs] using ho.small
  have HF := find_walk h hl n
  rw [hn] at HF
  have HF' : Calls Tryz.prog 80 #[arV s.p, .int .i64 n] w fun e w' => e = .returned (.int .i64 0) ∧ w' = w := HF
  clear HF
  obtain ⟨m, b, rfl, hx⟩ := at_pg hn
  obtain ⟨g, cap, hv, hg, hml, hc, hcell, hfz⟩ := h.page hx
  obtain ⟨c0, _, _, hp, hf⟩ := h.cell
  have hcp := page_copy w hv' hd
  rw [hv'.1]
  rw [hd] at hcp ⊢
  obtain ⟨Z, hZ⟩ : ∃ Z, Hid (Z = (bcs zeroP).toArray) := ⟨_, rfl⟩
  obtain ⟨C, hC⟩ : ∃ C, Hid (C = (bcs d).toArray) := ⟨_, rfl⟩
  have hz := zero_page.1
  rw [← hZ.out] at hz hcp
  rw [← hC.out] at hcp
  have K := (arSt.below h (below_alloc w (.cells C 131)) : ArP s _).setp hv m (some (w.heap.size, d)) (fun b c e => by
    cases e
    rw [← hC.out]
    exact heap_alloc_new _ _)
  rw [show (w.alloc (.cells C 131)).setCell ⟨g, m, none⟩ (pgv (some (w.heap.size, d))) = (w.setCell ⟨g, m, none⟩ (.pointer (some ⟨w.heap.size, 0, none⟩))).alloc (.cells C 131) by
    show (w.alloc (.cells C 131)).setCell ⟨g, m, none⟩ (.pointer (some ⟨w.heap.size, 0, none⟩)) = _
    exact World.setCell_alloc_past _ _ _ _ hg] at K
  have HK : Hid (Goes s w (s.abs.lay (m + 1) (some d)) ((w.setCell ⟨g, m, none⟩ (.pointer (some ⟨w.heap.size, 0, none⟩))).alloc (.cells C 131))) := ⟨_, K.1, rfl, abs_set _ _ _, (Moves.below (below_alloc _ _)).trans K.2⟩
  have hm1 : ((m : Int) + 1).toNat = m + 1 := by omega
  rw [hm1]
  rw [hv] at c0
  have hw : wrap64 (m : Int) = m := by unfold wrap64; omega
  have hcell' : w.cell? ⟨g, m, none⟩ = some (.pointer (some ⟨b, 0, none⟩)) := hcell
  clear hn hx hv hcell ho h hv' K
  unfold arV at *
  go_enter Tryz.func96, Tryz.ntmps96
  go_wp2_with fail
  refine HF'.mono ?_
  rintro e w1 ⟨rfl, rfl⟩
  have HL : Hid _ := hcp
  clear hcp
  go_wp2_with (first | (refine wp_copy_page rfl _ _ rfl _ _ _ rfl rfl HL.out ?_) | go_in)
  go_ret
  exact ⟨rfl, HK.out⟩
end Go.Proofs.YtjdbjnkmlajdoaaGreat.L4
