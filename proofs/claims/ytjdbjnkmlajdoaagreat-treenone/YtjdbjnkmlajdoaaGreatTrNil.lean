/-
  A tree that isn't there: each call.
-/
import Derived.Deep.QuietTactic
import Derived.BigQuiet
import Derived.WalkKit
import Derived.Below
import Derived.Test.YtjdbjnkmlajdoaaGreatChecked
import Derived.Test.YtjdbjnkmlajdoaaGreatOnly
namespace Go.Proofs.YtjdbjnkmlajdoaaGreat
open Go.RowKit

theorem tbelow (w : World) (o : Obj) : Below w.heap.size w (w.alloc o) := (Below.refl _ _).alloc (Nat.le_refl _) o
theorem tbelow_on {a b c : World} (h : Below a.heap.size a b) (k : Below b.heap.size b c) : Below a.heap.size a c := h.trans (k.mono h.size)
theorem thid {p : Prop} (h : p) : Hid p := h

/-- A head's parts. -/
theorem hfield (a b c : Int) (w : World) : (Instr.field 66 (.agg #[.int .i64 a, .int .i64 b, .int .i64 c]) 0).run Tryz.prog w = .ok (.int .i64 a) w ∧ (Instr.field 66 (.agg #[.int .i64 a, .int .i64 b, .int .i64 c]) 1).run Tryz.prog w = .ok (.int .i64 b) w ∧ (Instr.field 66 (.agg #[.int .i64 a, .int .i64 b, .int .i64 c]) 2).run Tryz.prog w = .ok (.int .i64 c) w := by
  refine ⟨?_, ?_, ?_⟩ <;> simp [Instr.field, run_underlying Tryz.underlying66, go_sem, Tryz.isAgg3, asAgg]

set_option maxRecDepth 100000 in
theorem head_nil (w : World) : Calls Tryz.prog 38 #[.pointer none] w fun e w' => e = .returned (.agg #[.int .i64 0, .int .i64 0, .int .i64 0]) ∧ Below w.heap.size w w' := by
  go_enter Tryz.func38, Tryz.ntmps38
  go_wp2
  refine bodyPost_ret (v := .agg #[.int .i64 0, .int .i64 0, .int .i64 0]) (by simp [results, Tryz.results38, go_sem]) rfl ⟨rfl, tbelow _ _⟩

/-- A tree's cells. -/
structure TrC (w : World) (t p r h l : Nat) : Prop where
  blk : w.heap[t]? = some (.cells #[.pointer (some ⟨p, 0, none⟩), .int .i64 (r : Int), .int .i64 (h : Int), .int .i64 (l : Int)] 83 (0, 0))

theorem TrC.cells {w : World} {t p r h l : Nat} (k : TrC w t p r h l) : w.cell? ⟨t, 0, none⟩ = some (.pointer (some ⟨p, 0, none⟩)) ∧ w.cell? ⟨t, 1, none⟩ = some (.int .i64 (r : Int)) ∧ w.cell? ⟨t, 2, none⟩ = some (.int .i64 (h : Int)) ∧ w.cell? ⟨t, 3, none⟩ = some (.int .i64 (l : Int)) ∧ t < w.heap.size ∧ ∀ i, w.frozen? ⟨t, i, none⟩ = false := by
  refine ⟨?_, ?_, ?_, ?_, (Array.getElem?_eq_some_iff.1 k.blk).1, fun i => frozen_of_row _ _ _ _ _ k.blk⟩ <;> rw [cell_of_row _ _ _ _ _ _ k.blk] <;> rfl

theorem TrC.on {w w' : World} {t p r h l : Nat} (k : TrC w t p r h l) (hb : Below w.heap.size w w') : TrC w' t p r h l := ⟨(hb.block _ (Array.getElem?_eq_some_iff.1 k.blk).1).trans k.blk⟩

set_option maxRecDepth 100000 in
theorem head_ok {w : World} {t p r h l : Nat} (k : TrC w t p r h l) : Calls Tryz.prog 38 #[.pointer (some ⟨t, 0, none⟩)] w fun e w' => e = .returned (.agg #[.int .i64 (r : Int), .int .i64 (h : Int), .int .i64 (l : Int)]) ∧ Below w.heap.size w w' := by
  obtain ⟨c0, c1, c2, c3, ct, cf⟩ := k.cells
  go_enter Tryz.func38, Tryz.ntmps38
  go_wp2
  refine bodyPost_ret (v := .agg #[.int .i64 (r : Int), .int .i64 (h : Int), .int .i64 (l : Int)]) (by simp [results, Tryz.results38, go_sem]) rfl ⟨rfl, tbelow _ _⟩

set_option maxRecDepth 100000 in
theorem over_nil (w : World) : Calls Tryz.prog 50 #[.pointer none] w fun e w' => e = .returned (.bool true) ∧ Below w.heap.size w w' := by
  go_enter Tryz.func50, Tryz.ntmps50
  go_wp2_with fail
  refine (head_nil _).mono ?_
  rintro e w1 ⟨rfl, B1⟩
  obtain ⟨hf0, hf1, hf2⟩ := hfield 0 0 0 w1
  go_wp2
  go_ret
  exact ⟨rfl, B1⟩

set_option maxRecDepth 100000 in
theorem over_ok {w : World} {t p r h l : Nat} (k : TrC w t p r h l) (hr : r ≠ 0) : Calls Tryz.prog 50 #[.pointer (some ⟨t, 0, none⟩)] w fun e w' => e = .returned (.bool false) ∧ Below w.heap.size w w' := by
  have hr' : ¬ (r : Int) = 0 := by omega
  have hr2 : ((r : Int) == 0) = false := by rw [beq_eq_false_iff_ne]; exact hr'
  go_enter Tryz.func50, Tryz.ntmps50
  go_wp2_with fail
  refine (head_ok k).mono ?_
  rintro e w1 ⟨rfl, B1⟩
  obtain ⟨hf0, hf1, hf2⟩ := hfield (r : Int) (h : Int) (l : Int) w1
  go_wp2
  go_ret
  exact ⟨rfl, B1⟩

set_option maxRecDepth 100000 in
theorem len_nil (w : World) : Calls Tryz.prog 16 #[.pointer none] w fun e w' => e = .returned (.int .i64 0) ∧ Below w.heap.size w w' := by
  go_enter Tryz.func16, Tryz.ntmps16
  go_wp2_with fail
  refine (head_nil _).mono ?_
  rintro e w1 ⟨rfl, B1⟩
  obtain ⟨hf0, hf1, hf2⟩ := hfield 0 0 0 w1
  go_wp2
  go_ret
  exact ⟨rfl, B1⟩

set_option maxRecDepth 100000 in
theorem len_ok {w : World} {t p r h l : Nat} (k : TrC w t p r h l) : Calls Tryz.prog 16 #[.pointer (some ⟨t, 0, none⟩)] w fun e w' => e = .returned (.int .i64 (l : Int)) ∧ Below w.heap.size w w' := by
  go_enter Tryz.func16, Tryz.ntmps16
  go_wp2_with fail
  refine (head_ok k).mono ?_
  rintro e w1 ⟨rfl, B1⟩
  obtain ⟨hf0, hf1, hf2⟩ := hfield (r : Int) (h : Int) (l : Int) w1
  go_wp2
  go_ret
  exact ⟨rfl, B1⟩

set_option maxRecDepth 100000 in
theorem height_nil (w : World) : Calls Tryz.prog 23 #[.pointer none] w fun e w' => e = .returned (.int .i64 0) ∧ Below w.heap.size w w' := by
  go_enter Tryz.func23, Tryz.ntmps23
  go_wp2_with fail
  refine (head_nil _).mono ?_
  rintro e w1 ⟨rfl, B1⟩
  obtain ⟨hf0, hf1, hf2⟩ := hfield 0 0 0 w1
  go_wp2
  go_ret
  exact ⟨rfl, B1⟩

set_option maxRecDepth 100000 in
theorem height_ok {w : World} {t p r h l : Nat} (k : TrC w t p r h l) : Calls Tryz.prog 23 #[.pointer (some ⟨t, 0, none⟩)] w fun e w' => e = .returned (.int .i64 (h : Int)) ∧ Below w.heap.size w w' := by
  go_enter Tryz.func23, Tryz.ntmps23
  go_wp2_with fail
  refine (head_ok k).mono ?_
  rintro e w1 ⟨rfl, B1⟩
  obtain ⟨hf0, hf1, hf2⟩ := hfield (r : Int) (h : Int) (l : Int) w1
  go_wp2
  go_ret
  exact ⟨rfl, B1⟩

set_option maxRecDepth 100000 in
theorem root_nil (w : World) : Calls Tryz.prog 37 #[.pointer none] w fun e w' => e = .returned (.int .i64 0) ∧ Below w.heap.size w w' := by
  go_enter Tryz.func37, Tryz.ntmps37
  go_wp2_with fail
  refine (head_nil _).mono ?_
  rintro e w1 ⟨rfl, B1⟩
  obtain ⟨hf0, hf1, hf2⟩ := hfield 0 0 0 w1
  go_wp2
  go_ret
  exact ⟨rfl, B1⟩

set_option maxRecDepth 100000 in
theorem root_ok {w : World} {t p r h l : Nat} (k : TrC w t p r h l) : Calls Tryz.prog 37 #[.pointer (some ⟨t, 0, none⟩)] w fun e w' => e = .returned (.int .i64 (r : Int)) ∧ Below w.heap.size w w' := by
  go_enter Tryz.func37, Tryz.ntmps37
  go_wp2_with fail
  refine (head_ok k).mono ?_
  rintro e w1 ⟨rfl, B1⟩
  obtain ⟨hf0, hf1, hf2⟩ := hfield (r : Int) (h : Int) (l : Int) w1
  go_wp2
  go_ret
  exact ⟨rfl, B1⟩

set_option maxRecDepth 100000 in
theorem insert_nil (s : ByteArray) (w : World) : Calls Tryz.prog 32 #[.pointer none, .string s] w fun e w' => e = .returned (.int .i64 15) ∧ Below w.heap.size w w' := by
  go_enter Tryz.func32, Tryz.ntmps32
  go_wp2_with fail
  refine (over_nil _).mono ?_
  rintro e w1 ⟨rfl, B1⟩
  go_wp2
  go_ret
  first | exact ⟨rfl, B1⟩ | exact ⟨rfl, tbelow_on (tbelow _ _) B1⟩ | exact ⟨rfl, tbelow_on (tbelow_on (tbelow _ _) (tbelow _ _)) B1⟩

set_option maxRecDepth 100000 in
theorem delete_nil (s : ByteArray) (w : World) : Calls Tryz.prog 36 #[.pointer none, .string s] w fun e w' => e = .returned (.int .i64 15) ∧ Below w.heap.size w w' := by
  go_enter Tryz.func36, Tryz.ntmps36
  go_wp2_with fail
  refine (over_nil _).mono ?_
  rintro e w1 ⟨rfl, B1⟩
  go_wp2
  go_ret
  first | exact ⟨rfl, B1⟩ | exact ⟨rfl, tbelow_on (tbelow _ _) B1⟩ | exact ⟨rfl, tbelow_on (tbelow_on (tbelow _ _) (tbelow _ _)) B1⟩

set_option maxRecDepth 100000 in
theorem has_nil (s : ByteArray) (w : World) : Calls Tryz.prog 19 #[.pointer none, .string s] w fun e w' => e = .returned (.bool false) ∧ Below w.heap.size w w' := by
  go_enter Tryz.func19, Tryz.ntmps19
  go_wp2_with fail
  refine (over_nil _).mono ?_
  rintro e w1 ⟨rfl, B1⟩
  go_wp2
  go_ret
  first | exact ⟨rfl, B1⟩ | exact ⟨rfl, tbelow_on (tbelow _ _) B1⟩ | exact ⟨rfl, tbelow_on (tbelow_on (tbelow _ _) (tbelow _ _)) B1⟩

set_option maxRecDepth 100000 in
theorem pages_nil (w : World) : Calls Tryz.prog 25 #[.pointer none] w fun e w' => e = .returned (.slice none 0 0) ∧ Below w.heap.size w w' := by
  go_enter Tryz.func25, Tryz.ntmps25
  go_wp2_with fail
  refine (over_nil _).mono ?_
  rintro e w1 ⟨rfl, B1⟩
  go_wp2
  go_ret
  first | exact ⟨rfl, B1⟩ | exact ⟨rfl, tbelow_on (tbelow _ _) B1⟩ | exact ⟨rfl, tbelow_on (tbelow_on (tbelow _ _) (tbelow _ _)) B1⟩

set_option maxRecDepth 100000 in
theorem drop_nil (w : World) : Calls Tryz.prog 35 #[.pointer none] w fun e w' => e = .returned (.int .i64 15) ∧ Below w.heap.size w w' := by
  go_enter Tryz.func35, Tryz.ntmps35
  go_wp2_with fail
  refine (over_nil _).mono ?_
  rintro e w1 ⟨rfl, B1⟩
  go_wp2
  go_ret
  first | exact ⟨rfl, B1⟩ | exact ⟨rfl, tbelow_on (tbelow _ _) B1⟩ | exact ⟨rfl, tbelow_on (tbelow_on (tbelow _ _) (tbelow _ _)) B1⟩

set_option maxRecDepth 100000 in
theorem each_nil (v : Value) (w : World) : Calls Tryz.prog 27 #[.pointer none, .string ⟨#[]⟩, .string ⟨#[]⟩, v] w fun e w' => e = .returned (.tuple #[]) ∧ Below w.heap.size w w' := by
  go_enter Tryz.func27, Tryz.ntmps27
  go_wp2_with fail
  refine (over_nil _).mono ?_
  rintro e w1 ⟨rfl, B1⟩
  go_wp2
  refine bodyPost_ret (v := .tuple #[]) (by simp [results, Tryz.results27, go_sem]) rfl ⟨rfl, ?_⟩
  first | exact B1 | exact tbelow_on (tbelow _ _) B1

set_option maxRecDepth 100000 in
theorem all_nil (w : World) : Calls Tryz.prog 21 #[.pointer none] w fun e w' => e = .returned (.slice none 0 0) ∧ Below w.heap.size w w' := by
  go_enter Tryz.func21, Tryz.ntmps21
  go_wp2_with fail
  have c0 : (w.alloc (.cells #[.slice none 0 0] 33)).cell? ⟨w.heap.size, 0, none⟩ = some (.slice none 0 0) := by simp [go_sem]
  have cl : w.heap.size < (w.alloc (.cells #[.slice none 0 0] 33)).heap.size := by simp
  have HB := thid (tbelow w (.cells #[.slice none 0 0] 33))
  generalize w.alloc (.cells #[.slice none 0 0] 33) = W at *
  refine (each_nil _ _).mono ?_
  rintro e w1 ⟨rfl, B1⟩
  have d0 : w1.cell? ⟨w.heap.size, 0, none⟩ = some (.slice none 0 0) := (B1.cell (p := ⟨w.heap.size, 0, none⟩) cl).trans c0
  clear c0
  go_wp2
  go_ret
  exact ⟨rfl, tbelow_on HB.out B1⟩
end Go.Proofs.YtjdbjnkmlajdoaaGreat
