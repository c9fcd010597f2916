/-
  Tree: Each and All over a tree of one leaf.
-/
import Derived.Test.YtjdbjnkmlajdoaaGreatTrEach
namespace Go.Proofs.YtjdbjnkmlajdoaaGreat
open Go.RowKit
open L4 (Ar ArP Abs arV nv)

theorem eql_func_nil (w : World) (t : TypeId) {a : Array TypeId} {b : Array TypeId} {v : Bool} (fn : Fn) (first cap : Array Value) (h : Tryz.prog.underlying t = some (.func a b v)) : (binOp .eql t (.func fn first cap) .nilFunc).run Tryz.prog w = .ok (.bool false) w := by
  have h1 : ∀ d : Nat, (Op.equalIn (d + 1) t (.func fn first cap) .nilFunc).run Tryz.prog w = .ok false w := fun d => by simp [Op.equalIn, run_underlying h]
  have h2 : (Op.equal t (.func fn first cap) .nilFunc).run Tryz.prog w = .ok false w := h1 9999
  simp [binOp, h2]

set_option maxRecDepth 100000 in
set_option maxHeartbeats 1000000 in
theorem each_one {s : Ar} {t r l o : Nat} {nd : L5.No} {w : World} (h1 : One s t r l nd w) (ho : w.heap[o]? = some (.cells #[.slice none 0 0] 33 (0, 0))) :
    Calls Tryz.prog 27 #[.pointer (some ⟨t, 0, none⟩), .string ⟨#[]⟩, .string ⟨#[]⟩, .func (.func 55) #[] #[.pointer (some ⟨o, 0, none⟩)]] w fun e w' => e = .returned (.tuple #[]) ∧ ∃ v' B, w.heap.size ≤ B ∧ Lst B o v' nd.recs w' ∧ Only (fun q => q = o) w w' := by
  have H1 := thid h1
  have HO := thid ho
  have HOV := thid (over_ok h1.tr h1.pos)
  have hmf : ∀ (fn : Fn) (first cap : Array Value) (w : World), (Instr.makeFunc fn first cap).run Tryz.prog w = .ok (.func fn first cap) w := fun _ _ _ _ => rfl
  have hfe := fun (fn : Fn) (first cap : Array Value) (w : World) => eql_func_nil w 44 fn first cap Tryz.underlying44
  clear h1 ho
  go_enter Tryz.func27, Tryz.ntmps27
  go_wp2_with fail
  refine HOV.out.mono ?_
  rintro e w1 ⟨rfl, B1⟩
  have HB1 := thid B1
  clear HOV B1
  go_wp2_with fail
  have HB2 := thid (tbelow_on HB1.out (tbelow w1 (.cells #[.string ⟨#[]⟩, .string ⟨#[]⟩, .func (.func 55) #[] #[.pointer (some ⟨o, 0, none⟩)], .bool false] 116)))
  have HTH := thid (through_ok (k := w1.heap.size) (H1.out.below HB2.out) (heap_alloc_new _ _) ((HB2.out.block o (Array.getElem?_eq_some_iff.1 HO.out).1).trans HO.out))
  refine HTH.out.mono ?_
  rintro e w4 ⟨rfl, v', B, hB, hL, hO⟩
  have HF : Hid (∃ v' B, w.heap.size ≤ B ∧ Lst B o v' nd.recs w4 ∧ Only (fun q => q = o) w w4) :=
    ⟨v', B, Nat.le_trans HB2.out.size hB, hL, (Only.of_below HB2.out).trans hO⟩
  clear hL hO HTH HB2 HB1 H1 HO
  go_wp2
  go_end0
  exact ⟨rfl, HF.out⟩

set_option maxRecDepth 100000 in
set_option maxHeartbeats 1000000 in
theorem all_one {s : Ar} {t r l : Nat} {nd : L5.No} {w : World} (h1 : One s t r l nd w) :
    Calls Tryz.prog 21 #[.pointer (some ⟨t, 0, none⟩)] w fun e w' => ∃ a c, e = .returned (.slice a nd.recs.length c) ∧ w'.ownsRow w.heap.size 9 1 (.slice a nd.recs.length c) nd.recs.length (L5.svs nd.recs) ∧ Below w.heap.size w w' := by
  have hb := tbelow w (.cells #[.slice none 0 0] 33)
  have HEA := thid (each_one (h1.below hb) (heap_alloc_new _ _))
  have HB := thid hb
  have hmf : ∀ (fn : Fn) (first cap : Array Value) (w : World), (Instr.makeFunc fn first cap).run Tryz.prog w = .ok (.func fn first cap) w := fun _ _ _ _ => rfl
  clear h1 hb
  go_enter Tryz.func21, Tryz.ntmps21
  go_wp2_with fail
  refine HEA.out.mono ?_
  rintro e w4 ⟨rfl, v', B, hB, hL, hO⟩
  have c0 : w4.cell? ⟨w.heap.size, 0, none⟩ = some v' := by rw [cell_of_row _ _ _ _ _ _ hL.blk]; rfl
  obtain ⟨a, c, rfl⟩ := own_slice hL.row
  have HF : Hid (w4.ownsRow w.heap.size 9 1 (.slice a nd.recs.length c) nd.recs.length (L5.svs nd.recs) ∧ Below w.heap.size w w4) := by
    refine ⟨owns_weak hL.row (Nat.le_trans HB.out.size hB), HB.out.trans (hO.below HB.out.size fun k hk x => by
      have x' : k = w.heap.size := x
      omega)⟩
  clear hL hO HEA HB
  go_wp2
  go_ret
  exact ⟨a, c, rfl, HF.out⟩
end Go.Proofs.YtjdbjnkmlajdoaaGreat
