/-
  TreeRanges: from what an argument Range reads as to its fields.
-/
import Derived.Test.YtfdfamjajhmihaaGreatMCA
import Derived.Test.YtfdfamjajhmihaaGreatRows
import Derived.Test.YtfdfamjajhmihaaGreatMZZ
import Derived.WalkKit
import Derived.ProofKit
import Derived.OpenShut
import Derived.ShutString
import Derived.ChangeOld
import Derived.Below
namespace Go.Proofs.YtfdfamjajhmihaaGreat
open Go.RowKit Go.Deep

theorem rnat8 {n : Int} (h : (Lit.int .u8 n).wf = true) : ∃ m : Nat, n = (m : Int) ∧ m < 256 := by
  simp [Lit.wf, IntKind.min, IntKind.max, IntKind.signed, IntKind.bits] at h
  exact ⟨n.toNat, by omega, by omega⟩

set_option maxRecDepth 100000 in
theorem open_rng {H : Type} {enc : TypeId × Value → H} {w : World} {base : Nat} {v : Value} {d : DataW H} {p : List MemPlace} (hv : Value.okWide Tryz.prog w .any base 53 v) (h : DataW.Trod enc Tryz.prog w 0 (fun _ => true) true 53 v d p) :
    ∃ (fr tt : ByteArray) (st : Nat), v = .agg #[.string fr, .string tt, .int .u8 (st : Int)] ∧ st ≤ 255 := by
  obtain ⟨cs, rfl, hsz⟩ := Go.WideShapes.okWide_struct Tryz.underlying53 hv
  obtain ⟨fuel, hf⟩ := h
  obtain ⟨y0, y1, y2, n, hl, f0, f1, f2⟩ := trod_struct3 Tryz.underlying53 hf
  obtain ⟨fr, g0, -, -⟩ := DataW.trod_string Tryz.underlying9 f0
  obtain ⟨tt, g1, -, -⟩ := DataW.trod_string Tryz.underlying9 f1
  obtain ⟨k, g2, hk, hk2⟩ := DataW.trod_int Tryz.underlying5 f2
  have hc : Tryz.prog.cellsOf 53 = 3 := by kernel_rfl
  rw [hc] at hl
  have e := three_at hl (Rw.one_of_take g0) (Rw.one_of_take g1) (Rw.one_of_take g2)
  obtain ⟨m, rfl, hm⟩ := rnat8 hk2
  refine ⟨fr, tt, m, ?_, by omega⟩
  simp [Value.cells] at e
  rw [show cs = #[.string fr, .string tt, .int .u8 (m : Int)] by rw [← Array.toList_inj]; simpa using e]
end Go.Proofs.YtfdfamjajhmihaaGreat
/-
  For every script and range, TreeRanges returns true and leaves its arguments as they were: Each tells just the entries of a range, rising, and stops when it is told to. No condition besides the row own.
-/
namespace Go.Proofs.YtfdfamjajhmihaaGreat
open Go.ChangeShapes Go.WideShapes Go.ChangeAt Go.RowKit
open Go.ChangeMaps (open_string)

theorem treeRanges_own : ownKnob Tryz.prog.godebug = none := by kernel_rfl
theorem treeRanges_laidOut : laidOutB Tryz.prog = true := by kernel_rfl

set_option maxRecDepth 100000 in
theorem treeRanges_lifted (os : Os) (started : os.Started) (H : Type) (enc : TypeId × Value → H) :
    ReturnsInHanded {} Tryz.checked os 5 .any (Rows.treeRangesSpec.pre6 enc Tryz.prog Tryz.f5 Rows.treeRangesRow.domain false) (Rows.treeRangesSpec.post enc Tryz.prog Tryz.f5 false true false false) := by
  refine returnsInHanded_of_change (C := Tryz.checked) treeRanges_own started (by kernel_rfl) Tryz.func5
    (ChangeSpec.witness6 (enc := enc) (C := Tryz.checked) false ⟨#[], #[.slice none 0 0, .agg #[.string ⟨#[]⟩, .string ⟨#[]⟩, .int .u8 0]], []⟩ 8 (by kernel_rfl) (by kernel_rfl) (by kernel_rfl) (by kernel_rfl)) ?_
  intro W base args ds gs before hval0 hW hcnd _
  have hval : ∀ (j : Nat) t v, Tryz.f5.params[j]? = some t → args[j]? = some v → Value.okWide Tryz.prog W .any base t v := hval0
  have hW' := hW
  obtain ⟨p, q, hA0, hV, rfl, hfz, hnd⟩ := hW
  have hA : DataW.TrodAll enc Tryz.prog W 0 (fun _ => true) true Tryz.f5.params.toList args.toList ds p := hA0
  rw [Tryz.params5] at hA hval
  obtain ⟨v0, vs0, d0, ds0, p0, q0, hargs, rfl, rfl, h0, r0⟩ := trodAll_cons hA
  obtain ⟨v1, vs1, d1, ds1, p1, q1, rfl, rfl, rfl, h1, r1⟩ := trodAll_cons r0
  obtain ⟨rfl, rfl, rfl⟩ := trodAll_nil r1
  obtain rfl : args = #[v0, v1] := by cases args; simp_all
  obtain ⟨rfl, rfl⟩ := trodVars_none hV
  have k0 := h0
  have lt0 : ∀ x ∈ p0, x.block < W.heap.size := by obtain ⟨m, hm⟩ := k0; exact DataW.trod_lt m _ _ _ hm
  obtain ⟨a0, c0, l0, rfl, hS0⟩ := open_tops (hval 0 22 v0 rfl rfl) h0
  have k1 := h1
  have lt1 : ∀ x ∈ p1, x.block < W.heap.size := by obtain ⟨m, hm⟩ := k1; exact DataW.trod_lt m _ _ _ hm
  obtain ⟨fr1, tt1, st1, rfl, hg1⟩ := open_rng (hval 1 53 v1 rfl rfl) h1
  clear hA0 hval0
  refine (ranges_walk (c := c0) hg1 hS0).mono fun e W' ⟨he, bel⟩ => ?_
  subst he
  exact ⟨_, rfl, _, _, _, [], _, [], hW', trodAll_mk1 (shut_bool Tryz.underlying4 _), (trodAll_cons_mk (Below.trod treeRanges_laidOut (by kernel_rfl) (of_decide_eq_true (by kernel_rfl)) k0 bel lt0) (trodAll_cons_mk (Below.trod treeRanges_laidOut (by kernel_rfl) (of_decide_eq_true (by kernel_rfl)) k1 bel lt1) trodAll_mk0)), rfl, bel.frame _, fun h => by cases h⟩

theorem treeRanges_over : Rows.treeRangesRow.holds Tryz.pinned (OpenSpec.ofChange Rows.treeRangesSpec) :=
  OpenClaim.holds_of_wide 5 Tryz.f5 rfl rfl rfl rfl rfl rfl rfl ⟨rfl, rfl, rfl, rfl, rfl⟩ rfl rfl rfl rfl rfl (by kernel_rfl) Tryz.func5 (by kernel_rfl)
    (of_decide_eq_true (by kernel_rfl)) (by unfold Func.isWrapper; first | (rw [if_pos (by decide +kernel)]; kernel_rfl) | (rw [if_neg (by decide +kernel)]; exact ⟨rfl, rfl⟩))
    (fun os started H enc _ => treeRanges_lifted os started H enc)

theorem treeRanges_holds : Rows.TreeRangesSaid := treeRanges_over
#print axioms treeRanges_holds
end Go.Proofs.YtfdfamjajhmihaaGreat
