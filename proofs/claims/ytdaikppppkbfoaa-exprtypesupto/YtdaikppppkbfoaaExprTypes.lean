/-
  P16.2: ExprTypes: what was checked has, over rows that fit, a value of its type, or NULL, or is too great or too long; what is safe has no error: for every input of bulk at most 1048576.
-/
import Derived.Test.YtdaikppppkbfoaaMCA
import Derived.Test.YtdaikppppkbfoaaMBZ
import Derived.Deep.CondSized
namespace Go.Proofs.Ytdaikppppkbfoaa
open Go.ChangeShapes Go.WideShapes Go.ChangeAt Go.RowKit

theorem exprTypes_own : ownKnob Try.prog.godebug = none := by kernel_rfl
theorem exprTypes_laidOut : laidOutB Try.prog = true := by kernel_rfl

theorem ccells : Try.prog.cellsOf 25 = 3 := by kernel_rfl
set_option maxRecDepth 100000 in
theorem open_case {H : Type} {enc : TypeId × Value → H} {w : World} {base : Nat} {v : Value} {d : DataW H} {p : List MemPlace} (hv : Value.okWide Try.prog w .any base 25 v) (h : DataW.Trod enc Try.prog w 0 (fun _ => true) true 25 v d p) (hB : Rows.uptoBulk d ≤ 1048576) : ∃ a c fa fc own, ∃ l : List TabL, ∃ f : List SrcL, v = .agg #[.slice a l.length c, .slice fa f.length fc, .string own] ∧ TabsIn w a l ∧ TabsOk l ∧ Rw.SlG srcC 3 w fa f ∧ SrcsOk f := by
  obtain ⟨cs, rfl, hsz⟩ := Go.WideShapes.okWide_struct Try.underlying25 hv
  obtain ⟨fuel, hf⟩ := h
  obtain ⟨a, c, fa, fc, own, l, f, hc, h1, h2, h3, h4⟩ := read_case hf hB (by simpa [Value.cells, ccells] using hsz)
  refine ⟨a, c, fa, fc, own, l, f, ?_, h1, h2, h3, h4⟩
  have e : cs = [Value.slice a l.length c, .slice fa f.length fc, .string own].toArray := by rw [← hc]; simp [Value.cells]
  rw [e]
set_option maxRecDepth 100000 in
theorem open_exprT {H : Type} {enc : TypeId × Value → H} {w : World} {base : Nat} {v : Value} {d : DataW H} {p : List MemPlace} (hv : Value.okWide Try.prog w .any base 46 v) (h : DataW.Trod enc Try.prog w 0 (fun _ => true) true 46 v d p) (hW : Reach 46 d) : ∃ x, v = xV x ∧ ∀ n, In n w x := by
  obtain ⟨cs, rfl, hsz⟩ := Go.WideShapes.okWide_struct Try.underlying46 hv
  obtain ⟨fuel, hf⟩ := h
  obtain ⟨x, hc, hI⟩ := read_x hf hW
  refine ⟨x, ?_, hI⟩
  have e : cs = (xC x).toArray := by rw [← hc]; simp [Value.cells]
  rw [e]
  rfl
theorem rcells1 : Try.prog.cellsOf 65 = 1 := by kernel_rfl
set_option maxRecDepth 100000 in
theorem rows_few {H : Type} {enc : TypeId × Value → H} {w : World} {a : Option Addr} {n c : Nat} {d : DataW H} {p : List MemPlace} (h : DataW.Trod enc Try.prog w 0 (fun _ => true) true 57 (.slice a n c) d p) (hB : Rows.uptoBulk d ≤ 1048576) : n ≤ 1048576 := by
  obtain ⟨fuel, hf⟩ := h
  obtain ⟨a', c', l, hcs, h1, _⟩ := read_rowB (B := 1048576) (α := List Value) Try.underlying57 rcells1 (by decide) (fun v => v) (fun _ => True) (fun fuel cs x h hb hl => ⟨cs, rfl, trivial⟩) hf hB
  simp [Value.cells] at hcs
  omega

set_option maxRecDepth 100000 in
theorem exprTypes_lifted (os : Os) (started : os.Started) (H : Type) (enc : TypeId × Value → H) (F : Stop.Interp) :
    ReturnsInHanded {} Try.checked os 4 .any ((Rows.OpenSpec.upto Rows.exprTypesSpec).pre6 enc Try.prog Try.f4 Rows.exprTypesUptoRow.domain false) (((Rows.OpenSpec.upto Rows.exprTypesSpec).at F).post enc Try.prog Try.f4 false true false false) := by
  refine returnsInHanded_of_cond_sized (C := Try.checked) (s := Rows.OpenSpec.upto Rows.exprTypesSpec) (k := Rows.uptoSmall) rfl exprTypes_own started (by kernel_rfl) Try.func4
    (OpenSpec.witness (enc := enc) (C := Try.checked) (s := Rows.OpenSpec.upto Rows.exprTypesSpec) (k := Rows.uptoSmall) rfl false ⟨#[], #[.agg #[.slice none 0 0, .slice none 0 0, .string ⟨#[]⟩], .agg #[.string ⟨#[]⟩, .int .i64 0, .int .i64 0, .string ⟨#[]⟩, .string ⟨#[]⟩, .string ⟨#[]⟩, .slice none 0 0], .slice none 0 0], []⟩ 8 (by kernel_rfl) (by kernel_rfl) (by kernel_rfl)
      (x := ([.agg [.nil, .nil, .lit (.string [])], .agg [.lit (.string []), .agg [.lit (.int .i64 0), .lit (.int .i64 0), .lit (.string [])], .lit (.string []), .lit (.string []), .nil], .nil], [], [])) (by kernel_rfl) rfl (by kernel_rfl)) ?_
  intro W base args ds gs before hval0 hW _ hk hwt _
  have hval : ∀ (j : Nat) t v, Try.f4.params[j]? = some t → args[j]? = some v → Value.okWide Try.prog W .any base t v := hval0
  have hW' := hW
  obtain ⟨p, q, hA0, hV, rfl, hfz, hnd⟩ := hW
  have hA : DataW.TrodAll enc Try.prog W 0 (fun _ => true) true Try.f4.params.toList args.toList ds p := hA0
  rw [Try.params4] at hA hval
  obtain ⟨v0, vs0, d0, ds0, p0, q0, hargs, rfl, rfl, h0, r0⟩ := trodAll_cons hA
  obtain ⟨v1, vs1, d1, ds1, p1, q1, rfl, rfl, rfl, h1, r1⟩ := trodAll_cons r0
  obtain ⟨v2, vs2, d2, ds2, p2, q2, rfl, rfl, rfl, h2, r2⟩ := trodAll_cons r1
  obtain ⟨rfl, rfl, rfl⟩ := trodAll_nil r2
  obtain rfl : args = #[v0, v1, v2] := by cases args; simp_all
  obtain ⟨rfl, rfl⟩ := trodVars_none hV
  have wts : ∀ (j : Nat) t d, [25, 46, 57][j]? = some t → [d0, d1, d2][j]? = some d → (DataW.weights Try.prog t d).all (fun x => decide (x ≤ reachBytes)) = true := nweights_at (by rw [List.append_nil] at hwt; exact hwt)
  have hbulk : Rows.uptoBulkAll ([d0, d1, d2] ++ []) ≤ 1048576 := of_decide_eq_true hk
  simp only [List.append_nil, Rows.uptoBulkAll, Nat.add_zero] at hbulk
  have k0 := h0
  have k1 := h1
  have k2 := h2
  have lt0 : ∀ x ∈ p0, x.block < W.heap.size := by obtain ⟨m, hm⟩ := k0; exact DataW.trod_lt m _ _ _ hm
  have lt1 : ∀ x ∈ p1, x.block < W.heap.size := by obtain ⟨m, hm⟩ := k1; exact DataW.trod_lt m _ _ _ hm
  have lt2 : ∀ x ∈ p2, x.block < W.heap.size := by obtain ⟨m, hm⟩ := k2; exact DataW.trod_lt m _ _ _ hm
  obtain ⟨a, c, fa, fc, own, l, f, rfl, g1, g2, g3, g4⟩ := open_case (hval 0 25 v0 rfl rfl) h0 (by omega)
  obtain ⟨x, rfl, hx⟩ := open_exprT (hval 1 46 v1 rfl rfl) h1 (wts 1 46 d1 rfl rfl)
  obtain ⟨ra, rc, rs, rfl, hr, hrf⟩ := open_rowsN (hval 2 57 v2 rfl rfl) h2 (wts 2 57 d2 rfl rfl)
  have hrl := rows_few h2 (by omega)
  clear hA0 hval0
  simp only [List.append_nil] at hW'
  refine (types_walk x g1 g2 g3 g4 hx hr hrf hrl).mono fun e W' ⟨he, bel⟩ => ?_
  subst he
  exact ⟨_, rfl, _, _, _, [], _, [], hW', trodAll_mk1 (shut_bool Try.underlying4 _), (trodAll_cons_mk (Below.trod exprTypes_laidOut (by kernel_rfl) (of_decide_eq_true (by kernel_rfl)) k0 bel lt0) (trodAll_cons_mk (Below.trod exprTypes_laidOut (by kernel_rfl) (of_decide_eq_true (by kernel_rfl)) k1 bel lt1) (trodAll_cons_mk (Below.trod exprTypes_laidOut (by kernel_rfl) (of_decide_eq_true (by kernel_rfl)) k2 bel lt2) trodAll_mk0))), rfl, bel.frame _, fun h => by cases h⟩

theorem exprTypes_over : Rows.exprTypesUptoRow.holds Try.pinned (Rows.OpenSpec.upto Rows.exprTypesSpec) :=
  OpenClaim.holds_of_cond 4 Try.f4 rfl rfl rfl rfl rfl rfl rfl ⟨rfl, rfl, rfl, rfl, rfl⟩ rfl rfl rfl rfl rfl (by kernel_rfl) Try.func4 (by kernel_rfl)
    (of_decide_eq_true (by kernel_rfl)) (by unfold Func.isWrapper; first | (rw [if_pos (by decide +kernel)]; kernel_rfl) | (rw [if_neg (by decide +kernel)]; exact ⟨rfl, rfl⟩))
    (fun os started H enc _ F => exprTypes_lifted os started H enc F)

theorem exprTypes_holds : Rows.ExprTypesUptoSaid := exprTypes_over
#print axioms exprTypes_holds
end Go.Proofs.Ytdaikppppkbfoaa
