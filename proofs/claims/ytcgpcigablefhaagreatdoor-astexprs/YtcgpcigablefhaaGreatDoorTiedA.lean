/-
  What the proofs of this seat's tied cards share: the wrap that hands on the listed variables' condition, the world's shape and the reading with its weights; that internal/bytealg.MaxLen holds some number; that the powers of ten lie where the library lays them; an expression as an argument.
-/
import Derived.Test.YtcgpcigablefhaaGreatDoorCards
import Derived.Test.YtcgpcigablefhaaGreatDoorTie
import Derived.WalkKit
import Derived.ProofKit
import Derived.HandedShaped
import Derived.Shelf.Vars
import Derived.Lay
import Derived.SevenTiedAt
import Derived.Carry
import Derived.Lib.SmallJoins
import Derived.Lib.LaidU8
import Derived.Lib.LaidTab
import Derived.Test.YtcgpcigablefhaaGreatDoorAsR
import Derived.Test.YtcgpcigablefhaaGreatDoorAsJ
namespace Go.Proofs.YtcgpcigablefhaaGreatDoor
open Go.RowKit Go.ChangeShapes Go.WideShapes Go.ChangeAt

theorem own : ownKnob Tryz.prog.godebug = none := by kernel_rfl

/-- The wrap: the contract is handed the condition X, the reading with its weights and the world's shape. -/
theorem returns_tied {H : Type} {enc : TypeId × Value → H} {C : Checked} {os : Os} {f : FuncId} {fn : Func} {s : ChangeSpec} {apart fresh handsOn again : Bool} {X : World → Array Value → Prop}
    (hX : ∀ (w w' : World) (args : Array Value), w.heap = w'.heap → X w args → X w' args)
    (own : ownKnob C.prog.godebug = none) (started : os.Started) (noInit : C.prog.inits.idxOf? f = none) (hfn : C.prog.funcs[f]? = some fn)
    (witness : ∃ (w : World) (tape : Tape) (i : Input), w.os = os ∧ (w.forCall tape i).Shaped C.prog ∧ i.vars = [] ∧ Input.okWide C.prog (w.forCall tape i) .any w.heap.size f i ∧
      ((s.pre enc C.prog fn [] apart (w.forCall tape i).memory i.args ∧ X (w.forCall tape i).memory i.args) ∧ sizedMet enc C.prog fn (OpenSpec.ofChange s) apart (w.forCall tape i).memory i.args) ∧ Assume.holds {} C.prog (lone (Frame.enter C.prog f i.args .normal) [] (w.forCall tape i)))
    (contract : ∀ (W : World) (base : Nat) (args : Array Value) (ds gs : List (DataW H)) (before : List MemPlace),
      (∀ (j : Nat) t v, fn.params[j]? = some t → args[j]? = some v → Value.okWide C.prog W .any base t v) →
      DataW.Whole enc C.prog fn.params.toList s.vars apart W args.toList ds gs before →
      (DataW.weightsEach C.prog (fn.params.toList ++ s.plain.varTypes C.prog) (ds ++ gs)).all (· ≤ reachBytes) = true →
      X W args → W.ShapedOpen C.prog →
      Calls C.prog f args W fun e W' => ∃ v, e = .returned v ∧ s.post enc C.prog fn apart fresh handsOn again W args v W') :
    ReturnsInHanded {} C os f .any (fun w args => (s.pre enc C.prog fn [] apart w args ∧ X w args) ∧ sizedMet enc C.prog fn (OpenSpec.ofChange s) apart w args) (s.post enc C.prog fn apart fresh handsOn again) := by
  refine returnsInHanded_of_calls own started noInit witness ?_
  intro w tape i _ hsh _ hok hpre _
  obtain ⟨_, _, _, fn', hfn', _, _, _, _, hval⟩ := hok
  obtain rfl : fn' = fn := Option.some.inj (hfn'.symm.trans hfn)
  obtain ⟨⟨_, hx⟩, ⟨_, ds, gs, before, hw, hwt⟩⟩ := hpre
  refine (contract (w.forCall tape i) w.heap.size i.args ds gs before hval (DataW.Whole.of_heap (w' := w.forCall tape i) (by rfl) hw) hwt (hX (w.forCall tape i).memory _ _ rfl hx) hsh).mono fun e W' ⟨v, he, hp⟩ => ?_
  subst he
  exact ChangeSpec.post_blind hp

theorem maxLen_some {W : World} (h : W.ShapedOpen Tryz.prog) : ∃ m, W.cell? ⟨5, 0, none⟩ = some (.int .i64 m) :=
  cell_of_shapedOpen_int (P := Tryz.prog) (g := 5) (t := 3) (zero := #[.int .i64 0]) h (of_decide_eq_true (by kernel_rfl)) (by kernel_rfl) rfl (by kernel_rfl) (by kernel_rfl) Tryz.underlying3

theorem maxLen_lt {W : World} {m : Int} (h : W.cell? ⟨5, 0, none⟩ = some (.int .i64 m)) : 5 < W.heap.size := World.block_lt_of_cell? _ _ h

theorem laidOut : laidOutB Tryz.prog = true := by kernel_rfl

set_option maxRecDepth 100000 in
theorem tab_of_reads {W : World} (h : Lib.VarReads Tryz.prog W "internal/strconv.uint64pow10" Rows.laid_internal_strconv_uint64pow10) : Tab W := by
  obtain ⟨g, t, cs, fuel, p, hg, hty, hvar, hd⟩ := h
  have hg' : Tryz.prog.globalNamed "internal/strconv.uint64pow10" = some 4 := by kernel_rfl
  obtain rfl := Option.some.inj (hg'.symm.trans hg)
  have hty' : (Tryz.prog.globals[4]?).map (·.type) = some 158 := by kernel_rfl
  obtain rfl := Option.some.inj (hty'.symm.trans hty)
  have e : (Rows.laid_internal_strconv_uint64pow10 : DataW Unit) = Lib.tabData .u64 Lib.pow10Tab := by kernel_rfl
  rw [e] at hd
  have hc := Lib.cells_of_tab Tryz.underlying158 Tryz.underlying145 (by kernel_rfl) (by kernel_rfl) hd
  unfold Tab Lib.TabIs
  rw [hvar, ← hc]

theorem weights_at {H : Type} {P : Program} : ∀ {ts us : List TypeId} {ds : List (DataW H)}, (DataW.weightsEach P (ts ++ us) ds).all (· ≤ reachBytes) = true → ∀ (j : Nat) t d, ts[j]? = some t → ds[j]? = some d → (DataW.weights P t d).all (fun x => decide (x ≤ reachBytes)) = true
  | [], _, _, _, j, t, d, h1, _ => by simp at h1
  | t0 :: ts, us, [], _, j, t, d, _, h2 => by simp at h2
  | t0 :: ts, us, d0 :: ds, h, j, t, d, h1, h2 => by
    rw [List.cons_append, DataW.weightsEach, List.all_append, Bool.and_eq_true] at h
    cases j with
    | zero =>
      simp at h1 h2
      subst h1 h2
      exact h.1
    | succ j => exact weights_at h.2 j t d (by simpa using h1) (by simpa using h2)

set_option maxRecDepth 100000 in
theorem vars_exprs {W : World} (h : laidMetH Tryz.prog Rows.astExprsRow.laid W) : Tab W := by
  rw [MakeChecks.laidMetH_plain _ _ _ (by kernel_rfl)] at h
  refine tab_of_reads (Lib.laidMet.reads h ?_)
  simp only [Rows.astExprsRow, List.mem_cons, true_or, or_true]

set_option maxRecDepth 100000 in
theorem open_x {H : Type} {enc : TypeId × Value → H} {w : World} {base : Nat} {v : Value} {d : DataW H} {p : List MemPlace} (hv : Value.okWide Tryz.prog w .any base 44 v) (h : DataW.Trod enc Tryz.prog w 0 (fun _ => true) true 44 v d p) (hW : Reach 44 d) : ∃ x, v = xV x ∧ ∀ n, In n w x := by
  obtain ⟨cs, rfl, hsz⟩ := Go.WideShapes.okWide_struct Tryz.underlying44 hv
  obtain ⟨fuel, hf⟩ := h
  obtain ⟨x, hc, hI⟩ := read_x hf hW
  refine ⟨x, ?_, hI⟩
  have e : cs = (xC x).toArray := by rw [← hc]; simp [Value.cells]
  rw [e]
  rfl
end Go.Proofs.YtcgpcigablefhaaGreatDoor
