/-
  Lex: from what an argument of tokens reads as to how they lie in memory; the listed variables of the rows that make texts.
-/
import Derived.Test.YtfokllgfejcehaaDoorRwR
import Derived.Test.YtfokllgfejcehaaDoorTiedL
import Derived.Test.YtfokllgfejcehaaDoorLyB
namespace Go.Proofs.YtfokllgfejcehaaDoor
open Go.RowKit Go.Deep

theorem lfits_of_wf {n : Int} (h : (Lit.int .i64 n).wf = true) : fits n = true := by
  simpa [Lit.wf, IntKind.min, IntKind.max, IntKind.signed, IntKind.bits, fits] using h

theorem ltake1 {cs : List Value} {j : Nat} {v : Value} (h : (cs.drop j).take 1 = [v]) : cs[j]? = some v := by
  have := congrArg (·[0]?) h
  simpa using this

theorem lcellsInt : Tryd.prog.cellsOf 3 = 1 := by kernel_rfl
theorem lcellsStr : Tryd.prog.cellsOf 9 = 1 := by kernel_rfl
theorem lcellsTok : Tryd.prog.cellsOf 36 = 4 := by kernel_rfl

theorem trod_struct4 {H : Type} {enc : TypeId × Value → H} {P : Program} {w : World} {base : Nat} {spare : Nat → Bool} {held : Bool} {t : TypeId} {f0 f1 f2 f3 : Field} {fuel : Nat} {cs : List Value} {x : DataW H × List MemPlace} (ht : P.underlying t = some (.struct #[f0, f1, f2, f3])) (h : DataW.trod enc P w base spare held fuel t cs = some x) :
    ∃ y0 y1 y2 y3 n, cs.length = P.cellsOf t ∧ DataW.trod enc P w base spare held n f0.type ((cs.drop f0.offset).take (P.cellsOf f0.type)) = some y0 ∧
      DataW.trod enc P w base spare held n f1.type ((cs.drop f1.offset).take (P.cellsOf f1.type)) = some y1 ∧ DataW.trod enc P w base spare held n f2.type ((cs.drop f2.offset).take (P.cellsOf f2.type)) = some y2 ∧
      DataW.trod enc P w base spare held n f3.type ((cs.drop f3.offset).take (P.cellsOf f3.type)) = some y3 := by
  obtain ⟨xs, n, _, rfl, hl, hlen, hf⟩ := DataW.trod_struct ht h
  match xs, hlen with
  | [y0, y1, y2, y3], _ => exact ⟨y0, y1, y2, y3, n, hl, by simpa using hf 0 f0 rfl, by simpa using hf 1 f1 rfl, by simpa using hf 2 f2 rfl, by simpa using hf 3 f3 rfl⟩

theorem four_of {cs : List Value} {a b c d : Value} (hl : cs.length = 4) (h0 : cs[0]? = some a) (h1 : cs[1]? = some b) (h2 : cs[2]? = some c) (h3 : cs[3]? = some d) : cs = [a, b, c, d] := by
  match cs, hl with
  | [c0, c1, c2, c3], _ =>
    simp at h0 h1 h2 h3
    rw [h0, h1, h2, h3]

set_option maxRecDepth 100000 in
theorem read_tok {H : Type} {enc : TypeId × Value → H} {w : World} (fuel : Nat) (cs : List Value) (x : DataW H × List MemPlace) (h : DataW.trod enc Tryd.prog w 0 (fun _ => true) true fuel 36 cs = some x) (hl4 : cs.length = 4) : ∃ t : Tk, cs = tkC t ∧ fits t.n = true := by
  obtain ⟨y0, y1, y2, y3, n', -, f0, f1, f2, f3⟩ := trod_struct4 Tryd.underlying36 h
  obtain ⟨k, g0, -, -⟩ := DataW.trod_int Tryd.underlying3 f0
  obtain ⟨q, g1, -, hq⟩ := DataW.trod_int Tryd.underlying3 f1
  obtain ⟨p, g2, -, -⟩ := DataW.trod_int Tryd.underlying3 f2
  obtain ⟨s, g3, -, -⟩ := DataW.trod_string Tryd.underlying9 f3
  exact ⟨⟨k, q, p, s⟩, four_of hl4 (ltake1 g0) (ltake1 g1) (ltake1 g2) (ltake1 g3), lfits_of_wf hq⟩

set_option maxRecDepth 100000 in
theorem open_toks {H : Type} {enc : TypeId × Value → H} {w : World} {base : Nat} {v : Value} {d : DataW H} {p : List MemPlace} (hv : Value.okWide Tryd.prog w .any base 23 v) (h : DataW.Trod enc Tryd.prog w 0 (fun _ => true) true 23 v d p) :
    ∃ a c, ∃ l : List Tk, v = .slice a l.length c ∧ Rw.SlG tkC 4 w a l ∧ ∀ t ∈ l, fits t.n = true := by
  haveI : Inhabited Tk := ⟨zTk⟩
  obtain ⟨a, c, l, rfl, -, -, hok, hS⟩ := Rw.open_row Tryd.underlying23 lcellsTok (by decide) tkC (fun t => fits t.n = true) read_tok hv h
  exact ⟨a, c, l, rfl, hS, hok⟩

set_option maxRecDepth 100000 in
theorem ltab_of_reads {W : World} (h : Lib.VarReads Tryd.prog W "internal/strconv.uint64pow10" Rows.laid_internal_strconv_uint64pow10) : LTab W := by
  obtain ⟨g, t, cs, fuel, p, hg, hty, hvar, hd⟩ := h
  have hg' : Tryd.prog.globalNamed "internal/strconv.uint64pow10" = some 1 := by kernel_rfl
  obtain rfl := Option.some.inj (hg'.symm.trans hg)
  have hty' : (Tryd.prog.globals[1]?).map (·.type) = some 96 := by kernel_rfl
  obtain rfl := Option.some.inj (hty'.symm.trans hty)
  have e : (Rows.laid_internal_strconv_uint64pow10 : DataW Unit) = Lib.tabData .u64 Lib.pow10Tab := by kernel_rfl
  rw [e] at hd
  have hc := Lib.cells_of_tab Tryd.underlying96 Tryd.underlying77 (by kernel_rfl) (by kernel_rfl) hd
  unfold LTab Lib.TabIs
  rw [hvar, ← hc]

set_option maxRecDepth 100000 in
theorem vars_texts {W : World} (h : laidMetH Tryd.prog Rows.lexTextsRow.laid W) : LexV W ∧ LTab W := by
  rw [MakeChecks.laidMetH_plain _ _ _ (by kernel_rfl)] at h
  refine ⟨⟨errR_of_head (laidMet.tail (laidMet.tail (laidMet.tail (laidMet.tail h)))), symV_of_reads (Lib.laidMet.reads h ?_)⟩, ltab_of_reads (Lib.laidMet.reads h ?_)⟩ <;>
    simp only [Rows.lexTextsRow, List.mem_cons, true_or, or_true]
end Go.Proofs.YtfokllgfejcehaaDoor
