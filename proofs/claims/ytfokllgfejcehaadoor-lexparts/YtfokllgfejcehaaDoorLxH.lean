/-
  Lex: Tokens of package lex.
-/
import Derived.Test.YtfokllgfejcehaaDoorLxG
import Derived.Test.YtfokllgfejcehaaDoorRwA
namespace Go.Proofs.YtfokllgfejcehaaDoor
open Go.RowKit Rw

def tkC (t : Tk) : List Value := [.int .i64 t.kind, .int .i64 t.n, .int .i64 t.pl, .string t.s]
theorem tkC_len (t : Tk) : (tkC t).length = 4 := rfl
theorem tkC_one (t : Tk) : ∀ u ∈ tkC t, u.oneCell' = true := by
  intro u hu
  simp [tkC] at hu
  rcases hu with rfl | rfl | rfl | rfl <;> rfl

theorem infoTok : (Tryd.prog.info? 36).map (fun i => (i.zero, i.size, i.bytes)) = some (some (.agg #[.int .i64 0, .int .i64 0, .int .i64 0, .string ⟨#[]⟩]), 4, 40) := by kernel_rfl

def fltV (c p : Int) : Value := .agg #[.int .i64 c, .int .i64 p]

/-- What Tokens answers: the slice and the fault. -/
def TokR (base : Nat) (x : List Tk × Option Nat) (v : Value) (W : World) : Prop :=
  match x.2 with
  | none => ∃ r, v = .tuple #[r, fltV 0 0] ∧ W.ownsRow base 36 4 r x.1.length (flat tkC x.1)
  | some p => v = .tuple #[.slice none 0 0, fltV 1 p]

/-- The state of the loop: what was read, and where. -/
structure TkI (w : World) (l : List UInt8) (r : Value) (p f : Nat) (acc : List Tk) (W : World) : Prop where
  few : acc.length ≤ p
  own : W.ownsRow (w.heap.size + 1) 36 4 r acc.length (flat tkC acc)
  bel : Below w.heap.size w W
  box : W.heap[w.heap.size]? = some (.cells #[.int .i64 0, .int .i64 0] 26 (0, 0))
  res : glue acc (cutF f p (l.drop p)) = cutT l
  fuel : (l.drop p).length < f

theorem TkI.facts {w : World} {l : List UInt8} {r : Value} {p f : Nat} {acc : List Tk} {W : World} (h : TkI w l r p f acc W) :
    W.cell? ⟨w.heap.size, 0, none⟩ = some (.int .i64 0) ∧ W.cell? ⟨w.heap.size, 1, none⟩ = some (.int .i64 0) ∧ W.frozen? ⟨w.heap.size, 0, none⟩ = false ∧ W.frozen? ⟨w.heap.size, 1, none⟩ = false ∧ w.heap.size < W.heap.size :=
  ⟨cell_of_row _ _ _ _ _ _ h.box, cell_of_row _ _ _ _ _ _ h.box, frozen_of_row _ _ _ _ _ h.box, frozen_of_row _ _ _ _ _ h.box, (Array.getElem?_eq_some_iff.1 h.box).1⟩

theorem glue_nil (x : List Tk × Option Nat) : glue [] x = x := by simp [glue]
theorem glue_snoc (a : List Tk) (t : Tk) (x : List Tk × Option Nat) : glue a (t :: x.1, x.2) = glue (a ++ [t]) x := by simp [glue]

theorem flt_read {W : World} {b : Nat} (o : Obj) (x y : Int) {u v : Value} (c0 : W.cell? ⟨b, 0, none⟩ = some u) (c1 : W.cell? ⟨b, 1, none⟩ = some v) (hlt : b < W.heap.size) :
    (((W.setCell ⟨b, 0, none⟩ (.int .i64 x)).setCell ⟨b, 1, none⟩ (.int .i64 y)).alloc o).cell? ⟨b, 0, none⟩ = some (.int .i64 x) ∧ (((W.setCell ⟨b, 0, none⟩ (.int .i64 x)).setCell ⟨b, 1, none⟩ (.int .i64 y)).alloc o).cell? ⟨b, 1, none⟩ = some (.int .i64 y) := by
  have hb := lxbelow ((W.setCell ⟨b, 0, none⟩ (.int .i64 x)).setCell ⟨b, 1, none⟩ (.int .i64 y)) o
  have hl : b < ((W.setCell ⟨b, 0, none⟩ (.int .i64 x)).setCell ⟨b, 1, none⟩ (.int .i64 y)).heap.size := by simpa using hlt
  rw [hb.cell hl, hb.cell hl]
  constructor <;> simp [go_sem, c0, c1]

set_option maxRecDepth 100000 in
set_option maxHeartbeats 4000000 in
theorem tokens_walk (s : ByteArray) (w : World) (hs : s.size ≤ 100000) (hV : LexV w) :
    Calls Tryd.prog 8 #[.string s] w fun e w' => ∃ v, e = .returned v ∧ TokR w.heap.size (cutT s.data.toList) v w' ∧ Below w.heap.size w w' := by
  have hlen := bsz s
  have HB0 := thid (fun W => span_blank s W (by unfold maxLen; omega))
  have HV := thid hV
  have HSP : Hid (spanN blkB s.data.toList ≤ s.size) := by show _ ≤ _; rw [← hlen]; exact spanN_le _ _
  have HI0 : Hid (TkI w s.data.toList (.slice none 0 0) (spanN blkB s.data.toList) (s.data.toList.length + 1) [] (w.alloc (.cells #[.int .i64 0, .int .i64 0] 26))) :=
    ⟨Nat.zero_le _, World.ownsRow_nil _ _ _ _, lxbelow _ _, heap_alloc_new _ _, by rw [glue_nil]; rfl, by rw [List.length_drop]; omega⟩
  have HDr : Hid (∀ p, s.extract p s.size = mkB (s.data.toList.drop p)) := fun p => mkB_drop s p
  generalize hl : s.data.toList = l at *
  clear hl hV
  go_enter Tryd.func8, Tryd.ntmps8
  go_wp2_with (go_at_call 14; refine (HB0.out _).mono ?_; rintro e w' ⟨rfl, rfl⟩)
  go_loopw [4, 5] (fun r i wr => ∃ (p f : Nat) (acc : List Tk), p ≤ s.size ∧ i = .int .i64 p ∧ Hid (TkI w l r p f acc wr)) (fun _ i _ => s.size - (intOf i).toNat)
  case atStart => exact ⟨_, _, [], HSP.out, rfl, HI0.out⟩
  case round =>
    clear HI0 HSP HB0
    obtain ⟨p, f, acc, hp, rfl, HI⟩ := hrel
    by_cases hlt : p < s.size
    · have hsl : ∀ W, (Instr.slice 9 (.string s) (some (.int .i64 (p : Int))) none none).run Tryd.prog W = .ok (.string (mkB (l.drop p))) W := fun W => by
        rw [← HDr.out p]
        exact run_slice_string_l W 9 s Tryd.underlying9 .i64 _ (by omega) (by omega)
      have hsz : (mkB (l.drop p)).size = s.size - p := by rw [mkB_size, List.length_drop, hlen]
      have HF := thid (fun W (hW : LexV W) => first_walk (mkB (l.drop p)) W (by omega) (by omega) hW)
      rw [mkB_list] at HF
      have HVw := thid (HV.out.on HI.out.bel)
      have HFe : Hid (l.drop p ≠ []) := fun e => by rw [e] at hsz; simp [mkB_size] at hsz; omega
      have HLe : Hid ((firstP (l.drop p)).2 ≤ s.size - p) := by
        have := firstP_size (l.drop p)
        rw [List.length_drop, hlen] at this
        exact this
      obtain ⟨x, HX⟩ : ∃ x, Hid (firstP (l.drop p) = x) := ⟨_, rfl⟩
      rw [HX.out] at HF HLe
      obtain ⟨⟨tk, tn, tp, ts⟩, sz⟩ := x
      unfold tkV at HF
      dsimp only at HF HLe
      obtain ⟨b0, b1, fb0, fb1, hbl⟩ := HI.out.facts
      by_cases h0 : sz = 0
      · subst h0
        have HR : Hid (cutT l = (acc, some p)) := by
          show _ = _
          obtain ⟨f', rfl⟩ : ∃ f', f = f' + 1 := ⟨f - 1, by have := HI.out.fuel; omega⟩
          rw [← HI.out.res, cutF_bad HFe.out (by rw [HX.out])]
          simp [glue]
        go_wp2_with (go_at_call 16; refine (HF.out _ HVw.out).mono ?_; rintro e W1 ⟨rfl, hbel⟩; obtain ⟨b0, b1, fb0, fb1, hbl⟩ : W1.cell? ⟨w.heap.size, 0, none⟩ = some (.int .i64 0) ∧ W1.cell? ⟨w.heap.size, 1, none⟩ = some (.int .i64 0) ∧ W1.frozen? ⟨w.heap.size, 0, none⟩ = false ∧ W1.frozen? ⟨w.heap.size, 1, none⟩ = false ∧ w.heap.size < W1.heap.size := ⟨by rw [hbel.cell hbl]; exact b0, by rw [hbel.cell hbl]; exact b1, by rw [hbel.frozen hbl]; exact fb0, by rw [hbel.frozen hbl]; exact fb1, Nat.lt_of_lt_of_le hbl hbel.size⟩; have HB1 := thid hbel; clear hbel)
        obtain ⟨g0, g1⟩ := flt_read (.cells #[.int .i64 tk, .int .i64 tn, .int .i64 tp, .string ts] 36) 1 p b0 b1 hbl
        refine bodyPost_ret (v := .tuple #[.slice none 0 0, fltV 1 p]) (by simp [results, Tryd.results8, go_sem, fltV, g0, g1]) rfl ⟨_, rfl, ?_, ?_⟩
        · rw [HR.out]; rfl
        · exact (((HI.out.bel.trans (HB1.out.mono (Nat.le_of_lt (Nat.lt_of_lt_of_le (Nat.lt_succ_self _) (by have := HI.out.facts.2.2.2.2; omega))))).setCell (Nat.le_refl _) _).setCell (Nat.le_refl _) _).alloc (by simp; omega) _
      · have hne : ((sz : Int) == 0) = false := by rw [beq_eq_false_iff_ne]; omega
        have HR : Hid (glue (acc ++ [⟨tk, tn, p, ts⟩]) (cutF (f - 1) (p + sz + spanN blkB (l.drop (p + sz))) (l.drop (p + sz + spanN blkB (l.drop (p + sz))))) = cutT l ∧ (l.drop (p + sz + spanN blkB (l.drop (p + sz)))).length < f - 1) := by
          have h1 := HI.out.res
          have h2 := HI.out.fuel
          have h3 := HX.out
          obtain ⟨f', rfl⟩ : ∃ f', f = f' + 1 := ⟨f - 1, by omega⟩
          refine ⟨?_, ?_⟩
          · rw [cutF_step HFe.out (by rw [h3]; exact h0), h3] at h1
            simp only [List.drop_drop] at h1
            rw [← glue_snoc]
            exact h1
          · rw [List.length_drop] at h2 ⊢
            omega
        go_wp2_with (first | (go_at_call 16; refine (HF.out _ HVw.out).mono ?_; rintro e W1 ⟨rfl, hbel⟩; obtain ⟨b0, b1, fb0, fb1, hbl⟩ : W1.cell? ⟨w.heap.size, 0, none⟩ = some (.int .i64 0) ∧ W1.cell? ⟨w.heap.size, 1, none⟩ = some (.int .i64 0) ∧ W1.frozen? ⟨w.heap.size, 0, none⟩ = false ∧ W1.frozen? ⟨w.heap.size, 1, none⟩ = false ∧ w.heap.size < W1.heap.size := ⟨by rw [hbel.cell hbl]; exact b0, by rw [hbel.cell hbl]; exact b1, by rw [hbel.frozen hbl]; exact fb0, by rw [hbel.frozen hbl]; exact fb1, Nat.lt_of_lt_of_le hbl hbel.size⟩; have HB1 := thid hbel; clear hbel) | (at_builtin; revert HI))
        intro HI
        refine to_letter (F := fun W => Below wr.heap.size wr W ∧ Src W (some ⟨W1.heap.size + 1, 0, none⟩) 1 1 (tkC ⟨tk, tn, p, ts⟩)) ⟨(HB1.out.alloc HB1.out.size _).alloc (by simp; have := HB1.out.size; omega) _, src_new _ (tkC ⟨tk, tn, p, ts⟩) _ 1 1 (by simp)⟩ ?_
        rintro U ⟨bU, sU⟩
        have o1 := owns_on HI.out.own bU
        have hbw : w.heap.size + 1 ≤ wr.heap.size := HI.out.facts.2.2.2.2
        have hbU : w.heap.size + 1 ≤ U.heap.size := Nat.le_trans hbw bU.size
        have b1U := below_on HI.out.bel bU (by omega)
        have hfew := HI.out.few
        refine append_src Tryd.underlying23 infoTok rfl (by decide) (by decide) rfl _ _ rfl (w.heap.size + 1) hbU _ acc.length (flat tkC acc) rfl o1 _ 1 1 (tkC ⟨tk, tn, p, ts⟩) rfl sU rfl (tkC_one _) (by omega) ?_
        intro v2 W2 O2 G2 _
        have e2 : flat tkC acc ++ tkC ⟨tk, tn, p, ts⟩ = flat tkC (acc ++ [⟨tk, tn, p, ts⟩]) := by rw [flat_append]; simp [flat]
        rw [e2] at O2
        have B2 : Below (w.heap.size + 1) U W2 := (Below.refl _ U).grown G2 hbU fun q hq => (o1.lt q hq).1
        have HI2 : Hid (TkI w l v2 (p + sz + spanN blkB (l.drop (p + sz))) (f - 1) (acc ++ [⟨tk, tn, p, ts⟩]) W2) :=
          ⟨by simp; omega, by simpa using O2, b1U.trans (B2.mono (by omega)), by rw [B2.block _ (by omega), bU.block _ (by omega)]; exact HI.out.box, HR.out.1, HR.out.2⟩
        have hszp : sz ≤ s.size - p := HLe.out
        have hsl2 : ∀ W, (Instr.slice 9 (.string s) (some (.int .i64 ((p : Int) + (sz : Int)))) none none).run Tryd.prog W = .ok (.string (mkB (l.drop (p + sz)))) W := fun W => by
          rw [← HDr.out (p + sz)]
          exact run_slice_string_l W 9 s Tryd.underlying9 .i64 _ (by omega) (by omega)
        have hsz2 : (mkB (l.drop (p + sz))).size = s.size - (p + sz) := by rw [mkB_size, List.length_drop, hlen]
        have HS2 := thid (fun W => span_blank (mkB (l.drop (p + sz))) W (by unfold maxLen; omega))
        rw [mkB_list] at HS2
        have hle2 : spanN blkB (l.drop (p + sz)) ≤ s.size - (p + sz) := by have := spanN_le blkB (l.drop (p + sz)); rw [List.length_drop, hlen] at this; exact this
        clear O2 G2 e2 o1 bU sU b1U HI B2 HR HB1 HX HF hsl hsz b0 b1 fb0 fb1 hbU
        generalize mkB (l.drop (p + sz)) = s2 at *
        generalize spanN blkB (l.drop (p + sz)) = q2 at *
        go_wp2_with (go_at_call 14; refine (HS2.out _).mono ?_; rintro e w' ⟨rfl, rfl⟩)
        exact ⟨⟨p + sz + q2, _, _, by omega, by go_num, HI2⟩, by simp [intOf]; omega⟩
    · have hpe : p = s.size := by omega
      have HR : Hid (cutT l = (acc ++ [⟨0, 0, p, mkB []⟩], none)) := by
        show _ = _
        obtain ⟨f', rfl⟩ : ∃ f', f = f' + 1 := ⟨f - 1, by have := HI.out.fuel; omega⟩
        rw [← HI.out.res, List.drop_eq_nil_of_le (by omega), cutF_end]
        simp [glue]
      have hfew := HI.out.few
      clear hlen HDr hpe
      go_wp2_with (at_builtin; revert HI)
      intro HI
      refine to_letter (F := fun W => Below wr.heap.size wr W ∧ Src W (some ⟨wr.heap.size, 0, none⟩) 1 1 (tkC ⟨0, 0, p, mkB []⟩)) ⟨lxbelow _ _, src_new _ (tkC ⟨0, 0, p, mkB []⟩) _ 1 1 rfl⟩ ?_
      rintro U ⟨bU, sU⟩
      have o1 := owns_on HI.out.own bU
      have hbw : w.heap.size + 1 ≤ wr.heap.size := HI.out.facts.2.2.2.2
      have hbU : w.heap.size + 1 ≤ U.heap.size := Nat.le_trans hbw bU.size
      have b1U := below_on HI.out.bel bU (by omega)
      refine append_src Tryd.underlying23 infoTok rfl (by decide) (by decide) rfl _ _ rfl (w.heap.size + 1) hbU _ acc.length (flat tkC acc) rfl o1 _ 1 1 (tkC ⟨0, 0, p, mkB []⟩) rfl sU rfl (tkC_one _) (by omega) ?_
      intro v2 W2 O2 G2 _
      have e2 : flat tkC acc ++ tkC ⟨0, 0, p, mkB []⟩ = flat tkC (acc ++ [⟨0, 0, p, mkB []⟩]) := by rw [flat_append]; simp [flat]
      rw [e2] at O2
      have B2 : Below (w.heap.size + 1) U W2 := (Below.refl _ U).grown G2 hbU fun q hq => (o1.lt q hq).1
      have BX := thid (b1U.trans (B2.mono (by omega)))
      have hx2 : W2.heap[w.heap.size]? = some (.cells #[.int .i64 0, .int .i64 0] 26 (0, 0)) := by rw [B2.block _ (by omega), bU.block _ (by omega)]; exact HI.out.box
      have b0 : W2.cell? ⟨w.heap.size, 0, none⟩ = some (.int .i64 0) := cell_of_row _ _ _ _ _ _ hx2
      have b1 : W2.cell? ⟨w.heap.size, 1, none⟩ = some (.int .i64 0) := cell_of_row _ _ _ _ _ _ hx2
      have fb0 : W2.frozen? ⟨w.heap.size, 0, none⟩ = false := frozen_of_row _ _ _ _ _ hx2
      have fb1 : W2.frozen? ⟨w.heap.size, 1, none⟩ = false := frozen_of_row _ _ _ _ _ hx2
      have hw2 : w.heap.size < W2.heap.size := (Array.getElem?_eq_some_iff.1 hx2).1
      have HO2 := thid O2
      clear O2 G2 e2 o1 bU sU b1U HI B2 hx2 hbU
      go_wp2_with fail
      refine bodyPost_ret (v := .tuple #[v2, fltV 0 0]) (by simp [results, Tryd.results8, go_sem, fltV, b0, b1]) rfl ⟨_, rfl, ?_, ?_⟩
      · rw [HR.out]
        refine ⟨v2, rfl, ?_⟩
        have hq : ∀ q, v2.ownBlock = some q → w.heap.size + 1 ≤ q := fun q hq => (HO2.out.lt q hq).1
        refine owns_mono (owns_below (by simpa using HO2.out) fun q hq' => ?_) fun q hq' => by have := hq q hq'; omega
        have hne : q ≠ w.heap.size := by have := hq q hq'; omega
        rw [heap_setCell_other _ _ _ _ hne, heap_setCell_other _ _ _ _ hne]
      · exact (BX.out.setCell (Nat.le_refl _) _).setCell (Nat.le_refl _) _
end Go.Proofs.YtfokllgfejcehaaDoor
