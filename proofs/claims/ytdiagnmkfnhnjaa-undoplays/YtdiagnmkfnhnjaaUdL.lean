/-
  Undo: the document's log: Add and Save.
-/
import Derived.Deep.RegionHeldLaw
import Derived.Deep.CutRange
import Derived.Test.YtdiagnmkfnhnjaaUdK
namespace Go.Proofs.Ytdiagnmkfnhnjaa
open Go.RowKit Rw

theorem infoItem : (Try.prog.info? 67).map (fun i => (i.zero, i.size, i.bytes)) = some (some (.agg #[.bool false, .string ⟨#[]⟩, .int .i64 0, .int .i64 0, .string ⟨#[]⟩, .slice none 0 0, .slice none 0 0]), 7, 104) := by kernel_rfl

/-- All blocks but one stand. -/
def KeepsD (d : Nat) (w w' : World) : Prop := ∀ b, b < w.heap.size → b ≠ d → w'.heap[b]? = w.heap[b]?

/-- What a call of the document's log leaves. -/
structure DocO (B d q : Nat) (v' : Value) (D' : List DI) (w w' : World) : Prop where
  dl : DLg B d q v' D' w'
  below : Below B w w'
  keeps : KeepsD d w w'

theorem doc_end {B d q : Nat} {v v1 v5 : Value} {D : List DI} {x : DI} {n : Nat} {xs : List Value} {w W4 W5 : World} (h : DLg B d q v D w) (b4 : Below w.heap.size w W4) (O4 : W4.ownsRow w.heap.size 67 7 v1 n xs) (O : W5.ownsRow w.heap.size 67 7 v5 (D.length + 1) (flat diC D ++ diC x)) (G : W4.grownBy W5 v1.ownBlock) :
    DocO B d q v5 (D ++ [x]) w (W5.setCell ⟨d, 1, none⟩ v5) ∧ W5.cell? ⟨d, 1, none⟩ = some v ∧ W5.frozen? ⟨d, 1, none⟩ = false ∧ d < W5.heap.size := by
  have hB : B ≤ w.heap.size := Nat.le_trans h.base (Nat.le_of_lt h.lt)
  have b5 : Below w.heap.size w W5 := b4.grown G b4.size fun p hp => (O4.lt p hp).1
  have h5 := h.on b5
  refine ⟨⟨⟨?_, h.base, ?_⟩, (b5.mono hB).setCell h.base _, fun b hb hd => ?_⟩, h5.facts.2.1, h5.facts.2.2.1, h5.lt⟩
  · rw [heap_setCell_same _ _ _ _ _ _ h5.box]; rfl
  · rw [List.length_append, flat_append]
    refine owns_mono (owns_below (by simpa [flat] using O) fun p hp => heap_setCell_other _ _ _ _ (fun e => ?_)) fun p hp => Nat.le_trans hB (O.lt p hp).1
    have h1 := (O.lt p hp).1
    have h2 := h.lt
    have e' : p = d := e
    omega
  · rw [heap_setCell_other _ _ _ _ hd, b5.block b hb]

def zE : PE := (⟨0, 0, ⟨#[]⟩, none, 0, 0, none, 0, 0⟩, ⟨0, 0, ⟨#[]⟩, [], []⟩)

set_option maxRecDepth 100000 in
set_option maxHeartbeats 1000000 in
theorem rsave_walk {B d q : Nat} {v : Value} {D : List DI} {name : ByteArray} {w : World} (h : DLg B d q v D w) (hn : D.length ≤ 100000) : Calls Try.prog 12 #[.pointer (some ⟨d, 0, none⟩), .string name] w fun e w' => e = .returned (.tuple #[]) ∧ ∃ v', DocO B d q v' (D ++ [⟨true, name, zE⟩]) w w' := by
  obtain ⟨-, x1, y1, xl⟩ := h.facts
  obtain ⟨a, c, rfl⟩ := owns_slice h.own
  have HS : Hid (∀ W, Below w.heap.size w W → Src W a D.length c (flat diC D)) := fun W hW => owns_src (owns_on h.own hW)
  have HV : Hid ((flat diC D).length = D.length * 7) := flat_length diC_len D
  have HE : Hid (∀ {v1 v5 : Value} {n : Nat} {xs : List Value} {W4 W5 : World}, Below w.heap.size w W4 → W4.ownsRow w.heap.size 67 7 v1 n xs → W5.ownsRow w.heap.size 67 7 v5 (D.length + 1) (flat diC D ++ diC ⟨true, name, zE⟩) → W4.grownBy W5 v1.ownBlock → DocO B d q v5 (D ++ [⟨true, name, zE⟩]) w (W5.setCell ⟨d, 1, none⟩ v5) ∧ W5.cell? ⟨d, 1, none⟩ = some (.slice a D.length c) ∧ W5.frozen? ⟨d, 1, none⟩ = false ∧ d < W5.heap.size) := fun h1 h2 h3 h4 => doc_end h h1 h2 h3 h4
  clear h
  obtain ⟨n, HN⟩ : ∃ m, Hid (D.length = m) := ⟨_, rfl⟩
  rw [HN.out] at x1 hn HS HV HE
  go_enter Try.func12, Try.ntmps12
  go_wp2_with (first | (at_builtin; revert HS) | go_in)
  intro HS
  refine append_src Try.underlying30 infoItem rfl (by decide) (by decide) rfl _ _ rfl w.heap.size (by simp) _ 0 [] rfl (own_new (heap_new _ _) (Nat.le_refl _)) a n c (flat diC D) rfl (HS.out _ (below_alloc _ _)) HV.out (flat_one diC_one) (by omega) ?_
  intro v1 W1 O1 G1 _
  rw [List.nil_append, Nat.zero_add] at O1
  have B1 : Below w.heap.size w W1 := (below_alloc w _).grown G1 (by simp) fun p hp => by cases hp; exact Nat.le_refl _
  have HB1 := dhid B1
  have HO1 := dhid O1
  clear O1 G1 B1 x1 y1 xl HS
  go_wp2_with (first | (at_builtin; revert HB1) | go_in)
  intro HB1
  refine to_letter (F := fun W => Below w.heap.size w W ∧ W.ownsRow w.heap.size 67 7 v1 n (flat diC D) ∧ Src W (some ⟨W1.heap.size, 0, none⟩) 1 1 (diC ⟨true, name, zE⟩)) ⟨HB1.out.alloc HB1.out.size _, owns_on HO1.out (below_alloc _ _), src_new _ (diC ⟨true, name, zE⟩) _ 1 1 rfl⟩ ?_
  rintro W4 ⟨B4, O4, S4⟩
  refine append_src Try.underlying30 infoItem rfl (by decide) (by decide) rfl _ _ rfl w.heap.size B4.size _ n (flat diC D) rfl O4 _ 1 1 (diC ⟨true, name, zE⟩) rfl S4 rfl (diC_one _) (by omega) ?_
  intro v5 W5 O5 G5 _
  obtain ⟨a5, k5, rfl⟩ := owns_slice O5
  have HE5 := dhid (HE.out B4 O4 O5 G5)
  obtain ⟨-, s1, s2, s3⟩ := HE5.out
  clear O5 G5 B4 O4 S4 HB1 HO1
  go_wp2
  go_end0
  exact ⟨rfl, _, HE5.out.1⟩

set_option maxRecDepth 100000 in
set_option maxHeartbeats 1000000 in
theorem radd_full {B d q : Nat} {v : Value} {D : List DI} {r : RE} {w : World} (h : DLg B d q v D w) (hn : D.length ≤ 100000) (hf : q ≤ (ens D).length) : Calls Try.prog 10 #[.pointer (some ⟨d, 0, none⟩), reV r] w fun e w' => e = .returned (.int .i64 10) ∧ Below w.heap.size w w' := by
  obtain ⟨x0, -, -, xl⟩ := h.facts
  have HL : Hid (∀ W, Below w.heap.size w W → Calls Try.prog 20 #[.pointer (some ⟨d, 0, none⟩)] W fun e w' => e = .returned (.int .i64 ((ens D).length : Int)) ∧ w' = W) := fun W hW => rlen_walk (h.on hW) hn
  clear h
  generalize (ens D).length = m at *
  have hf' : (q : Int) ≤ (m : Int) := by omega
  unfold reV
  go_enter Try.func10, Try.ntmps10
  go_wp2
  go_quiet (first | rfl | (go_at_call 20; exact Calls.quiet_of_same (HL.out _ (below_drewN (below_alloc _ _) _))))
  go_wp2
  go_ret
  exact ⟨rfl, below_drewN (below_alloc _ _) _⟩

theorem heap_v0 (U : World) (o : Obj) : (U.alloc o).drew.heap[U.heap.size]? = some o := heap_new _ _
theorem heap_v1 (U : World) (o o' : Obj) : ((U.alloc o).alloc o').drew.heap[U.heap.size]? = some o := by
  show ((U.alloc o).alloc o').heap[U.heap.size]? = _
  rw [Below.heap_alloc _ _ _ (by simp), heap_new]
theorem heap_v2 (U : World) (o o' : Obj) : ((U.alloc o).alloc o').drew.heap[U.heap.size + 1]? = some o' := by
  show ((U.alloc o).alloc o').heap[U.heap.size + 1]? = _
  exact heap_new' _ _ (by simp)

theorem src_block {W : World} {q : Nat} {vs : List Value} {T : TypeId} (h : W.heap[q]? = some (.cells vs.toArray T (0, 0))) : Src W (some ⟨q, 0, none⟩) 1 1 vs := by
  refine Or.inr ⟨_, rfl, fun j u hu => ?_⟩
  rw [add_none, Nat.zero_add, cell_of_row _ _ _ _ _ _ h]
  simpa using hu

set_option linter.unusedSimpArgs false in
set_option maxRecDepth 100000 in
set_option maxHeartbeats 2000000 in
theorem radd_walk {B d q : Nat} {v : Value} {D : List DI} {r : RE} {c : En} {w : World} (h : DLg B d q v D w) (hn : D.length ≤ 100000) (hf : (ens D).length < q) : Calls Try.prog 10 #[.pointer (some ⟨d, 0, none⟩), reV r] w fun e w' => e = .returned (.int .i64 0) ∧ ∃ v', DocO B d q v' (D ++ [⟨false, ⟨#[]⟩, (r, c)⟩]) w w' := by
  obtain ⟨x0, -, -, xl⟩ := h.facts
  obtain ⟨a, cc, rfl⟩ := owns_slice h.own
  have HL : Hid (∀ W, Below w.heap.size w W → Calls Try.prog 20 #[.pointer (some ⟨d, 0, none⟩)] W fun e w' => e = .returned (.int .i64 ((ens D).length : Int)) ∧ w' = W) := fun W hW => rlen_walk (h.on hW) hn
  have HFC : Hid (∀ W, Below w.heap.size w W → W.cell? ⟨d, 1, none⟩ = some (.slice a D.length cc) ∧ W.frozen? ⟨d, 1, none⟩ = false ∧ d < W.heap.size) := fun W hW => ⟨(h.on hW).facts.2.1, (h.on hW).facts.2.2.1, (h.on hW).lt⟩
  have HS : Hid (∀ W, Below w.heap.size w W → Src W a D.length cc (flat diC D)) := fun W hW => owns_src (owns_on h.own hW)
  have HV : Hid ((flat diC D).length = D.length * 7) := flat_length diC_len D
  have HE : Hid (∀ {v1 v5 : Value} {n : Nat} {xs : List Value} {W4 W5 : World}, Below w.heap.size w W4 → W4.ownsRow w.heap.size 67 7 v1 n xs → W5.ownsRow w.heap.size 67 7 v5 (D.length + 1) (flat diC D ++ diC ⟨false, ⟨#[]⟩, (r, c)⟩) → W4.grownBy W5 v1.ownBlock → DocO B d q v5 (D ++ [⟨false, ⟨#[]⟩, (r, c)⟩]) w (W5.setCell ⟨d, 1, none⟩ v5) ∧ W5.cell? ⟨d, 1, none⟩ = some (.slice a D.length cc) ∧ W5.frozen? ⟨d, 1, none⟩ = false ∧ d < W5.heap.size) := fun h1 h2 h3 h4 => doc_end h h1 h2 h3 h4
  clear h
  obtain ⟨m, HM⟩ : ∃ m, Hid ((ens D).length = m) := ⟨_, rfl⟩
  rw [HM.out] at HL hf
  obtain ⟨n, HN⟩ : ∃ m, Hid (D.length = m) := ⟨_, rfl⟩
  rw [HN.out] at hn HS HV HE HFC
  have hf' : ¬ (q : Int) ≤ (m : Int) := by omega
  unfold reV
  go_enter Try.func10, Try.ntmps10
  go_wp2
  go_quiet (first | rfl | (go_at_call 20; exact Calls.quiet_of_same (HL.out _ (below_drewN (below_alloc _ _) _))))
  go_wp2_with fail
  refine to_letter (F := fun W => Below w.heap.size w W ∧ W.heap[w.heap.size]? = some (.cells #[.int .i64 r.k, .int .i64 r.id, .string r.t, .slice r.oa r.ol r.oc, .slice r.na r.nl r.nc] 40 (0, 0))) ⟨below_drewN (below_alloc _ _) _, heap_new _ _⟩ ?_
  rintro U ⟨hU, CU⟩
  have HU := dhid hU
  have zl : w.heap.size < U.heap.size := (Array.getElem?_eq_some_iff.1 CU).1
  have KS : Hid (∀ W, Below U.heap.size U W → W.cell? ⟨w.heap.size, 0, none⟩ = some (.int .i64 r.k) ∧ W.cell? ⟨w.heap.size, 1, none⟩ = some (.int .i64 r.id) ∧ W.cell? ⟨w.heap.size, 2, none⟩ = some (.string r.t) ∧ W.cell? ⟨w.heap.size, 3, none⟩ = some (.slice r.oa r.ol r.oc) ∧ W.cell? ⟨w.heap.size, 4, none⟩ = some (.slice r.na r.nl r.nc)) := fun W hW => by
    have e := (hW.block _ zl).trans CU
    exact ⟨cell_of_row _ _ _ _ _ _ e, cell_of_row _ _ _ _ _ _ e, cell_of_row _ _ _ _ _ _ e, cell_of_row _ _ _ _ _ _ e, cell_of_row _ _ _ _ _ _ e⟩
  have HWU : Hid (∀ W, Below U.heap.size U W → Below w.heap.size w W) := fun W hW => below_on hU hW hU.size
  obtain ⟨z0, z1, z2, z3, z4⟩ := KS.out U (Below.refl _ _)
  obtain ⟨x1, y1, xl1⟩ := HFC.out U hU
  have hUw : w.heap.size ≤ U.heap.size := hU.size
  clear hU CU x0 xl HL
  go_upto_region 3 with fail
  go_cut [] from 5 to 24 (fun wx => ∃ v5, Hid (DocO B d q v5 (D ++ [⟨false, ⟨#[]⟩, (r, c)⟩]) w wx))
  case first =>
    go_region_law
      (first
        | (refine step_appS Try.underlying30 infoItem rfl (by decide) (by decide) rfl (.tmp 13) (.tmp 17) rfl w.heap.size ?_ (.slice (some ⟨U.heap.size, 0, none⟩) 0 0) 0 [] ?_ (own_new (q := U.heap.size) ?_ hUw) _ n _ (flat diC D) ?_ (HS.out _ (HWU.out _ ?_)) HV.out (flat_one diC_one) (by omega) ?_
           · first | omega | (simp; omega) | (simp; done)
           · first | (simp [Act.eval]; done) | (simp [Act.eval, Act.put]; done)
           · first | exact heap_v0 _ _ | exact heap_v1 _ _ _
           · first | (simp [Act.eval]; done) | (simp [Act.eval, Act.put]; done)
           · repeat (first | exact Below.refl _ _ | refine Below.drew ?_ | refine Below.alloc ?_ (by simp) _)
           intro v5 W5 O5 G5
           obtain ⟨a5, k5, e5⟩ := owns_slice O5
           subst e5
           rw [Nat.zero_add, List.nil_append] at O5
           have B5 : Below U.heap.size U W5 := Below.grown (by repeat (first | exact Below.refl _ _ | refine Below.drew ?_ | refine Below.alloc ?_ (by simp) _)) G5 (by first | (simp; done) | (simp; omega)) fun p hp => by cases hp; exact Nat.le_refl _
           have HB5 := dhid B5
           have HO5 := dhid O5
           first | (have HE5 := dhid (show W5.heap[U.heap.size + 1]? = some (.cells (diC ⟨false, ⟨#[]⟩, (r, c)⟩).toArray 67 (0, 0)) from (G5.block (U.heap.size + 1) (by simp) (by simp [Value.ownBlock])).trans (heap_v2 _ _ _))) | skip
           obtain ⟨s0, s1, s2, s3, s4⟩ := KS.out W5 B5
           obtain ⟨t1, t2, t3⟩ := HFC.out W5 (HWU.out _ B5)
           have hz5 : w.heap.size ≤ W5.heap.size := (HWU.out _ B5).size
           clear O5 G5 B5)
        | (refine step_appS Try.underlying30 infoItem rfl (by decide) (by decide) rfl (.tmp 13) (.tmp 17) rfl w.heap.size ?_ (.slice (some ⟨U.heap.size + 1, 0, none⟩) 0 0) 0 [] ?_ (own_new (q := U.heap.size + 1) ?_ (by omega)) _ n _ (flat diC D) ?_ (HS.out _ (HWU.out _ ?_)) HV.out (flat_one diC_one) (by omega) ?_
           · first | omega | (simp; omega) | (simp; done)
           · first | (simp [Act.eval]; done) | (simp [Act.eval, Act.put]; done)
           · exact heap_v2 _ _ _
           · first | (simp [Act.eval]; done) | (simp [Act.eval, Act.put]; done)
           · repeat (first | exact Below.refl _ _ | refine Below.drew ?_ | refine Below.alloc ?_ (by simp) _)
           intro v5 W5 O5 G5
           obtain ⟨a5, k5, e5⟩ := owns_slice O5
           subst e5
           rw [Nat.zero_add, List.nil_append] at O5
           have B5 : Below U.heap.size U W5 := Below.grown (by repeat (first | exact Below.refl _ _ | refine Below.drew ?_ | refine Below.alloc ?_ (by simp) _)) G5 (by first | (simp; done) | (simp; omega)) fun p hp => by (have hp' : U.heap.size + 1 = p := by simpa [Value.ownBlock] using hp); omega
           have HB5 := dhid B5
           have HO5 := dhid O5
           have HE5 := dhid (show W5.heap[U.heap.size]? = some (.cells (diC ⟨false, ⟨#[]⟩, (r, c)⟩).toArray 67 (0, 0)) from (G5.block U.heap.size (by first | (simp; done) | (simp; omega)) (by simp [Value.ownBlock])).trans (heap_v1 _ _ _))
           obtain ⟨s0, s1, s2, s3, s4⟩ := KS.out W5 B5
           obtain ⟨t1, t2, t3⟩ := HFC.out W5 (HWU.out _ B5)
           have hz5 : w.heap.size ≤ W5.heap.size := (HWU.out _ B5).size
           clear O5 G5 B5)
        | (refine step_appS Try.underlying30 infoItem rfl (by decide) (by decide) rfl (.tmp 18) (.tmp 21) rfl w.heap.size hz5 (.slice a5 n k5) n (flat diC D) ?_ HO5.out _ 1 1 (diC ⟨false, ⟨#[]⟩, (r, c)⟩) ?_ (src_block HE5.out) rfl (diC_one _) (by omega) ?_
           · first | (simp [Act.eval]; done) | (simp [Act.eval, Act.put]; done)
           · first | (simp [Act.eval]; done) | (simp [Act.eval, Act.put]; done)
           intro v7 W7 O7 G7
           obtain ⟨a7, k7, e7⟩ := owns_slice O7
           subst e7
           have HE7 := dhid (HE.out (HWU.out _ HB5.out) HO5.out O7 G7)
           obtain ⟨-, u1, u2, u3⟩ := HE7.out
           clear O7 G7 s0 s1 s2 s3 s4 t1 t2 t3)
        | (refine step_appS Try.underlying30 infoItem rfl (by decide) (by decide) rfl (.tmp 18) (.tmp 21) rfl w.heap.size (Nat.le_trans hz5 (by simp)) (.slice a5 n k5) n (flat diC D) ?_ (owns_on HO5.out (below_alloc _ _)) _ 1 1 (diC ⟨false, ⟨#[]⟩, (r, c)⟩) ?_ (src_new _ (diC ⟨false, ⟨#[]⟩, (r, c)⟩) _ 1 1 rfl) rfl (diC_one _) (by omega) ?_
           · first | (simp [Act.eval]; done) | (simp [Act.eval, Act.put]; done)
           · first | (simp [Act.eval]; done) | (simp [Act.eval, Act.put]; done)
           intro v7 W7 O7 G7
           obtain ⟨a7, k7, e7⟩ := owns_slice O7
           subst e7
           have HE7 := dhid (HE.out (HWU.out _ (HB5.out.alloc HB5.out.size _)) (owns_on HO5.out (below_alloc _ _)) O7 G7)
           obtain ⟨-, u1, u2, u3⟩ := HE7.out
           clear O7 G7 s0 s1 s2 s3 s4 t1 t2 t3))
    all_goals
      go_wp2_with fail
      go_meet
      case rel => exact ⟨_, HE7.out.1⟩
  case rest =>
  obtain ⟨v5, HV5⟩ := hcut
  go_wp2
  go_ret
  exact ⟨rfl, _, HV5.out⟩
end Go.Proofs.Ytdiagnmkfnhnjaa
