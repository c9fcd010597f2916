/-
  Delta: folded of package delta.
-/
import Derived.Test.YtmcbpopeinabcaaDlD
namespace Go.Proofs.Ytmcbpopeinabcaa
open Go.RowKit
open Go.Maps (Keyed)
open Go.ChangeMaps (setBlock heap_setBlock_same heap_setBlock_other)

/-- Where folding stands. -/
structure FoldW (w : World) (rows : List PC) (v : Value) (wr : World) : Prop where
  below : Below w.heap.size w wr
  map : MapAt Try.prog 73 wr w.heap.size (ents rows 0) rows.length
  own : wr.ownsRow (w.heap.size + 1) 27 4 v rows.length (rcs rows)

theorem owns_set {W : World} {base e size : Nat} {g n cap : Nat} {xs : List Value} (h : W.ownsRow base e size (.slice (some ⟨g, 0, none⟩) n cap) n xs) (i : Nat) (u : Value) : (W.setCell ⟨g, i, none⟩ u).ownsRow base e size (.slice (some ⟨g, 0, none⟩) n cap) n (xs.set i u) := by
  refine ⟨by rw [List.length_set]; exact h.1, ?_⟩
  rcases h.2 with ⟨e, h0⟩ | ⟨g', cap', cur, e, hbg, hgg, h1, h2, h3, h4⟩
  · cases e
  · cases e
    refine Or.inr ⟨g, cap, _, rfl, hbg, heap_setCell_same _ _ _ _ _ _ hgg, h1, h2, by simpa using h3, ?_⟩
    rw [← h4]
    simp [Array.toList_setIfInBounds, List.take_set]

/-- Two boxes more: a change's, and its row's name's. -/
theorem FoldW.boxes {w wr : World} {rows : List PC} {v : Value} (h : FoldW w rows v wr) (x y : Obj) : FoldW w rows v ((wr.alloc x).alloc y) := by
  have hs := h.map.lt
  refine ⟨(h.below.alloc (by omega) _).alloc (by simp; omega) _, h.map.turn ?_, (h.own.alloc _).alloc _⟩
  rw [Below.heap_alloc _ _ _ (by simp; omega), Below.heap_alloc _ _ _ hs]

theorem rk_inj {t t' : ByteArray} {id id' : Int} (h : rkV t id = rkV t' id') : t = t' ∧ id = id' := by
  unfold rkV at h
  simp at h
  exact h

theorem FoldW.key {w wr : World} {rows : List PC} {v : Value} (h : FoldW w rows v wr) (hm : AllM wr rows) {x : PC} (hx : Means wr x.1 x.2) :
    ((Instr.lookup 71 (.map (some w.heap.size)) (rkV x.1.t x.1.id) true).run Try.prog wr = .ok (.tuple #[.int .i64 0, .bool false]) wr ∧ (∀ r ∈ rows, r.2.key ≠ x.2.key) ∧
      ∃ W', (Instr.mapUpdate 71 (.map (some w.heap.size)) (rkV x.1.t x.1.id) (.int .i64 rows.length)).run Try.prog wr = .ok () W' ∧ W' = setBlock wr w.heap.size (.map (ents (rows ++ [x]) 0).toArray (rows.length + 1)) ∧ MapAt Try.prog 73 W' w.heap.size (ents (rows ++ [x]) 0) (rows.length + 1)) ∨
    ∃ (j : Nat) (r : PC), (Instr.lookup 71 (.map (some w.heap.size)) (rkV x.1.t x.1.id) true).run Try.prog wr = .ok (.tuple #[.int .i64 j, .bool true]) wr ∧ rows[j]? = some r ∧ r.2.key = x.2.key := by
  obtain ⟨kl, hkl⟩ := key_row hx.tb hx.ib
  rcases map_look h.map rowKeyed Try.underlying71 (z := .int .i64 0) (by exact Try.zeroValue3 wr) hkl true with ⟨h1, h2⟩ | ⟨j, e, h1, h2, h3⟩
  · refine Or.inl ⟨h1, fun r hr hk => ?_, ?_⟩
    · obtain ⟨e, he, hke⟩ := ents_mem (i := 0) hr
      refine h2 e he ?_
      have m := hm r hr
      rw [hke, m.t, m.id, hx.t, hx.id]
      simp only [Chg.key, Prod.mk.injEq] at hk
      rw [hk.1, hk.2]
    · rcases map_store h.map rowKeyed Try.underlying71 hkl (.int .i64 rows.length) with ⟨_, g1, g2⟩ | ⟨j, e, g1, g2, _⟩
      · have e := ents_snoc rows x 0
        rw [Nat.zero_add] at e
        rw [← e] at g1 g2
        exact ⟨_, g1, rfl, g2⟩
      · exact absurd g2 (h2 e (List.mem_of_getElem? g1))
  · obtain ⟨r, hr, rfl⟩ := ents_at rows 0 j e h2
    rw [Nat.zero_add] at h1
    refine Or.inr ⟨j, r, h1, hr, ?_⟩
    obtain ⟨e1, e2⟩ := rk_inj h3
    have m := hm r (List.mem_of_getElem? hr)
    simp only [Chg.key, Prod.mk.injEq]
    exact ⟨by rw [← m.t, e1, hx.t], by rw [← m.id, e2, hx.id]⟩

/-- .. in a round, behind the two boxes. -/
structure FoldX (w : World) (rows : List PC) (x : PC) (v : Value) (b : Nat) (W : World) : Prop where
  f : FoldW w rows v W
  c : Box4 W b (.string x.1.t) (.int .i64 x.1.id) (.slice x.1.oa x.1.ol x.1.oc) (.slice x.1.na x.1.nl x.1.nc)
  r : W.heap[b + 1]? = some (.cells #[.string x.1.t, .int .i64 x.1.id] 73 (0, 0))
  z : w.heap.size < b
  m : AllM W rows
  x : Means W x.1 x.2

theorem take_mem {α : Type} {l : List α} {j : Nat} {x : α} (h : l[j]? = some x) : x ∈ l ∧ l.take (j + 1) = l.take j ++ [x] := by
  refine ⟨List.mem_of_getElem? h, ?_⟩
  obtain ⟨hj, rfl⟩ := List.getElem?_eq_some_iff.1 h
  rw [List.take_succ_eq_append_getElem hj]

theorem fold_boxes {w wr : World} {l : List PC} {j : Nat} {v : Value} {x : PC} (h : FoldW w (foldP (l.take j)) v wr) (hm : AllM w l) (hx : x ∈ l ∧ l.take (j + 1) = l.take j ++ [x]) :
    FoldX w (foldP (l.take j)) x v wr.heap.size ((wr.alloc (.cells #[.string x.1.t, .int .i64 x.1.id, .slice x.1.oa x.1.ol x.1.oc, .slice x.1.na x.1.nl x.1.nc] 27)).alloc (.cells #[.string x.1.t, .int .i64 x.1.id] 73)) := by
  have hf := h.boxes (.cells #[.string x.1.t, .int .i64 x.1.id, .slice x.1.oa x.1.ol x.1.oc, .slice x.1.na x.1.nl x.1.nc] 27) (.cells #[.string x.1.t, .int .i64 x.1.id] 73)
  refine ⟨hf, ?_, go_heap_new' _ _ (by simp), h.map.lt, (allM_fold fun y hy => hm y (List.mem_of_mem_take hy)).below hf.below, (hm x hx.1).below hf.below⟩
  unfold Box4
  rw [Below.heap_alloc _ _ _ (by simp), go_heap_new]

theorem fold_new {w W1 W2 : World} {rows : List PC} {x : PC} {v : Value} {b : Nat} (h : FoldW w rows v W1) (hc : Box4 W1 b (.string x.1.t) (.int .i64 x.1.id) (.slice x.1.oa x.1.ol x.1.oc) (.slice x.1.na x.1.nl x.1.nc)) (hno : ∀ r ∈ rows, r.2.key ≠ x.2.key)
    (hW : W2 = setBlock W1 w.heap.size (.map (ents (rows ++ [x]) 0).toArray (rows.length + 1))) (hmap : MapAt Try.prog 73 W2 w.heap.size (ents (rows ++ [x]) 0) (rows.length + 1)) (hb : w.heap.size < b) :
    stepP rows x = rows ++ [x] ∧ Below w.heap.size w W2 ∧ W2.ownsRow (w.heap.size + 1) 27 4 v rows.length (rcs rows) ∧ MapAt Try.prog 73 W2 w.heap.size (ents (rows ++ [x]) 0) (rows.length + 1) ∧ Box4 W2 b (.string x.1.t) (.int .i64 x.1.id) (.slice x.1.oa x.1.ol x.1.oc) (.slice x.1.na x.1.nl x.1.nc) := by
  subst hW
  refine ⟨stepP_new hno, below_setBlock h.below h.map.heap (Nat.le_refl _), owns_below h.own fun q hq => heap_setBlock_other h.map.heap _ ?_, hmap, ?_⟩
  · have := (h.own.lt q hq).1; omega
  · unfold Box4; rw [heap_setBlock_other h.map.heap _ (by omega)]; exact hc

theorem src_new (W : World) (x : RC) : Src (W.alloc (.cells #[.string x.t, .int .i64 x.id, .slice x.oa x.ol x.oc, .slice x.na x.nl x.nc] 27)) (some ⟨W.heap.size, 0, none⟩) 1 1 (rcC x) := by
  refine Or.inr ⟨_, rfl, fun j u hu => ?_⟩
  rw [add_none, Nat.zero_add, cell_of_row _ _ _ _ _ _ (go_heap_new _ _)]
  simpa [rcC] using hu

theorem rcC_one {x : RC} : ∀ u ∈ rcC x, u.oneCell' = true := by
  intro u hu
  simp [rcC] at hu
  rcases hu with rfl | rfl | rfl | rfl <;> rfl

theorem fold_grow {w W2 W3 : World} {R : List PC} {x : PC} {v v3 : Value} {n : Nat} {o : Obj} (B2 : Below w.heap.size w W2) (O2 : W2.ownsRow (w.heap.size + 1) 27 4 v n (rcs R)) (M2 : MapAt Try.prog 73 W2 w.heap.size (ents (R ++ [x]) 0) (n + 1))
    (O3 : W3.ownsRow (w.heap.size + 1) 27 4 v3 (n + 1) (rcs R ++ rcC x.1)) (G : (W2.alloc o).grownBy W3 v.ownBlock) :
    Below w.heap.size w W3 ∧ W3.ownsRow (w.heap.size + 1) 27 4 v3 (n + 1) (rcs R ++ rcs [x]) ∧ MapAt Try.prog 73 W3 w.heap.size (ents (R ++ [x]) 0) (n + 1) := by
  have hs := M2.lt
  refine ⟨(B2.alloc (by omega) o).grown G (by simp; omega) fun k hk => ?_, by simpa [rcs] using O3, M2.turn ?_⟩
  · have := (O2.lt k hk).1; omega
  · rw [G.block _ (by simp; omega) fun e => ?_, Below.heap_alloc _ _ _ hs]
    have := (O2.lt _ e.symm).1; omega

theorem owns_addr {W : World} {base e size : Nat} {a : Option Addr} {n c : Nat} {xs : List Value} (h : W.ownsRow base e size (.slice a n c) n xs) (hn : 0 < n) : ∃ g, a = some ⟨g, 0, none⟩ := by
  rcases h.2 with ⟨e, h0⟩ | ⟨g, cap, cur, e, _⟩
  · omega
  · cases e; exact ⟨g, rfl⟩

theorem owns_cell3 {W : World} {base : Nat} {g n c : Nat} {R : List PC} {i : Nat} {r : PC} (h : W.ownsRow base 27 4 (.slice (some ⟨g, 0, none⟩) n c) n (rcs R)) (hi : R[i]? = some r) :
    W.cell? ⟨g, i * 4 + 3, none⟩ = some (.slice r.1.na r.1.nl r.1.nc) ∧ W.frozen? ⟨g, i * 4 + 3, none⟩ = false ∧ base ≤ g := by
  refine ⟨?_, ?_, (h.lt g rfl).1⟩
  · have := World.ownsRow.cells h (g := g) rfl (i * 4 + 3) _ (rcs_at R i r hi).2.2.2
    rwa [add_none, Nat.zero_add] at this
  · rcases h.2 with ⟨e, h0⟩ | ⟨g', cap', cur, e, hbg, hgg, _⟩
    · cases e
    · cases e; exact frozen_of_row _ _ _ _ _ hgg

theorem fold_set {w W1 : World} {R : List PC} {x r : PC} {g n c i : Nat} (h : FoldW w R (.slice (some ⟨g, 0, none⟩) n c) W1) (hi : R[i]? = some r) :
    FoldW w (R.set i (updP r x)) (.slice (some ⟨g, 0, none⟩) n c) (W1.setCell ⟨g, i * 4 + 3, none⟩ (.slice x.1.na x.1.nl x.1.nc)) := by
  have hg := (h.own.lt g rfl).1
  obtain ⟨a, cc, e⟩ := owns_slice h.own
  cases e
  refine ⟨h.below.setCell (by simp; omega) _, ?_, ?_⟩
  · rw [ents_set R (updP r x) 0 i r hi rfl rfl, List.length_set]
    exact h.map.turn (heap_setCell_other _ _ _ _ (by simp; omega))
  · rw [List.length_set, rcs_set R i r x hi]
    exact owns_set h.own _ _

set_option maxRecDepth 100000 in
set_option maxHeartbeats 1000000 in
theorem folded_walk {l : List PC} {a : Option Addr} {n c : Nat} {w : World} (hs : SlC w a l) (hm : AllM w l) (hl : l.length = n) (hn : n ≤ 1000) :
    Calls Try.prog 29 #[.slice a n c] w fun e w' => ∃ v, e = .returned v ∧ w'.ownsRow w.heap.size 27 4 v (foldP l).length (rcs (foldP l)) ∧ Below w.heap.size w w' := by
  have HS := dhid hs
  have HM := dhid hm
  have HL := dhid hl
  clear hs hm hl
  go_enter Try.func29, Try.ntmps29
  have hmk := fun W => run_makeMap (P := Try.prog) 71 W
  go_wp2
  clear hmk
  go_loopw [3, 13] (fun s i wr => ∃ j : Nat, j ≤ n ∧ i = .int .i64 (j : Int) ∧ Hid (FoldW w (foldP (l.take j)) s wr)) (fun _ i _ => n - (intOf i).toNat)
  case atStart =>
    refine ⟨0, Nat.zero_le _, rfl, ?_⟩
    exact ⟨below_alloc _ _, ⟨heap_alloc_new _ _, fun x hx => (by cases hx), .nil, fun x hx => (by cases hx)⟩, World.ownsRow_nil _ _ _ _⟩
  case round =>
    obtain ⟨j, hj, rfl, HW⟩ := hrel
    by_cases hlt : j < n
    · obtain ⟨b, o, x, rfl, hb, hx, c0, c1, c2, c3⟩ := (HS.out.below HW.out.below).at (j := j) (by rw [HL.out]; exact hlt)
      have HX := dhid hx
      clear hx
      have HT : Hid (foldP (l.take (j + 1)) = stepP (foldP (l.take j)) x) := by rw [(take_mem HX.out).2]; exact foldP_snoc _ _
      have HP := dhid (foldP_apart (l.take j))
      have hrl : (foldP (l.take j)).length ≤ 1000 := Nat.le_trans (foldP_length _) (by rw [List.length_take]; omega)
      have HF1 := dhid (fold_boxes HW.out HM.out (take_mem HX.out))
      generalize foldP (l.take j) = R at *
      go_wp2_with (first | (at_lookup; revert HX) | go_in)
      intro HX
      refine to_letter (F := FoldX w R x u3 wr.heap.size) HF1.out ?_
      clear HW hb c0 c1 c2 c3 HF1
      rintro W1 ⟨H1, hc1, hr1, hz1, hM1, hM2⟩
      obtain ⟨x0, x1, x2, x3, -, -, -, -, xl⟩ := hc1.facts
      have z0 : W1.cell? ⟨wr.heap.size + 1, 0, none⟩ = some (.string x.1.t) := cell_of_row _ _ _ _ _ _ hr1
      have z1 : W1.cell? ⟨wr.heap.size + 1, 1, none⟩ = some (.int .i64 x.1.id) := cell_of_row _ _ _ _ _ _ hr1
      obtain ⟨a3, k3, rfl⟩ := owns_slice H1.own
      rcases H1.key hM1 hM2 with ⟨hlook, hno, W2, hup, hW2, hmap⟩ | ⟨i, r, hlook, hi, hk⟩
      · unfold rkV at hlook hup
        have HX2 := dhid (fold_new H1 hc1 hno hW2 hmap hz1)
        clear hW2 hmap H1 hM1 hM2 hc1 hr1 hno
        obtain ⟨RL, hRL⟩ : ∃ m, Hid (R.length = m) := ⟨_, rfl⟩
        rw [hRL.out] at HX2 hup hrl ⊢
        go_wp2_with (first | (at_mapUpdate; revert HX2) | go_in)
        intro HX2
        refine wpList_mapUpdate_eq rfl _ _ _ _ rfl hup ?_
        obtain ⟨e2, B2, O2, M2, C2⟩ := HX2.out
        obtain ⟨y0, y1, y2, y3, -, -, -, -, yl⟩ := C2.facts
        have HO2 := dhid O2
        have HM2 := dhid M2
        have HB2 := dhid B2
        have HE2 := dhid e2
        clear hup hlook x0 x1 x2 x3 xl z0 z1 HX2 O2 M2 B2 e2 C2
        go_wp2_with (first | (at_builtin; refine append_src Try.underlying22 infoChg rfl (by decide) (by decide) rfl _ _ rfl (w.heap.size + 1) (by simp; omega) _ RL (rcs R) rfl (HO2.out.alloc _) _ 1 1 (rcC x.1) rfl (src_new _ _) rfl rcC_one (by omega) ?_) | go_in)
        intro v3 W3 O3 G3 A3
        have HO3 := dhid (fold_grow HB2.out HO2.out HM2.out O3 G3)
        clear O3 G3 A3
        go_wp2
        refine ⟨⟨j + 1, by omega, by go_num, ?_⟩, by simp [intOf]; omega⟩
        rw [HT.out, HE2.out]
        refine ⟨HO3.out.1, ?_, ?_⟩
        · rw [List.length_append, hRL.out]; exact HO3.out.2.2
        · rw [List.length_append, rcs_append, hRL.out]; exact HO3.out.2.1
      · obtain ⟨g, rfl⟩ : ∃ g, a3 = some ⟨g, 0, none⟩ := owns_addr H1.own (by have := (List.getElem?_eq_some_iff.1 hi).1; omega)
        have hil := (List.getElem?_eq_some_iff.1 hi).1
        have HX2 := dhid (fold_set (x := x) H1 hi)
        obtain ⟨g3, g4, g5⟩ := owns_cell3 H1.own hi
        have HE2 := dhid (stepP_at HP.out hi hk)
        unfold rkV at hlook
        clear H1 hM1 hM2 hc1 hr1
        obtain ⟨RL, hRL⟩ : ∃ m, Hid (R.length = m) := ⟨_, rfl⟩
        rw [hRL.out] at HX2 hrl hil ⊢
        have hil' : (i : Int) < (RL : Int) := by omega
        go_wp2
        refine ⟨⟨j + 1, by omega, by go_num, ?_⟩, by simp [intOf]; omega⟩
        rw [HT.out, HE2.out]
        exact HX2.out
    · have hjn : j = n := by omega
      subst hjn
      have ht : l.take j = l := List.take_of_length_le (by rw [HL.out]; exact Nat.le_refl _)
      rw [ht] at HW
      obtain ⟨a3, k3, rfl⟩ := owns_slice HW.out.own
      go_wp2
      go_ret
      exact ⟨_, rfl, owns_mono HW.out.own fun q hq => by have := (HW.out.own.lt q hq).1; omega, HW.out.below⟩
end Go.Proofs.Ytmcbpopeinabcaa
