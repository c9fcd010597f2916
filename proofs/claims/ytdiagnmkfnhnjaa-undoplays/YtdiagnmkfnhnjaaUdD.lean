/-
  Undo: Add and Save of package undo.
-/
import Derived.Deep.RegionLaw
import Derived.Test.YtdiagnmkfnhnjaaUdC
namespace Go.Proofs.Ytdiagnmkfnhnjaa
open Go.RowKit Rw

/-- An entry's lists lie from B on. -/
def FarE (B : Nat) (r : RE) : Prop := (∀ p, Value.ownBlock (.slice r.oa r.ol r.oc) = some p → B ≤ p) ∧ ∀ p, Value.ownBlock (.slice r.na r.nl r.nc) = some p → B ≤ p

/-- An entry is laid: the log behind it. -/
theorem add_end {B l q : Nat} {v s v5 : Value} {L : List PE} {S : List Sv} {r r' : RE} {c : En} {w W3 W4 W5 : World} {o : Obj} (h : Lg B l q v s L S w) (hm : MeansE w r c) (hb : Below w.heap.size w W3) (C : CopiedE W3 W4 r r' c)
    (O : W5.ownsRow B 35 5 v5 (L.length + 1) (flat peC L ++ reC r')) (G : (W4.alloc o).grownBy W5 v.ownBlock) :
    Lg B l q v5 s (L ++ [(r', c)]) S (W5.setCell ⟨l, 1, none⟩ v5) ∧ Below B w (W5.setCell ⟨l, 1, none⟩ v5) ∧ Keeps l v s w (W5.setCell ⟨l, 1, none⟩ v5) ∧ FarE w.heap.size r' ∧ W5.heap[l]? = some (.cells #[.int .i64 (q : Int), v, s] 64 (0, 0)) ∧ W5.heap[w.heap.size]? = (W4.alloc o).heap[w.heap.size]? := by
  have hB : B ≤ w.heap.size := Nat.le_trans h.base (Nat.le_of_lt h.lt)
  have b34 := below_on hb C.below hb.size
  have b4 : Below w.heap.size w (W4.alloc o) := b34.alloc b34.size o
  have h4 := h.on b4
  have hr' := (C.means (hm.below hb))
  have cn := owns_on C.n (below_alloc W4 o)
  have co := owns_on C.o (below_alloc W4 o)
  have l4 : LoneE (W4.alloc o) (L ++ [(r', c)]) := by
    refine ⟨fun x hx => ?_, fun x hx => ?_⟩
    · rcases List.mem_append.1 hx with hx | hx
      · exact h4.lone.all x hx
      · simp at hx; subst hx; exact hr'.below (below_alloc _ _)
    · rcases List.mem_append.1 hx with hx | hx
      · exact h4.lone.rows x hx
      · simp at hx; subst hx; exact ⟨owns_mono co fun _ _ => Nat.zero_le _, owns_mono cn fun _ _ => Nat.zero_le _⟩
  have hne : ∀ {g e : Nat} {cur : Array Value}, (W4.alloc o).heap[g]? = some (Obj.cells cur e (0, 0)) → e ≠ 35 → W5.heap[g]? = some (Obj.cells cur e (0, 0)) := fun hg he => by
    rw [G.block _ (Array.getElem?_eq_some_iff.1 hg).1 fun e => owns_far h4.own hg (Ne.symm he) e.symm]; exact hg
  have htr := hne h4.box (by decide)
  have hns : ∀ {g e : Nat} {cur : Array Value}, (W4.alloc o).heap[g]? = some (Obj.cells cur e (0, 0)) → e ≠ 35 → e ≠ 64 → (W5.setCell ⟨l, 1, none⟩ v5).heap[g]? = some (Obj.cells cur e (0, 0)) := fun hg he hl => by
    rw [heap_setCell_other _ _ _ _ (by rintro rfl; rw [h4.box] at hg; cases hg; exact hl rfl)]
    exact hne hg he
  have b5 : Below B w W5 := (b4.mono hB).grown G (Nat.le_trans hB b4.size) fun q hq => (h4.own.lt q hq).1
  refine ⟨⟨?_, h.base, ?_, ?_, ?_, h.ord, fun x hx => ?_⟩, b5.setCell h.base _, fun b hb' hbt hbv _ => ?_, ⟨fun p hp => ?_, fun p hp => ?_⟩, htr, ?_⟩
  · rw [heap_setCell_same _ _ _ _ _ _ htr]; rfl
  · rw [List.length_append, flat_append]
    refine owns_below (by simpa [flat, peC] using O) fun p hp => heap_setCell_other _ _ _ _ ?_
    rintro rfl
    exact owns_far O htr (by decide) hp
  · exact owns_below h4.sav fun p hp => by obtain ⟨cur, hc⟩ := owns_block h4.sav hp; rw [hc]; exact hns hc (by decide) (by decide)
  · exact l4.kind fun p cur hp => by rw [hp]; exact hns hp (by decide) (by decide)
  · have := h.top x hx
    simp
    omega
  · rw [heap_setCell_other _ _ _ _ hbt, G.block b (Nat.lt_of_lt_of_le hb' b4.size) fun e => hbv e.symm, b4.block b hb']
  · exact Nat.le_trans hb.size (C.o.lt p hp).1
  · exact Nat.le_trans hb.size (C.n.lt p hp).1
  · refine G.block _ ?_ fun e => ?_
    · have := b34.size; simp; omega
    · have := (h.own.lt _ e.symm).2; omega

set_option maxRecDepth 100000 in
theorem add_nil (r : RE) (w : World) : Calls Try.prog 9 #[.pointer none, reV r] w fun e w' => e = .returned (.int .i64 15) ∧ Below w.heap.size w w' := by
  unfold reV
  go_enter Try.func9, Try.ntmps9
  go_wp2
  go_ret
  exact ⟨rfl, below_alloc _ _⟩

set_option maxRecDepth 100000 in
theorem save_nil (name : ByteArray) (w : World) : Calls Try.prog 11 #[.pointer none, .string name] w fun e w' => e = .returned (.tuple #[]) ∧ w' = w := by
  go_enter Try.func11, Try.ntmps11
  go_wp2
  go_end0
  exact ⟨rfl, rfl⟩

set_option maxRecDepth 100000 in
set_option maxHeartbeats 1000000 in
theorem add_full {B l q : Nat} {v s : Value} {L : List PE} {S : List Sv} {r : RE} {w : World} (h : Lg B l q v s L S w) (hf : q ≤ L.length) :
    Calls Try.prog 9 #[.pointer (some ⟨l, 0, none⟩), reV r] w fun e w' => e = .returned (.int .i64 10) ∧ Below w.heap.size w w' := by
  obtain ⟨x0, x1, -, -, -, -, xl⟩ := h.facts
  obtain ⟨a, c, rfl⟩ := owns_slice h.own
  clear h
  generalize L.length = n at *
  have hf' : (q : Int) ≤ (n : Int) := by omega
  unfold reV
  go_enter Try.func9, Try.ntmps9
  go_wp2
  go_quiet (fail)
  go_wp2
  go_ret
  exact ⟨rfl, below_drewN (below_alloc _ _) _⟩

set_option maxRecDepth 100000 in
set_option maxHeartbeats 2000000 in
theorem add_walk {B l q : Nat} {v s : Value} {L : List PE} {S : List Sv} {r : RE} {c : En} {w : World} (h : Lg B l q v s L S w) (hm : MeansE w r c) (hn : L.length ≤ 100000) (hf : L.length < q) :
    Calls Try.prog 9 #[.pointer (some ⟨l, 0, none⟩), reV r] w fun e w' => e = .returned (.int .i64 0) ∧ ∃ r' v', Lg B l q v' s (L ++ [(r', c)]) S w' ∧ Below B w w' ∧ Keeps l v s w w' ∧ FarE w.heap.size r' := by
  obtain ⟨x0, x1, -, -, y1, -, xl⟩ := h.facts
  obtain ⟨a, k, rfl⟩ := owns_slice h.own
  have KS : Hid (∀ W, Below w.heap.size w W → W.cell? ⟨l, 1, none⟩ = some (.slice a L.length k) ∧ W.frozen? ⟨l, 1, none⟩ = false ∧ W.cell? ⟨l, 0, none⟩ = some (.int .i64 (q : Int)) ∧ l < W.heap.size) := fun W hW => ⟨(h.on hW).facts.2.1, (h.on hW).facts.2.2.2.2.1, (h.on hW).facts.1, (h.on hW).lt⟩
  have HOW : Hid (∀ W, Below w.heap.size w W → W.ownsRow B 35 5 (.slice a L.length k) L.length (flat peC L) ∧ B ≤ W.heap.size) := fun W hW => ⟨(h.on hW).own, Nat.le_trans h.base (Nat.le_of_lt (h.on hW).lt)⟩
  have HC : Hid (∀ W, Below w.heap.size w W → Calls Try.prog 25 #[reV r] W fun e w' => ∃ r', e = .returned (reV r') ∧ CopiedE W w' r r' c) := fun W hW => copied_walk (hm.below hW)
  have HE : Hid (∀ {r' : RE} {v5 : Value} {W3 W4 W5 : World} {o : Obj}, Below w.heap.size w W3 → CopiedE W3 W4 r r' c → W5.ownsRow B 35 5 v5 (L.length + 1) (flat peC L ++ reC r') → (W4.alloc o).grownBy W5 (Value.slice a L.length k).ownBlock →
    (Lg B l q v5 s (L ++ [(r', c)]) S (W5.setCell ⟨l, 1, none⟩ v5) ∧ Below B w (W5.setCell ⟨l, 1, none⟩ v5) ∧ Keeps l (.slice a L.length k) s w (W5.setCell ⟨l, 1, none⟩ v5) ∧ FarE w.heap.size r') ∧ (W5.cell? ⟨l, 1, none⟩ = some (.slice a L.length k) ∧ W5.frozen? ⟨l, 1, none⟩ = false ∧ l < W5.heap.size) ∧ W5.heap[w.heap.size]? = (W4.alloc o).heap[w.heap.size]?) := fun {r' v5 W3 W4 W5 o} h1 h2 h3 h4 => by
    obtain ⟨e1, e2, e3, e4, e5, e6⟩ := add_end h hm h1 h2 h3 h4
    exact ⟨⟨e1, e2, e3, e4⟩, ⟨cell_of_row _ _ _ _ _ _ e5, frozen_of_row _ _ _ _ _ e5, (Array.getElem?_eq_some_iff.1 e5).1⟩, e6⟩
  clear h hm
  obtain ⟨n, HN⟩ : ∃ m, Hid (L.length = m) := ⟨_, rfl⟩
  rw [HN.out] at hn hf x1 KS HOW HE ⊢
  have hf' : ¬ (q : Int) ≤ (n : Int) := by omega
  unfold reV at HC ⊢
  go_enter Try.func9, Try.ntmps9
  go_wp2
  go_quiet (fail)
  go_wp2_with fail
  refine to_letter (F := fun W => Below w.heap.size w W ∧ Box5 W w.heap.size (.int .i64 r.k) (.int .i64 r.id) (.string r.t) (.slice r.oa r.ol r.oc) (.slice r.na r.nl r.nc)) ⟨below_drewN (below_alloc _ _) _, heap_new _ _⟩ ?_
  rintro U ⟨hU, CU⟩
  have HU := dhid hU
  have KS2 : Hid (∀ W, Below U.heap.size U W → (W.cell? ⟨l, 1, none⟩ = some (.slice a n k) ∧ W.frozen? ⟨l, 1, none⟩ = false ∧ W.cell? ⟨l, 0, none⟩ = some (.int .i64 (q : Int)) ∧ l < W.heap.size) ∧ W.cell? ⟨w.heap.size, 0, none⟩ = some (.int .i64 r.k) ∧ W.cell? ⟨w.heap.size, 1, none⟩ = some (.int .i64 r.id) ∧ W.cell? ⟨w.heap.size, 2, none⟩ = some (.string r.t) ∧ W.cell? ⟨w.heap.size, 3, none⟩ = some (.slice r.oa r.ol r.oc) ∧ W.cell? ⟨w.heap.size, 4, none⟩ = some (.slice r.na r.nl r.nc)) := fun W hW => by
    obtain ⟨z0, z1, z2, z3, z4, zl⟩ := CU.facts
    refine ⟨KS.out W (below_on hU hW hU.size), ?_⟩
    rw [hW.cell (p := ⟨w.heap.size, 0, none⟩) zl, hW.cell (p := ⟨w.heap.size, 1, none⟩) zl, hW.cell (p := ⟨w.heap.size, 2, none⟩) zl, hW.cell (p := ⟨w.heap.size, 3, none⟩) zl, hW.cell (p := ⟨w.heap.size, 4, none⟩) zl]; exact ⟨z0, z1, z2, z3, z4⟩
  have zl : w.heap.size < U.heap.size := CU.facts.2.2.2.2.2
  clear hU CU x0 x1 y1 xl KS
  obtain ⟨⟨x1, y1, x0, xl⟩, z0, z1, z2, z3, z4⟩ := KS2.out U (Below.refl _ _)
  go_region_law
    (first
      | (go_simp; go_at_call 25; with_reducible refine (HC.out _ ?_).mono ?_
         · exact below_on HU.out (by repeat (first | exact Below.refl _ _ | refine Below.drew ?_ | refine Below.alloc ?_ (by simp) _)) HU.out.size
         rintro e W4 ⟨r', rfl, C4⟩
         have HC4 := dhid C4
         have HB4 : Hid (Below U.heap.size U W4) := below_on (by repeat (first | exact Below.refl _ _ | refine Below.drew ?_)) C4.below (by simp)
         obtain ⟨⟨u1, v1, u0, ul⟩, t0, t1, t2, t3, t4⟩ := KS2.out W4 HB4.out
         clear C4 HC
         try dsimp only)
      | (refine step_appS Try.underlying44 infoEnt rfl (by decide) (by decide) rfl (.tmp 21) (.tmp 24) rfl B (HOW.out _ (below_on HU.out (HB4.out.alloc HB4.out.size _) HU.out.size)).2 (.slice a n k) n (flat peC L) ?_ (HOW.out _ (below_on HU.out (HB4.out.alloc HB4.out.size _) HU.out.size)).1 _ 1 1 (reC r') ?_ (src_new _ (reC r') _ 1 1 rfl) rfl (reC_one r') (by omega) ?_
         · first | (simp [Act.eval]; done) | (simp [Act.eval, Act.put]; done)
         · first | (simp [Act.eval]; done) | (simp [Act.eval, Act.put]; done)
         intro v5 W5 O5 G5
         obtain ⟨a5, k5, e5⟩ := owns_slice O5
         subst e5
         have HE5 := dhid (HE.out (below_on HU.out (by repeat (first | exact Below.refl _ _ | refine Below.drew ?_)) HU.out.size) HC4.out O5 G5)
         obtain ⟨s1, s2, s3⟩ := HE5.out.2.1
         clear O5 G5 u1 v1 u0 ul t0 t1 t2 t3 t4))
  all_goals
    go_wp2_with fail
    go_ret
    exact ⟨rfl, r', _, HE5.out.1⟩

/-- A savepoint is laid: the log behind it. -/
theorem save_end {B l q : Nat} {v s s5 : Value} {L : List PE} {S : List Sv} {name : ByteArray} {w W4 W5 : World} (h : Lg B l q v s L S w) (b4 : Below w.heap.size w W4)
    (O : W5.ownsRow B 69 2 s5 (S.length + 1) (flat svC S ++ svC (name, L.length))) (G : W4.grownBy W5 s.ownBlock) :
    Lg B l q v s5 L (S ++ [(name, L.length)]) (W5.setCell ⟨l, 2, none⟩ s5) ∧ Below B w (W5.setCell ⟨l, 2, none⟩ s5) ∧ Keeps l v s w (W5.setCell ⟨l, 2, none⟩ s5) ∧ W5.heap[l]? = some (.cells #[.int .i64 (q : Int), v, s] 64 (0, 0)) := by
  have hB : B ≤ w.heap.size := Nat.le_trans h.base (Nat.le_of_lt h.lt)
  have h4 := h.on b4
  have hne : ∀ {g e : Nat} {cur : Array Value}, W4.heap[g]? = some (Obj.cells cur e (0, 0)) → e ≠ 69 → W5.heap[g]? = some (Obj.cells cur e (0, 0)) := fun hg he => by
    rw [G.block _ (Array.getElem?_eq_some_iff.1 hg).1 fun e => owns_far h4.sav hg (Ne.symm he) e.symm]; exact hg
  have htr := hne h4.box (by decide)
  have hns : ∀ {g e : Nat} {cur : Array Value}, W4.heap[g]? = some (Obj.cells cur e (0, 0)) → e ≠ 69 → e ≠ 64 → (W5.setCell ⟨l, 2, none⟩ s5).heap[g]? = some (Obj.cells cur e (0, 0)) := fun hg he hl => by
    rw [heap_setCell_other _ _ _ _ (by rintro rfl; rw [h4.box] at hg; cases hg; exact hl rfl)]
    exact hne hg he
  have b5 : Below B w W5 := (b4.mono hB).grown G (Nat.le_trans hB b4.size) fun q hq => (h4.sav.lt q hq).1
  refine ⟨⟨?_, h.base, ?_, ?_, ?_, ?_, fun x hx => ?_⟩, b5.setCell h.base _, fun b hb' hbt _ hbs => ?_, htr⟩
  · rw [heap_setCell_same _ _ _ _ _ _ htr]; rfl
  · exact owns_below h4.own fun p hp => by obtain ⟨cur, hc⟩ := owns_block h4.own hp; rw [hc]; exact hns hc (by decide) (by decide)
  · rw [List.length_append, flat_append]
    refine owns_below (by simpa [flat] using O) fun p hp => heap_setCell_other _ _ _ _ ?_
    rintro rfl
    exact owns_far O htr (by decide) hp
  · exact h4.lone.kind fun p cur hp => by rw [hp]; exact hns hp (by decide) (by decide)
  · refine List.pairwise_append.2 ⟨h.ord, List.pairwise_singleton _ _, fun x hx y hy => ?_⟩
    simp at hy
    subst hy
    exact h.top x hx
  · rcases List.mem_append.1 hx with hx | hx
    · exact h.top x hx
    · simp at hx; subst hx; exact Nat.le_refl _
  · rw [heap_setCell_other _ _ _ _ hbt, G.block b (Nat.lt_of_lt_of_le hb' b4.size) fun e => hbs e.symm, b4.block b hb']

set_option maxRecDepth 100000 in
set_option maxHeartbeats 2000000 in
theorem save_walk {B l q : Nat} {v s : Value} {L : List PE} {S : List Sv} {name : ByteArray} {w : World} (h : Lg B l q v s L S w) (hn : S.length ≤ 100000) :
    Calls Try.prog 11 #[.pointer (some ⟨l, 0, none⟩), .string name] w fun e w' => e = .returned (.tuple #[]) ∧ ∃ s', Lg B l q v s' L (S ++ [(name, L.length)]) w' ∧ Below B w w' ∧ Keeps l v s w w' := by
  obtain ⟨-, x1, x2, -, -, y2, xl⟩ := h.facts
  obtain ⟨a, k, rfl⟩ := owns_slice h.own
  obtain ⟨a2, k2, rfl⟩ := owns_slice h.sav
  have HOW : Hid (∀ W, Below w.heap.size w W → W.ownsRow B 69 2 (.slice a2 S.length k2) S.length (flat svC S) ∧ B ≤ W.heap.size) := fun W hW => ⟨(h.on hW).sav, Nat.le_trans h.base (Nat.le_of_lt (h.on hW).lt)⟩
  have HE : Hid (∀ {s5 : Value} {W4 W5 : World}, Below w.heap.size w W4 → W5.ownsRow B 69 2 s5 (S.length + 1) (flat svC S ++ svC (name, L.length)) → W4.grownBy W5 (Value.slice a2 S.length k2).ownBlock →
    (Lg B l q (.slice a L.length k) s5 L (S ++ [(name, L.length)]) (W5.setCell ⟨l, 2, none⟩ s5) ∧ Below B w (W5.setCell ⟨l, 2, none⟩ s5) ∧ Keeps l (.slice a L.length k) (.slice a2 S.length k2) w (W5.setCell ⟨l, 2, none⟩ s5)) ∧ (W5.cell? ⟨l, 1, none⟩ = some (.slice a L.length k) ∧ W5.cell? ⟨l, 2, none⟩ = some (.slice a2 S.length k2) ∧ W5.frozen? ⟨l, 2, none⟩ = false ∧ l < W5.heap.size)) := fun {s5 W4 W5} h1 h2 h3 => by
    obtain ⟨e1, e2, e3, e4⟩ := save_end h h1 h2 h3
    exact ⟨⟨e1, e2, e3⟩, cell_of_row _ _ _ _ _ _ e4, cell_of_row _ _ _ _ _ _ e4, frozen_of_row _ _ _ _ _ e4, (Array.getElem?_eq_some_iff.1 e4).1⟩
  clear h
  obtain ⟨n, HN⟩ : ∃ m, Hid (L.length = m) := ⟨_, rfl⟩
  obtain ⟨m, HM⟩ : ∃ m, Hid (S.length = m) := ⟨_, rfl⟩
  rw [HN.out] at x1 HE ⊢
  rw [HM.out] at x2 hn HOW HE ⊢
  go_enter Try.func11, Try.ntmps11
  go_wp2_with fail
  go_region_law
    (refine step_appS Try.underlying62 infoSav rfl (by decide) (by decide) rfl (.tmp 10) (.tmp 18) rfl B (HOW.out _ ?_).2 (.slice a2 m k2) m (flat svC S) ?_ (HOW.out _ ?_).1 _ 1 1 (svC (name, n)) ?_ (src_new _ (svC (name, n)) _ 1 1 rfl) rfl (svC_one _) (by omega) ?_
     · repeat (first | exact Below.refl _ _ | refine Below.drew ?_ | refine Below.alloc ?_ (by simp) _)
     · first | (simp [Act.eval]; done) | (simp [Act.eval, Act.put]; done)
     · repeat (first | exact Below.refl _ _ | refine Below.drew ?_ | refine Below.alloc ?_ (by simp) _)
     · first | (simp [Act.eval]; done) | (simp [Act.eval, Act.put]; done)
     intro v5 W5 O5 G5
     obtain ⟨a5, k5, e5⟩ := owns_slice O5
     subst e5
     have HE5 := dhid (HE.out (by repeat (first | exact Below.refl _ _ | refine Below.drew ?_ | refine Below.alloc ?_ (by simp) _)) O5 G5)
     obtain ⟨s1, s2, s3, s4⟩ := HE5.out.2
     clear O5 G5)
  all_goals
    go_wp2_with fail
    go_end0
    exact ⟨rfl, _, HE5.out.1⟩
end Go.Proofs.Ytdiagnmkfnhnjaa
