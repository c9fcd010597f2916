/-
  Undo: the document's log: Len and Saves.
-/
import Derived.Test.YtdiagnmkfnhnjaaUdJ
import Derived.Test.YtdiagnmkfnhnjaaUdH
namespace Go.Proofs.Ytdiagnmkfnhnjaa
open Go.RowKit Rw

set_option maxRecDepth 100000 in
set_option maxHeartbeats 1000000 in
theorem rlen_walk {B d q : Nat} {v : Value} {D : List DI} {w : World} (h : DLg B d q v D w) (hn : D.length ≤ 100000) : Calls Try.prog 20 #[.pointer (some ⟨d, 0, none⟩)] w fun e w' => e = .returned (.int .i64 ((ens D).length : Int)) ∧ w' = w := by
  obtain ⟨-, x1, -, xl⟩ := h.facts
  obtain ⟨a, c, rfl⟩ := owns_slice h.own
  have HI : Hid (∀ k, k < D.length → ∃ x, D[k]? = some x ∧ ∃ g, a = some ⟨g, 0, none⟩ ∧ g < w.heap.size ∧ w.cell? ⟨g, k * 7, none⟩ = some (.bool x.b)) := fun k hk => by
    have hx := List.getElem?_eq_getElem hk
    obtain ⟨g, e, gl, c0, -⟩ := h.item hx
    exact ⟨_, hx, g, e, gl, c0⟩
  have HT : Hid (D.take D.length = D) := List.take_length
  have HLE : Hid (∀ j, (ens (D.take j)).length ≤ D.length) := fun j => Nat.le_trans (ens_len _) (by rw [List.length_take]; omega)
  clear h
  obtain ⟨n, HN⟩ : ∃ m, Hid (D.length = m) := ⟨_, rfl⟩
  rw [HN.out] at x1 hn HI HT HLE
  go_enter Try.func20, Try.ntmps20
  go_wp2
  go_loop [3, 4] (fun s i => ∃ j : Nat, j ≤ n ∧ i = .int .i64 (j : Int) ∧ s = .int .i64 ((ens (D.take j)).length : Int)) (fun _ i => n - (intOf i).toNat)
  case atStart => exact ⟨0, Nat.zero_le _, rfl, rfl⟩
  case round =>
    obtain ⟨j, hj, rfl, rfl⟩ := hrel
    by_cases hlt : j < n
    · obtain ⟨x, hx, g, rfl, gl, c0⟩ := HI.out j hlt
      have hle := HLE.out j
      have HE0 : Hid (x.b = false → (ens (D.take (j + 1))).length = (ens (D.take j)).length + 1) := fun hb => by rw [take_at hx, ens_snoc, hb]; simp
      have HE1 : Hid (x.b = true → (ens (D.take (j + 1))).length = (ens (D.take j)).length) := fun hb => by rw [take_at hx, ens_snoc, hb]; simp
      clear hx
      generalize (ens (D.take j)).length = m at *
      cases hb : x.b
      · have HE := dhid (HE0.out hb)
        rw [hb] at c0
        clear HE0 HE1
        go_wp2
        exact ⟨⟨j + 1, hlt, by go_num, by rw [HE.out]; go_num⟩, by simp [intOf]; omega⟩
      · have HE := dhid (HE1.out hb)
        rw [hb] at c0
        clear HE0 HE1
        go_wp2
        exact ⟨⟨j + 1, hlt, by go_num, by rw [HE.out]⟩, by simp [intOf]; omega⟩
    · have hjn : j = n := by omega
      subst hjn
      rw [HT.out]
      go_wp2
      go_ret
      exact ⟨rfl, rfl⟩

theorem flat_nms_take {D : List DI} {j : Nat} {x : DI} (hx : D[j]? = some x) : (x.b = true → flat nmC (nms (D.take (j + 1))) = flat nmC (nms (D.take j)) ++ nmC x.nm ∧ (nms (D.take (j + 1))).length = (nms (D.take j)).length + 1) ∧ (x.b = false → nms (D.take (j + 1)) = nms (D.take j)) := by
  rw [take_at hx, nms_append]
  constructor
  · intro hb
    simp only [nms, hb, if_true]
    rw [flat_append]
    exact ⟨by simp [flat], by simp⟩
  · intro hb
    simp only [nms, hb, Bool.false_eq_true, if_false, List.append_nil]

theorem nmC_one (b : ByteArray) : ∀ u ∈ nmC b, u.oneCell' = true := by
  intro u hu
  simp [nmC] at hu
  subst hu
  rfl

theorem nms_len : ∀ (D : List DI), (nms D).length ≤ D.length
  | [] => Nat.le_refl _
  | x :: D => by
    have := nms_len D
    cases h : x.b
    · simp only [nms, h, Bool.false_eq_true, if_false, List.length_cons]; omega
    · simp only [nms, h, if_true, List.length_cons]; omega

set_option maxRecDepth 100000 in
set_option maxHeartbeats 1000000 in
theorem rsaves_walk {B d q : Nat} {v : Value} {D : List DI} {w : World} (h : DLg B d q v D w) (hn : D.length ≤ 100000) : Calls Try.prog 23 #[.pointer (some ⟨d, 0, none⟩)] w fun e w' => ∃ v', e = .returned v' ∧ w'.ownsRow w.heap.size 9 1 v' (nms D).length (flat nmC (nms D)) ∧ Below w.heap.size w w' := by
  obtain ⟨a, c, rfl⟩ := owns_slice h.own
  have HF : Hid (∀ W, Below w.heap.size w W → W.cell? ⟨d, 1, none⟩ = some (.slice a D.length c) ∧ d < W.heap.size) := fun W hW => ⟨(h.on hW).facts.2.1, (h.on hW).lt⟩
  have HI : Hid (∀ k W, k < D.length → Below w.heap.size w W → ∃ x, D[k]? = some x ∧ ∃ g, a = some ⟨g, 0, none⟩ ∧ g < W.heap.size ∧ W.cell? ⟨g, k * 7, none⟩ = some (.bool x.b) ∧ W.cell? ⟨g, k * 7 + 1, none⟩ = some (.string x.nm)) := fun k W hk hW => by
    have hx := List.getElem?_eq_getElem hk
    obtain ⟨g, e, gl, c0, c1, -⟩ := (h.on hW).item hx
    exact ⟨_, hx, g, e, gl, c0, c1⟩
  have HT : Hid (D.take D.length = D) := List.take_length
  have HLE : Hid (∀ j, (nms (D.take j)).length ≤ D.length) := fun j => Nat.le_trans (nms_len _) (by rw [List.length_take]; omega)
  clear h
  obtain ⟨n, HN⟩ : ∃ m, Hid (D.length = m) := ⟨_, rfl⟩
  rw [HN.out] at hn HF HI HT HLE
  go_enter Try.func23, Try.ntmps23
  go_wp2
  go_loopw [3, 4] (fun s i wr => ∃ j : Nat, j ≤ n ∧ i = .int .i64 (j : Int) ∧ Hid (wr.ownsRow w.heap.size 9 1 s (nms (D.take j)).length (flat nmC (nms (D.take j))) ∧ Below w.heap.size w wr)) (fun _ i _ => n - (intOf i).toNat)
  case atStart => exact ⟨0, Nat.zero_le _, rfl, own_new (heap_new _ _) (Nat.le_refl _), below_alloc _ _⟩
  case round =>
    obtain ⟨j, hj, rfl, HB⟩ := hrel
    obtain ⟨x1, xl⟩ := HF.out wr HB.out.2
    by_cases hlt : j < n
    · obtain ⟨x, hx, g, rfl, gl, c0, c1⟩ := HI.out j wr hlt HB.out.2
      have HX := dhid (flat_nms_take hx)
      have hle := HLE.out j
      clear hx
      cases hb : x.b
      · rw [hb] at c0
        have HE := dhid (HX.out.2 hb)
        go_wp2
        exact ⟨⟨j + 1, hlt, by go_num, by rw [HE.out]; exact HB⟩, by simp [intOf]; omega⟩
      · rw [hb] at c0
        have HE := dhid (HX.out.1 hb)
        clear HX
        obtain ⟨m, HM⟩ : ∃ m, Hid ((nms (D.take j)).length = m) := ⟨_, rfl⟩
        rw [HM.out] at HB HE hle
        go_wp2_with (first | (at_builtin; revert HB) | go_in)
        intro HB
        refine to_letter (F := fun W => Below wr.heap.size wr W ∧ Src W (some ⟨wr.heap.size, 0, none⟩) 1 1 (nmC x.nm)) ⟨below_alloc wr _, src_new _ (nmC x.nm) _ 1 1 rfl⟩ ?_
        rintro U ⟨bU, sU⟩
        have o1 := owns_on HB.out.1 bU
        have b1 := below_on HB.out.2 bU HB.out.2.size
        refine append_src Try.underlying56 infoStr rfl (by decide) (by decide) rfl _ _ rfl w.heap.size b1.size _ m (flat nmC (nms (D.take j))) rfl o1 _ 1 1 (nmC x.nm) rfl sU rfl (nmC_one _) (by omega) ?_
        intro v2 W2 O2 G2 _
        rw [← HE.out.1] at O2
        have HI2 : Hid (W2.ownsRow w.heap.size 9 1 v2 (nms (D.take (j + 1))).length (flat nmC (nms (D.take (j + 1)))) ∧ Below w.heap.size w W2) := And.intro (by rw [HE.out.2]; exact O2) (b1.grown G2 b1.size fun p hp => (o1.lt p hp).1)
        clear O2 G2 o1 b1 bU sU HB c0 c1
        go_wp2
        exact ⟨⟨j + 1, hlt, by go_num, HI2⟩, by simp [intOf]; omega⟩
    · have hjn : j = n := by omega
      subst hjn
      rw [HT.out] at HB
      go_wp2
      go_ret
      exact ⟨_, rfl, HB.out.1, HB.out.2⟩
end Go.Proofs.Ytdiagnmkfnhnjaa
