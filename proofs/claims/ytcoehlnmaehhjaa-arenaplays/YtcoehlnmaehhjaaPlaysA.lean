/-
  The two arenas side by side, with one variable of the call's own.
-/
import Derived.Test.YtcoehlnmaehhjaaRfG
import Derived.Test.YtcoehlnmaehhjaaSnE
namespace Go.Proofs.Ytcoehlnmaehhjaa
open Go.RowKit

/-- The document's arena r stands beside, and a variable v; all are newer than w0. -/
def PΦ (w0 : World) (r : Rf) (v : Option (Nat × Obj)) (s : Ar) (w : World) : Prop := RfP r w ∧ (∀ k, r.own k → ¬ s.own k) ∧ BΦ w0 s w ∧ (∀ k, r.own k → w0.heap.size ≤ k) ∧ ∀ b o, v = some (b, o) → w.heap[b]? = some o ∧ ¬ s.own b ∧ ¬ r.own b

theorem p_stable (w0 : World) (r : Rf) (v : Option (Nat × Obj)) : Stable (PΦ w0 r v) := by
  rintro s s' w w' h ⟨h1, h2, h3, h4, h5⟩ h' hp hm
  have lt : ∀ k, r.own k → k < w.heap.size := fun k x => rfSt.lt r w k h1 x
  refine ⟨rfSt.keep r w w' h1 (fun k x => hm.only.block k (lt k x) (h2 k x)) (arSt.pk h hm.only), fun k x y => ?_, b_stable w0 s s' w w' h h3 h' hp hm, h4, fun b o e => ?_⟩
  · rcases hm.own k y with z | z
    · exact h2 k x z
    · have := lt k x; omega
  · obtain ⟨g1, g2, g3⟩ := h5 b o e
    have hb := (Array.getElem?_eq_some_iff.1 g1).1
    refine ⟨(hm.only.block b hb g2).trans g1, fun y => ?_, g3⟩
    rcases hm.own b y with z | z
    · exact g2 z
    · omega

/-- A call that moves the document's arena. -/
theorem p_move {w0 : World} {r r' : Rf} {v : Option (Nat × Obj)} {p : Nat} {a : Abs} {w w' : World} (h : HG (PΦ w0 r v) p a w) (h' : RfP r' w') (hm : Moves rfSt r r' w w') : HG (PΦ w0 r' v) p a w' := by
  obtain ⟨s, g1, g2, g3, g4, h1, h2, h3, h4, h5⟩ := h
  have hs : ArP s w' := arSt.keep s w w' g2 (fun k x => hm.only.block k (arSt.lt s w k g2 x) fun y => h2 k y x) (rfSt.pk h1 hm.only)
  refine ⟨s, g1, hs, g3, g4, h', fun k x y => ?_, ⟨h3.1.trans (hm.only.below h3.1.size fun k hk x => by have := h4 k x; omega), h3.2⟩, fun k x => ?_, fun b o e => ?_⟩
  · rcases hm.own k x with z | z
    · exact h2 k z y
    · have := arSt.lt s w k g2 y; omega
  · rcases hm.own k x with z | z
    · exact h4 k z
    · exact Nat.le_trans h3.1.size z
  · obtain ⟨y1, y2, y3⟩ := h5 b o e
    have hb := (Array.getElem?_eq_some_iff.1 y1).1
    refine ⟨(hm.only.block b hb y3).trans y1, y2, fun z => ?_⟩
    rcases hm.own b z with z | z
    · exact y3 z
    · omega

/-- Both, by what they are. -/
def Side (w0 : World) (p pr : Nat) (v : Option (Nat × Obj)) (a : Abs) (ra : RAbs) (w : World) : Prop := ∃ r, r.p = pr ∧ r.abs = ra ∧ HG (PΦ w0 r v) p a w

variable {w0 w : World} {p pr : Nat} {v : Option (Nat × Obj)} {a : Abs} {ra : RAbs}

theorem Side.ok (h : Side w0 p pr v a ra w) : a.Ok := by obtain ⟨_, _, _, h⟩ := h; exact h.ok
theorem Side.B (h : Side w0 p pr v a ra w) : Below w0.heap.size w0 w := by
  obtain ⟨_, _, _, s, _, _, _, _, _, _, h, _⟩ := h
  exact h.1
theorem Side.below {w' : World} (h : Side w0 p pr v a ra w) (hb : Below w.heap.size w w') : Side w0 p pr v a ra w' := by
  obtain ⟨r, h1, h2, h3⟩ := h
  exact ⟨r, h1, h2, h3.below (p_stable w0 r v) hb⟩
theorem Side.drop (h : Side w0 p pr v a ra w) : Side w0 p pr none a ra w := by
  obtain ⟨r, h1, h2, s, g1, g2, g3, g4, k1, k2, k3, k4, _⟩ := h
  exact ⟨r, h1, h2, s, g1, g2, g3, g4, k1, k2, k3, k4, fun b o e => by cases e⟩
/-- A new variable. -/
theorem Side.var (h : Side w0 p pr none a ra w) (o : Obj) : Side w0 p pr (some (w.heap.size, o)) a ra (w.alloc o) := by
  obtain ⟨r, h1, h2, s, g1, g2, g3, g4, k1, k2, k3, k4, _⟩ := h
  have hb := below_alloc w o
  refine ⟨r, h1, h2, s, g1, arSt.below g2 hb, g3, g4, rfSt.below k1 hb, k2, ⟨below_on k3.1 hb, k3.2⟩, k4, fun b o' e => ?_⟩
  cases e
  refine ⟨heap_alloc_new _ _, fun x => ?_, fun x => ?_⟩
  · have := arSt.lt s w _ g2 x; omega
  · have := rfSt.lt r w _ k1 x; omega
theorem Side.at {b : Nat} {o : Obj} (h : Side w0 p pr (some (b, o)) a ra w) : w.heap[b]? = some o := by
  obtain ⟨r, _, _, s, _, _, _, _, _, _, _, _, k⟩ := h
  exact (k b o rfl).1
/-- The document's arena in memory. -/
theorem Side.rf (h : Side w0 p pr v a ra w) : ∃ r, r.p = pr ∧ r.abs = ra ∧ RfP r w := by
  obtain ⟨r, h1, h2, s, _, _, _, _, k1, _⟩ := h
  exact ⟨r, h1, h2, k1⟩

theorem Side.goes {w' : World} {ra' : RAbs} {r : Rf} (h1 : r.p = pr) (h3 : HG (PΦ w0 r v) p a w) (hg : RGoes r w ra' w') : Side w0 p pr v a ra' w' := by
  obtain ⟨r', g1, g2, g3, g4⟩ := hg
  exact ⟨r', g2.trans h1, g3, p_move h3 g1 g4⟩

theorem s_alloc (h : Side w0 p pr v a ra w) (hl : 0 < a.left) : Calls Try.prog 12 #[arV p] w fun e w' => e = .returned (.tuple #[nv a.next, .int .i64 0]) ∧ Side w0 p pr v a.alloc ra w' := by
  obtain ⟨r, h1, h2, h3⟩ := h
  exact (g_alloc (p_stable w0 r v) h3 hl).mono fun _ _ ⟨he, hg⟩ => ⟨he, r, h1, h2, hg⟩
theorem s_full (h : Side w0 p pr v a ra w) (hl : a.left = 0) : Calls Try.prog 12 #[arV p] w fun e w' => e = .returned (.tuple #[.int .i64 0, .int .i64 9]) ∧ Side w0 p pr v a ra w' := by
  obtain ⟨r, h1, h2, h3⟩ := h
  exact (g_full (p_stable w0 r v) h3 hl).mono fun _ _ ⟨he, hg⟩ => ⟨he, r, h1, h2, hg⟩
theorem s_free (h : Side w0 p pr v a ra w) {n : Int} {c : List UInt8} (hn : a.at n = some c) : Calls Try.prog 14 #[arV p, .int .i64 n] w fun e w' => e = .returned (.int .i64 0) ∧ Side w0 p pr v (a.free n.toNat) ra w' := by
  obtain ⟨r, h1, h2, h3⟩ := h
  exact (g_free (p_stable w0 r v) h3 hn).mono fun _ _ ⟨he, hg⟩ => ⟨he, r, h1, h2, hg⟩
theorem s_free_no (h : Side w0 p pr v a ra w) {n : Int} (hn : a.at n = none) : Calls Try.prog 14 #[arV p, .int .i64 n] w fun e w' => e = .returned (.int .i64 2) ∧ Side w0 p pr v a ra w' := by
  obtain ⟨r, h1, h2, h3⟩ := h
  exact (g_free_no h3 hn).mono fun _ _ ⟨he, hg⟩ => ⟨he, r, h1, h2, hg⟩
theorem s_load (h : Side w0 p pr v a ra w) {n : Int} {c : List UInt8} (hn : a.at n = some c) : Calls Try.prog 18 #[arV p, .int .i64 n] w fun e w' => e = .returned (.tuple #[.slice (some ⟨w.heap.size, 0, none⟩) 1024 1024, .int .i64 0]) ∧ HeldP w' w.heap.size c ∧ Side w0 p pr v a ra w' := by
  obtain ⟨r, h1, h2, h3⟩ := h
  exact (g_load (p_stable w0 r v) h3 hn).mono fun _ _ ⟨he, hv, hg, _⟩ => ⟨he, hv, r, h1, h2, hg⟩
theorem s_load_no (h : Side w0 p pr v a ra w) {n : Int} (hn : a.at n = none) : Calls Try.prog 18 #[arV p, .int .i64 n] w fun e w' => e = .returned (.tuple #[.slice none 0 0, .int .i64 2]) ∧ Side w0 p pr v a ra w' := by
  obtain ⟨r, h1, h2, h3⟩ := h
  exact (g_load_no h3 hn).mono fun _ _ ⟨he, hg⟩ => ⟨he, r, h1, h2, hg⟩
theorem s_store (h : Side w0 p pr v a ra w) {n : Int} {c : List UInt8} (hn : a.at n = some c) {u : Value} {b : Nat} {d : List UInt8} (hv : BS w b u d) (hd : d.length = 1024) : Calls Try.prog 16 #[arV p, .int .i64 n, u] w fun e w' => e = .returned (.int .i64 0) ∧ Side w0 p pr v (a.lay n.toNat (some d)) ra w' := by
  obtain ⟨r, h1, h2, h3⟩ := h
  exact (g_store (p_stable w0 r v) h3 hn hv hd).mono fun _ _ ⟨he, hg⟩ => ⟨he, r, h1, h2, hg⟩
theorem s_store_long (h : Side w0 p pr v a ra w) {n : Int} {c : List UInt8} (hn : a.at n = some c) {u : Value} {b : Nat} {d : List UInt8} (hv : BS w b u d) (hd : d.length ≠ 1024) : Calls Try.prog 16 #[arV p, .int .i64 n, u] w fun e w' => e = .returned (.int .i64 15) ∧ Side w0 p pr v a ra w' := by
  obtain ⟨r, h1, h2, h3⟩ := h
  exact (g_store_long h3 hn hv hd).mono fun _ _ ⟨he, hg⟩ => ⟨he, r, h1, h2, hg⟩
theorem s_store_no (h : Side w0 p pr v a ra w) {n : Int} (hn : a.at n = none) (u : Value) : Calls Try.prog 16 #[arV p, .int .i64 n, u] w fun e w' => e = .returned (.int .i64 2) ∧ Side w0 p pr v a ra w' := by
  obtain ⟨r, h1, h2, h3⟩ := h
  exact (g_store_no h3 hn u).mono fun _ _ ⟨he, hg⟩ => ⟨he, r, h1, h2, hg⟩
theorem s_limit (h : Side w0 p pr v a ra w) (n : Nat) (hn : n ≤ 4096) : Calls Try.prog 19 #[arV p, .int .i64 n] w fun e w' => e = .returned (.int .i64 0) ∧ Side w0 p pr v { a with q := n } ra w' := by
  obtain ⟨r, h1, h2, h3⟩ := h
  exact (g_limit (p_stable w0 r v) h3 n hn).mono fun _ _ ⟨he, hg⟩ => ⟨he, r, h1, h2, hg⟩
theorem s_limit_no (h : Side w0 p pr v a ra w) {n : Int} (hn : mayB n = false) : Calls Try.prog 19 #[arV p, .int .i64 n] w fun e w' => e = .returned (.int .i64 15) ∧ Side w0 p pr v a ra w' := by
  obtain ⟨r, h1, h2, h3⟩ := h
  exact (g_limit_no h3 hn).mono fun _ _ ⟨he, hg⟩ => ⟨he, r, h1, h2, hg⟩

theorem rel_small (hr : Rel a ra) (ho : a.Ok) : ra.L.length ≤ 4096 ∧ ra.fr.length ≤ 4096 ∧ ra.nx ≤ 10000 ∧ ra.q ≤ 4096 := by
  have h1 := hr.len
  have h2 := ho.small
  have h3 := ho.le
  have h4 := hr.nx
  have h5 := ho.quota
  rw [hr.q, hr.fr, h1, h4]
  unfold Abs.used
  omega

theorem s_at (h : Side w0 p pr v a ra w) {a' : Abs} (hr : Rel a' ra) (ho : a'.Ok) {j m : Nat} {c : List UInt8} (hj : ra.L[j]? = some (m, c)) : Calls Try.prog 11 #[arV pr, .int .i64 (m : Int)] w fun e w' => e = .returned (.int .i64 (j : Int)) ∧ w' = w := by
  obtain ⟨r, rfl, rfl, k⟩ := h.rf
  have := (rel_small hr ho).1
  exact at_some k (by have : r.L.length ≤ 4096 := this; omega) hr.nodup hj
theorem s_at_no (h : Side w0 p pr v a ra w) {a' : Abs} (hr : Rel a' ra) (ho : a'.Ok) {n : Int} (hn : a'.at n = none) : Calls Try.prog 11 #[arV pr, .int .i64 n] w fun e w' => e = .returned (.int .i64 (-1)) ∧ w' = w := by
  obtain ⟨r, rfl, rfl, k⟩ := h.rf
  have := (rel_small hr ho).1
  exact at_none k (by have : r.L.length ≤ 4096 := this; omega) (hr.at_none hn)
theorem s_ralloc (h : Side w0 p pr v a ra w) {a' : Abs} (hr : Rel a' ra) (ho : a'.Ok) (hl : 0 < a'.left) : Calls Try.prog 13 #[arV pr] w fun e w' => e = .returned (.tuple #[nv a'.next, .int .i64 0]) ∧ Side w0 p pr v a ra.alloc w' := by
  obtain ⟨r, rfl, rfl, h3⟩ := h
  obtain ⟨s, _, _, _, _, k, _⟩ := id h3
  obtain ⟨q1, q2, q3, q4⟩ := rel_small hr ho
  have hlt : r.L.length < r.q := by
    have e1 : r.L.length = a'.used := hr.len
    have e2 : r.q = a'.q := hr.q
    rw [e1, e2]
    unfold Abs.left at hl
    omega
  rw [← rel_next hr]
  exact (ralloc_ok k hlt q4 q3 q2).mono fun _ _ ⟨he, hg⟩ => ⟨he, Side.goes rfl h3 hg⟩
theorem s_rfull (h : Side w0 p pr v a ra w) {a' : Abs} (hr : Rel a' ra) (hl : a'.left = 0) : Calls Try.prog 13 #[arV pr] w fun e w' => e = .returned (.tuple #[.int .i64 0, .int .i64 9]) ∧ Side w0 p pr v a ra w' := by
  have h' := h
  obtain ⟨r, rfl, rfl, k⟩ := h.rf
  have hlt : r.q ≤ r.L.length := by
    have e1 : r.L.length = a'.used := hr.len
    have e2 : r.q = a'.q := hr.q
    rw [e1, e2]
    unfold Abs.left at hl
    omega
  exact (ralloc_full k hlt).mono fun _ _ ⟨he, hb⟩ => ⟨he, h'.below hb⟩
theorem s_rdrop (h : Side w0 p pr v a ra w) {a' : Abs} (hr : Rel a' ra) (ho : a'.Ok) {j m : Nat} {c : List UInt8} (hj : ra.L[j]? = some (m, c)) : Calls Try.prog 15 #[arV pr, .int .i64 (m : Int)] w fun e w' => e = .returned (.int .i64 0) ∧ Side w0 p pr v a (ra.drop j m) w' := by
  obtain ⟨r, rfl, rfl, h3⟩ := h
  obtain ⟨s, _, _, _, _, k, _⟩ := id h3
  obtain ⟨q1, q2, q3, q4⟩ := rel_small hr ho
  exact (rdrop_ok k q1 (by have : r.fr.length ≤ 4096 := q2; omega) hr.nodup hj).mono fun _ _ ⟨he, hg⟩ => ⟨he, Side.goes rfl h3 hg⟩
theorem s_rdrop_no (h : Side w0 p pr v a ra w) {a' : Abs} (hr : Rel a' ra) (ho : a'.Ok) {n : Int} (hn : a'.at n = none) : Calls Try.prog 15 #[arV pr, .int .i64 n] w fun e w' => e = .returned (.int .i64 2) ∧ Side w0 p pr v a ra w' := by
  have h' := h
  obtain ⟨r, rfl, rfl, k⟩ := h.rf
  obtain ⟨q1, _⟩ := rel_small hr ho
  exact (rdrop_no k (by have : r.L.length ≤ 4096 := q1; omega) (hr.at_none hn)).mono fun _ _ ⟨he, hb⟩ => ⟨he, by rw [hb]; exact h'⟩

/-- Another quota of the document's. -/
theorem Side.quota (h : Side w0 p pr v a ra w) (n : Nat) : Side w0 p pr v a { ra with q := n } (w.setCell ⟨pr, 3, none⟩ (.int .i64 (n : Int))) := by
  obtain ⟨r, rfl, rfl, h3⟩ := h
  obtain ⟨s, _, _, _, _, k, _⟩ := id h3
  obtain ⟨_, k1, k2⟩ := k.setn n
  exact ⟨{ r with q := n }, rfl, rfl, p_move h3 k1 k2⟩

/-- Another page of the document's. -/
theorem side_lay {j m : Nat} {c : List UInt8} (d : List UInt8) (hj : ra.L[j]? = some (m, c)) {g cap : Nat} {r : Rf} (hr : r.p = pr ∧ r.abs = ra ∧ HG (PΦ w0 r v) p a w) (hv : r.vl = .slice (some ⟨g, 0, none⟩) r.L.length cap) : Side w0 p pr v a (ra.lay j m d) (w.setCell ⟨g, j * 2 + 1, none⟩ (.string (pstr d))) := by
  obtain ⟨rfl, rfl, h3⟩ := hr
  obtain ⟨s, _, _, _, _, k, _⟩ := id h3
  have hk : r.vl.ownBlock = some g := by rw [hv]; rfl
  have hl := k.rl
  rw [hv] at hl
  refine ⟨{ r with L := r.L.set j (m, d) }, rfl, rfl, p_move h3 ⟨?_, ?_, ?_⟩ ⟨(Only.refl r.own w).setCell (Or.inr (Or.inr (Or.inl hk))) _, fun k hk => Or.inl hk⟩⟩
  · exact (heap_setCell_other _ _ _ _ fun e => (k.ne.1 g hk).1 e.symm).trans k.blk
  · have := (hl.stored (j * 2 + 1) (.string (pstr d))).1
    rw [lcs_set _ _ _ _ _ (show r.L[j]? = some (m, c) from hj)] at this
    show World.ownsRow _ 0 43 2 r.vl (r.L.set j (m, d)).length _
    rw [List.length_set, hv]
    exact this
  · exact owns_of_block k.rf fun i hi => heap_setCell_other _ _ _ _ fun e => (k.ne.1 g hk).2 (by rw [hi, show i = g from e])

theorem var_cells {b : Nat} {x0 x1 x2 x3 : Value} {t : TypeId} (h : w.heap[b]? = some (.cells #[x0, x1, x2, x3] t (0, 0))) : w.cell? ⟨b, 0, none⟩ = some x0 ∧ w.cell? ⟨b, 1, none⟩ = some x1 ∧ w.cell? ⟨b, 2, none⟩ = some x2 ∧ w.cell? ⟨b, 3, none⟩ = some x3 := by
  refine ⟨?_, ?_, ?_, ?_⟩ <;> rw [cell_of_row _ _ _ _ _ _ h] <;> rfl

/-- What the comparison behind each call asks of both. -/
theorem plays_facts {rr : Rf} (hr : Rel a rr.abs) (hp : rr.p = pr) : ∃ al cl,
    (a.Ok → ∀ w', HG (PΦ w0 rr v) p a w' → HG (PΦ w0 rr v) p a w' ∧ w'.cell? ⟨pr, 0, none⟩ = some (.slice al a.used cl) ∧ w'.cell? ⟨pr, 3, none⟩ = some (.int .i64 (a.q : Int))) ∧
    (∀ w', HG (PΦ w0 rr v) p a w' → Calls Try.prog 20 #[.pointer (some ⟨p, 0, none⟩)] w' fun e w'' => e = .returned (.int .i64 (a.used : Int)) ∧ HG (PΦ w0 rr v) p a w'' ∧ Below w'.heap.size w' w'') ∧
    (∀ w', HG (PΦ w0 rr v) p a w' → Calls Try.prog 21 #[.pointer (some ⟨p, 0, none⟩)] w' fun e w'' => e = .returned (.int .i64 (a.left : Int)) ∧ HG (PΦ w0 rr v) p a w'' ∧ Below w'.heap.size w' w'') ∧
    (∀ w', HG (PΦ w0 rr v) p a w' → Calls Try.prog 23 #[.pointer (some ⟨p, 0, none⟩)] w' fun e w'' => ∃ u, e = .returned u ∧ IS w'.heap.size w'' u a.pages ∧ HG (PΦ w0 rr v) p a w'' ∧ Below w'.heap.size w' w'') ∧
    (∀ w', HG (PΦ w0 rr v) p a w' → Calls Try.prog 24 #[.pointer (some ⟨pr, 0, none⟩)] w' fun e w'' => ∃ u, e = .returned u ∧ IS w'.heap.size w'' u a.pages ∧ HG (PΦ w0 rr v) p a w'' ∧ Below w'.heap.size w' w'') ∧
    (∀ w' u1 u2 b1 b2, HG (PΦ w0 rr v) p a w' → IS b1 w' u1 a.pages → IS b2 w' u2 a.pages → Calls Try.prog 22 #[u1, u2] w' fun e w'' => e = .returned (.bool true) ∧ HG (PΦ w0 rr v) p a w'' ∧ Below w'.heap.size w' w'') := by
  subst hp
  by_cases hex : ∃ w', HG (PΦ w0 rr v) p a w'
  · obtain ⟨w', hw'⟩ := hex
    have hrf : RfP rr w' := by obtain ⟨s, _, _, _, _, k, _⟩ := hw'; exact k
    obtain ⟨al, cl, el, _⟩ := owns_slice hrf.rl
    have e1 : rr.L.length = a.used := hr.len
    have e2 : rr.q = a.q := hr.q
    rw [e1] at el
    refine ⟨al, cl, fun _ w'' h => ?_, fun w'' h => g_used (p_stable w0 rr v) h, fun w'' h => g_left (p_stable w0 rr v) h, fun w'' h => g_pages (p_stable w0 rr v) h, fun w'' h => ?_, fun w'' u1 u2 b1 b2 h h1 h2 => ?_⟩
    · have k : RfP rr w'' := by obtain ⟨s, _, _, _, _, k, _⟩ := h; exact k
      obtain ⟨c0, _, _, c3, _⟩ := k.cell
      rw [el] at c0
      rw [e2] at c3
      exact ⟨h, c0, c3⟩
    · have k : RfP rr w'' := by obtain ⟨s, _, _, _, _, k, _⟩ := h; exact k
      exact (rpages_walk k hr h.ok).mono fun _ _ ⟨u, he, hi, hb⟩ => ⟨u, he, hi, h.below (p_stable w0 rr v) hb, hb⟩
    · have hl : a.pages.length ≤ 1000000 := by
        have h1 := upto_length a.pg a.pg.length
        have h2 := h.ok.small
        unfold Abs.pages
        omega
      exact (same_walk h1 h2 hl).mono fun _ _ ⟨he, hb⟩ => ⟨he, h.below (p_stable w0 rr v) hb, hb⟩
  · have no : ∀ w', ¬ HG (PΦ w0 rr v) p a w' := fun w' h => hex ⟨w', h⟩
    exact ⟨none, 0, fun _ w' h => absurd h (no w'), fun w' h => absurd h (no w'), fun w' h => absurd h (no w'), fun w' h => absurd h (no w'), fun w' h => absurd h (no w'), fun w' _ _ _ _ h => absurd h (no w')⟩

/-- What At tells. -/
def AtP (a : Abs) (ra : RAbs) (N z : Int) : Prop := (a.at N = none ∧ z = -1) ∨ ∃ (m jj : Nat) (c : List UInt8), N = (m : Int) ∧ ra.L[jj]? = some (m, c) ∧ a.at N = some c ∧ z = (jj : Int)

theorem s_at_any (h : Side w0 p pr v a ra w) (hr : Rel a ra) (N : Int) : Calls Try.prog 11 #[.pointer (some ⟨pr, 0, none⟩), .int .i64 N] w fun e w' => ∃ z, e = .returned (.int .i64 z) ∧ w' = w ∧ AtP a ra N z := by
  cases ha : a.at N with
  | none => exact (s_at_no h hr h.ok ha).mono fun _ _ ⟨he, hw⟩ => ⟨-1, he, hw, Or.inl ⟨ha, rfl⟩⟩
  | some c =>
    obtain ⟨m, jj, e, hj⟩ := hr.at_some ha
    subst e
    exact (s_at h hr h.ok hj).mono fun _ _ ⟨he, hw⟩ => ⟨jj, he, hw, Or.inr ⟨m, jj, c, rfl, hj, ha, rfl⟩⟩

/-- Both go on alike. -/
def CutP (w0 : World) (p pr : Nat) (v : Option (Nat × Obj)) (w : World) : Prop := ∃ a ra, Side w0 p pr v a ra w ∧ Rel a ra

theorem side_cells {bo : Nat} {x0 x1 x2 x3 : Value} {t : TypeId} (hv : v = some (bo, .cells #[x0, x1, x2, x3] t (0, 0))) (h : Side w0 p pr v a ra w) : w.cell? ⟨bo, 0, none⟩ = some x0 ∧ w.cell? ⟨bo, 1, none⟩ = some x1 ∧ w.cell? ⟨bo, 2, none⟩ = some x2 ∧ w.cell? ⟨bo, 3, none⟩ = some x3 := by
  subst hv
  exact var_cells h.at

theorem s_bytes (c : UInt8) (l : Nat) (hl : l ≤ 3000) (h : Side w0 p pr v a ra w) : Calls Try.prog 17 #[.int .u8 (c.toNat : Int), .int .i64 (l : Int)] w fun e w' => ∃ b u, e = .returned u ∧ BS w' b u (List.replicate l c) ∧ Side w0 p pr v a ra w' :=
  (bytes_walk c l hl w).mono fun _ _ ⟨u, he, hu, hb⟩ => ⟨_, u, he, hu, h.below hb⟩

/-- Bytes that become the document's page. -/
theorem hg_bytes (c : UInt8) {r : Rf} (h : HG (PΦ w0 r v) p a w) : Calls Try.prog 17 #[.int .u8 (c.toNat : Int), .int .i64 1024] w fun e w' => ∃ bn, e = .returned (.slice (some ⟨bn, 0, none⟩) 1024 1024) ∧ (convert 40 9 (.slice (some ⟨bn, 0, none⟩) 1024 1024)).run Try.prog w' = .ok (.string (pstr (List.replicate 1024 c))) w' ∧ HG (PΦ w0 r v) p a w' := by
  refine (bytes_blk c 1024 (by decide) w).mono ?_
  rintro e w' ⟨rfl, hk, hb⟩
  refine ⟨_, rfl, ?_, h.below (p_stable w0 r v) hb⟩
  have := conv_bs hk 1024
  rw [List.length_replicate] at this
  exact this

/-- What the store of a document's page meets, and leaves. -/
theorem lay_facts {r : Rf} {j m bo : Nat} {c : List UInt8} {d : List UInt8} {x0 x1 x2 x3 : Value} {t : TypeId} (hv : v = some (bo, .cells #[x0, x1, x2, x3] t (0, 0))) (hj : r.L[j]? = some (m, c)) (hex : HG (PΦ w0 r v) p a w) : ∃ g cap,
    j < r.L.length ∧ r.L.length ≤ cap ∧
    (∀ w' L', HG (PΦ w0 { r with L := L' } v) p a w' → w'.cell? ⟨r.p, 0, none⟩ = some (.slice (some ⟨g, 0, none⟩) r.L.length cap) ∧ w'.cell? ⟨bo, 3, none⟩ = some x3) ∧
    (∀ w', HG (PΦ w0 r v) p a w' → HG (PΦ w0 { r with L := r.L.set j (m, d) } v) p a (w'.setCell ⟨g, j * 2 + 1, none⟩ (.string (pstr d)))) ∧
    ∀ w', HG (PΦ w0 r v) p a w' → (∃ u, w'.cell? ⟨g, j * 2 + 1, none⟩ = some u) ∧ w'.frozen? ⟨g, j * 2 + 1, none⟩ = false := by
  have k : RfP r w := by obtain ⟨s, _, _, _, _, k, _⟩ := hex; exact k
  obtain ⟨g, cap, e, hg, hjl, hc, _⟩ := k.page hj
  refine ⟨g, cap, hjl, hc, fun w' L' h => ?_, fun w' h => ?_, fun w' h => ?_⟩
  · have k' : RfP { r with L := L' } w' := by obtain ⟨s, _, _, _, _, k, _⟩ := h; exact k
    have c0 := k'.cell.1
    refine ⟨?_, ?_⟩
    · rw [← e]; exact c0
    · subst hv
      obtain ⟨s, _, _, _, _, _, _, _, _, kk⟩ := h
      exact (var_cells (kk _ _ rfl).1).2.2.2
  · have k' : RfP r w' := by obtain ⟨s, _, _, _, _, k, _⟩ := h; exact k
    have hk : r.vl.ownBlock = some g := by rw [e]; rfl
    have hl := k'.rl
    rw [e] at hl
    refine p_move h ⟨?_, ?_, ?_⟩ ⟨(Only.refl r.own w').setCell (Or.inr (Or.inr (Or.inl hk))) _, fun k hk => Or.inl hk⟩
    · exact (heap_setCell_other _ _ _ _ fun e => (k'.ne.1 g hk).1 e.symm).trans k'.blk
    · have := (hl.stored (j * 2 + 1) (.string (pstr d))).1
      rw [lcs_set _ _ _ _ _ hj] at this
      show World.ownsRow _ 0 43 2 r.vl (r.L.set j (m, d)).length _
      rw [List.length_set, e]
      exact this
    · exact owns_of_block k'.rf fun i hi => heap_setCell_other _ _ _ _ fun e => (k'.ne.1 g hk).2 (by rw [hi, show i = g from e])
  · have k' : RfP r w' := by obtain ⟨s, _, _, _, _, k, _⟩ := h; exact k
    obtain ⟨g', cap', e', _, _, _, _, x, y⟩ := k'.page hj
    rw [e] at e'
    cases e'
    exact ⟨⟨_, x⟩, y⟩

/-- Both, new. -/
theorem side_start {w1 w2 w3 : World} {p q : Nat} {r : Rf} (h : Has w1 p ⟨[], [], q⟩ w2) (h1 : RfP r w3) (h2 : r.abs = ⟨[], [], 1, q⟩) (hb : Below w2.heap.size w2 w3) (hn : ∀ k, r.own k → w2.heap.size ≤ k) : Side w1 p r.p none ⟨[], [], q⟩ ⟨[], [], 1, q⟩ w3 := by
  obtain ⟨s, g1, g2, g3, g4, g5, g6⟩ := h
  refine ⟨r, rfl, h2, s, g1, arSt.below g2 hb, g3, g4, h1, fun k x y => ?_, ⟨below_on g5 hb, g6⟩, fun k x => Nat.le_trans g5.size (hn k x), fun b o e => by cases e⟩
  have := hn k x
  have := arSt.lt s w2 k g2 y
  omega

/-- One call of a script. -/
structure OpV where
  K : Int
  N : Int
  L : Int
  B : UInt8

/-- A script that came in. -/
def OpS (W : World) (a : Option Addr) (n : Nat) (f : Nat → OpV) : Prop := ∀ j, j < n → ∃ b o, a = some ⟨b, o, none⟩ ∧ b < W.heap.size ∧ W.cell? ⟨b, o + j * 4, none⟩ = some (.int .i64 (f j).K) ∧ W.cell? ⟨b, o + j * 4 + 1, none⟩ = some (.int .i64 (f j).N) ∧ W.cell? ⟨b, o + j * 4 + 2, none⟩ = some (.int .i64 (f j).L) ∧ W.cell? ⟨b, o + j * 4 + 3, none⟩ = some (.int .u8 ((f j).B.toNat : Int))

theorem OpS.below {W W' : World} {a : Option Addr} {n : Nat} {f : Nat → OpV} (h : OpS W a n f) (hb : Below W.heap.size W W') : OpS W' a n f := fun j hj => by
  obtain ⟨b, o, h1, h2, h3, h4, h5, h6⟩ := h j hj
  refine ⟨b, o, h1, Nat.lt_of_lt_of_le h2 hb.size, ?_, ?_, ?_, ?_⟩ <;> rw [hb.cell h2] <;> assumption
end Go.Proofs.Ytcoehlnmaehhjaa
