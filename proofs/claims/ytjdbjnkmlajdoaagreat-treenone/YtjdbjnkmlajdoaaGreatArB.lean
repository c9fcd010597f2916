/-
  The program's arena: New, mayBe, find, Used, Left, Limit.
-/
import Derived.BigQuiet
import Derived.Test.YtjdbjnkmlajdoaaGreatQuietB4
namespace Go.Proofs.YtjdbjnkmlajdoaaGreat.L4
open Go.RowKit

def arV (p : Nat) : Value := .pointer (some ⟨p, 0, none⟩)

def mayB (q : Int) : Bool := decide (0 ≤ q) && decide (q ≤ 4096)

set_option maxRecDepth 100000 in
theorem mayBe_walk (q : Int) (w : World) : Calls Tryz.prog 42 #[.int .i64 q] w fun e w' => e = .returned (.bool (mayB q)) ∧ w' = w := by
  go_enter Tryz.func42, Tryz.ntmps42
  unfold mayB
  by_cases h : 0 ≤ q <;> by_cases h' : q ≤ 4096
  all_goals
    go_wp2
    go_ret
    refine ⟨?_, rfl⟩
    simp [*]
    try omega


theorem abs_new (q : Nat) (hq : q ≤ 4096) : (Abs.mk [] [] q).Ok := ⟨by simp, List.nodup_nil, rfl, by simp, by simp, hq⟩

/-- A new arena: all that it owns is new. -/
def Fresh (q : Nat) (w : World) (s : Ar) (w' : World) : Prop := ArP s w' ∧ s.abs = ⟨[], [], q⟩ ∧ Below w.heap.size w w' ∧ ∀ k, s.own k → w.heap.size ≤ k

set_option maxRecDepth 100000 in
theorem new_ok (q : Nat) (hq : q ≤ 4096) (w : World) : Calls Tryz.prog 12 #[.int .i64 q] w fun e w' => ∃ s, e = .returned (.tuple #[arV s.p, .int .i64 0]) ∧ Fresh q w s w' := by
  go_enter Tryz.func12, Tryz.ntmps12
  have hm : mayB q = true := by unfold mayB; simp; omega
  go_wp2_with (go_at_call 42; refine (mayBe_walk _ _).mono ?_; rintro e w' ⟨rfl, rfl⟩; rw [hm])
  go_ret2
  refine ⟨⟨_, .slice none 0 0, .slice none 0 0, [], [], q⟩, rfl, ?_, rfl, below_alloc _ _, ?_⟩
  · refine ⟨heap_alloc_new _ _, World.ownsRow_nil _ _ _ _, World.ownsRow_nil _ _ _ _, by simp⟩
  · rintro k (rfl | h | h)
    · exact Nat.le_refl _
    · simp [Value.ownBlock] at h
    · simp [Value.ownBlock] at h

set_option maxRecDepth 100000 in
theorem new_no (q : Int) (hm : mayB q = false) (w : World) : Calls Tryz.prog 12 #[.int .i64 q] w fun e w' => e = .returned (.tuple #[.pointer none, .int .i64 15]) ∧ w' = w := by
  go_enter Tryz.func12, Tryz.ntmps12
  go_wp2_with (go_at_call 42; refine (mayBe_walk _ _).mono ?_; rintro e w' ⟨rfl, rfl⟩; rw [hm])
  go_ret2
  exact ⟨rfl, rfl⟩

/-- What the pages' row has. -/
theorem ArP.page {s : Ar} {W : World} (h : ArP s W) {m : Nat} {x : Option (Nat × List UInt8)} (hx : s.pg[m]? = some x) : ∃ g cap, s.vp = .slice (some ⟨g, 0, none⟩) s.pg.length cap ∧ g < W.heap.size ∧ m < s.pg.length ∧ s.pg.length ≤ cap ∧ W.cell? ⟨g, m, none⟩ = some (pgv x) ∧ W.frozen? ⟨g, m, none⟩ = false := by
  have hm := (List.getElem?_eq_some_iff.1 hx).1
  have hr := h.rp
  obtain ⟨g, cap, hv, _, hg⟩ := hr.form (by omega)
  obtain ⟨_, cap', hv', _, hc⟩ := owns_slice hr
  rw [hv] at hr
  rw [hv] at hv'
  cases hv'
  refine ⟨g, cap, hv, hg, hm, hc, ?_, hr.frozenAt m⟩
  rw [hr.cellAt m (by omega), List.getElem?_map, hx]; rfl

set_option maxRecDepth 100000 in
theorem find_nil (n : Int) (w : World) : Calls Tryz.prog 80 #[.pointer none, .int .i64 n] w fun e w' => e = .returned (.int .i64 15) ∧ w' = w := by
  go_enter Tryz.func80, Tryz.ntmps80
  go_wp2
  go_ret
  exact ⟨rfl, rfl⟩

set_option maxRecDepth 100000 in
theorem find_has {s : Ar} {w : World} (h : ArP s w) (hl : s.pg.length ≤ 4096) {m : Nat} {b : Nat} {c : List UInt8} (hx : s.pg[m]? = some (some (b, c))) : Calls Tryz.prog 80 #[arV s.p, .int .i64 ((m : Int) + 1)] w fun e w' => e = .returned (.int .i64 0) ∧ w' = w := by
  obtain ⟨g, cap, hv, hg, hm, hc, hcell, hfz⟩ := h.page hx
  obtain ⟨c0, c1, c2, hp, hf⟩ := h.cell
  rw [hv] at c0
  have hcell' : w.cell? ⟨g, m, none⟩ = some (.pointer (some ⟨b, 0, none⟩)) := hcell
  clear hv hcell h hx
  generalize s.pg.length = len at *
  generalize s.p = p at *
  unfold arV
  have hw : wrap64 (m : Int) = m := by unfold wrap64; omega
  go_enter Tryz.func80, Tryz.ntmps80
  go_wp2
  go_ret
  exact ⟨rfl, rfl⟩

set_option maxRecDepth 100000 in
theorem find_none {s : Ar} {w : World} (h : ArP s w) (hl : s.pg.length ≤ 4096) {m : Nat} (hx : s.pg[m]? = some none) : Calls Tryz.prog 80 #[arV s.p, .int .i64 ((m : Int) + 1)] w fun e w' => e = .returned (.int .i64 2) ∧ w' = w := by
  obtain ⟨g, cap, hv, hg, hm, hc, hcell, hfz⟩ := h.page hx
  obtain ⟨c0, c1, c2, hp, hf⟩ := h.cell
  rw [hv] at c0
  have hcell' : w.cell? ⟨g, m, none⟩ = some (.pointer none) := hcell
  clear hv hcell h hx
  generalize s.pg.length = len at *
  generalize s.p = p at *
  unfold arV
  have hw : wrap64 (m : Int) = m := by unfold wrap64; omega
  go_enter Tryz.func80, Tryz.ntmps80
  go_wp2
  go_ret
  exact ⟨rfl, rfl⟩

set_option maxRecDepth 100000 in
theorem find_out {s : Ar} {w : World} (h : ArP s w) (n : Int) (hn : n < 1 ∨ (s.pg.length : Int) < n) : Calls Tryz.prog 80 #[arV s.p, .int .i64 n] w fun e w' => e = .returned (.int .i64 2) ∧ w' = w := by
  obtain ⟨c0, c1, c2, hp, hf⟩ := h.cell
  obtain ⟨ad, cap, hv, _⟩ := owns_slice h.rp
  rw [hv] at c0
  clear hv h
  generalize s.pg.length = len at *
  generalize s.p = p at *
  unfold arV
  by_cases h1 : n < 1
  · go_enter Tryz.func80, Tryz.ntmps80
    go_wp2
    go_ret
    exact ⟨rfl, rfl⟩
  · have h2 : (len : Int) < n := by omega
    go_enter Tryz.func80, Tryz.ntmps80
    go_wp2
    go_ret
    exact ⟨rfl, rfl⟩

/-- What find tells. -/
theorem find_walk {s : Ar} {w : World} (h : ArP s w) (hl : s.pg.length ≤ 4096) (n : Int) : Calls Tryz.prog 80 #[arV s.p, .int .i64 n] w fun e w' => e = .returned (.int .i64 (if (s.abs.at n).isSome then 0 else 2)) ∧ w' = w := by
  by_cases h1 : n < 1 ∨ (s.pg.length : Int) < n
  · have : s.abs.at n = none := by
      unfold Abs.at Ar.abs
      split
      · rw [List.getElem?_eq_none (by simp; omega)]; rfl
      · rfl
    rw [this]
    exact find_out h n h1
  · obtain ⟨m, rfl⟩ : ∃ m : Nat, n = (m : Int) + 1 := ⟨(n - 1).toNat, by omega⟩
    have hm : m < s.pg.length := by omega
    have ha : s.abs.at ((m : Int) + 1) = (s.pg[m].map Prod.snd) := by
      unfold Abs.at Ar.abs
      rw [if_pos (by omega), show ((m : Int) + 1).toNat - 1 = m by omega]
      simp [List.getElem?_eq_getElem hm]
    rw [ha]
    have hx : s.pg[m]? = some s.pg[m] := List.getElem?_eq_getElem hm
    rcases hy : s.pg[m] with _ | ⟨b, c⟩
    · rw [hy] at hx; exact find_none h hl hx
    · rw [hy] at hx; exact find_has h hl hx

theorem owns_ints {s : Ar} {W : World} (h : ArP s W) : (∃ ap cp, s.vp = .slice ap s.pg.length cp) ∧ ∃ af cf, s.vf = .slice af s.fr.length cf := by
  obtain ⟨a, c, e, _⟩ := owns_slice h.rp
  obtain ⟨a', c', e', _⟩ := owns_slice h.rf
  exact ⟨⟨a, c, e⟩, a', c', e'⟩

theorem used_nil (w : World) : Calls Tryz.prog 22 #[.pointer none] w fun e w' => e = .returned (.int .i64 0) ∧ w' = w := by
  go_enter Tryz.func22, Tryz.ntmps22
  go_wp2
  go_ret
  exact ⟨rfl, rfl⟩

set_option maxRecDepth 100000 in
theorem used_walk {s : Ar} {w : World} (h : ArP s w) (ho : s.abs.Ok) : Calls Tryz.prog 22 #[arV s.p] w fun e w' => e = .returned (nv s.abs.used) ∧ Below w.heap.size w w' := by
  have h1 := ho.le
  have h2 := ho.small
  obtain ⟨c0, c1, c2, hp, hf⟩ := h.cell
  obtain ⟨⟨ap, cp, e1⟩, af, cf, e2⟩ := owns_ints h
  have hu : nv s.abs.used = .int .i64 ((s.pg.length : Int) - s.fr.length) := by
    unfold Abs.used nv
    simp [Ar.abs] at h1 h2 ⊢
    omega
  rw [hu]
  have h1' : s.fr.length ≤ s.pg.length := by simpa [Ar.abs] using h1
  have h2' : s.pg.length ≤ 4096 := by simpa [Ar.abs] using h2
  rw [e1] at c0
  rw [e2] at c1
  clear hu e1 e2 h h1 h2 ho
  generalize s.pg.length = l1 at *
  generalize s.fr.length = l2 at *
  generalize s.p = p at *
  unfold arV
  have hw : IntKind.i64.wrap ((l1 : Int) - l2) = (l1 : Int) - l2 := wrap_small _ (by omega) (by omega)
  go_enter Tryz.func22, Tryz.ntmps22
  go_wp2
  go_quiet (fail)
  go_wp2
  go_ret
  exact ⟨rfl, below_drewN (Below.refl _ _) _⟩

theorem left_nil (w : World) : Calls Tryz.prog 47 #[.pointer none] w fun e w' => e = .returned (.int .i64 0) ∧ w' = w := by
  go_enter Tryz.func47, Tryz.ntmps47
  go_wp2
  go_ret
  exact ⟨rfl, rfl⟩

set_option maxRecDepth 100000 in
theorem left_walk {s : Ar} {w : World} (h : ArP s w) (ho : s.abs.Ok) : Calls Tryz.prog 47 #[arV s.p] w fun e w' => e = .returned (nv s.abs.left) ∧ Below w.heap.size w w' := by
  have h1 := ho.le
  have h2 := ho.small
  have h3 := ho.quota
  have hq : s.abs.q = s.q := rfl
  have HU : ∀ q : BelowW w, Calls Tryz.prog 22 #[arV s.p] q.w fun e w' => e = .returned (nv s.abs.used) ∧ Below q.w.heap.size q.w w' := fun q => used_walk (arSt.below h q.below) ho
  have c2 : ∀ q : BelowW w, q.w.cell? ⟨s.p, 2, none⟩ = some (nv s.q) := fun q => (arSt.below (s := s) h q.below : ArP s q.w).cell.2.2.1
  have hu : s.abs.used ≤ 4096 := by unfold Abs.used; omega
  have hleft : nv s.abs.left = .int .i64 (if (s.q : Int) - (s.abs.used : Int) < 0 then 0 else (s.q : Int) - (s.abs.used : Int)) := by
    unfold Abs.left nv
    congr 1
    rw [hq]
    split <;> omega
  rw [hleft]
  rw [hq] at h3
  clear hleft hq h1 h2 h ho
  generalize s.abs.used = u at *
  generalize s.p = p at *
  generalize s.q = q0 at *
  unfold arV nv at *
  have hw : IntKind.i64.wrap ((q0 : Int) - u) = (q0 : Int) - u := by rw [IntKind.wrap_i64]; omega
  go_enter Tryz.func47, Tryz.ntmps47
  go_wp2
  refine wp_region_below (by kernel_rfl) (by kernel_rfl) (fun _ => ?_)
  repeat (go_big_quiet_step (first | (go_at_call 22; exact quiet_of_below (HU _))))
  refine wpQuiet_nil ?_
  rintro _ ⟨q, rfl⟩
  have HB : Hid _ := q.below
  clear HU c2
  go_wp2
  all_goals
    go_ret
    exact ⟨rfl, HB.out⟩

theorem limit_nil (n : Int) (w : World) : Calls Tryz.prog 31 #[.pointer none, .int .i64 n] w fun e w' => e = .returned (.int .i64 15) ∧ w' = w := by
  go_enter Tryz.func31, Tryz.ntmps31
  go_wp2
  go_ret
  exact ⟨rfl, rfl⟩

theorem limit_no {p : Nat} {n : Int} (hm : mayB n = false) (w : World) : Calls Tryz.prog 31 #[arV p, .int .i64 n] w fun e w' => e = .returned (.int .i64 15) ∧ w' = w := by
  unfold arV
  go_enter Tryz.func31, Tryz.ntmps31
  go_wp2_with (go_at_call 42; refine (mayBe_walk _ _).mono ?_; rintro e w' ⟨rfl, rfl⟩; rw [hm])
  go_ret
  exact ⟨rfl, rfl⟩

theorem limit_ok {s : Ar} {w : World} (h : ArP s w) (n : Nat) (hn : n ≤ 4096) : Calls Tryz.prog 31 #[arV s.p, .int .i64 n] w fun e w' => e = .returned (.int .i64 0) ∧ Goes s w { s.abs with q := n } w' := by
  have hm : mayB n = true := by unfold mayB; simp; omega
  have HG : Hid _ := h.setq n
  obtain ⟨c0, c1, c2, hp, hf⟩ := h.cell
  clear h
  unfold arV
  go_enter Tryz.func31, Tryz.ntmps31
  go_wp2_with (go_at_call 42; refine (mayBe_walk _ _).mono ?_; rintro e w' ⟨rfl, rfl⟩; rw [hm])
  go_ret
  exact ⟨rfl, _, HG.out.1, rfl, rfl, HG.out.2⟩
end Go.Proofs.YtjdbjnkmlajdoaaGreat.L4
