/-
  awake and great of the law.
-/
import Derived.Test.YtimfpabodmbkoaaScD
namespace Go.Proofs.Ytimfpabodmbkoaa
open Go.RowKit

theorem cell_in {W : World} {g i : Nat} {cs : Array Value} {t : TypeId} (h : W.heap[g]? = some (.cells cs t (0, 0))) : W.cell? ⟨g, i, none⟩ = cs[i]? := cell_of_row _ _ _ _ _ _ h

theorem slC_two {W : World} {g : Nat} {c d : Col} {t : TypeId} (h : W.heap[g]? = some (.cells #[.string c.s, .int .i64 c.t, .bool c.nn, .bool c.uq, .string d.s, .int .i64 d.t, .bool d.nn, .bool d.uq] t (0, 0))) : SlC W (some ⟨g, 0, none⟩) [c, d] := by
  refine Or.inr ⟨g, 0, rfl, (Array.getElem?_eq_some_iff.1 h).1, fun j x hj => ?_⟩
  have hlt : j < 2 := (List.getElem?_eq_some_iff.1 hj).1
  have : j = 0 ∨ j = 1 := by omega
  simp only [cell_in h]
  rcases this with rfl | rfl
  · obtain rfl : c = x := by simpa using hj
    exact ⟨rfl, rfl, rfl, rfl⟩
  · obtain rfl : d = x := by simpa using hj
    exact ⟨rfl, rfl, rfl, rfl⟩

theorem slV_two {W : World} {g : Nat} {c d : Va} {t : TypeId} (h : W.heap[g]? = some (.cells #[.int .i64 c.k, .int .i64 c.n, .string c.s, .int .i64 d.k, .int .i64 d.n, .string d.s] t (0, 0))) : SlV W (some ⟨g, 0, none⟩) [c, d] := by
  refine Or.inr ⟨g, 0, rfl, (Array.getElem?_eq_some_iff.1 h).1, fun j x hj => ?_⟩
  have hlt : j < 2 := (List.getElem?_eq_some_iff.1 hj).1
  have : j = 0 ∨ j = 1 := by omega
  simp only [cell_in h]
  rcases this with rfl | rfl
  · obtain rfl : c = x := by simpa using hj
    exact ⟨rfl, rfl, rfl⟩
  · obtain rfl : d = x := by simpa using hj
    exact ⟨rfl, rfl, rfl⟩

/-- What stands behind the example's two variables. -/
structure Ex (w W : World) : Prop where
  below : Below w.heap.size w W
  cols : W.heap[w.heap.size]? = some (.cells #[.string ⟨#[97]⟩, .int .i64 2, .bool true, .bool false, .string ⟨#[98]⟩, .int .i64 3, .bool false, .bool false] 35 (0, 0))
  one : W.heap[w.heap.size + 1]? = some (.cells #[.int .i64 2, .int .i64 1, .string ⟨#[]⟩] 37 (0, 0))

theorem Ex.on {w W W' : World} (h : Ex w W) (hb : Below W.heap.size W W') : Ex w W' := by
  have h0 := (Array.getElem?_eq_some_iff.1 h.one).1
  exact ⟨h.below.trans (hb.mono h.below.size), by rw [hb.block _ (by omega)]; exact h.cols, by rw [hb.block _ h0]; exact h.one⟩

theorem Ex.on2 {w W W' : World} (h : Ex w W) (o : Obj) (hb : Below (W.alloc o).heap.size (W.alloc o) W') : Ex w W' := h.on (((below_alloc W o)).trans (hb.mono (by simp)))

theorem top_block (W : World) (cs : Array Value) (t : TypeId) : (W.alloc (.cells cs t)).heap[W.heap.size]? = some (.cells cs t (0, 0)) := heap_alloc_new _ _

def exC : List Col := [⟨⟨#[97]⟩, 2, true, false⟩, ⟨⟨#[98]⟩, 3, false, false⟩]

set_option maxRecDepth 100000 in
set_option maxHeartbeats 400000 in
theorem awake_walk (w : World) : Calls Try.prog 6 #[] w fun e w' => e = .returned (.bool true) ∧ Below w.heap.size w w' := by
  have HX := hid (Ex.mk (w := w) (W := (w.alloc (.cells #[.string ⟨#[97]⟩, .int .i64 2, .bool true, .bool false, .string ⟨#[98]⟩, .int .i64 3, .bool false, .bool false] 35)).alloc (.cells #[.int .i64 2, .int .i64 1, .string ⟨#[]⟩] 37)) ((below_alloc _ _).alloc (by simp) _) (heap_alloc2_old _ _ _) (heap_alloc2_new _ _ _))
  have HZ : ((w.alloc (.cells #[.string ⟨#[97]⟩, .int .i64 2, .bool true, .bool false, .string ⟨#[98]⟩, .int .i64 3, .bool false, .bool false] 35)).alloc (.cells #[.int .i64 2, .int .i64 1, .string ⟨#[]⟩] 37)).heap.size = w.heap.size + 1 + 1 := by simp
  go_enter Try.func6, Try.ntmps6
  go_wp2_with fail
  generalize (w.alloc (.cells #[.string ⟨#[97]⟩, .int .i64 2, .bool true, .bool false, .string ⟨#[98]⟩, .int .i64 3, .bool false, .bool false] 35)).alloc (.cells #[.int .i64 2, .int .i64 1, .string ⟨#[]⟩] 37) = W at *
  rw [← HZ]
  have HX1 := HX.out.on (below_alloc W (.cells #[.int .i64 2, .int .i64 1, .string ⟨#[]⟩, .int .i64 0, .int .i64 0, .string ⟨#[]⟩] 37))
  have C1 := fit_walk exC [⟨2, 1, ⟨#[]⟩⟩, ⟨0, 0, ⟨#[]⟩⟩] (c := 2) (c' := 2) (slC_two HX1.cols) (slV_two (top_block _ _ _)) (by decide)
  rw [show fitT exC [⟨2, 1, ⟨#[]⟩⟩, ⟨0, 0, ⟨#[]⟩⟩] = 0 by decide] at C1
  refine C1.mono ?_
  rintro e w1 ⟨rfl, B1⟩
  have HX2 := hid (HX1.on B1)
  clear HX HX1 C1 B1 HZ
  go_wp2_with fail
  have HX1 := HX2.out.on (below_alloc w1 (.cells #[.int .i64 0, .int .i64 0, .string ⟨#[]⟩, .int .i64 0, .int .i64 0, .string ⟨#[]⟩] 37))
  have C1 := fit_walk exC [⟨0, 0, ⟨#[]⟩⟩, ⟨0, 0, ⟨#[]⟩⟩] (c := 2) (c' := 2) (slC_two HX1.cols) (slV_two (top_block _ _ _)) (by decide)
  rw [show fitT exC [⟨0, 0, ⟨#[]⟩⟩, ⟨0, 0, ⟨#[]⟩⟩] = 5 by decide] at C1
  refine C1.mono ?_
  rintro e w2 ⟨rfl, B1⟩
  have HX3 := hid (HX1.on B1)
  clear HX1 HX2 C1 B1
  have hlt := (Array.getElem?_eq_some_iff.1 HX3.out.one).1
  have o0 : w2.cell? ⟨w.heap.size + 1, 0, none⟩ = some (.int .i64 2) := by rw [cell_in HX3.out.one]; rfl
  have o1 : w2.cell? ⟨w.heap.size + 1, 1, none⟩ = some (.int .i64 1) := by rw [cell_in HX3.out.one]; rfl
  have o2 : w2.cell? ⟨w.heap.size + 1, 2, none⟩ = some (.string ⟨#[]⟩) := by rw [cell_in HX3.out.one]; rfl
  go_wp2_with fail
  have HX1 := HX3.out.on (below_alloc w2 (.cells #[.int .i64 2, .int .i64 1, .string ⟨#[]⟩, .int .i64 2, .int .i64 1, .string ⟨#[]⟩] 37))
  have C1 := fit_walk exC [⟨2, 1, ⟨#[]⟩⟩, ⟨2, 1, ⟨#[]⟩⟩] (c := 2) (c' := 2) (slC_two HX1.cols) (slV_two (top_block _ _ _)) (by decide)
  rw [show fitT exC [⟨2, 1, ⟨#[]⟩⟩, ⟨2, 1, ⟨#[]⟩⟩] = 4 by decide] at C1
  refine C1.mono ?_
  rintro e w3 ⟨rfl, B1⟩
  have HB := hid (HX1.on B1).below
  clear HX1 HX3 C1 B1 o0 o1 o2 hlt
  go_wp2_with fail
  have C2 := name_walk ⟨#[97, 95, 49]⟩ w3 (by decide)
  rw [show nameB ⟨#[97, 95, 49]⟩ = true by decide] at C2
  refine C2.mono ?_
  rintro e w4 ⟨rfl, rfl⟩
  go_wp2
  go_ret
  exact ⟨rfl, HB.out⟩

def greatB (l : List Col) (r : List Va) : Bool := decide (50 < l.length) || decide (50 < r.length) || l.any (fun c => decide (1000 < c.s.size)) || r.any (fun v => decide (1000 < v.s.size))

theorem any_snoc_false {α : Type} {l : List α} {p : α → Bool} {k : Nat} (hk : k < l.length) (h : (l.take k).any p = false) (hp : p l[k] = false) : (l.take (k + 1)).any p = false := by
  rw [List.take_succ_eq_append_getElem hk, List.any_append, h]; simp [hp]

theorem any_at {α : Type} {l : List α} {p : α → Bool} {k : Nat} (hk : k < l.length) (hp : p l[k] = true) : l.any p = true := List.any_eq_true.2 ⟨_, List.getElem_mem hk, hp⟩

theorem any_all {α : Type} {l : List α} {p : α → Bool} {k : Nat} (hk : l.length ≤ k) (h : (l.take k).any p = false) : l.any p = false := by
  rwa [List.take_of_length_le hk] at h

set_option maxRecDepth 100000 in
set_option maxHeartbeats 400000 in
theorem great_walk (l : List Col) (r : List Va) {a a' : Option Addr} {c c' : Nat} {w : World} (hl : SlC w a l) (hr : SlV w a' r) (h1 : l.length ≤ maxLen) (h2 : r.length ≤ maxLen) :
    Calls Try.prog 9 #[.slice a l.length c, .slice a' r.length c'] w fun e w' => e = .returned (.bool (greatB l r)) ∧ Below w.heap.size w w' := by
  unfold maxLen at h1 h2
  have HL := hid hl
  have HV := hid hr
  clear hl hr
  by_cases k1 : 50 < l.length
  · have hg := hid (show greatB l r = true by simp [greatB, k1])
    have k1' : (50 : Int) < (l.length : Int) := by omega
    go_enter Try.func9, Try.ntmps9
    go_wp2
    go_ret
    exact ⟨ret_bool hg.out.symm, Below.refl _ _⟩
  by_cases k2 : 50 < r.length
  · have hg := hid (show greatB l r = true by simp [greatB, k2])
    have k2' : (50 : Int) < (r.length : Int) := by omega
    have k1' : (l.length : Int) ≤ 50 := by omega
    go_enter Try.func9, Try.ntmps9
    go_wp2
    go_ret
    exact ⟨ret_bool hg.out.symm, Below.refl _ _⟩
  have hg := hid (show greatB l r = (l.any (fun c => decide (1000 < c.s.size)) || r.any (fun v => decide (1000 < v.s.size))) by simp [greatB, k1, k2])
  have k1' : (l.length : Int) ≤ 50 := by omega
  have k2' : (r.length : Int) ≤ 50 := by omega
  go_enter Try.func9, Try.ntmps9
  go_wp2
  go_loopw [19] (fun i wx => ∃ k : Nat, k ≤ l.length ∧ i = .int .i64 k ∧ Below w.heap.size w wx ∧ Hid ((l.take k).any (fun c => decide (1000 < c.s.size)) = false)) (fun i _ => l.length - (intOf i).toNat)
  case atStart => exact ⟨0, Nat.zero_le _, rfl, Below.refl _ _, by simp [Hid]⟩
  case round =>
    obtain ⟨k, hk, rfl, HB, HF⟩ := hrel
    by_cases hlt : k < l.length
    · obtain ⟨b, o, rfl, hb, c0, c1, c2, c3⟩ := (HL.out.below HB (Nat.le_refl _)).at hlt
      have HA := hid (@any_snoc_false _ l (fun c => decide (1000 < c.s.size)) k hlt HF.out)
      have HT := hid (@any_at _ l (fun c => decide (1000 < c.s.size)) k hlt)
      have HBB := fun o => hid (HB.alloc HB.size o)
      generalize hcc : l[k] = cc at *
      clear hcc
      by_cases hs : 1000 < cc.s.size
      · have hs' : (1000 : Int) < (cc.s.size : Int) := by omega
        go_wp2
        go_ret
        exact ⟨ret_bool (by rw [hg.out, HT.out (by simpa using hs)]; rfl), (HBB _).out⟩
      · have hs' : (cc.s.size : Int) ≤ 1000 := by omega
        go_wp2
        go_roundw
        case rel => exact ⟨k + 1, hlt, by go_num, (HBB _).out, HA.out (by simpa using hs)⟩
        case measure => simp [intOf]; omega
    · have hlt' : (l.length : Int) ≤ (k : Int) := by omega
      have hke : k = l.length := by omega
      have HF1 := hid (any_all (by omega) HF.out)
      clear HF
      subst hke
      go_wp2
      go_loopw [30] (fun i wx => ∃ k : Nat, k ≤ r.length ∧ i = .int .i64 k ∧ Below w.heap.size w wx ∧ Hid ((r.take k).any (fun c => decide (1000 < c.s.size)) = false)) (fun i _ => r.length - (intOf i).toNat)
      case atStart => exact ⟨0, Nat.zero_le _, rfl, HB, by simp [Hid]⟩
      case round =>
        clear HB hlt' hlt hk
        obtain ⟨k, hk, rfl, HB, HF⟩ := hrel
        by_cases hlt : k < r.length
        · obtain ⟨b, o, rfl, hb, c0, c1, c2⟩ := (HV.out.below HB (Nat.le_refl _)).at hlt
          have HA := hid (@any_snoc_false _ r (fun c => decide (1000 < c.s.size)) k hlt HF.out)
          have HT := hid (@any_at _ r (fun c => decide (1000 < c.s.size)) k hlt)
          have HBB := fun o => hid (HB.alloc HB.size o)
          generalize hcc : r[k] = cc at *
          clear hcc
          by_cases hs : 1000 < cc.s.size
          · have hs' : (1000 : Int) < (cc.s.size : Int) := by omega
            go_wp2
            go_ret
            exact ⟨ret_bool (by rw [hg.out, HT.out (by simpa using hs)]; simp), (HBB _).out⟩
          · have hs' : (cc.s.size : Int) ≤ 1000 := by omega
            go_wp2
            go_roundw
            case rel => exact ⟨k + 1, hlt, by go_num, (HBB _).out, HA.out (by simpa using hs)⟩
            case measure => simp [intOf]; omega
        · have hlt' : (r.length : Int) ≤ (k : Int) := by omega
          go_wp2
          go_ret
          exact ⟨ret_bool (by rw [hg.out, HF1.out, any_all (by omega) HF.out]; rfl), HB⟩
end Go.Proofs.Ytimfpabodmbkoaa
