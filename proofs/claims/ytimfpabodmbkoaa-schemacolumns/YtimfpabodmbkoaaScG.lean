/-
  Find, IndexFunc, the document's Find.
-/
import Derived.Test.YtimfpabodmbkoaaScE
namespace Go.Proofs.Ytimfpabodmbkoaa
open Go.RowKit

def eqS (a b : ByteArray) : Bool := a.toList == b.toList

/-- The place of the first column with a name, or -1. -/
def findI (l : List Col) (s : ByteArray) : Int := match l.findIdx? (fun c => eqS c.s s) with
  | some i => i
  | none => -1

theorem findI_at {l : List Col} {s : ByteArray} {k : Nat} (hk : k < l.length) (h : (l.take k).any (fun c => eqS c.s s) = false) (he : eqS l[k].s s = true) : findI l s = k := by
  have : l.findIdx? (fun c => eqS c.s s) = some k := by
    rw [List.findIdx?_eq_some_iff_getElem]
    refine ⟨hk, he, fun j hj => ?_⟩
    have h' := List.any_eq_false.1 h (l[j]'(by omega)) (by
      rw [List.mem_take_iff_getElem]
      exact ⟨j, by omega, rfl⟩)
    simpa using h'
  unfold findI; rw [this]

theorem findI_none {l : List Col} {s : ByteArray} {k : Nat} (hk : l.length ≤ k) (h : (l.take k).any (fun c => eqS c.s s) = false) : findI l s = -1 := by
  rw [List.take_of_length_le hk] at h
  have : l.findIdx? (fun c => eqS c.s s) = none := by
    rw [List.findIdx?_eq_none_iff]
    intro x hx
    have := List.any_eq_false.1 h x hx
    simpa using this
  unfold findI; rw [this]

set_option maxRecDepth 100000 in
set_option maxHeartbeats 400000 in
theorem rfind_walk (l : List Col) (s : ByteArray) {a : Option Addr} {c : Nat} {w : World} (hl : SlC w a l) (h1 : l.length ≤ 50) :
    Calls Try.prog 13 #[.slice a l.length c, .string s] w fun e w' => e = .returned (.int .i64 (findI l s)) ∧ Below w.heap.size w w' := by
  have HL := hid hl
  clear hl
  go_enter Try.func13, Try.ntmps13
  go_wp2
  go_loop [5] (fun i => ∃ k : Nat, k ≤ l.length ∧ i = .int .i64 k ∧ Hid ((l.take k).any (fun c => eqS c.s s) = false)) (fun i => l.length - (intOf i).toNat)
  case atStart => exact ⟨0, Nat.zero_le _, rfl, by simp [Hid]⟩
  case round =>
    obtain ⟨k, hk, rfl, HF⟩ := hrel
    by_cases hlt : k < l.length
    · obtain ⟨b, o, rfl, hb, c0, c1, c2, c3⟩ := HL.out.at hlt
      have HA := hid (@any_snoc_false _ l (fun c => eqS c.s s) k hlt HF.out)
      have HT := hid (@findI_at l s k hlt HF.out)
      generalize l[k] = cc at *
      obtain ⟨x0, x1, x2, x3⟩ := cc
      dsimp only at *
      cases he : eqS x0 s
      · have he' : (x0.toList == s.toList) = false := he
        go_wp2
        go_round
        case rel => exact ⟨k + 1, hlt, by go_num, HA.out he⟩
        case measure => simp [intOf]; omega
      · have he' : (x0.toList == s.toList) = true := he
        go_wp2
        go_ret
        exact ⟨ret_int (HT.out he).symm, Below.refl _ _⟩
    · have hlt' : (l.length : Int) ≤ (k : Int) := by omega
      go_wp2
      go_ret
      exact ⟨ret_int (findI_none (by omega) HF.out).symm, Below.refl _ _⟩

set_option maxRecDepth 100000 in
theorem find1_walk (x0 s : ByteArray) (x1 : Int) (x2 x3 : Bool) (g : Nat) {w : World} (hg : g < w.heap.size) (hc : w.cell? ⟨g, 0, none⟩ = some (.string s)) :
    Calls Try.prog 20 #[.agg #[.string x0, .int .i64 x1, .bool x2, .bool x3], .pointer (some ⟨g, 0, none⟩)] w fun e w' => e = .returned (.bool (eqS x0 s)) ∧ Below w.heap.size w w' := by
  go_enter Try.func20, Try.ntmps20
  go_wp2
  go_ret
  exact ⟨rfl, below_alloc _ _⟩

set_option maxRecDepth 100000 in
set_option maxHeartbeats 400000 in
theorem idx_walk (l : List Col) (s : ByteArray) {a : Option Addr} {c g : Nat} {w : World} (hl : SlC w a l) (h1 : l.length ≤ 50) (hg : g < w.heap.size) (hc : w.cell? ⟨g, 0, none⟩ = some (.string s)) :
    Calls Try.prog 19 #[.slice a l.length c, .func (.func 20) #[] #[.pointer (some ⟨g, 0, none⟩)]] w fun e w' => e = .returned (.int .i64 (findI l s)) ∧ Below w.heap.size w w' := by
  have HL := hid hl
  clear hl
  go_enter Try.func19, Try.ntmps19
  go_wp2
  go_loopw [8] (fun i wx => ∃ k : Nat, k ≤ l.length ∧ i = .int .i64 k ∧ Below w.heap.size w wx ∧ Hid ((l.take k).any (fun c => eqS c.s s) = false)) (fun i _ => l.length - (intOf i).toNat)
  case atStart => exact ⟨0, Nat.zero_le _, rfl, Below.refl _ _, by simp [Hid]⟩
  case round =>
    obtain ⟨k, hk, rfl, HB, HF⟩ := hrel
    by_cases hlt : k < l.length
    · obtain ⟨b, o, rfl, hb, c0, c1, c2, c3⟩ := (HL.out.below HB (Nat.le_refl _)).at hlt
      have HA := hid (@any_snoc_false _ l (fun c => eqS c.s s) k hlt HF.out)
      have HT := hid (@findI_at l s k hlt HF.out)
      generalize l[k] = cc at *
      obtain ⟨x0, x1, x2, x3⟩ := cc
      dsimp only at *
      have C1 := find1_walk x0 s x1 x2 x3 g (w := wr) (by have := HB.size; omega) (by rw [HB.cell (p := ⟨g, 0, none⟩) hg]; exact hc)
      go_wp2_with fail
      refine C1.mono ?_
      rintro e w1 ⟨rfl, B1⟩
      have HB1 := hid (HB.trans (B1.mono HB.size))
      clear C1 B1 HB c0 c1 c2 c3 hb
      cases he : eqS x0 s
      · go_wp2
        go_roundw
        case rel => exact ⟨k + 1, hlt, by go_num, HB1.out, HA.out he⟩
        case measure => simp [intOf]; omega
      · go_wp2
        go_ret
        exact ⟨ret_int (HT.out he).symm, HB1.out⟩
    · have hlt' : (l.length : Int) ≤ (k : Int) := by omega
      go_wp2
      go_ret
      exact ⟨ret_int (findI_none (by omega) HF.out).symm, HB⟩

set_option maxRecDepth 100000 in
theorem find_walk (l : List Col) (s : ByteArray) {a : Option Addr} {c : Nat} {w : World} (hl : SlC w a l) (h1 : l.length ≤ 50) :
    Calls Try.prog 12 #[.slice a l.length c, .string s] w fun e w' => e = .returned (.int .i64 (findI l s)) ∧ Below w.heap.size w w' := by
  have C1 := idx_walk l s (c := c) (g := w.heap.size) (w := w.alloc (.cells #[.string s] 9)) (hl.below (below_alloc _ _) (Nat.le_refl _)) h1 (by simp) (by simp [go_sem])
  go_enter Try.func12, Try.ntmps12
  go_wp2_with fail
  refine C1.mono ?_
  rintro e w1 ⟨rfl, B1⟩
  have HB := (below_alloc w (.cells #[.string s] 9)).trans (B1.mono (by simp))
  clear C1 B1
  go_wp2
  go_ret
  exact ⟨rfl, HB⟩
end Go.Proofs.Ytimfpabodmbkoaa
