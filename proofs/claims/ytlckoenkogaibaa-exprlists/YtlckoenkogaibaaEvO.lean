/-
  Expr: the law's long.
-/
import Derived.Test.YtlckoenkogaibaaEvC
import Derived.Test.YtlckoenkogaibaaEvD
namespace Go.Proofs.Ytlckoenkogaibaa
open Go.RowKit

def LongP (l : List NL) (rs : List RowL) (w : World) (e : Ending) (W : World) : Prop := ∃ B : Bool, e = .returned (.bool B) ∧ (B = false → (∀ k ∈ l, deepN 40 k = false) ∧ rs.length ≤ 20 ∧ l.length ≤ 50) ∧ Below w.heap.size w W

theorem ncells {W : World} {p : Nat} {k : NL} (h : W.heap[p]? = some (.cells (nC k).toArray 26 (0, 0))) : W.cell? ⟨p, 0, none⟩ = some (.string k.op) ∧ W.cell? ⟨p, 1, none⟩ = some (.int .i64 k.vk) ∧ W.cell? ⟨p, 2, none⟩ = some (.int .i64 k.vn) ∧ W.cell? ⟨p, 3, none⟩ = some (.string k.vs) ∧ W.cell? ⟨p, 4, none⟩ = some (.int .i64 k.var) ∧ W.cell? ⟨p, 5, none⟩ = some (.int .i64 k.col) ∧ W.cell? ⟨p, 6, none⟩ = some (.slice k.a k.kids.length k.c) := by
  refine ⟨?_, ?_, ?_, ?_, ?_, ?_, ?_⟩ <;> (rw [cell_of_row _ _ _ _ _ _ h]; rfl)

set_option maxRecDepth 100000 in
set_option maxHeartbeats 1000000 in
theorem long_walk {l : List NL} {a : Option Addr} {c : Nat} {rs : List RowL} {ra : Option Addr} {rc : Nat} {w : World} (hS : Rw.SlG nC 7 w a l) (hI : ∀ k ∈ l, InN 40 w k) (hl : l.length ≤ 1599289640401) (hR : RowsIn w ra rs) (hrl : rs.length ≤ 9223372036854775807) :
    Calls Try.prog 6 #[.slice a l.length c, .slice ra rs.length rc] w (LongP l rs w) := by
  have HS := Rw.dh hS
  have HI := Rw.dh hI
  have HR := Rw.dh hR
  clear hS hI hR
  by_cases h1 : 50 < l.length
  · have h1' : (50 : Int) < (l.length : Int) := by omega
    go_enter Try.func6, Try.ntmps6
    go_wp2
    go_ret
    exact ⟨true, rfl, fun h => (by cases h), Below.refl _ _⟩
  by_cases h2 : 20 < rs.length
  · have h1' : (l.length : Int) ≤ 50 := by omega
    have h2' : (20 : Int) < (rs.length : Int) := by omega
    go_enter Try.func6, Try.ntmps6
    go_wp2
    go_ret
    exact ⟨true, rfl, fun h => (by cases h), Below.refl _ _⟩
  have h1' : decide (50 < (l.length : Int)) = false := by simp; omega
  have h2' : decide (20 < (rs.length : Int)) = false := by simp; omega
  have HRl := Rw.dh h2
  have HLl : Hid (l.length ≤ 50) := by rw [Hid]; omega
  clear h1 h2
  go_enter Try.func6, Try.ntmps6
  go_wp2_with fail
  go_loopw [19] (fun i wr => ∃ j : Nat, j ≤ l.length ∧ i = .int .i64 (j : Int) ∧ Hid (Below w.heap.size w wr ∧ ∀ k ∈ l.take j, deepN 40 k = false)) (fun i _ => l.length - (intOf i).toNat)
  case atStart => exact ⟨0, Nat.zero_le _, rfl, Below.refl _ _, fun k hk => by simp at hk⟩
  case round =>
    obtain ⟨j, hj, rfl, HW⟩ := hrel
    by_cases hlt : j < l.length
    · obtain ⟨b, o, k, rfl, hb, hx, hc⟩ := (HS.out.below HW.out.1).at hlt
      have HX := Rw.dh hx
      have HKk := Rw.dh (fun W (hb : Below wr.heap.size wr W) => (HI.out k (List.mem_of_getElem? hx)).on (below_on HW.out.1 hb))
      have c0 : wr.cell? ⟨b, o + j * 7, none⟩ = some (.string k.op) := hc 0 _ rfl
      have c1 : wr.cell? ⟨b, o + j * 7 + 1, none⟩ = some (.int .i64 k.vk) := hc 1 _ rfl
      have c2 : wr.cell? ⟨b, o + j * 7 + 2, none⟩ = some (.int .i64 k.vn) := hc 2 _ rfl
      have c3 : wr.cell? ⟨b, o + j * 7 + 3, none⟩ = some (.string k.vs) := hc 3 _ rfl
      have c4 : wr.cell? ⟨b, o + j * 7 + 4, none⟩ = some (.int .i64 k.var) := hc 4 _ rfl
      have c5 : wr.cell? ⟨b, o + j * 7 + 5, none⟩ = some (.int .i64 k.col) := hc 5 _ rfl
      have c6 : wr.cell? ⟨b, o + j * 7 + 6, none⟩ = some (.slice k.a k.kids.length k.c) := hc 6 _ rfl
      clear hc hx
      go_wp2_with fail
      refine (ndeep_walk 40 (by decide) k _ (HKk.out _ (Rw.below_alloc _ _))).mono ?_
      rintro e w1 ⟨rfl, hb1⟩
      have p1 : w1.heap[wr.heap.size]? = some (.cells (nC k).toArray 26 (0, 0)) := (hb1.block _ (by simp)).trans (Rw.heap_new _ _)
      have HB1 := Rw.dh (below_on (Rw.below_alloc wr _) hb1)
      have HP1 := Rw.dh p1
      have hlt1 := (Array.getElem?_eq_some_iff.1 p1).1
      obtain ⟨d0, d1, d2, d3, d4, d5, d6⟩ := ncells p1
      clear hb1 p1 c0 c1 c2 c3 c4 c5 c6
      cases hd : deepN 40 k
      · go_wp2_with fail
        refine (nplain_walk 40 k _ (HKk.out _ HB1.out) hd).mono ?_
        rintro e w2 ⟨y, rfl, hL, hIy, hb2⟩
        have HSz : Hid (Calls Try.prog 18 #[nV y, .int .i64 400, .int .i64 60] w2 (SizeNP 400 w2)) := nsize_walk 40 y w2 400 60 (hIy 40).1 ((hL.deep).symm.trans hd) (by decide) (by decide) (by decide) (by decide)
        have HB2 := Rw.dh (below_on HB1.out hb2)
        clear hb2 hL hIy d0 d1 d2 d3 d4 d5 d6
        go_wp2_with fail
        refine HSz.out.mono ?_
        rintro e w3 ⟨v, rfl, hv1, hv2, hb3⟩
        have HB3 := Rw.dh (below_on HB2.out hb3)
        have HW3 : Hid (Below w.heap.size w w3 ∧ ∀ k ∈ l.take (j + 1), deepN 40 k = false) := ⟨below_on HW.out.1 HB3.out, fun k' hk' => by
          obtain ⟨hjl, hkj⟩ := List.getElem?_eq_some_iff.1 HX.out
          rw [List.take_succ_eq_append_getElem hjl, List.mem_append] at hk'
          rcases hk' with h | h
          · exact HW.out.2 k' h
          · simp only [List.mem_singleton] at h
            rw [h, hkj]; exact hd⟩
        clear hb3 HSz HB2 HB3 HB1 HP1 hlt1
        by_cases hv : 400 < v
        · go_wp2
          go_ret
          exact ⟨true, rfl, fun h => (by cases h), HW3.out.1⟩
        · go_wp2
          go_roundw
          case rel => exact ⟨j + 1, hlt, by go_num, HW3⟩
          case measure => simp [intOf]; omega
      · have HB2 := Rw.dh (below_on HW.out.1 HB1.out)
        go_wp2
        go_ret
        exact ⟨true, rfl, fun h => (by cases h), HB2.out⟩
    · have hjs : j = l.length := by omega
      subst hjs
      have HW1 : Hid (Below w.heap.size w wr ∧ ∀ k ∈ l, deepN 40 k = false) := ⟨HW.out.1, by have := HW.out.2; rwa [List.take_length] at this⟩
      clear HW
      obtain ⟨W0, hW0⟩ : ∃ W0, W0 = wr := ⟨_, rfl⟩
      go_wp2_with fail
      go_loopw [34] (fun i wx => ∃ i' : Nat, i' ≤ rs.length ∧ i = .int .i64 (i' : Int) ∧ Hid (Below w.heap.size w wx)) (fun i _ => rs.length - (intOf i).toNat)
      case atStart => exact ⟨0, Nat.zero_le _, rfl, HW1.out.1⟩
      case round =>
        obtain ⟨i', hi', rfl, HV⟩ := hrel
        by_cases hlt2 : i' < rs.length
        · obtain ⟨b, o, r, hra, hb, hx, hc⟩ := (HR.out.on HV.out).rows.at hlt2
          subst hra
          have c0 : wr.cell? ⟨b, o + i', none⟩ = some (.slice r.a r.l.length r.c) := by have := hc 0 _ rfl; simpa using this
          clear hc hx
          by_cases hr : 50 < (r.l.length : Int)
          · go_wp2
            go_ret
            exact ⟨true, rfl, fun h => (by cases h), HV.out⟩
          · go_wp2
            go_roundw
            case rel => exact ⟨i' + 1, hlt2, by go_num, HV⟩
            case measure => simp [intOf]; omega
        · have his : i' = rs.length := by omega
          subst his
          have HE : Hid (LongP l rs w (.returned (.bool false)) wr) := ⟨false, rfl, fun _ => ⟨HW1.out.2, by have := HRl.out; omega, HLl.out⟩, HV.out⟩
          go_wp2
          go_ret
          exact HE.out
end Go.Proofs.Ytlckoenkogaibaa
