/-
  The document's Same: of two nodes that are alike.
-/
import Derived.Test.YtgpahhlmpdnbpaaNdI
namespace Go.Proofs.Ytgpahhlmpdnbpaa
open Go.RowKit

/-- Two nodes have been boxed. -/
structure B2 (w : World) (n : No) (a : Option Addr) (c : Nat) (a' : Option Addr) (c' : Nat) (d : Option Addr) (f : Nat) (d' : Option Addr) (f' : Nat) (wr : World) : Prop where
  below : Below w.heap.size w wr
  x0 : wr.cell? ⟨w.heap.size, 0, none⟩ = some (.bool n.leaf)
  x1 : wr.cell? ⟨w.heap.size, 1, none⟩ = some (.slice a n.recs.length c)
  x2 : wr.cell? ⟨w.heap.size, 2, none⟩ = some (.slice a' n.kids.length c')
  y0 : wr.cell? ⟨w.heap.size + 1, 0, none⟩ = some (.bool n.leaf)
  y1 : wr.cell? ⟨w.heap.size + 1, 1, none⟩ = some (.slice d n.recs.length f)
  y2 : wr.cell? ⟨w.heap.size + 1, 2, none⟩ = some (.slice d' n.kids.length f')
  lt : w.heap.size + 1 < wr.heap.size

theorem B2.on {w : World} {n : No} {a : Option Addr} {c : Nat} {a' : Option Addr} {c' : Nat} {d : Option Addr} {f : Nat} {d' : Option Addr} {f' : Nat} {wr wr' : World} (h : B2 w n a c a' c' d f d' f' wr) (hb : Below wr.heap.size wr wr') : B2 w n a c a' c' d f d' f' wr' := by
  have l0 : w.heap.size < wr.heap.size := by have := h.lt; omega
  exact ⟨below_on h.below hb, (hb.cell l0).trans h.x0, (hb.cell l0).trans h.x1, (hb.cell l0).trans h.x2, (hb.cell h.lt).trans h.y0, (hb.cell h.lt).trans h.y1, (hb.cell h.lt).trans h.y2, Nat.lt_of_lt_of_le h.lt hb.size⟩

theorem B2.new (w : World) (n : No) (a : Option Addr) (c : Nat) (a' : Option Addr) (c' : Nat) (d : Option Addr) (f : Nat) (d' : Option Addr) (f' : Nat) (t : TypeId) : B2 w n a c a' c' d f d' f' ((w.alloc (.cells #[.bool n.leaf, .slice a n.recs.length c, .slice a' n.kids.length c'] t)).alloc (.cells #[.bool n.leaf, .slice d n.recs.length f, .slice d' n.kids.length f'] t)) := by
  have h1 := Bx.new w n a c a' c' t
  have h2 := Bx.new (w.alloc (.cells #[.bool n.leaf, .slice a n.recs.length c, .slice a' n.kids.length c'] t)) n d f d' f' t
  have h3 := h1.on h2.below
  have z : (w.alloc (.cells #[.bool n.leaf, .slice a n.recs.length c, .slice a' n.kids.length c'] t)).heap.size = w.heap.size + 1 := by simp
  have g0 := h2.c0
  have g1 := h2.c1
  have g2 := h2.c2
  rw [z] at g0 g1 g2
  exact ⟨h3.below, h3.c0, h3.c1, h3.c2, g0, g1, g2, by have := h2.lt; omega⟩

set_option maxRecDepth 100000 in
set_option maxHeartbeats 1000000 in
theorem same_walk {n : No} {a : Option Addr} {c : Nat} {a' : Option Addr} {c' : Nat} {d : Option Addr} {f : Nat} {d' : Option Addr} {f' : Nat} {w : World} (hr : NR w n a c a' c') (hq : NR w n d f d' f') (hs : n.small) :
    Calls Try.prog 11 #[nodeV n a c a' c', nodeV n d f d' f'] w fun e w' => e = .returned (.bool true) ∧ Below w.heap.size w w' := by
  have h1 := hs.recs
  have h2 := hs.kids
  have HX : Hid (B2 w n a c a' c' d f d' f' ((w.alloc (.cells #[.bool n.leaf, .slice a n.recs.length c, .slice a' n.kids.length c'] 27)).alloc (.cells #[.bool n.leaf, .slice d n.recs.length f, .slice d' n.kids.length f'] 27))) := B2.new _ _ _ _ _ _ _ _ _ _ _
  have HR : Hid (NR w n a c a' c') := hr
  have HQ : Hid (NR w n d f d' f') := hq
  clear hr hq hs
  go_enter Try.func11, Try.ntmps11
  unfold nodeV
  cases hlf : n.leaf
  all_goals
    rw [hlf] at HX
    have w0 := HX.out.x0
    have w1 := HX.out.y0
    rw [hlf] at w0 w1
    have w2 := HX.out.x1
    have w3 := HX.out.y1
    have w4 := HX.out.x2
    have w5 := HX.out.y2
    have xl := HX.out.lt
    go_wp2
    clear w0 w1 w2 w3 w4 w5 xl
    go_loopw [5] (fun i wr => ∃ j : Nat, j ≤ n.recs.length ∧ i = .int .i64 (j : Int) ∧ Hid (B2 w n a c a' c' d f d' f' wr)) (fun i _ => n.recs.length - (intOf i).toNat)
    case atStart => exact ⟨0, Nat.zero_le _, rfl, HX⟩
    case round =>
      obtain ⟨j, hj, rfl, HX⟩ := hrel
      have x1 := HX.out.x1
      have y1 := HX.out.y1
      have xl := HX.out.lt
      have xl0 : w.heap.size < wr.heap.size := by omega
      by_cases hlt : j < n.recs.length
      · obtain ⟨b, o, rfl, hb, hc⟩ := (HR.out.recs.below HX.out.below).str j hlt
        obtain ⟨b2, o2, rfl, hb2, hc2⟩ := (HQ.out.recs.below HX.out.below).str j hlt
        have hlt' : (j : Int) < (n.recs.length : Int) := by omega
        generalize n.recs[j] = s at *
        go_wp2
        go_quiet (fail)
        go_wp2
        exact ⟨⟨j + 1, hlt, by go_num, HX.out.on (below_drewN (Below.refl _ _) _)⟩, by simp [intOf]; omega⟩
      · have hjr : j = n.recs.length := by omega
        subst hjr
        go_wp2
        clear x1 y1 xl xl0
        go_loopw [6] (fun i wr => ∃ j : Nat, j ≤ n.kids.length ∧ i = .int .i64 (j : Int) ∧ Hid (B2 w n a c a' c' d f d' f' wr)) (fun i _ => n.kids.length - (intOf i).toNat)
        case atStart => exact ⟨0, Nat.zero_le _, rfl, HX⟩
        case round =>
          obtain ⟨j, hj, rfl, HX⟩ := hrel
          have x2 := HX.out.x2
          have y2 := HX.out.y2
          have xl := HX.out.lt
          have xl0 : w.heap.size < wr.heap.size := by omega
          by_cases hlt : j < n.kids.length
          · obtain ⟨b, o, rfl, hb, hc⟩ := (HR.out.kids.below HX.out.below).int j hlt
            obtain ⟨b2, o2, rfl, hb2, hc2⟩ := (HQ.out.kids.below HX.out.below).int j hlt
            have hlt' : (j : Int) < (n.kids.length : Int) := by omega
            generalize n.kids[j] = s at *
            go_wp2
            go_quiet (fail)
            go_wp2
            exact ⟨⟨j + 1, hlt, by go_num, HX.out.on (below_drewN (Below.refl _ _) _)⟩, by simp [intOf]; omega⟩
          · have hjr : j = n.kids.length := by omega
            subst hjr
            go_wp2
            go_ret
            exact ⟨rfl, HX.out.below⟩
end Go.Proofs.Ytgpahhlmpdnbpaa
