/-
  PageFinds: its walk.
-/
import Derived.Test.YtmelakljiimlgaaNdH
import Derived.Test.YtmelakljiimlgaaNdJ
namespace Go.Proofs.Ytmelakljiimlgaa
open Go.RowKit

/-- A world behind the boxing of a node that can be read. -/
structure Nx (w : World) (n : No) (a : Option Addr) (c : Nat) (a' : Option Addr) (c' : Nat) (wr : World) : Prop where
  bx : Bx w n a c a' c' wr
  nr : NR wr n a c a' c'

theorem Nx.on {w : World} {n : No} {a : Option Addr} {c : Nat} {a' : Option Addr} {c' : Nat} {wr wr' : World} (h : Nx w n a c a' c' wr) (hb : Below wr.heap.size wr wr') : Nx w n a c a' c' wr' := ⟨h.bx.on hb, h.nr.below hb⟩

theorem Nx.new {w : World} {n : No} {a : Option Addr} {c : Nat} {a' : Option Addr} {c' : Nat} (hr : NR w n a c a' c') (t : TypeId) : Nx w n a c a' c' (w.alloc (.cells #[.bool n.leaf, .slice a n.recs.length c, .slice a' n.kids.length c'] t)) := ⟨Bx.new w n a c a' c' t, hr.below (below_alloc _ _)⟩

theorem Nx.cells {w : World} {n : No} {a : Option Addr} {c : Nat} {a' : Option Addr} {c' : Nat} {wr : World} (h : Nx w n a c a' c' wr) : wr.cell? ⟨w.heap.size, 0, none⟩ = some (.bool n.leaf) ∧ wr.cell? ⟨w.heap.size, 1, none⟩ = some (.slice a n.recs.length c) ∧ wr.cell? ⟨w.heap.size, 2, none⟩ = some (.slice a' n.kids.length c') ∧ w.heap.size < wr.heap.size := ⟨h.bx.c0, h.bx.c1, h.bx.c2, h.bx.lt⟩

set_option maxRecDepth 100000 in
set_option maxHeartbeats 1000000 in
theorem finds_walk {n : No} {a : Option Addr} {c : Nat} {a' : Option Addr} {c' : Nat} {w : World} (hr : NR w n a c a' c') (s : ByteArray) :
    Calls Try.prog 5 #[nodeV n a c a' c', .string s] w fun e w' => e = .returned (.bool true) ∧ Below w.heap.size w w' := by
  have HN : Hid (Nx w n a c a' c' (w.alloc (.cells #[.bool n.leaf, .slice a n.recs.length c, .slice a' n.kids.length c'] 25))) := Nx.new hr _
  clear hr
  go_enter Try.func5, Try.ntmps5
  unfold nodeV
  go_wp2_with fail
  refine (awake_walk _).mono ?_
  rintro e w1 ⟨rfl, B1⟩
  have HN1 : Hid (Nx w n a c a' c' w1) := HN.out.on B1
  obtain ⟨c0, c1, c2, xl⟩ := HN1.out.cells
  clear HN B1
  go_wp2_with fail
  refine (great_walk (n := n) HN1.out.nr).mono ?_
  rintro e w2 ⟨rfl, B2⟩
  have HN2 : Hid (Nx w n a c a' c' w2) := HN1.out.on B2
  clear c0 c1 c2 xl HN1 B2
  obtain ⟨c0, c1, c2, xl⟩ := HN2.out.cells
  cases hg : greatB n
  · have hsm := small_of_great hg
    by_cases hs : 1000 < s.size
    · have hs' : (1000 : Int) < (s.size : Int) := by omega
      go_wp2
      go_ret
      exact ⟨rfl, HN2.out.bx.below⟩
    have hs' : (s.size : Int) ≤ 1000 := by omega
    go_wp2_with fail
    refine (plain_walk (n := n)).mono ?_
    rintro e w3 ⟨rfl, B3⟩
    have HN3 : Hid (Nx w n a c a' c' w3) := HN2.out.on B3
    clear c0 c1 c2 xl HN2 B3
    unfold nodeV
    go_wp2_with fail
    refine (shaped_walk (n := n) HN3.out.nr hsm).mono ?_
    rintro e w4 ⟨rfl, B4⟩
    have HN4 : Hid (Nx w n a c a' c' w4) := HN3.out.on B4
    clear HN3 B4
    obtain ⟨c0, c1, c2, xl⟩ := HN4.out.cells
    cases hb : n.shaped
    · go_wp2
      go_ret
      exact ⟨rfl, HN4.out.bx.below⟩
    have hri : risesB n.recs = true := by rw [shaped_eq, Bool.and_eq_true] at hb; exact hb.1
    have HC1 : Hid _ := count_lt hri s
    have HC2 : Hid _ := count_le hri s
    have hfn := firstN_le n.recs s
    have h1 := hsm.recs
    clear hri
    go_wp2_with fail
    refine (find_walk (n := n) HN4.out.nr hsm.recs s).mono ?_
    rintro e w5 ⟨rfl, B5⟩
    have HN5 : Hid (Nx w n a c a' c' w5) := HN4.out.on B5
    clear c0 c1 c2 xl HN4 B5
    obtain ⟨c0, c1, c2, xl⟩ := HN5.out.cells
    rw [HC1.out]
    go_wp2_with fail
    refine (plain_walk (n := n)).mono ?_
    rintro e w6 ⟨rfl, B6⟩
    have HN6 : Hid (Nx w n a c a' c' w6) := HN5.out.on B6
    clear c0 c1 c2 xl HN5 B6
    unfold nodeV
    go_wp2_with fail
    refine (below_walk (n := n) HN6.out.nr hsm.recs s).mono ?_
    rintro e w7 ⟨rfl, B7⟩
    have HN7 : Hid (Nx w n a c a' c' w7) := HN6.out.on B7
    clear HN6 B7
    obtain ⟨c0, c1, c2, xl⟩ := HN7.out.cells
    have HK := kid_walk (n := n) (a := a) (c := c) (a' := a') (c' := c') HN7.out.nr hsm.recs s
    rw [HC2.out] at HK
    have HKI : Hid _ := HK
    generalize firstN n.recs s = k at *
    cases hi : isAt n.recs s k
    all_goals
      rw [hi] at HK
      clear HKI
      go_wp2_with fail
      refine HK.mono ?_
      rintro e w8 ⟨rfl, B8⟩
      have HB8 := (HN7.out.on B8).bx.below
      clear HK HN7 B8 c0 c1 c2 xl
      go_wp2
      go_ret
      exact ⟨rfl, HB8⟩
  · go_wp2
    go_ret
    exact ⟨rfl, HN2.out.bx.below⟩
end Go.Proofs.Ytmelakljiimlgaa
