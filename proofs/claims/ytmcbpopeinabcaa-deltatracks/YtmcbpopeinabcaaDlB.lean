/-
  Delta: changes in memory; Kind of package delta and the document's.
-/
import Derived.Test.YtmcbpopeinabcaaDlA
namespace Go.Proofs.Ytmcbpopeinabcaa
open Go.RowKit

/-- A change as its cells have it. -/
structure RC where
  t : ByteArray
  id : Int
  oa : Option Addr
  ol : Nat
  oc : Nat
  na : Option Addr
  nl : Nat
  nc : Nat
deriving Inhabited

def rcC (r : RC) : List Value := [.string r.t, .int .i64 r.id, .slice r.oa r.ol r.oc, .slice r.na r.nl r.nc]
def rcV (r : RC) : Value := .agg #[.string r.t, .int .i64 r.id, .slice r.oa r.ol r.oc, .slice r.na r.nl r.nc]

/-- A change. -/
structure Chg where
  t : ByteArray
  id : Int
  o : List Va
  n : List Va
deriving Inhabited

/-- What the cells say. -/
structure Means (W : World) (r : RC) (c : Chg) : Prop where
  t : r.t = c.t
  id : r.id = c.id
  ol : c.o.length = r.ol
  nl : c.n.length = r.nl
  ob : r.ol ≤ 1000
  nb : r.nl ≤ 1000
  o : SlV W r.oa c.o
  n : SlV W r.na c.n
  oc : r.oa = none → r.oc = 0
  nc : r.na = none → r.nc = 0
  tb : r.t.size ≤ 1000000
  ib : (Lit.int .i64 r.id).wf = true

theorem Means.below {W W' : World} {r : RC} {c : Chg} (h : Means W r c) (hb : Below W.heap.size W W') : Means W' r c := ⟨h.t, h.id, h.ol, h.nl, h.ob, h.nb, h.o.below hb, h.n.below hb, h.oc, h.nc, h.tb, h.ib⟩

theorem below_alloc (w : World) (o : Obj) : Below w.heap.size w (w.alloc o) := (Below.refl _ _).alloc (Nat.le_refl _) o
theorem below_drews (w : World) (n : Nat) : Below w.heap.size w (w.drewN n) := below_drewN (Below.refl _ _) n
theorem below_on {B : Nat} {a w w1 : World} (h : Below B a w) (h1 : Below w.heap.size w w1) (hB : B ≤ w.heap.size := by omega) : Below B a w1 := h.trans (h1.mono hB)

/-- A change's kind. -/
def kindL (o n : List Va) : Int := if sameL o n then 0 else if o.length = 0 then 1 else if n.length = 0 then 2 else 3
def Chg.kind (c : Chg) : Int := kindL c.o c.n

theorem kindL_same {o n : List Va} (h : sameL o n = true) : kindL o n = 0 := by simp [kindL, h]
theorem kindL_1 {o n : List Va} (h0 : o.length = 0) (h1 : ¬ n.length = 0) : kindL o n = 1 := by
  unfold kindL; rw [if_neg (by rw [sameL_len (by omega)]; simp), if_pos h0]
theorem kindL_2 {o n : List Va} (h0 : ¬ o.length = 0) (h1 : n.length = 0) : kindL o n = 2 := by
  unfold kindL; rw [if_neg (by rw [sameL_len (by omega)]; simp), if_neg h0, if_pos h1]
theorem kindL_3 {o n : List Va} (hs : sameL o n = false) (h0 : ¬ o.length = 0) (h1 : ¬ n.length = 0) : kindL o n = 3 := by
  unfold kindL; rw [if_neg (by simp [hs]), if_neg h0, if_neg h1]
theorem kindL_nil {o n : List Va} (h0 : o.length = 0) (h1 : n.length = 0) : sameL o n = true := by
  rw [List.length_eq_zero_iff] at h0 h1; subst h0; subst h1; rfl

theorem kindL_zero {o n : List Va} : kindL o n = 0 ↔ o = n := by
  rw [← sameL_iff]
  unfold kindL
  cases sameL o n
  · simp
    split
    · simp
    · split <;> simp
  · simp

set_option maxRecDepth 100000 in
set_option maxHeartbeats 1000000 in
theorem rkind_walk {r : RC} {c : Chg} {w : World} (h : Means w r c) : Calls Try.prog 11 #[rcV r] w fun e w' => e = .returned (.int .i64 c.kind) ∧ Below w.heap.size w w' := by
  obtain ⟨t, id, oa, ol, oc, na, nl, nc⟩ := r
  obtain ⟨-, -, hol, hnl, hob, hnb, ho, hn, -, -, -, -⟩ := h
  dsimp only at *
  have HS := fun x => dhid (rsame_walk oa na ol nl oc nc c.o c.n hol hnl (by omega) (by omega) _ (ho.below (below_alloc w x)) (hn.below (below_alloc w x)))
  unfold Chg.kind
  have K0 := dhid (@kindL_same c.o c.n)
  have K1 := dhid (@kindL_1 c.o c.n)
  have K2 := dhid (@kindL_2 c.o c.n)
  have K3 := dhid (@kindL_3 c.o c.n)
  have K4 := dhid (@kindL_nil c.o c.n)
  rw [hol, hnl] at *
  clear ho hn
  generalize kindL c.o c.n = R at *
  unfold rcV
  dsimp only
  go_enter Try.func11, Try.ntmps11
  go_wp2_with fail
  refine (HS _).out.mono ?_
  rintro e w1 ⟨rfl, q, rfl⟩
  clear HS
  have HB : Hid (∀ x, Below w.heap.size w ((w.alloc x).drewN q)) := fun x => below_drewN (below_alloc w x) q
  cases hs : sameL c.o c.n
  · rw [hs] at K0 K3 K4
    by_cases h0 : ol = 0
    · subst h0
      have h1 : ¬ nl = 0 := fun e => by have := K4.out (by simp) e; cases this
      go_wp2
      go_ret
      exact ⟨ret_int (K1.out (by simp) h1).symm, HB.out _⟩
    · have h0' : ((ol : Int) == 0) = false := beq_eq_false_iff_ne.2 (by omega)
      by_cases h1 : nl = 0
      · subst h1
        go_wp2
        go_ret
        exact ⟨ret_int (K2.out h0 (by simp)).symm, HB.out _⟩
      · have h1' : ((nl : Int) == 0) = false := beq_eq_false_iff_ne.2 (by omega)
        go_wp2
        go_ret
        exact ⟨ret_int (K3.out (by simp) h0 h1).symm, HB.out _⟩
  · rw [hs] at K0
    go_wp2
    go_ret
    exact ⟨ret_int (K0.out (by simp)).symm, HB.out _⟩

set_option maxRecDepth 100000 in
set_option maxHeartbeats 1000000 in
theorem kind_walk {r : RC} {c : Chg} {w : World} (h : Means w r c) : Calls Try.prog 10 #[rcV r] w fun e w' => e = .returned (.int .i64 c.kind) ∧ Below w.heap.size w w' := by
  obtain ⟨t, id, oa, ol, oc, na, nl, nc⟩ := r
  obtain ⟨-, -, hol, hnl, hob, hnb, ho, hn, -, -, -, -⟩ := h
  dsimp only at *
  have HS := fun x q => dhid (equal_walk oa na ol nl oc nc c.o c.n hol hnl (by omega) (by omega) _ (ho.below (below_drewN (below_alloc w x) q)) (hn.below (below_drewN (below_alloc w x) q)))
  unfold Chg.kind
  have K0 := dhid (@kindL_same c.o c.n)
  have K1 := dhid (@kindL_1 c.o c.n)
  have K2 := dhid (@kindL_2 c.o c.n)
  have K3 := dhid (@kindL_3 c.o c.n)
  have K4 := dhid (@kindL_nil c.o c.n)
  rw [hol, hnl] at *
  clear ho hn
  generalize kindL c.o c.n = R at *
  generalize hss : sameL c.o c.n = ss at *
  unfold rcV
  dsimp only
  have HB : Hid (∀ x q, Below w.heap.size w ((w.alloc x).drewN q)) := fun x q => below_drewN (below_alloc w x) q
  by_cases h0 : ol = 0 <;> by_cases h1 : nl = 0
  · subst h0
    subst h1
    go_enter Try.func10, Try.ntmps10
    go_wp2_with fail
    go_quiet (fail)
    go_wp2_with fail
    refine (HS _ _).out.mono ?_
    rintro e w1 ⟨rfl, q, rfl⟩
    have := K4.out (by simp) (by simp)
    subst this
    go_wp2
    go_ret
    exact ⟨ret_int (K0.out (by simp)).symm, HB.out _ _⟩
  · subst h0
    have h1' : decide (0 < nl) = true := decide_eq_true (by omega)
    go_enter Try.func10, Try.ntmps10
    go_wp2_with fail
    go_quiet (fail)
    go_wp2_with fail
    go_ret
    exact ⟨ret_int (K1.out (by simp) h1).symm, HB.out _ _⟩
  · subst h1
    have h0' : decide (0 < ol) = true := decide_eq_true (by omega)
    go_enter Try.func10, Try.ntmps10
    go_wp2_with fail
    go_quiet (fail)
    go_wp2_with fail
    go_ret
    exact ⟨ret_int (K2.out h0 (by simp)).symm, HB.out _ _⟩
  · have h0' : decide (0 < ol) = true := decide_eq_true (by omega)
    have h1' : decide (0 < nl) = true := decide_eq_true (by omega)
    go_enter Try.func10, Try.ntmps10
    go_wp2_with fail
    go_quiet (fail)
    go_wp2_with fail
    refine (HS _ _).out.mono ?_
    rintro e w1 ⟨rfl, q, rfl⟩
    cases ss
    · go_wp2
      go_ret
      exact ⟨ret_int (K3.out (by simp) h0 h1).symm, HB.out _ _⟩
    · go_wp2
      go_ret
      exact ⟨ret_int (K0.out (by simp)).symm, HB.out _ _⟩
end Go.Proofs.Ytmcbpopeinabcaa
