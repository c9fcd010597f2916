/-
  PageOwns: what Split and Join leave, whatever they hold.
-/
import Derived.Deep.RegionHeldLaw
import Derived.Deep.CutRange
import Derived.Test.YtgpahhlmpdnbpaaNdH
import Derived.Test.YtgpahhlmpdnbpaaSpI
import Derived.Test.YtgpahhlmpdnbpaaSpK
import Derived.Test.YtgpahhlmpdnbpaaStepR
import Derived.Test.YtgpahhlmpdnbpaaOneC
namespace Go.Proofs.Ytgpahhlmpdnbpaa
open Go.RowKit

/-- Rows of unlike elements lie in unlike blocks. -/
theorem apart_rows {W : World} {B B' : Nat} {e e' : TypeId} {v v' : Value} {n n' : Nat} {xs xs' : List Value} (h : W.ownsRow B e 1 v n xs) (h' : W.ownsRow B' e' 1 v' n' xs') (he : e ≠ e') (k : Nat) (hk : v.ownBlock = some k) : some k ≠ v'.ownBlock := by
  intro hk'
  rcases h.2 with ⟨rfl, _⟩ | ⟨g, cap, cur, rfl, _, hc, _⟩
  · simp [Value.ownBlock] at hk
  · rcases h'.2 with ⟨rfl, _⟩ | ⟨g', cap', cur', rfl, _, hc', _⟩
    · simp [Value.ownBlock] at hk'
    · simp [Value.ownBlock] at hk hk'
      subst hk
      subst hk'
      rw [hc] at hc'
      cases hc'
      exact he rfl

/-- Join of what Split gave: a node of its own, whatever it holds. -/
theorem join_any {lf : Bool} {l1 l2 : List ByteArray} {k1 k2 : List Int} {a1 a2 b1 b2 : Option Addr} {c1 c2 d1 d2 : Nat} {w : World} (hr1 : Rd w a1 c1 (svs l1)) (hr2 : Rd w a2 c2 (svs l2)) (hk1 : Rd w b1 d1 (ivs k1)) (hk2 : Rd w b2 d2 (ivs k2)) (p1 : 0 < l1.length) (p2 : 0 < l2.length) (q1 : lf = false → 0 < k1.length) (q2 : lf = false → 0 < k2.length) (m1 : l1.length ≤ 1000) (m2 : l2.length ≤ 1000) (m3 : k1.length ≤ 1001) (m4 : k2.length ≤ 1001) (s : ByteArray) :
    Calls Try.prog 12 #[.agg #[.bool lf, .slice a1 l1.length c1, .slice b1 k1.length d1], .string s, .agg #[.bool lf, .slice a2 l2.length c2, .slice b2 k2.length d2]] w fun e w' => ∃ r k L K, e = .returned (.agg #[.bool lf, r, k]) ∧ JR w L K r k w' ∧ L.length ≤ 2001 ∧ K.length ≤ 2002 := by
  obtain ⟨_, _, rfl, _, _⟩ := hr1.str 0 p1
  obtain ⟨_, _, rfl, _, _⟩ := hr2.str 0 p2
  cases lf with
  | false =>
    obtain ⟨_, _, rfl, _, _⟩ := hk1.int 0 (q1 rfl)
    obtain ⟨_, _, rfl, _, _⟩ := hk2.int 0 (q2 rfl)
    refine (join_inner hr1 hr2 hk1 hk2 m1 m2 m3 m4 s).mono ?_
    rintro e w' ⟨r, k, rfl, hj⟩
    exact ⟨r, k, _, _, rfl, hj, by simp; omega, by simp; omega⟩
  | true =>
    refine (join_leaf hr1 hr2 m1 m2 s).mono ?_
    rintro e w' ⟨r, k, rfl, hj⟩
    exact ⟨r, k, _, _, rfl, hj, by simp; omega, by simp⟩

theorem No.shaped_kids {n : No} (hs : n.shaped = true) : n.kids.length = if n.leaf then 0 else n.recs.length + 1 := by
  unfold No.shaped at hs
  simp only [Bool.and_eq_true, beq_iff_eq] at hs
  exact hs.2

theorem owns_rd_s {W : World} {b : Nat} {e : TypeId} {a : Option Addr} {c n : Nat} {xs : List Value} (h : W.ownsRow b e 1 (.slice a n c) n xs) : Rd W a c xs := by
  obtain ⟨a', c', e', hr, _⟩ := owns_rd h
  cases e'
  exact hr

/-- A row of the program's own from B on, whatever it holds. -/
def OwnS (B : Nat) (a : Option Addr) (n c : Nat) (W : World) : Prop := n ≤ 2100 ∧ ∃ xs, W.ownsRow B 9 1 (.slice a n c) n (svs xs)
def OwnI (B : Nat) (a : Option Addr) (n c : Nat) (W : World) : Prop := n ≤ 2100 ∧ ∃ xs, W.ownsRow B 3 1 (.slice a n c) n (ivs xs)

/-- What Join gives. -/
def JoinO (lf : Bool) (w : World) (e : Ending) (W : World) : Prop := ∃ a5 n5 c5 a6 n6 c6, e = .returned (.agg #[.bool lf, .slice a5 n5 c5, .slice a6 n6 c6]) ∧ OwnS w.heap.size a5 n5 c5 W ∧ OwnI w.heap.size a6 n6 c6 W ∧ Below w.heap.size w W

/-- What Split gives, and that Join takes it. -/
structure Parts (lf : Bool) (w : World) (s : ByteArray) (a1 : Option Addr) (n1 c1 : Nat) (a2 : Option Addr) (n2 c2 : Nat) (a3 : Option Addr) (n3 c3 : Nat) (a4 : Option Addr) (n4 c4 : Nat) (W : World) : Prop where
  o1 : OwnS w.heap.size a1 n1 c1 W
  o2 : OwnI w.heap.size a2 n2 c2 W
  o3 : OwnS w.heap.size a3 n3 c3 W
  o4 : OwnI w.heap.size a4 n4 c4 W
  below : Below w.heap.size w W
  ap1 : ∀ g, (Value.slice a1 n1 c1).ownBlock = some g → (Value.slice a3 n3 c3).ownBlock ≠ some g
  ap2 : ∀ g, (Value.slice a2 n2 c2).ownBlock = some g → (Value.slice a4 n4 c4).ownBlock ≠ some g
  join : ∀ W', Below W.heap.size W W' → Calls Try.prog 12 #[.agg #[.bool lf, .slice a1 n1 c1, .slice a2 n2 c2], .string s, .agg #[.bool lf, .slice a3 n3 c3, .slice a4 n4 c4]] W' (JoinO lf W')

theorem split_any {n : No} {a : Option Addr} {c : Nat} {a' : Option Addr} {c' : Nat} {w : World} (hr : NR w n a c a' c') (hs : n.small) (h3 : 3 ≤ n.recs.length) (hsh : n.shaped = true) :
    Calls Try.prog 9 #[.agg #[.bool n.leaf, .slice a n.recs.length c, .slice a' n.kids.length c']] w fun e w' => ∃ s a1 n1 c1 a2 n2 c2 a3 n3 c3 a4 n4 c4, e = .returned (.tuple #[.agg #[.bool n.leaf, .slice a1 n1 c1, .slice a2 n2 c2], .string s, .agg #[.bool n.leaf, .slice a3 n3 c3, .slice a4 n4 c4]]) ∧ Hid (Parts n.leaf w s a1 n1 c1 a2 n2 c2 a3 n3 c3 a4 n4 c4 w') := by
  have hkk := No.shaped_kids hsh
  have hg : n.gap = if n.leaf then 0 else 1 := rfl
  have hgp : n.gap ≤ 1 := by rw [hg]; split <;> omega
  have hct : 1 ≤ n.cut ∧ n.cut + n.gap + 1 ≤ n.recs.length := by
    unfold No.cut
    have := minAt_le n.hv (n.recs.length - n.gap - 2)
    omega
  have m1 := hs.recs
  obtain ⟨sp, hsp⟩ : ∃ sp, n.recs[n.cut]? = some sp := ⟨_, List.getElem?_eq_getElem (by omega)⟩
  refine (split_walk (n := n) hr hs (by omega) (fun h => by rw [hkk, h]; rfl) _ hsp).mono ?_
  rintro e w6 ⟨r1, k1, r2, k2, rfl, HV⟩
  have p1 : 0 < (n.lo n.cut).recs.length ∧ (n.lo n.cut).recs.length ≤ 1000 := by simp [No.lo]; omega
  have p2 : 0 < (n.hi n.cut).recs.length ∧ (n.hi n.cut).recs.length ≤ 1000 := by simp [No.hi]; omega
  have p3 : (n.leaf = false → 0 < (n.lo n.cut).kids.length) ∧ (n.lo n.cut).kids.length ≤ 1001 := by
    cases hl : n.leaf
    · rw [hl] at hkk hg
      simp [No.lo, hl] at hkk ⊢
      omega
    · simp [No.lo, hl]
  have p4 : (n.leaf = false → 0 < (n.hi n.cut).kids.length) ∧ (n.hi n.cut).kids.length ≤ 1001 := by
    cases hl : n.leaf
    · rw [hl] at hkk hg
      simp [No.hi, hl] at hkk hg ⊢
      omega
    · simp [No.hi, hl]
  generalize n.lo n.cut = A at *
  generalize n.hi n.cut = B at *
  obtain ⟨y1, t1, y2, t2, y3, t3, y4, t4, rfl, rfl, rfl, rfl⟩ := HV.slices
  refine ⟨sp, y1, _, t1, y2, _, t2, y3, _, t3, y4, _, t4, rfl, ⟨by omega, _, HV.a1⟩, ⟨by omega, _, HV.a2⟩, ⟨by omega, _, HV.b1⟩, ⟨by omega, _, HV.b2⟩, HV.below, HV.ap1, HV.ap2, fun W' hb => ?_⟩
  refine (join_any (lf := n.leaf) ((owns_rd_s HV.a1).below hb) ((owns_rd_s HV.b1).below hb) ((owns_rd_s HV.a2).below hb) ((owns_rd_s HV.b2).below hb) p1.1 p2.1 p3.1 p4.1 p1.2 p2.2 p3.2 p4.2 sp).mono ?_
  rintro e w7 ⟨r, k, L, K, rfl, hj, hL, hK⟩
  obtain ⟨a5, c5, e5, _⟩ := owns_rd hj.o1
  obtain ⟨a6, c6, e6, _⟩ := owns_rd hj.o2
  subst e5
  subst e6
  exact ⟨a5, _, c5, a6, _, c6, rfl, ⟨by omega, _, hj.o1⟩, ⟨by omega, _, hj.o2⟩, hj.below⟩

theorem OwnS.base {B B' : Nat} {a : Option Addr} {n c : Nat} {W : World} (h : OwnS B a n c W) (hb : B' ≤ B) : OwnS B' a n c W := ⟨h.1, h.2.imp fun _ h => owns_base h hb⟩
theorem OwnI.base {B B' : Nat} {a : Option Addr} {n c : Nat} {W : World} (h : OwnI B a n c W) (hb : B' ≤ B) : OwnI B' a n c W := ⟨h.1, h.2.imp fun _ h => owns_base h hb⟩

/-- The variables a and b. -/
structure Two (w : World) (lf : Bool) (r1 k1 r2 k2 : Value) (W : World) : Prop where
  below : Below w.heap.size w W
  b1 : W.heap[w.heap.size]? = some (.cells #[.bool lf, r1, k1] 25 (0, 0))
  b2 : W.heap[w.heap.size + 1]? = some (.cells #[.bool lf, r2, k2] 25 (0, 0))

theorem Two.on {w : World} {lf : Bool} {r1 k1 r2 k2 : Value} {W W' : World} (h : Two w lf r1 k1 r2 k2 W) (hb : Below W.heap.size W W') : Two w lf r1 k1 r2 k2 W' :=
  ⟨below_on h.below hb, (hb.block _ (Array.getElem?_eq_some_iff.1 h.b1).1).trans h.b1, (hb.block _ (Array.getElem?_eq_some_iff.1 h.b2).1).trans h.b2⟩

theorem Two.new {w : World} {lf : Bool} {r1 k1 r2 k2 : Value} : Two w lf r1 k1 r2 k2 ((w.alloc (.cells #[.bool lf, r1, k1] 25)).alloc (.cells #[.bool lf, r2, k2] 25)) := by
  have z1 : (w.alloc (.cells #[.bool lf, r1, k1] 25)).heap.size = w.heap.size + 1 := by simp
  have B1 := below_alloc w (.cells #[.bool lf, r1, k1] 25)
  have B2 := below_alloc (w.alloc (.cells #[.bool lf, r1, k1] 25)) (.cells #[.bool lf, r2, k2] 25)
  refine ⟨below_on B1 B2, ?_, ?_⟩
  · rw [B2.block _ (by omega)]; exact heap_alloc_last _ _
  · rw [← z1]; exact heap_alloc_last _ _

theorem Two.cells {w : World} {lf : Bool} {r1 k1 r2 k2 : Value} {W : World} (h : Two w lf r1 k1 r2 k2 W) : W.cell? ⟨w.heap.size, 0, none⟩ = some (.bool lf) ∧ W.cell? ⟨w.heap.size, 1, none⟩ = some r1 ∧ W.cell? ⟨w.heap.size, 2, none⟩ = some k1 ∧ W.cell? ⟨w.heap.size + 1, 0, none⟩ = some (.bool lf) ∧ W.cell? ⟨w.heap.size + 1, 1, none⟩ = some r2 ∧ W.cell? ⟨w.heap.size + 1, 2, none⟩ = some k2 ∧ w.heap.size + 1 < W.heap.size := by
  refine ⟨?_, ?_, ?_, ?_, ?_, ?_, (Array.getElem?_eq_some_iff.1 h.b2).1⟩
  · rw [cell_of_row _ _ _ _ _ _ h.b1]; rfl
  · rw [cell_of_row _ _ _ _ _ _ h.b1]; rfl
  · rw [cell_of_row _ _ _ _ _ _ h.b1]; rfl
  · rw [cell_of_row _ _ _ _ _ _ h.b2]; rfl
  · rw [cell_of_row _ _ _ _ _ _ h.b2]; rfl
  · rw [cell_of_row _ _ _ _ _ _ h.b2]; rfl
end Go.Proofs.Ytgpahhlmpdnbpaa
