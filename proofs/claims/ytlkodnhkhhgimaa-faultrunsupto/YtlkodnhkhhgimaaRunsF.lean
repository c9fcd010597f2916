/-
  The functions that the book's run hands in, and what Catch and Undo make of them.
-/
import Derived.Test.YtlkodnhkhhgimaaRunsE
import Derived.Test.YtlkodnhkhhgimaaFirstA
namespace Go.Proofs.Ytlkodnhkhhgimaa
open Go.RowKit

/-- How a call ends, by its code and place. -/
def Outc (c a : Int) (e : Ending) : Prop := (c = 0 ∧ e = .returned (.tuple #[])) ∨ (c ≠ 0 ∧ e = .panicked (stopped c a))

theorem Outc.came {c a : Int} {e : Ending} (h : Outc c a e) : ∃ c a t, Came e c a t := by
  rcases h with ⟨-, rfl⟩ | ⟨-, rfl⟩
  · exact ⟨_, _, _, .done⟩
  · exact ⟨_, _, _, .stop c a⟩

theorem Outc.fault {c a c' a' : Int} {t : Bool} {e : Ending} (h : Outc c a e) (hz : c = 0 → a = 0) (hc : Came e c' a' t) : c' = c ∧ a' = a ∧ (t = true ↔ c ≠ 0) := by
  rcases h with ⟨h0, rfl⟩ | ⟨h0, rfl⟩
  · cases hc
    exact ⟨h0.symm, (hz h0).symm, by simp [h0]⟩
  · generalize hx : Ending.panicked (stopped c a) = e at hc
    cases hc with
    | done => simp at hx
    | stop c' a' =>
      simp [stopped, faultV] at hx
      exact ⟨hx.1.symm, hx.2.symm, by simp [h0]⟩

/-- What a call of run does, of lists of fewer than N steps in all. -/
def RunSaid (w0 : World) (bk : Nat) (N : Nat) : Prop := ∀ (l : List Stp) (x : Option Addr) (c : Nat) (w : World) (s : Bk), szL l < N → szL l ≤ 1000000 → s.ms.length + 2 * szL l ≤ 4000000 → l.length ≤ c → StepsAt w0 x l → Below w0.heap.size w0 w →
    (bkSt w0.heap.size bk).P s w → Calls Try.prog 11 #[.pointer (some ⟨bk, 0, none⟩), .slice x l.length c] w fun e w' => ∃ v', (bkSt w0.heap.size bk).P ⟨v', s.ms ++ (runL l).1⟩ w' ∧ Moves (bkSt w0.heap.size bk) s ⟨v', s.ms ++ (runL l).1⟩ w w' ∧ Outc (runL l).2.1 (runL l).2.2 e

theorem below_moves {w0 : World} {bk : Nat} (hbk : w0.heap.size ≤ bk) {s s' : Bk} {w w' : World} (hb : Below w0.heap.size w0 w) (hP : (bkSt w0.heap.size bk).P s w) (hm : Moves (bkSt w0.heap.size bk) s s' w w') : Below w0.heap.size w0 w' :=
  hb.trans (hm.only.below hb.size fun k hk ho => by
    rcases ho with rfl | e
    · omega
    · have := (hP.2.lt k e.symm).1; omega)

/-- The variable b of run. -/
abbrev bbox (bk : Nat) : Obj := .cells #[.pointer (some ⟨bk, 0, none⟩)] 25 (0, 0)

theorem calls_r1 (args : Array Value) (w : World) : (callFunc 28 args).run Try.prog w = .ok (.enter 28 args) w := by simp [go_sem]
theorem calls_r2 (args : Array Value) (w : World) : (callFunc 29 args).run Try.prog w = .ok (.enter 29 args) w := by simp [go_sem]
theorem calls_r3 (args : Array Value) (w : World) : (callFunc 30 args).run Try.prog w = .ok (.enter 30 args) w := by simp [go_sem]
theorem calls_r4 (args : Array Value) (w : World) : (callFunc 31 args).run Try.prog w = .ok (.enter 31 args) w := by simp [go_sem]

/-- What a function that is handed in does: what a list of steps does. -/
def Does (w0 : World) (bk : Nat) (g : FuncId) (cap : Array Value) (l : List Stp) (s : Bk) (W : World) : Prop :=
  Calls Try.prog g cap W fun e w1 => ∃ s' : Bk, (s'.ms = s.ms ++ (runL l).1 ∧ Outc (runL l).2.1 (runL l).2.2 e) ∧ (bkSt w0.heap.size bk).P s' w1 ∧ Moves (bkSt w0.heap.size bk) s s' W w1 ∧ ∃ c a t, Came e c a t

theorem does_of {w0 : World} {bk : Nat} {l : List Stp} {s : Bk} {W : World} {e : Ending} {w1 : World} (h : ∃ v', (bkSt w0.heap.size bk).P ⟨v', s.ms ++ (runL l).1⟩ w1 ∧ Moves (bkSt w0.heap.size bk) s ⟨v', s.ms ++ (runL l).1⟩ W w1 ∧ Outc (runL l).2.1 (runL l).2.2 e) :
    ∃ s' : Bk, (s'.ms = s.ms ++ (runL l).1 ∧ Outc (runL l).2.1 (runL l).2.2 e) ∧ (bkSt w0.heap.size bk).P s' w1 ∧ Moves (bkSt w0.heap.size bk) s s' W w1 ∧ ∃ c a t, Came e c a t := by
  obtain ⟨v', h1, h2, h3⟩ := h
  exact ⟨_, ⟨rfl, h3⟩, h1, h2, h3.came⟩


theorem r1_does {w0 : World} {bk N : Nat} (ih : RunSaid w0 bk N) (BB SB : Nat) {k n a : Int} {x1 x2 : Option Addr} {c1 c2 : Nat} {i b : List Stp} (s : Bk) (h1 : szL i < N) (h2 : szL i ≤ 1000000) (h3 : s.ms.length + 2 * szL i ≤ 4000000) (h4 : i.length ≤ c1) (h5 : StepsAt w0 x1 i) (W : World) (hb : Below w0.heap.size w0 W) (hP : (bkSt w0.heap.size bk).P s W)
    (hB : W.heap[BB]? = some (bbox bk)) (hS : W.heap[SB]? = some (stepO k n a x1 i.length c1 x2 b.length c2)) : Does w0 bk 28 #[.pointer (some ⟨BB, 0, none⟩), .pointer (some ⟨SB, 0, none⟩)] i s W := by
  have C := hide (ih i x1 c1 W s h1 h2 h3 h4 h5 hb hP)
  have e1 := cell_of_one hB
  have e2 := (step_cells hS).2.2.2.1
  clear ih h1 h2 h3 h4 h5 hb hP hB hS
  unfold Does
  go_enter Try.func28, Try.ntmps28
  go_wp2_with fail
  refine (unhide C).mono ?_
  rintro e w1 ⟨v', h1, h2, h3⟩
  rcases h3 with ⟨h0, rfl⟩ | ⟨h0, rfl⟩
  · go_wp2_with fail
    go_end0
    exact does_of ⟨v', h1, h2, Or.inl ⟨h0, rfl⟩⟩
  · exact ⟨rfl, does_of ⟨v', h1, h2, Or.inr ⟨h0, rfl⟩⟩⟩

theorem r2_does {w0 : World} {bk N : Nat} (ih : RunSaid w0 bk N) (BB SB : Nat) {k n a : Int} {x1 x2 : Option Addr} {c1 c2 : Nat} {i b : List Stp} (s : Bk) (h1 : szL i < N) (h2 : szL i ≤ 1000000) (h3 : s.ms.length + 2 * szL i ≤ 4000000) (h4 : i.length ≤ c1) (h5 : StepsAt w0 x1 i) (W : World) (hb : Below w0.heap.size w0 W) (hP : (bkSt w0.heap.size bk).P s W)
    (hB : W.heap[BB]? = some (bbox bk)) (hS : W.heap[SB]? = some (stepO k n a x1 i.length c1 x2 b.length c2)) : Does w0 bk 29 #[.pointer (some ⟨BB, 0, none⟩), .pointer (some ⟨SB, 0, none⟩)] i s W := by
  have C := hide (ih i x1 c1 W s h1 h2 h3 h4 h5 hb hP)
  have e1 := cell_of_one hB
  have e2 := (step_cells hS).2.2.2.1
  clear ih h1 h2 h3 h4 h5 hb hP hB hS
  unfold Does
  go_enter Try.func29, Try.ntmps29
  go_wp2_with fail
  refine (unhide C).mono ?_
  rintro e w1 ⟨v', h1, h2, h3⟩
  rcases h3 with ⟨h0, rfl⟩ | ⟨h0, rfl⟩
  · go_wp2_with fail
    go_end0
    exact does_of ⟨v', h1, h2, Or.inl ⟨h0, rfl⟩⟩
  · exact ⟨rfl, does_of ⟨v', h1, h2, Or.inr ⟨h0, rfl⟩⟩⟩

theorem r3_does {w0 : World} {bk N : Nat} (ih : RunSaid w0 bk N) (BB SB : Nat) {k n a : Int} {x1 x2 : Option Addr} {c1 c2 : Nat} {i b : List Stp} (s : Bk) (h1 : szL b < N) (h2 : szL b ≤ 1000000) (h3 : s.ms.length + 2 * szL b ≤ 4000000) (h4 : b.length ≤ c2) (h5 : StepsAt w0 x2 b) (W : World) (hb : Below w0.heap.size w0 W) (hP : (bkSt w0.heap.size bk).P s W)
    (hB : W.heap[BB]? = some (bbox bk)) (hS : W.heap[SB]? = some (stepO k n a x1 i.length c1 x2 b.length c2)) : Does w0 bk 30 #[.pointer (some ⟨BB, 0, none⟩), .pointer (some ⟨SB, 0, none⟩)] b s W := by
  have C := hide (ih b x2 c2 W s h1 h2 h3 h4 h5 hb hP)
  have e1 := cell_of_one hB
  have e2 := (step_cells hS).2.2.2.2
  clear ih h1 h2 h3 h4 h5 hb hP hB hS
  unfold Does
  go_enter Try.func30, Try.ntmps30
  go_wp2_with fail
  refine (unhide C).mono ?_
  rintro e w1 ⟨v', h1, h2, h3⟩
  rcases h3 with ⟨h0, rfl⟩ | ⟨h0, rfl⟩
  · go_wp2_with fail
    go_end0
    exact does_of ⟨v', h1, h2, Or.inl ⟨h0, rfl⟩⟩
  · exact ⟨rfl, does_of ⟨v', h1, h2, Or.inr ⟨h0, rfl⟩⟩⟩

set_option maxHeartbeats 4000000 in
/-- The j-th step of i by itself. -/
theorem r4_does {w0 : World} {bk N : Nat} (ih : RunSaid w0 bk N) (BB SB : Nat) {k n a : Int} {x1 x2 : Option Addr} {c1 c2 : Nat} {i b : List Stp} (s : Bk) (IB : Nat) (d r : List Stp) (t : Stp) (hi : i = d ++ t :: r) (h1 : szL i < N) (h2 : szL i ≤ 1000000) (h3 : s.ms.length + 2 * szS t ≤ 4000000) (h4 : i.length ≤ c1) (h5 : StepsAt w0 x1 i) (W : World) (hb : Below w0.heap.size w0 W) (hP : (bkSt w0.heap.size bk).P s W)
    (hB : W.heap[BB]? = some (bbox bk)) (hS : W.heap[SB]? = some (stepO k n a x1 i.length c1 x2 b.length c2)) (hI : W.heap[IB]? = some (box d.length)) : Does w0 bk 31 #[.pointer (some ⟨BB, 0, none⟩), .pointer (some ⟨SB, 0, none⟩), .pointer (some ⟨IB, 0, none⟩)] [t] s W := by
  have hlen : d.length < i.length := by rw [hi]; simp
  have hli := len_le_sz i
  have hsz : szS t ≤ szL i := by rw [hi, szL_append]; simp only [szL]; omega
  obtain ⟨b1, o1, rfl, hst⟩ := (hi ▸ h5).at
  have hst' : StepsAt w0 (some ⟨b1, o1 + d.length * 5, none⟩) [t] := ⟨b1, o1 + d.length * 5, rfl, by rw [show o1 + d.length * 5 = o1 + 5 * d.length by omega]; exact hst, trivial⟩
  have C := hide (ih [t] _ (c1 - d.length) W.drew s (by simp only [szL]; omega) (by simp only [szL]; omega) (by simp only [szL]; omega) (by simp; omega) hst' hb.drew ((bkSt w0.heap.size bk).below hP (Below.refl _ _).drew))
  have e1 := cell_of_one hB
  have e2 := (step_cells hS).2.2.2.1
  have e3 := cell_of_one hI
  clear ih h1 h5 hb hP hB hS hI hst hst' hi
  unfold Does
  go_enter Try.func31, Try.ntmps31
  go_wp2_with fail
  have s0 : (d.length : Int) ≤ 1000000 := by omega
  have s1 : (0 : Int) ≤ d.length := by omega
  have s2 : (d.length : Int) ≤ d.length + 1 := by omega
  have s3 : (d.length : Int) + 1 ≤ c1 := by omega
  have s4 : ¬ c1 = d.length := by omega
  have s5 : ((d.length : Int) + 1).toNat = d.length + 1 := by omega
  have s6 : d.length + 1 - d.length = 1 := by omega
  have s7 : IntKind.i64.wrap ((d.length : Int) + 1) = (d.length : Int) + 1 := wrap_small _ (by omega) (by omega)
  have HM : Hid (∀ v' w1, Moves (bkSt w0.heap.size bk) s ⟨v', s.ms ++ (runL [t]).1⟩ W.drew w1 → Moves (bkSt w0.heap.size bk) s ⟨v', s.ms ++ (runL [t]).1⟩ W w1) := fun v' w1 h => (Moves.below (Below.refl _ _).drew).trans h
  go_region_with (go_at_call 11; refine (unhide C).mono ?_; rintro e w1 ⟨v', h1, h2, ⟨h0, rfl⟩ | ⟨h0, rfl⟩⟩; rotate_left; exact ⟨rfl, does_of ⟨v', h1, unhide HM v' w1 h2, Or.inr ⟨h0, rfl⟩⟩⟩; have HQ := hide (And.intro h0 (And.intro h1 h2)); clear h0 h1 h2)
  all_goals
    go_end0
    exact does_of ⟨v', (unhide HQ).2.1, unhide HM v' w1 (unhide HQ).2.2, Or.inl ⟨(unhide HQ).1, rfl⟩⟩

end Go.Proofs.Ytlkodnhkhhgimaa
