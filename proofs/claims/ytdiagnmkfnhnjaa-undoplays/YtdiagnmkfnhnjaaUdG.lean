/-
  Undo: the law's example; UndoNone's walk.
-/
import Derived.Test.YtdiagnmkfnhnjaaUdF
import Derived.Test.YtdiagnmkfnhnjaaUdR
namespace Go.Proofs.Ytdiagnmkfnhnjaa
open Go.RowKit Rw

def aB : ByteArray := ⟨#[97]⟩
def exE (n : Int) : RE := ⟨0, n, ⟨#[]⟩, none, 0, 0, none, 0, 0⟩
def exC (n : Int) : En := ⟨0, n, ⟨#[]⟩, [], []⟩
theorem exE_means (n : Int) (W : World) : MeansE W (exE n) (exC n) := ⟨rfl, rfl, rfl, rfl, rfl, Nat.zero_le _, Nat.zero_le _, Or.inl rfl, Or.inl rfl, fun _ => rfl, fun _ => rfl⟩

theorem backE_some {B l q : Nat} {v s : Value} {L : List PE} {S : List Sv} {name : ByteArray} {w w' : World} {e : Ending} {k : Nat} {x : Sv} (h : BackE B l q v s L S name w e w') (hx : S[k]? = some x) (hn : x.1 = name) (hl : ∀ (j : Nat) (y : Sv), k < j → S[j]? = some y → y.1 ≠ name) :
    ∃ vt v' s' : Value, e = .returned (.tuple #[vt, .int .i64 0]) ∧ BackO B l q k x.2 v s v' s' L S vt w w' := by
  rcases h with ⟨-, hno, -⟩ | ⟨k', x', vt, v', s', he, hx', hn', hl', hb⟩
  · exact absurd hn (hno x (List.mem_of_getElem? hx))
  · have hk : k' = k := by
      rcases Nat.lt_trichotomy k' k with h | h | h
      · exact absurd hn (hl' k x h hx)
      · exact h
      · exact absurd hn' (hl k' x' h hx')
    subst hk
    rw [hx] at hx'
    cases hx'
    exact ⟨vt, v', s', he, hb⟩

set_option maxRecDepth 100000 in
set_option maxHeartbeats 2000000 in
theorem awake_walk (w : World) : Calls Try.prog 6 #[] w fun e w' => e = .returned (.bool true) ∧ Below w.heap.size w w' := by
  go_enter Try.func6, Try.ntmps6
  go_wp2_with fail
  refine (new_walk 9 (by decide) w).mono ?_
  rintro e W1 ⟨rfl, rfl⟩
  have HL := dhid (lg_new (Below.refl w.heap.size w) 9)
  have HB : Hid (Below w.heap.size w (w.alloc (.cells #[.int .i64 ((9 : Nat) : Int), .slice none 0 0, .slice none 0 0] 64))) := below_alloc _ _
  generalize w.alloc (.cells #[.int .i64 ((9 : Nat) : Int), .slice none 0 0, .slice none 0 0] 64) = W1 at *
  go_wp2_with fail
  refine (add_walk (r := exE 1) HL.out (exE_means 1 _) (by simp) (by simp)).mono ?_
  rintro e W2 ⟨rfl, r1, v1, L2, B2, -, -⟩
  have HL2 := dhid L2
  have HB2 := dhid (HB.out.trans B2)
  clear HL HB L2 B2
  go_wp2_with fail
  refine (save_walk (name := aB) HL2.out (by simp)).mono ?_
  rintro e W3 ⟨rfl, s3, L3, B3, -⟩
  have HL3 := dhid L3
  have HB3 := dhid (HB2.out.trans B3)
  clear HL2 HB2 L3 B3
  go_wp2_with fail
  refine (add_walk (r := exE 2) HL3.out (exE_means 2 _) (by simp) (by simp)).mono ?_
  rintro e W4 ⟨rfl, r2, v4, L4, B4, -, -⟩
  have HL4 := dhid L4
  have HB4 := dhid (HB3.out.trans B4)
  clear HL3 HB3 L4 B4
  go_wp2_with fail
  refine (add_walk (r := exE 3) HL4.out (exE_means 3 _) (by simp) (by simp)).mono ?_
  rintro e W5 ⟨rfl, r3, v5, L5, B5, -, -⟩
  have HL5 := dhid L5
  have HB5 := dhid (HB4.out.trans B5)
  clear HL4 HB4 L5 B5
  go_wp2_with fail
  refine (back_walk (name := aB) HL5.out (by simp) (by simp)).mono ?_
  intro e W6 h6
  obtain ⟨vt, v6, s6, rfl, O6⟩ := backE_some (k := 0) (x := (aB, 1)) h6 rfl rfl (fun j y hj hy => by rcases j with _ | j <;> simp at hj hy)
  have HB6 := dhid (HB5.out.trans O6.below)
  have HL6 := dhid O6.lg
  have hid3 : r3.id = 3 := (O6.lone.all (r3, exC 3) (by simp)).id
  have ot : W6.ownsRow W5.heap.size 35 5 vt 2 (flat peC [(r3, exC 3), (r2, exC 2)]) := O6.tak
  obtain ⟨at6, ct6, rfl⟩ := owns_slice ot
  rcases owns_addr ot with ⟨-, h0, -⟩ | ⟨g6, rfl⟩
  · cases h0
  have hc6 : W6.cell? ⟨g6, 0 * 5 + 1, none⟩ = some (.int .i64 r3.id) := own_at peC_len ot (j := 0) rfl (i := 1) rfl
  have hg6 := (own_fro ot 0).2
  rw [hid3, Nat.zero_mul, Nat.zero_add] at hc6
  have hne6 : v6.ownBlock ≠ some g6 := fun e => by
    rw [O6.vb] at e
    have h1 := (HL5.out.own.lt g6 e).2
    have h2 := (ot.lt g6 rfl).1
    omega
  have hns6 : s6.ownBlock ≠ some g6 := fun e => by
    obtain ⟨cur, hc⟩ := owns_block ot (q := g6) rfl
    exact owns_far O6.lg.sav hc (by decide) e
  have hnl6 : g6 ≠ w.heap.size := fun e => by
    obtain ⟨cur, hc⟩ := owns_block ot (q := g6) rfl
    rw [e, O6.lg.box] at hc
    cases hc
  clear h6 O6 HL5 HB5 ot hid3
  go_wp2_with fail
  refine (back_walk (name := aB) HL6.out (by simp) (by simp)).mono ?_
  intro e W7 h7
  obtain ⟨vt7, v7, s7, rfl, O7⟩ := backE_some (k := 0) (x := (aB, 1)) h7 rfl rfl (fun j y hj hy => by rcases j with _ | j <;> simp at hj hy)
  have HB7 := dhid (HB6.out.trans O7.below)
  have ot7 : W7.ownsRow W6.heap.size 35 5 vt7 0 (flat peC []) := O7.tak
  obtain ⟨at7, ct7, rfl⟩ := owns_slice ot7
  obtain ⟨-, x1, -, -, -, -, xl⟩ := O7.lg.facts
  obtain ⟨a7, c7, rfl⟩ := owns_slice O7.lg.own
  have x1' : W7.cell? ⟨w.heap.size, 1, none⟩ = some (.slice a7 1 c7) := x1
  have hc7 : W7.cell? ⟨g6, 1, none⟩ = some (.int .i64 3) := by
    rw [World.cell?_of_block (w := W6) (w' := W7) (a := ⟨g6, 1, none⟩) (O7.keeps g6 hg6 hnl6 hne6 hns6)]; exact hc6
  clear h7 O7 HL6 HB6 x1 hc6 hg6 hne6 hns6 hnl6 ot7
  go_wp2_with fail
  refine (len_walk x1').mono ?_
  rintro e W8 ⟨rfl, rfl⟩
  go_wp2
  go_ret
  exact ⟨rfl, HB7.out⟩

set_option maxRecDepth 100000 in
set_option maxHeartbeats 2000000 in
theorem none_walk (x : OpD) (w : World) : Calls Try.prog 4 #[opV x] w fun e w' => e = .returned (.bool true) ∧ Below w.heap.size w w' := by
  unfold opV
  go_enter Try.func4, Try.ntmps4
  go_wp2_with fail
  refine (awake_walk _).mono ?_
  rintro e W1 ⟨rfl, B1⟩
  have HB : Hid (Below w.heap.size w W1) := (below_alloc w _).trans (B1.mono (by simp))
  have hb : W1.heap[w.heap.size]? = some (.cells #[.int .i64 x.k, .int .i64 x.n, .string x.s, .int .i64 x.e.1.k, .int .i64 x.e.1.id, .string x.e.1.t, .slice x.e.1.oa x.e.1.ol x.e.1.oc, .slice x.e.1.na x.e.1.nl x.e.1.nc] 37 (0, 0)) := by
    rw [B1.block _ (by simp), heap_new]
  have c0 : W1.cell? ⟨w.heap.size, 1, none⟩ = some (.int .i64 x.n) := cell_of_row _ _ _ _ _ _ hb
  have c1 : W1.cell? ⟨w.heap.size, 2, none⟩ = some (.string x.s) := cell_of_row _ _ _ _ _ _ hb
  have c2 : W1.cell? ⟨w.heap.size, 3, none⟩ = some (.int .i64 x.e.1.k) := cell_of_row _ _ _ _ _ _ hb
  have c3 : W1.cell? ⟨w.heap.size, 4, none⟩ = some (.int .i64 x.e.1.id) := cell_of_row _ _ _ _ _ _ hb
  have c4 : W1.cell? ⟨w.heap.size, 5, none⟩ = some (.string x.e.1.t) := cell_of_row _ _ _ _ _ _ hb
  have c5 : W1.cell? ⟨w.heap.size, 6, none⟩ = some (.slice x.e.1.oa x.e.1.ol x.e.1.oc) := cell_of_row _ _ _ _ _ _ hb
  have c6 : W1.cell? ⟨w.heap.size, 7, none⟩ = some (.slice x.e.1.na x.e.1.nl x.e.1.nc) := cell_of_row _ _ _ _ _ _ hb
  have hbl : w.heap.size < W1.heap.size := (Array.getElem?_eq_some_iff.1 hb).1
  clear B1 hb

  go_wp2_with fail
  refine (save_nil _ _).mono ?_
  rintro e W2 ⟨rfl, rfl⟩
  go_wp2_with fail
  refine (back_nil _ _).mono ?_
  rintro e W3 ⟨rfl, rfl⟩
  go_wp2_with fail
  refine (add_nil x.e.1 _).mono ?_
  rintro e W4 ⟨rfl, B4⟩
  have HB4 := dhid (HB.out.trans (B4.mono (by have := HB.out.size; omega)))
  have d0 := (B4.cell (p := ⟨w.heap.size, 1, none⟩) hbl).trans c0
  have hbl4 : w.heap.size < W4.heap.size := Nat.lt_of_lt_of_le hbl B4.size
  clear B4 HB c0 c1 c2 c3 c4 c5 c6 hbl
  go_wp2_with (first | (go_at_call 19; refine (len_nil _).mono ?_; rintro e w' ⟨rfl, rfl⟩) | (go_at_call 17; refine (to_nil _ _).mono ?_; rintro e w' ⟨rfl, rfl⟩) | (go_at_call 22; refine (saves_nil _).mono ?_; rintro e w' ⟨rfl, rfl⟩))
  go_ret
  exact ⟨rfl, HB4.out⟩
end Go.Proofs.Ytdiagnmkfnhnjaa
