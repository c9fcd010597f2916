/-
  First, over the steps within a step, each by itself.
-/
import Derived.Test.YtlkodnhkhhgimaaRunsG
namespace Go.Proofs.Ytlkodnhkhhgimaa
open Go.RowKit

/-- The function value of the j-th step. -/
abbrev fnR (BB SB : Nat) (ib : Nat → Nat) (j : Nat) : Value := .func (.func 31) #[] #[.pointer (some ⟨BB, 0, none⟩), .pointer (some ⟨SB, 0, none⟩), .pointer (some ⟨ib j, 0, none⟩)]

/-- What holds at the head of a round in which the functions are gathered. -/
structure RRnd (BB SB : Nat) (W0 : World) (v : Value) (k : Nat) (ib : Nat → Nat) (W : World) : Prop where
  row : W.ownsRow W0.heap.size 1 1 v k ((List.range k).map (fnR BB SB ib))
  boxes : ∀ j, j < k → W.heap[ib j]? = some (box j)
  below : Below W0.heap.size W0 W

theorem RRnd.other {BB SB : Nat} {W0 : World} {v : Value} {k : Nat} {ib : Nat → Nat} {W : World} (h : RRnd BB SB W0 v k ib W) {b : Nat} {n : Int} (hb : W.heap[b]? = some (box n)) : some b ≠ v.ownBlock := by
  intro e
  rcases h.row.2 with ⟨rfl, -⟩ | ⟨g, cap, cur, rfl, -, hg, -⟩
  · simp [Value.ownBlock] at e
  · simp [Value.ownBlock] at e
    subst e
    rw [hg] at hb
    simp [box] at hb

abbrev aheadR (BB SB : Nat) (W : World) (k : Nat) : World :=
  (W.alloc (.cells #[.int .i64 k] 3)).alloc (.cells #[.func (.func 31) #[] #[.pointer (some ⟨BB, 0, none⟩), .pointer (some ⟨SB, 0, none⟩), .pointer (some ⟨W.heap.size, 0, none⟩)]] 1)

theorem RRnd.next {BB SB : Nat} {W0 : World} {v v' : Value} {k : Nat} {ib : Nat → Nat} {W w1 : World} (h : RRnd BB SB W0 v k ib W) {B : Nat} (hB : B = W0.heap.size)
    (hown : w1.ownsRow B 1 1 v' (k + 1) ((List.range k).map (fnR BB SB ib) ++ [.func (.func 31) #[] #[.pointer (some ⟨BB, 0, none⟩), .pointer (some ⟨SB, 0, none⟩), .pointer (some ⟨W.heap.size, 0, none⟩)]]))
    (hg : (aheadR BB SB W k).grownBy w1 v.ownBlock) : ∃ ib', RRnd BB SB W0 v' (k + 1) ib' w1 := by
  subst hB
  have hz := h.below.size
  have a1 : ∀ b, b < W.heap.size → (aheadR BB SB W k).heap[b]? = W.heap[b]? := fun b hb => by
    rw [Below.heap_alloc _ _ _ (by simp; omega), Below.heap_alloc _ _ _ hb]
  have a2 : (aheadR BB SB W k).heap[W.heap.size]? = some (box k) := by
    rw [Below.heap_alloc _ _ _ (by simp)]
    exact heap_alloc_new W _
  have keep : ∀ b n, W.heap[b]? = some (box n) → w1.heap[b]? = some (box n) := fun b n hb => by
    have hl := lt_of_block hb
    rw [hg.block b (by simp; omega) (h.other hb), a1 b hl]; exact hb
  have ownlt : ∀ b, W.heap.size ≤ b → some b ≠ v.ownBlock := fun b hb e => by
    have := (h.row.lt b e.symm).2
    omega
  refine ⟨fun j => if j = k then W.heap.size else ib j, ?_, fun j hj => ?_, ?_⟩
  · have e : (List.range (k + 1)).map (fnR BB SB (fun j => if j = k then W.heap.size else ib j)) =
        (List.range k).map (fnR BB SB ib) ++ [.func (.func 31) #[] #[.pointer (some ⟨BB, 0, none⟩), .pointer (some ⟨SB, 0, none⟩), .pointer (some ⟨W.heap.size, 0, none⟩)]] := by
      rw [List.range_succ, List.map_append]
      congr 1
      · apply List.map_congr_left
        intro j hj
        have hj' : j ≠ k := by have := List.mem_range.1 hj; omega
        simp [fnR, hj']
      · simp [fnR]
    rw [e]
    exact hown
  · by_cases e : j = k
    · subst e
      simp only [if_true]
      rw [hg.block _ (by simp; omega) (ownlt _ (by omega)), a2]
    · simp only [if_neg e]
      exact keep _ _ (h.boxes j (by omega))
  · refine h.below.trans ?_
    exact Below.trans (((Below.refl _ W).alloc hz _).alloc (by simp; omega) _) ((Below.refl _ _).grown hg (by simp; omega) fun b e => (h.row.lt b e).1)


theorem first_in {w0 : World} {bk N : Nat} (hbk : w0.heap.size ≤ bk) (ih : RunSaid w0 bk N) (BB SB : Nat) {k n a : Int} {x1 x2 : Option Addr} {c1 c2 : Nat} {i b : List Stp} (s : Bk) (h1 : szL i < N) (h2 : szL i ≤ 1000000) (h3 : s.ms.length + 2 * szL i ≤ 4000000) (h4 : i.length ≤ c1) (h5 : StepsAt w0 x1 i) (w : World) (hb : Below w0.heap.size w0 w) (hP : (bkSt w0.heap.size bk).P s w)
    (hB : w.heap[BB]? = some (bbox bk)) (hS : w.heap[SB]? = some (stepO k n a x1 i.length c1 x2 b.length c2)) (W0 : World) (v : Value) (ib : Nat → Nat) (hR : RRnd BB SB W0 v i.length ib w) :
    Calls Try.prog 22 #[v] w fun e w' => ∃ v', e = .returned (.tuple #[.int .i64 (firL i 0).2.1, faultV (firL i 0).2.2.1 (firL i 0).2.2.2]) ∧
      (bkSt w0.heap.size bk).P ⟨v', s.ms ++ (firL i 0).1⟩ w' ∧ Moves (bkSt w0.heap.size bk) s ⟨v', s.ms ++ (firL i 0).1⟩ w w' := by
  have hli := len_le_sz i
  have hrow : ∃ sl cap, v = .slice sl i.length cap ∧ FnRow w ((bkSt w0.heap.size bk).own s) sl i.length (fun _ => 31) (fun j => #[.pointer (some ⟨BB, 0, none⟩), .pointer (some ⟨SB, 0, none⟩), .pointer (some ⟨ib j, 0, none⟩)]) := by
    rcases hR.row.2 with ⟨rfl, e⟩ | ⟨g, cap, cur, rfl, -, hg, -⟩
    · exact ⟨_, _, by rw [e], Or.inl e⟩
    · refine ⟨_, _, rfl, Or.inr ⟨g, 0, rfl, lt_of_block hg, not_own hP (by decide) (by decide) hg, fun j hj => ?_⟩⟩
      have := hR.row.cells (g := g) rfl j (fnR BB SB ib j) (by simp [hj])
      rw [show ((⟨g, 0, none⟩ : Addr).add j) = ⟨g, 0 + j, none⟩ from by unfold Addr.add; split <;> simp_all] at this
      exact this
  obtain ⟨sl, cap, rfl, hfn⟩ := hrow
  refine (first_st (bkSt w0.heap.size bk) i.length (by omega) (fun _ => 31) _ (fun j _ => calls_r4) sl cap w s hP hfn
    (fun j s' => ∃ d r ns, i = d ++ r ∧ d.length = j ∧ s'.ms = s.ms ++ ns ∧ ns.length + 2 * szL r ≤ 2 * szL i ∧ firL i 0 = (ns ++ (firL r j).1, (firL r j).2))
    (fun j c a s' => s'.ms = s.ms ++ (firL i 0).1 ∧ (firL i 0).2 = ((j : Int), c, a)) ⟨[], i, [], rfl, rfl, by simp, by simp, by simp⟩ ?_).mono ?_
  · rintro j hj W s' ⟨d, r, ns, hi, hd, hms, hfew, hsum⟩ hP' hm
    cases r with
    | nil => rw [List.append_nil] at hi; subst hi; omega
    | cons t r =>
      have hst := runS_len t
      simp only [szL] at hfew
      have hD := r4_does ih BB SB (k := k) (n := n) (a := a) (x2 := x2) (c2 := c2) (b := b) s' (ib j) d r t hi h1 h2 (by rw [hms]; simp; omega) h4 h5 W (below_moves hbk hb hP hm) hP' (keep_block hP hm (by decide) (by decide) hB) (keep_block hP hm (by decide) (by decide) hS)
        (by rw [hd]; exact keep_block hP hm (by decide) (by decide) (hR.boxes j hj))
      refine hD.mono ?_
      rintro e w1 ⟨s2, ⟨hms2, hout⟩, hP2, hm2, -⟩
      rw [runL_one] at hms2 hout
      refine ⟨s2, hP2, hm2, ?_⟩
      rcases hout with ⟨h0, rfl⟩ | ⟨h0, rfl⟩
      · left
        refine ⟨rfl, d ++ [t], r, ns ++ (runS t).1, by rw [hi]; simp, by simp [hd], by rw [hms2, hms]; simp, by simp; omega, ?_⟩
        rw [hsum]
        simp [firL, h0]
      · right
        refine ⟨_, _, rfl, ?_, ?_⟩
        · rw [hms2, hms, hsum]; simp [firL, h0]
        · rw [hsum]; simp [firL, h0]
  · rintro e w' ⟨s', hP', hm, hT⟩
    cases s' with
    | mk v' ms' =>
      rcases hT with ⟨rfl, d, r, ns, hi, hd, hms, -, hsum⟩ | ⟨j, c, a', hj, rfl, hms, hsum⟩
      · have hr : r = [] := by
          have : i.length = d.length + r.length := by rw [hi]; simp
          exact List.eq_nil_of_length_eq_zero (by omega)
        subst hr
        simp only at hms
        simp only [firL, List.append_nil] at hsum
        rw [hsum]
        subst hms
        exact ⟨v', rfl, hP', hm⟩
      · simp only at hms
        subst hms
        rw [hsum]
        exact ⟨v', rfl, hP', hm⟩

end Go.Proofs.Ytlkodnhkhhgimaa
