/-
  Numbers gathered beside an arena; Same.
-/
import Derived.Test.YtcoehlnmaehhjaaArH
import Derived.Test.YtcoehlnmaehhjaaScrR
namespace Go.Proofs.Ytcoehlnmaehhjaa
open Go.RowKit

/-- More numbers in a row. -/
theorem append_ints {ops : Array Oper} {rest : List Oper} {o : Oper} {a : Act} {Q : Exit → Act → World → Prop} {W1 : World} (hgd : o.guard = none) (s x : Operand) (ho : o.op = .call { callee := .builtin .append, args := #[s, x], argTypes := #[45, 45] })
    (v : Value) (l : List Nat) (hs : a.eval s = v) (h : IS 0 W1 v l) (hl : l.length ≤ 100000) (ad : Addr) (news : List Nat) (m cap : Nat) (hx : a.eval x = .slice (some ad) m cap) (hm : news.length = m) (hml : m ≤ 100000) (hc : ∀ j u, (news.map nv)[j]? = some u → W1.cell? (ad.add j) = some u)
    (hK : ∀ v' W', IS 0 W' v' (l ++ news) → W1.grownBy W' v.ownBlock → (∀ k, v'.ownBlock = some k → v.ownBlock = some k ∨ W1.heap.size ≤ k) → wpList Try.prog ops Q rest (a.put o.dst v') W') : wpList Try.prog ops Q (o :: rest) a W1 := by
  obtain ⟨i, hi, hz⟩ : ∃ i, Try.prog.info? 3 = some i ∧ (i.zero, i.size, i.bytes) = (some (.int .i64 0), 1, 8) :=
    Option.map_eq_some_iff.1 (show (Try.prog.info? 3).map (fun i => (i.zero, i.size, i.bytes)) = some (some (.int .i64 0), 1, 8) by kernel_rfl)
  simp only [Prod.mk.injEq] at hz
  obtain ⟨h1, h2, h3⟩ := hz
  refine wpList_append_own_at (P := Try.prog) W1 hgd s x 45 ho 0 3 i _ 1 8 Try.underlying45 hi h1 h2 h3 rfl (by decide) v l.length (l.map nv) hs h ad m cap (news.map nv) hx (by simp [hm]) hc (fun y hy => ?_) (by unfold maxLen; omega) (by omega) (Nat.zero_le _) ?_
  · obtain ⟨z, _, rfl⟩ := List.mem_map.1 hy
    rfl
  · intro v' W' hown hg _ hat
    refine hK v' W' ?_ hg (fun k hk => ?_)
    · unfold IS
      rw [List.map_append, List.length_append, hm]
      exact hown
    · rcases hat with hat | hat
      · rw [hat] at hk; exact Or.inl hk
      · rw [hat] at hk; cases hk; exact Or.inr (Nat.le_refl _)

/-- Numbers beside an arena that began as s0 in w0. -/
def DΦ (s0 : Ar) (w0 : World) (v : Value) (l : List Nat) (s : Ar) (w : World) : Prop := IS 0 w v l ∧ (∀ k, v.ownBlock = some k → ¬ s.own k) ∧ (∀ k, v.ownBlock = some k → w0.heap.size ≤ k) ∧ Moves arSt s0 s w0 w

theorem dStable (s0 : Ar) (w0 : World) (v : Value) (l : List Nat) : Stable (DΦ s0 w0 v l) := by
  rintro s s' w w' h ⟨h1, h2, h3, h4⟩ h' hp hm
  have hlt : ∀ k, v.ownBlock = some k → k < w.heap.size := fun k hk => (World.ownsRow.lt h1 k hk).2
  refine ⟨owns_of_block h1 fun k hk => hm.only.block k (hlt k hk) (h2 k hk), fun k hk x => ?_, h3, h4.trans hm⟩
  rcases hm.own k x with y | y
  · exact h2 k hk y
  · have := hlt k hk; omega

theorem d_append {s0 : Ar} {w0 w W' : World} {v v' : Value} {l l' : List Nat} {p : Nat} {a : Abs} (h : HG (DΦ s0 w0 v l) p a w) (hg : w.grownBy W' v.ownBlock) (ho : IS 0 W' v' l') (hat : ∀ k, v'.ownBlock = some k → v.ownBlock = some k ∨ w.heap.size ≤ k) : HG (DΦ s0 w0 v' l') p a W' := by
  obtain ⟨s, h1, h2, h3, h4, h5, h6, h7, h8⟩ := h
  have hk : ∀ k, s.own k → W'.heap[k]? = w.heap[k]? := fun k hk => hg.block k (arSt.lt s w k h2 hk) fun e => h6 k e.symm hk
  have hp : Pk w W' := fun k cs hcs => hg.block k (Array.getElem?_eq_some_iff.1 hcs).1 fun e => by
    obtain ⟨cur, ht⟩ := owns_tag h5 e.symm
    rw [hcs] at ht
    simp at ht
  refine ⟨s, h1, arSt.keep s w W' h2 hk hp, h3, h4, ho, fun k hk' x => ?_, fun k hk' => ?_, ⟨h8.only.grown hg fun k e => Or.inl (h7 k e), h8.own⟩⟩
  · rcases hat k hk' with y | y
    · exact h6 k y x
    · have := arSt.lt s w k h2 x; omega
  · rcases hat k hk' with y | y
    · exact h7 k y
    · exact Nat.le_trans h8.only.size y

set_option maxRecDepth 100000 in
set_option maxHeartbeats 1000000 in
theorem same_walk {b1 b2 : Nat} {w : World} {v1 v2 : Value} {l : List Nat} (h1 : IS b1 w v1 l) (h2 : IS b2 w v2 l) (hl : l.length ≤ 1000000) : Calls Try.prog 22 #[v1, v2] w fun e w' => e = .returned (.bool true) ∧ Below w.heap.size w w' := by
  obtain ⟨a1, k1, rfl, hf1, _⟩ := owns_slice h1
  obtain ⟨a2, k2, rfl, hf2, _⟩ := owns_slice h2
  have key : ∀ j, j < l.length → ∃ g1 g2 n, a1 = some ⟨g1, 0, none⟩ ∧ a2 = some ⟨g2, 0, none⟩ ∧ g1 < w.heap.size ∧ g2 < w.heap.size ∧ w.cell? ⟨g1, j, none⟩ = some (.int .i64 n) ∧ w.cell? ⟨g2, j, none⟩ = some (.int .i64 n) := by
    intro j hj
    obtain ⟨g1, rfl, x1⟩ := hf1 (by omega)
    obtain ⟨g2, rfl, x2⟩ := hf2 (by omega)
    have hx : (l.map nv)[j]? = some (nv l[j]) := by simp [List.getElem?_eq_getElem hj]
    refine ⟨g1, g2, (l[j] : Int), rfl, rfl, x1, x2, ?_, ?_⟩
    · rw [World.ownsRow.cellAt h1 j (by omega), hx]; rfl
    · rw [World.ownsRow.cellAt h2 j (by omega), hx]; rfl
  have HK : Hid (∀ j, j < l.length → ∃ g1 g2 n, a1 = some ⟨g1, 0, none⟩ ∧ a2 = some ⟨g2, 0, none⟩ ∧ g1 < w.heap.size ∧ g2 < w.heap.size ∧ w.cell? ⟨g1, j, none⟩ = some (.int .i64 n) ∧ w.cell? ⟨g2, j, none⟩ = some (.int .i64 n)) := key
  clear h1 h2 hf1 hf2 key
  generalize l.length = len at *
  go_enter Try.func22, Try.ntmps22
  go_wp2
  go_loopw [5] (fun i wr => ∃ j : Nat, j ≤ len ∧ i = .int .i64 (j : Int) ∧ Below w.heap.size w wr) (fun i _ => len - (intOf i).toNat)
  case atStart => exact ⟨0, by omega, rfl, Below.refl _ _⟩
  case round =>
    obtain ⟨j, hj, rfl, B⟩ := hrel
    have HB : Hid (Below w.heap.size w wr) := B
    clear B
    by_cases hlt : j < len
    · obtain ⟨g1, g2, n, rfl, rfl, x1, x2, c1, c2⟩ := HK.out j hlt
      have c1' : wr.cell? ⟨g1, j, none⟩ = some (.int .i64 n) := by rw [HB.out.cell x1]; exact c1
      have c2' : wr.cell? ⟨g2, j, none⟩ = some (.int .i64 n) := by rw [HB.out.cell x2]; exact c2
      clear c1 c2 x1 x2
      go_wp2
      go_quiet (fail)
      go_wp2
      refine ⟨⟨j + 1, by omega, by go_num, below_drewN HB.out _⟩, by simp [intOf]; omega⟩
    · have hj' : j = len := by omega
      subst hj'
      go_wp2
      go_ret
      exact ⟨rfl, HB.out⟩
end Go.Proofs.Ytcoehlnmaehhjaa
