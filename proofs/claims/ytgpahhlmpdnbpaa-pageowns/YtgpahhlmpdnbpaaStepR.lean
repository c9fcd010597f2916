/-
  append as a step of a region that draws.
-/
import Derived.Laws.AppendOwn
import Derived.Laws.AppendOwnNone
import Derived.Deep.AppendLies
import Derived.Test.YtgpahhlmpdnbpaaNdA
namespace Go.Proofs.Ytgpahhlmpdnbpaa
open Go.RowKit

/-- Elements onto a row, as a step of a region that draws. -/
theorem step_row {ops : Array Oper} {o : Oper} {a : Act} {K : Act → World → Prop} {Q : Exit → Act → World → Prop} {E : Prop} {W1 : World} {t e : TypeId} {z : Value} {by_ : Nat} (ht : Try.prog.underlying t = some (.slice e)) (hinfo : (Try.prog.info? e).map (fun i => (i.zero, i.size, i.bytes)) = some (some z, 1, by_)) (hby : by_ ≤ 16) (hzs : z.cells.size = 1) (base : Nat) (hbase : base ≤ W1.heap.size) (hgd : o.guard = none) (s x : Operand) (ho : o.op = .call { callee := .builtin .append, args := #[s, x], argTypes := #[t, t] })
    (v : Value) (n : Nat) (ys xs : List Value) (hs : a.eval s = v) (h : W1.ownsRow base e 1 v n ys) (hn : n ≤ 100000) (ad : Addr) (m cap : Nat) (hx : a.eval x = .slice (some ad) m cap) (hm : xs.length = m) (hml : m ≤ 100000) (hc : ∀ j u, xs[j]? = some u → W1.cell? (ad.add j) = some u) (h1 : ∀ u ∈ xs, u.oneCell' = true)
    (hK : ∀ v' W', W'.ownsRow base e 1 v' (n + m) (ys ++ xs) → W1.grownBy W' v.ownBlock → K (a.put o.dst v') W') :
    if Region.wanted o (yielded ops a.tmps) = true then Oper.wp Try.prog o a W1 K Q else E := by
  have hw : Region.wanted o (yielded ops a.tmps) = true := by simp [Region.wanted, hgd]
  rw [if_pos hw]
  obtain ⟨i, hi, hz⟩ := Option.map_eq_some_iff.1 hinfo
  simp only [Prod.mk.injEq] at hz
  obtain ⟨h3, h4, h5⟩ := hz
  have hby2 : (n + m) * by_ ≤ 140737488355328 := by
    have := Nat.mul_le_mul (show n + m ≤ 200000 by omega) hby
    omega
  exact wp_append_own (P := Try.prog) W1 s x t ho base e i z 1 by_ ht hi h3 h4 h5 hzs (by decide) v n ys hs h ad m cap xs hx (by omega) hc h1 (by unfold maxLen; omega) hby2 hbase fun v' W' hown hg _ => hK v' W' hown hg

/-- The same, where what is put on may be no slice at all. -/
theorem step_src {ops : Array Oper} {o : Oper} {a : Act} {K : Act → World → Prop} {Q : Exit → Act → World → Prop} {E : Prop} {W1 : World} {t e : TypeId} {z : Value} {by_ : Nat} (ht : Try.prog.underlying t = some (.slice e)) (hinfo : (Try.prog.info? e).map (fun i => (i.zero, i.size, i.bytes)) = some (some z, 1, by_)) (hby : by_ ≤ 16) (hzs : z.cells.size = 1) (base : Nat) (hbase : base ≤ W1.heap.size) (hgd : o.guard = none) (s x : Operand) (ho : o.op = .call { callee := .builtin .append, args := #[s, x], argTypes := #[t, t] })
    (v : Value) (n : Nat) (ys xs : List Value) (hs : a.eval s = v) (h : W1.ownsRow base e 1 v n ys) (hn : n ≤ 100000) (u : Value) (m : Nat) (hx : a.eval x = u) (hu : (∃ ad cap, u = .slice (some ad) m cap ∧ ∀ j y, xs[j]? = some y → W1.cell? (ad.add j) = some y) ∨ (u = .slice none 0 0 ∧ m = 0)) (hm : xs.length = m) (hml : m ≤ 100000) (h1 : ∀ y ∈ xs, y.oneCell' = true)
    (hK : ∀ v' W', W'.ownsRow base e 1 v' (n + m) (ys ++ xs) → W1.grownBy W' v.ownBlock → K (a.put o.dst v') W') :
    if Region.wanted o (yielded ops a.tmps) = true then Oper.wp Try.prog o a W1 K Q else E := by
  rcases hu with ⟨ad, cap, rfl, hc⟩ | ⟨rfl, rfl⟩
  · exact step_row ht hinfo hby hzs base hbase hgd s x ho v n ys xs hs h hn ad m cap hx hm hml hc h1 hK
  · have hw : Region.wanted o (yielded ops a.tmps) = true := by simp [Region.wanted, hgd]
    rw [if_pos hw]
    obtain ⟨i, hi, hz⟩ := Option.map_eq_some_iff.1 hinfo
    simp only [Prod.mk.injEq] at hz
    obtain ⟨h3, h4, h5⟩ := hz
    have hxs : xs = [] := List.eq_nil_of_length_eq_zero hm
    subst hxs
    have hrun := run_append_owned_none (P := Try.prog) (w := W1) base t o.type e i 1 ht hi v n ys h
    unfold Oper.wp
    simp [execOp, ho, resolve, invoke, builtin, hs, hx, hrun, Result.andThen]
    exact hK v W1 (by simpa using h) ⟨rfl, rfl, rfl, Nat.le_refl _, fun _ _ _ => rfl⟩
end Go.Proofs.Ytgpahhlmpdnbpaa
