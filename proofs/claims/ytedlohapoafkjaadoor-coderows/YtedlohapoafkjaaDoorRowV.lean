/-
  Slices of values: those that came in, and those that a call gathers itself.
-/
import Derived.Laws.AppendOwn
import Derived.Laws.OwnMore
import Derived.Test.YtedlohapoafkjaaDoorGreat3
import Derived.Test.YtedlohapoafkjaaDoorRowL
namespace Go.Proofs.YtedlohapoafkjaaDoor
open Go.RowKit

/-- The values of a slice of n, whose first lies at a. -/
def Sl (W : World) (a : Option Addr) (n : Nat) (l : List Val) : Prop := l.length = n ∧ (n = 0 ∨ ∃ b o, a = some ⟨b, o, none⟩ ∧ Valued W b o n l)

theorem Sl.below {W W' : World} {a : Option Addr} {n : Nat} {l : List Val} (h : Sl W a n l) (hb : Below W.heap.size W W') : Sl W' a n l := by
  refine ⟨h.1, h.2.imp id ?_⟩
  rintro ⟨b, o, e, hv⟩
  exact ⟨b, o, e, hv.below hb⟩

theorem Sl.at {W : World} {a : Option Addr} {n : Nat} {l : List Val} (h : Sl W a n l) {j : Nat} (hj : j < n) :
    ∃ b o v, a = some ⟨b, o, none⟩ ∧ b < W.heap.size ∧ l[j]? = some v ∧ W.cell? ⟨b, o + j * 3, none⟩ = some (.int .i64 v.k) ∧ W.cell? ⟨b, o + j * 3 + 1, none⟩ = some (.int .i64 v.n) ∧ W.cell? ⟨b, o + j * 3 + 2, none⟩ = some (.string v.s) := by
  rcases h.2 with h0 | ⟨b, o, e, hb, _, hv⟩
  · omega
  · have hl := h.1
    obtain ⟨v, hv'⟩ : ∃ v, l[j]? = some v := ⟨l[j]'(by omega), List.getElem?_eq_getElem _⟩
    exact ⟨b, o, v, e, hb, hv', hv j v hv'⟩

/-- Values as cells. -/
def vcs (l : List Val) : List Value := l.flatMap fun v => [.int .i64 v.k, .int .i64 v.n, .string v.s]

theorem vcs_length (l : List Val) : (vcs l).length = l.length * 3 := by
  induction l with
  | nil => rfl
  | cons v l ih =>
    show (vcs l).length + 1 + 1 + 1 = _
    rw [ih, List.length_cons]; omega

theorem vcs_at (l : List Val) : ∀ (j : Nat) (v : Val), l[j]? = some v → (vcs l)[j * 3]? = some (.int .i64 v.k) ∧ (vcs l)[j * 3 + 1]? = some (.int .i64 v.n) ∧ (vcs l)[j * 3 + 2]? = some (.string v.s) := by
  induction l with
  | nil => intro j v h; simp at h
  | cons u l ih =>
    intro j v h
    have e : vcs (u :: l) = .int .i64 u.k :: .int .i64 u.n :: .string u.s :: vcs l := rfl
    cases j with
    | zero =>
      simp at h
      subst h
      rw [e]; exact ⟨rfl, rfl, rfl⟩
    | succ j =>
      have := ih j v (by simpa using h)
      rw [e, show (j + 1) * 3 = j * 3 + 3 by omega]
      exact this

/-- A slice of the call's own, with just these values. -/
def OwnsV (base : Nat) (W : World) (v : Value) (l : List Val) : Prop := W.ownsRow base 23 3 v l.length (vcs l)

theorem ownsV_alloc {base : Nat} {W : World} {v : Value} {l : List Val} (h : OwnsV base W v l) (o : Obj) : OwnsV base (W.alloc o) v l := World.ownsRow.alloc h o

theorem ownsV_nil (base : Nat) (W : World) : OwnsV base W (.slice none 0 0) [] := World.ownsRow_nil _ _ _ _

theorem ownsV_new (base : Nat) (W : World) (hb : base ≤ W.heap.size) : OwnsV base (W.alloc (.cells #[] 23)) (.slice (some ⟨W.heap.size, 0, none⟩) 0 0) [] := by
  have := World.ownsRow_lit (base := base) (e := 23) (size := 3) W #[] 0 hb (by unfold maxLen; omega) (by simp)
  simpa [OwnsV, vcs] using this

/-- Its values, as those of any slice. -/
theorem ownsV_sl {base : Nat} {W : World} {v : Value} {l : List Val} (h : OwnsV base W v l) : ∃ a cap, v = .slice a l.length cap ∧ Sl W a l.length l := by
  have h' := h
  obtain ⟨_, h2⟩ := h
  rcases h2 with ⟨rfl, h0⟩ | ⟨g, cap, cur, rfl, hg, hb, _⟩
  · exact ⟨none, 0, by rw [h0], rfl, Or.inl h0⟩
  · refine ⟨_, cap, rfl, rfl, Or.inr ⟨g, 0, rfl, ?_, rfl, ?_⟩⟩
    · obtain ⟨hlt, _⟩ := Array.getElem?_eq_some_iff.1 hb
      exact hlt
    · intro j u hu
      have hc : ∀ t x, (vcs l)[t]? = some x → W.cell? ⟨g, t, none⟩ = some x := fun t x hx => by
        have := World.ownsRow.cells h' (g := g) rfl t x hx
        rwa [show (⟨g, 0, none⟩ : Addr).add t = ⟨g, t, none⟩ by unfold Addr.add; split <;> simp_all] at this
      obtain ⟨c0, c1, c2⟩ := vcs_at l j u hu
      rw [Nat.zero_add]
      exact ⟨hc _ _ c0, hc _ _ c1, hc _ _ c2⟩

theorem appendV {ops : Array Oper} {rest : List Oper} {o : Oper} {a : Act} {Q : Exit → Act → World → Prop} (hgd : o.guard = none) (s x : Operand) (ho : o.op = .call { callee := .builtin .append, args := #[s, x], argTypes := #[32, 32] })
    (base : Nat) (W : World) {W1 : World} (v : Value) (l : List Val) (hs : a.eval s = v) (h : OwnsV base W1 v l) (hW : Below base W W1) (hl : l.length ≤ 1000) (hb : base ≤ W1.heap.size) (ad : Nat) (u : Val) (cap : Nat) (hx : a.eval x = .slice (some ⟨ad, 0, none⟩) 1 cap)
    (hc : W1.cell? ⟨ad, 0, none⟩ = some (.int .i64 u.k) ∧ W1.cell? ⟨ad, 1, none⟩ = some (.int .i64 u.n) ∧ W1.cell? ⟨ad, 2, none⟩ = some (.string u.s))
    (hK : ∀ v' W', OwnsV base W' v' (l ++ [u]) → Below base W W' → wpList Tryd.prog ops Q rest (a.put o.dst v') W') : wpList Tryd.prog ops Q (o :: rest) a W1 := by
  obtain ⟨i, hi, hz⟩ : ∃ i, Tryd.prog.info? 23 = some i ∧ (i.zero, i.size, i.bytes) = (some (.agg #[.int .i64 0, .int .i64 0, .string ⟨#[]⟩]), 3, 32) :=
    Option.map_eq_some_iff.1 (show (Tryd.prog.info? 23).map (fun i => (i.zero, i.size, i.bytes)) = some (some (.agg #[.int .i64 0, .int .i64 0, .string ⟨#[]⟩]), 3, 32) by kernel_rfl)
  simp only [Prod.mk.injEq] at hz
  obtain ⟨h1, h2, h3⟩ := hz
  refine wpList_append_own (P := Tryd.prog) W1 hgd s x 32 ho base 23 i _ 3 32 Tryd.underlying32 hi h1 h2 h3 rfl (by decide) v l.length (vcs l) hs h ⟨ad, 0, none⟩ 1 cap (vcs [u]) hx rfl (fun j y hj => ?_) (fun y hy => ?_) (by unfold maxLen; omega) (by omega) hb (fun v' W' hown hg _ => ?_)
  · have hj3 : j < 3 := by
      have := (List.getElem?_eq_some_iff.1 hj).1
      rw [vcs_length] at this
      simpa using this
    rw [show (⟨ad, 0, none⟩ : Addr).add j = ⟨ad, j, none⟩ by unfold Addr.add; split <;> simp_all]
    have : j = 0 ∨ j = 1 ∨ j = 2 := by omega
    rcases this with rfl | rfl | rfl
    · simp [vcs] at hj; subst hj; exact hc.1
    · simp [vcs] at hj; subst hj; exact hc.2.1
    · simp [vcs] at hj; subst hj; exact hc.2.2
  · simp [vcs] at hy
    rcases hy with rfl | rfl | rfl <;> rfl
  · refine hK v' W' ?_ (hW.grown hg hb (fun k hk => (World.ownsRow.lt h k hk).1))
    unfold OwnsV
    rw [List.length_append, show vcs (l ++ [u]) = vcs l ++ vcs [u] by simp [vcs]]
    exact hown
end Go.Proofs.YtedlohapoafkjaaDoor
