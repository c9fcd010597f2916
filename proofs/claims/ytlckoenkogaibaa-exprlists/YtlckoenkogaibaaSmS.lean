/-
  Acts that differ in a list of slots alone (as in SmR, of no program).
-/
import Derived.Test.YtlckoenkogaibaaInvR
namespace Go.Proofs.Ytlckoenkogaibaa.Rw
open Go Go.RowKit

/-- The slots outside of a list are as they were. -/
structure FrmS (S : List Nat) (a0 a : Act) : Prop where
  defers : a.defers = a0.defers
  size : a.tmps.size = a0.tmps.size
  at' : ∀ t, t ∉ S → a.tmps[t]? = a0.tmps[t]?

theorem FrmS.refl (S : List Nat) (a : Act) : FrmS S a a := ⟨rfl, rfl, fun _ _ => rfl⟩
theorem FrmS.put {S : List Nat} {a0 a : Act} (h : FrmS S a0 a) {t : Nat} (ht : t ∈ S) (v : Value) : FrmS S a0 (a.put (some t) v) :=
  ⟨h.defers, by rw [put_size]; exact h.size, fun u hu => by
    show (a.tmps.setIfInBounds t v)[u]? = _
    rw [Array.getElem?_setIfInBounds_ne (by rintro rfl; exact hu ht)]; exact h.at' u hu⟩
theorem FrmS.eval {S : List Nat} {a0 a : Act} (h : FrmS S a0 a) {t : Nat} (ht : t ∉ S) : a.eval (.tmp t) = a0.eval (.tmp t) := by
  have e := h.at' t ht
  show a.tmps.getD t undef = a0.tmps.getD t undef
  simp [Array.getD_eq_getD_getElem?, e]

def putAll (a : Act) : List Nat → Act → Act
  | [], b => b
  | t :: S, b => putAll a S (b.put (some t) (a.eval (.tmp t)))

theorem putAll_size (a : Act) : ∀ (S : List Nat) (b : Act), (putAll a S b).tmps.size = b.tmps.size
  | [], _ => rfl
  | t :: S, b => by rw [putAll, putAll_size a S, put_size]
theorem putAll_defers (a : Act) : ∀ (S : List Nat) (b : Act), (putAll a S b).defers = b.defers
  | [], _ => rfl
  | t :: S, b => by rw [putAll, putAll_defers a S]; rfl
theorem putAll_out (a : Act) : ∀ (S : List Nat) (b : Act) (t : Nat), t ∉ S → (putAll a S b).tmps[t]? = b.tmps[t]?
  | [], _, _, _ => rfl
  | s :: S, b, t, h => by
    rw [putAll, putAll_out a S _ t (fun e => h (List.mem_cons_of_mem _ e))]
    show (b.tmps.setIfInBounds s _)[t]? = _
    rw [Array.getElem?_setIfInBounds_ne (by rintro rfl; exact h List.mem_cons_self)]
theorem putAll_in (a : Act) : ∀ (S : List Nat) (b : Act) (t : Nat), t ∈ S → t < b.tmps.size → (putAll a S b).tmps[t]? = some (a.eval (.tmp t))
  | s :: S, b, t, h, hb => by
    by_cases hS : t ∈ S
    · rw [putAll]
      exact putAll_in a S _ t hS (by rw [put_size]; exact hb)
    · have : t = s := (List.mem_cons.1 h).resolve_right hS
      subst this
      rw [putAll, putAll_out a S _ t hS]
      show (b.tmps.setIfInBounds t _)[t]? = _
      simp [hb]

theorem FrmS.all {S : List Nat} {a0 a : Act} (h : FrmS S a0 a) (hs : ∀ t ∈ S, t < a0.tmps.size) : a = putAll a S a0 := by
  have e1 : a.tmps = (putAll a S a0).tmps := by
    refine Array.ext_getElem? fun t => ?_
    by_cases ht : t ∈ S
    · rw [putAll_in a S a0 t ht (hs t ht)]
      have hl : t < a.tmps.size := by rw [h.size]; exact hs t ht
      rw [Array.getElem?_eq_getElem hl]
      show _ = some (a.tmps.getD t undef)
      simp [Array.getD_eq_getD_getElem?, hl]
    · rw [putAll_out a S a0 t ht, h.at' t ht]
  have e2 : a.defers = (putAll a S a0).defers := by rw [putAll_defers, h.defers]
  cases a
  cases hp : putAll _ S a0
  rw [hp] at e1 e2
  simp only at e1 e2
  rw [e1, e2]
end Go.Proofs.Ytlckoenkogaibaa.Rw
