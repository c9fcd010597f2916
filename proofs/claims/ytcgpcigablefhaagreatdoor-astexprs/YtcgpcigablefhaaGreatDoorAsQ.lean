/-
  Ast: the law's example as a tree.
-/
import Derived.Test.YtcgpcigablefhaaGreatDoorAsA
namespace Go.Proofs.YtcgpcigablefhaaGreatDoor
open Go.RowKit

theorem slg_row {W : World} {b : Nat} {l : List XL} {T : TypeId} {fz : Nat × Nat} (h : W.heap[b]? = some (.cells (Rw.flat xC l).toArray T fz)) : Rw.SlG xC 7 W (some ⟨b, 0, none⟩) l := by
  refine Or.inr ⟨b, 0, rfl, (Array.getElem?_eq_some_iff.1 h).1, fun j x hj i u hu => ?_⟩
  rw [Nat.zero_add, cell_of_row _ _ _ _ _ _ h]
  have := Rw.flat_at xC_len l j x hj i u hu
  simpa using this

def eA : XL := .mk ⟨#[99, 111, 108, 117, 109, 110]⟩ 0 0 ⟨#[]⟩ ⟨#[]⟩ ⟨#[97]⟩ none 0 []
def eB : XL := .mk ⟨#[99, 111, 108, 117, 109, 110]⟩ 0 0 ⟨#[]⟩ ⟨#[]⟩ ⟨#[98]⟩ none 0 []
def eOne : XL := .mk ⟨#[118, 97, 108, 117, 101]⟩ 2 1 ⟨#[]⟩ ⟨#[]⟩ ⟨#[]⟩ none 0 []
def eLt (p : Nat) : XL := .mk ⟨#[60]⟩ 0 0 ⟨#[]⟩ ⟨#[]⟩ ⟨#[]⟩ (some ⟨p, 0, none⟩) 2 [eA, eOne]
def eNull (p : Nat) : XL := .mk ⟨#[110, 117, 108, 108]⟩ 0 0 ⟨#[]⟩ ⟨#[]⟩ ⟨#[]⟩ (some ⟨p, 0, none⟩) 1 [eB]
def eAnd (p q r : Nat) : XL := .mk ⟨#[97, 110, 100]⟩ 0 0 ⟨#[]⟩ ⟨#[]⟩ ⟨#[]⟩ (some ⟨r, 0, none⟩) 2 [eLt p, eNull q]

theorem leaf_ok {x : XL} (hk : x.kids = []) (h : XOk x) : ∀ n w, In n w x
  | 0, _ => trivial
  | n + 1, w => ⟨h, by rw [hk]; exact Or.inl rfl, fun k hk' => by rw [hk] at hk'; cases hk'⟩
theorem small_ok {x : XL} (h1 : x.vk = 0 ∨ x.vk = 2) (h2 : x.vn = 0 ∨ x.vn = 1) (h3 : x.op.size ≤ 6) (h4 : x.vs.size ≤ 6) (h5 : x.var.size ≤ 6) (h6 : x.col.size ≤ 6) (h7 : x.kids.length ≤ 6) : XOk x := by
  refine ⟨?_, ?_, ?_, ?_, ?_, ?_, ?_⟩
  · rcases h1 with e | e <;> rw [e] <;> rfl
  · rcases h2 with e | e <;> rw [e] <;> rfl
  all_goals (try unfold maxLen) <;> omega
theorem eA_in (n : Nat) (w : World) : In n w eA := leaf_ok rfl (small_ok (Or.inl rfl) (Or.inl rfl) (by decide) (by decide) (by decide) (by decide) (by decide)) n w
theorem eB_in (n : Nat) (w : World) : In n w eB := leaf_ok rfl (small_ok (Or.inl rfl) (Or.inl rfl) (by decide) (by decide) (by decide) (by decide) (by decide)) n w
theorem eOne_in (n : Nat) (w : World) : In n w eOne := leaf_ok rfl (small_ok (Or.inr rfl) (Or.inr rfl) (by decide) (by decide) (by decide) (by decide) (by decide)) n w

theorem eAnd_in {p q r : Nat} {w : World} (hp : Rw.SlG xC 7 w (some ⟨p, 0, none⟩) [eA, eOne]) (hq : Rw.SlG xC 7 w (some ⟨q, 0, none⟩) [eB]) (hr : Rw.SlG xC 7 w (some ⟨r, 0, none⟩) [eLt p, eNull q]) : ∀ n, In n w (eAnd p q r)
  | 0 => trivial
  | n + 1 => ⟨small_ok (Or.inl rfl) (Or.inl rfl) (Nat.le_of_ble_eq_true rfl) (Nat.le_of_ble_eq_true rfl) (Nat.le_of_ble_eq_true rfl) (Nat.le_of_ble_eq_true rfl) (by show 2 ≤ 6; decide), hr, fun k hk => by
      have hk' : k ∈ [eLt p, eNull q] := hk
      simp only [List.mem_cons, List.not_mem_nil, or_false] at hk'
      cases n with
      | zero => trivial
      | succ n =>
        rcases hk' with rfl | rfl
        · refine ⟨small_ok (Or.inl rfl) (Or.inl rfl) (Nat.le_of_ble_eq_true rfl) (Nat.le_of_ble_eq_true rfl) (Nat.le_of_ble_eq_true rfl) (Nat.le_of_ble_eq_true rfl) (by show 2 ≤ 6; decide), hp, fun k hk => ?_⟩
          have hk' : k ∈ [eA, eOne] := hk
          simp only [List.mem_cons, List.not_mem_nil, or_false] at hk'
          rcases hk' with rfl | rfl
          · exact eA_in _ _
          · exact eOne_in _ _
        · refine ⟨small_ok (Or.inl rfl) (Or.inl rfl) (Nat.le_of_ble_eq_true rfl) (Nat.le_of_ble_eq_true rfl) (Nat.le_of_ble_eq_true rfl) (Nat.le_of_ble_eq_true rfl) (by show 1 ≤ 6; decide), hq, fun k hk => ?_⟩
          have hk' : k ∈ [eB] := hk
          simp only [List.mem_cons, List.not_mem_nil, or_false] at hk'
          subst hk'
          exact eB_in _ _⟩

theorem eAnd_right (p q r : Nat) : rightX 20 (eAnd p q r) = true := by
  have tl : ∀ l : List UInt8, (⟨l.toArray⟩ : ByteArray).toList = l := fun l => by rw [ByteArray.toList_eq]
  have e1 := tl [99, 111, 108, 117, 109, 110]
  have e2 := tl [118, 97, 108, 117, 101]
  have e3 := tl [60]
  have e4 := tl [110, 117, 108, 108]
  have e5 := tl [97, 110, 100]
  have e6 := tl []
  have n1 : nameB ⟨#[97]⟩ = true := by decide
  have n2 : nameB ⟨#[98]⟩ = true := by decide
  have r1 : rightB 2 1 ⟨#[]⟩ = true := by decide
  simp [rightX, eAnd, eLt, eNull, eA, eB, eOne, XL.op, XL.kids, XL.vk, XL.vn, XL.vs, XL.var, XL.col, noVal, kidsI, ops1, ops2, oVALUE, oCOLUMN, oNEG, oNOT, oNULL, e1, e2, e3, e4, e5, e6, n1, n2, r1]
theorem eAnd_show (p q r : Nat) : showX 20 (eAnd p q r) = [40, 40, 97, 32, 60, 32, 49, 41, 32, 65, 78, 68, 32, 40, 98, 32, 73, 83, 32, 78, 85, 76, 76, 41, 41] := by
  have tl : ∀ l : List UInt8, (⟨l.toArray⟩ : ByteArray).toList = l := fun l => by rw [ByteArray.toList_eq]
  have e1 := tl [99, 111, 108, 117, 109, 110]
  have e2 := tl [118, 97, 108, 117, 101]
  have e3 := tl [60]
  have e4 := tl [110, 117, 108, 108]
  have e5 := tl [97, 110, 100]
  have e6 := tl []
  have e7 := tl [97]
  have e8 := tl [98]
  have r1 : showL 2 1 ⟨#[]⟩ = [49] := by
    show Lib.itoa 1 = [49]
    unfold Lib.itoa
    rw [if_neg (by decide), show (1 : Int).toNat = 1 from rfl, Lib.decDigits_one (by decide)]
    rfl
  simp [showX, showN, colT, opT, eAnd, eLt, eNull, eA, eB, eOne, XL.op, XL.kids, XL.vk, XL.vn, XL.vs, XL.var, XL.col, oVALUE, oCOLUMN, oNEG, oNOT, oNULL, e1, e2, e3, e4, e5, e6, e7, e8, r1]
end Go.Proofs.YtcgpcigablefhaaGreatDoor
