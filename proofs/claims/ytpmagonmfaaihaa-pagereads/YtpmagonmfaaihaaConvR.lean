/-
  A row of bytes as a text.
-/
import Derived.Test.YtpmagonmfaaihaaNdH
import Derived.Test.YtpmagonmfaaihaaSpC
namespace Go.Proofs.Ytpmagonmfaaihaa
open Go.RowKit

/-- A row of bytes that can be read, as a text. -/
theorem conv_row {W : World} {B : Nat} {v : Value} {m : Nat} {L : List UInt8} (h : W.ownsRow B 5 1 v m (bcs L)) (hl : L.length = m) (h0 : 0 < m) : (convert 31 9 v).run Try.prog W = .ok (.string ⟨L.toArray⟩) W := by
  obtain ⟨ad, cap, rfl, hr, _, _⟩ := owns_rd h
  subst hl
  match L, hr with
  | [], _ => exact absurd h0 (Nat.lt_irrefl 0)
  | x :: L, hr =>
    obtain ⟨b, o, rfl, _, _⟩ := hr.2.2 0 _ rfl
    exact run_convert_bytes_back (P := Try.prog) W 31 9 5 ⟨b, o, none⟩ cap (x :: L) Try.underlying31 Try.underlying5 Try.underlying9 (fun j hj => by
      obtain ⟨b', o', e, _, hc⟩ := hr.2.2 j (.int .u8 ((x :: L)[j].toNat : Int)) (by unfold bcs; rw [List.getElem?_map, List.getElem?_eq_getElem hj]; rfl)
      cases e
      rw [show (⟨b, o, none⟩ : Addr).add j = ⟨b, o + j, none⟩ by unfold Addr.add; split <;> simp_all]
      exact hc)

end Go.Proofs.Ytpmagonmfaaihaa
