/-
  Lex: 'awake', the document's example, which every statement of the layer asks first.
-/
import Derived.Test.YtfokllgfejcehaaDoorLxH
import Derived.KernelRfl
namespace Go.Proofs.YtfokllgfejcehaaDoor
open Go.RowKit Rw

def exL : List Tk := [⟨2, 0, 0, mkB [97]⟩, ⟨5, 0, 1, mkB [60, 61]⟩, ⟨3, 1, 3, mkB []⟩, ⟨0, 0, 4, mkB []⟩]

theorem ex_cut : cutT [97, 60, 61, 49] = (exL, none) := by kernel_rfl

set_option maxRecDepth 100000 in
set_option maxHeartbeats 1000000 in
theorem awake_walk (w : World) (hV : LexV w) : Calls Tryd.prog 7 #[] w fun e w' => e = .returned (.bool true) ∧ Below w.heap.size w w' := by
  have HT := thid (fun W (hW : LexV W) => tokens_walk ⟨#[97, 60, 61, 49]⟩ W (by decide) hW)
  have e0 : (⟨#[97, 60, 61, 49]⟩ : ByteArray).data.toList = [97, 60, 61, 49] := rfl
  rw [e0, ex_cut] at HT
  have HV := thid hV
  clear hV e0
  go_enter Tryd.func7, Tryd.ntmps7
  go_wp2_with fail
  refine (HT.out _ HV.out).mono ?_
  rintro e W1 ⟨v, rfl, hR, hb⟩
  obtain ⟨r, rfl, hO⟩ : ∃ r, v = .tuple #[r, fltV 0 0] ∧ W1.ownsRow w.heap.size 36 4 r 4 (flat tkC exL) := hR
  obtain ⟨a, c, rfl⟩ := owns_slice hO
  obtain ⟨g, rfl⟩ : ∃ g, a = some ⟨g, 0, none⟩ := by
    rcases owns_addr hO with ⟨-, h, -⟩ | h
    · cases h
    · exact h
  have hgl : g < W1.heap.size := (hO.lt g rfl).2
  have HB := thid hb
  have HO := thid hO
  clear HT hO
  unfold fltV
  have hcell : ∀ (W : World), Below W1.heap.size W1 W → W.cell? ⟨g, 7, none⟩ = some (.string (mkB [60, 61])) ∧ W.cell? ⟨g, 9, none⟩ = some (.int .i64 1) ∧ W.cell? ⟨g, 14, none⟩ = some (.int .i64 4) := fun W hW => by
    have hO := owns_on HO.out hW
    exact ⟨own_at tkC_len hO (j := 1) rfl (i := 3) rfl, own_at tkC_len hO (j := 2) rfl (i := 1) rfl, own_at tkC_len hO (j := 3) rfl (i := 2) rfl⟩
  have HC := thid hcell
  clear hcell
  obtain ⟨k7, k9, k14⟩ := HC.out (W1.alloc (.cells #[.int .i64 0, .int .i64 0] 26)) (lxbelow _ _)
  have hs2 : ((mkB [60, 61]).toList == [60, 61]) = true := by rw [ByteArray.toList_eq]; rfl
  go_wp2_with fail
  go_ret
  exact ⟨rfl, HB.out.alloc HB.out.size _⟩
end Go.Proofs.YtfokllgfejcehaaDoor
