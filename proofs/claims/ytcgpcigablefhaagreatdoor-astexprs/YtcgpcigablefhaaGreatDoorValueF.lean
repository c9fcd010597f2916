/-
  A text as text: Show of package value at a text; and 'awake', the document's example, which every statement of the layer asks first.
-/
import Derived.Test.YtcgpcigablefhaaGreatDoorValueG
import Derived.Test.YtcgpcigablefhaaGreatDoorQuote
namespace Go.Proofs.YtcgpcigablefhaaGreatDoor
open Go.RowKit

theorem show_text (n : Int) (s : ByteArray) (hs : s.size ≤ 2147483647) (m : Int) (w : World) (hl : 5 < w.heap.size) (hm : w.cell? ⟨5, 0, none⟩ = some (.int .i64 m)) :
    Calls Tryz.prog 91 #[valV 3 n s] w fun e w' => e = .returned (.string (quoteB s)) ∧ Below w.heap.size w w' := by
  go_enter Tryz.func91, Tryz.ntmps91
  unfold valV
  go_wp2_with fail
  refine (Tryz.strings_ReplaceAll s ⟨#[39]⟩ ⟨#[39, 39]⟩ m _ (by omega) ?_ (by decide) (count_fits s hs)).mono ?_
  · rw [(below_alloc w _).cell hl]; exact hm
  rintro e w1 ⟨rfl, hb⟩
  replace hb := below_on (below_alloc w _) hb
  have hL := repl_length s
  go_wp2
  go_ret
  exact ⟨by rw [quote_repl]; rfl, hb⟩

theorem right_null : rightB 0 0 ⟨#[]⟩ = true := rfl
theorem right_int (n : Int) : rightB 2 n ⟨#[]⟩ = true := rfl

theorem awake_text : ((quoteB ⟨#[105, 116, 39, 115]⟩).toList == [39, 105, 116, 39, 39, 115, 39]) = true := by
  rw [ByteArray.toList_eq]; rfl

end Go.Proofs.YtcgpcigablefhaaGreatDoor
