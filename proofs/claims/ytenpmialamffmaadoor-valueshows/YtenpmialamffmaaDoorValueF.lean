/-
  A text as text: Show of package value at a text; and 'awake', the document's example, which every statement of the layer asks first.
-/
import Derived.Test.YtenpmialamffmaaDoorValueG
import Derived.Test.YtenpmialamffmaaDoorQuote
namespace Go.Proofs.YtenpmialamffmaaDoor
open Go.RowKit

theorem show_text (n : Int) (s : ByteArray) (hs : s.size ≤ 2147483647) (m : Int) (w : World) (hl : 1 < w.heap.size) (hm : w.cell? ⟨1, 0, none⟩ = some (.int .i64 m)) :
    Calls Tryd.prog 16 #[valV 3 n s] w fun e w' => e = .returned (.string (quoteB s)) ∧ Below w.heap.size w w' := by
  go_enter Tryd.func16, Tryd.ntmps16
  unfold valV
  go_wp2_with fail
  refine (Tryd.strings_ReplaceAll s ⟨#[39]⟩ ⟨#[39, 39]⟩ m _ (by omega) ?_ (by decide) (count_fits s hs)).mono ?_
  · rw [(below_alloc w _).cell hl]; exact hm
  rintro e w1 ⟨rfl, hb⟩
  replace hb := below_on (below_alloc w _) hb
  have hL := repl_length s
  go_wp2
  go_ret
  exact ⟨by rw [quote_repl]; rfl, hb⟩

theorem right_null : rightB 0 0 ⟨#[]⟩ = true := rfl
theorem right_int (n : Int) : rightB 2 n ⟨#[]⟩ = true := rfl

theorem awake_text : ((quoteB ⟨#[105, 116, 39, 115]⟩).toList == [39, 105, 116, 39, 39, 115, 39]) = true := by
  rw [ByteArray.toList_eq]; rfl

theorem awake_walk (m : Int) (w : World) (hl : 1 < w.heap.size) (hm : w.cell? ⟨1, 0, none⟩ = some (.int .i64 m)) :
    Calls Tryd.prog 5 #[] w fun e w' => e = .returned (.bool true) ∧ Below w.heap.size w w' := by
  go_enter Tryd.func5, Tryd.ntmps5
  go_wp2_with fail
  refine (num_walk 1 _).mono ?_
  rintro e w1 ⟨rfl, hb⟩
  go_wp2_with fail
  refine (holds_walk ⟨#[60]⟩ 0 0 ⟨#[]⟩ 2 1 ⟨#[]⟩ _).mono ?_
  rintro e w2 ⟨rfl, hb2⟩
  replace hb := below_on hb hb2
  have e1 : holdsT ⟨#[60]⟩ 0 0 ⟨#[]⟩ 2 1 ⟨#[]⟩ = 2 := by simp [holdsT, knownB, right_null, right_int, ByteArray.toList_eq]
  have e2 : holdsE ⟨#[60]⟩ 0 0 ⟨#[]⟩ 2 1 ⟨#[]⟩ = 0 := by simp [holdsE, knownB, right_null, right_int, ByteArray.toList_eq]
  rw [e1, e2]
  go_wp2_with (go_at_call 19; refine (num_walk _ _).mono ?_; rintro e w3 ⟨rfl, hb3⟩; replace hb := below_on hb hb3; clear hb3)
  refine (reckon_walk ⟨#[43]⟩ 2 9223372036854775807 ⟨#[]⟩ 2 1 ⟨#[]⟩ (by decide) (by decide) _).mono ?_
  rintro e w4 ⟨rfl, hb4⟩
  replace hb := below_on hb hb4
  have e3 : reckE ⟨#[43]⟩ 2 9223372036854775807 ⟨#[]⟩ 2 1 ⟨#[]⟩ = 7 := by simp [reckE, knownR, right_int, ByteArray.toList_eq, opI, fits]
  have e4 : reckV ⟨#[43]⟩ 2 9223372036854775807 ⟨#[]⟩ 2 1 ⟨#[]⟩ = valV 0 0 ⟨#[]⟩ := by simp [reckV, knownR, right_int, ByteArray.toList_eq, opI, fits]
  rw [e3, e4]
  unfold valV
  go_wp2_with fail
  have hb' := below_on hb (below_alloc w4 (.cells #[.int .i64 0, .int .i64 0, .string ⟨#[]⟩] 29))
  refine (show_text 0 ⟨#[105, 116, 39, 115]⟩ (by decide) m _ (Nat.lt_of_lt_of_le hl hb'.size) (by rw [hb'.cell hl]; exact hm)).mono ?_
  rintro e w5 ⟨rfl, hb5⟩
  go_wp2
  go_ret
  exact ⟨by rw [← awake_text]; rfl, below_on hb' hb5⟩
end Go.Proofs.YtenpmialamffmaaDoor
