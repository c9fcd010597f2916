/-
  Ids as bytes, and what is above: ID, Unid and Next of package code.
-/
import Derived.Laws.IdiomStrings
import Derived.Test.YtedlohapoafkjaaDoorCodeA
import Derived.Test.YtedlohapoafkjaaDoorQuietTail
namespace Go.Proofs.YtedlohapoafkjaaDoor
open Go.RowKit

/-- A text out of a list of bytes. -/
def strB (l : List UInt8) : ByteArray := ⟨l.toArray⟩

theorem strB_list (l : List UInt8) : (strB l).data.toList = l := rfl

theorem strB_append (a b : List UInt8) : strB (a ++ b) = strB a ++ strB b := by
  apply ByteArray.ext
  simp [strB]

theorem strB_back (s : ByteArray) : strB s.data.toList = s := rfl

theorem extract_take (s : ByteArray) (j : Nat) : s.extract 0 j = strB (s.data.toList.take j) := by
  apply ByteArray.ext
  apply Array.ext'
  simp [strB, ByteArray.data_extract]

theorem split_at (s : ByteArray) (j : Nat) (hj : j < s.size) : s.data.toList = s.data.toList.take j ++ s[j] :: s.data.toList.drop (j + 1) := by
  have h : j < s.data.toList.length := hj
  rw [show s[j] = s.data.toList[j] from rfl, ← List.drop_eq_getElem_cons h, List.take_append_drop]

def idS (n : Int) : ByteArray := if n < 0 ∨ 1099511627776 < n then ⟨#[]⟩ else strB (beL 8 n.toNat)
def idE (n : Int) : Int := if n < 0 ∨ 1099511627776 < n then 15 else 0

def unidN (s : ByteArray) : Int := if s.size = 8 ∧ number s.data.toList ≤ 1099511627776 then (number s.data.toList : Int) else 0
def unidE (s : ByteArray) : Int := if s.size = 8 ∧ number s.data.toList ≤ 1099511627776 then 0 else 16

theorem below_on {a b c : World} (h : Below a.heap.size a b) (k : Below b.heap.size b c) : Below a.heap.size a c := h.trans (k.mono h.size)

theorem cells8_at (w : World) (u : Nat) : ∀ t, t < 8 → (w.alloc (.cells #[.int .u8 (byteN u 0 : Int), .int .u8 (byteN u 1 : Int), .int .u8 (byteN u 2 : Int), .int .u8 (byteN u 3 : Int), .int .u8 (byteN u 4 : Int), .int .u8 (byteN u 5 : Int), .int .u8 (byteN u 6 : Int), .int .u8 (byteN u 7 : Int)] 59)).cell? ⟨w.heap.size, t, none⟩ = some (byteV u t) := by
  intro t ht
  have hcs : t = 0 ∨ t = 1 ∨ t = 2 ∨ t = 3 ∨ t = 4 ∨ t = 5 ∨ t = 6 ∨ t = 7 := by omega
  rcases hcs with rfl | rfl | rfl | rfl | rfl | rfl | rfl | rfl <;> simp [go_sem, byteV]

/-- The text of eight bytes that lie in a block. -/
theorem conv8 (W : World) (b u : Nat) (h : ∀ t, t < 8 → W.cell? ⟨b, t, none⟩ = some (byteV u t)) :
    (convert 58 9 (.slice (some ⟨b, 0, none⟩) 8 8)).run Tryd.prog W = .ok (.string (strB (beL 8 u))) W := by
  have hl : (beL 8 u).length = 8 := beL_length 8 u
  have := run_convert_bytes_back (P := Tryd.prog) W 58 9 5 ⟨b, 0, none⟩ 8 (beL 8 u) Tryd.underlying58 Tryd.underlying5 Tryd.underlying9 (fun j hj => by
    have hj8 : j < 8 := by rw [hl] at hj; exact hj
    have hc := h j hj8
    rw [show (⟨b, 0, none⟩ : Addr).add j = ⟨b, j, none⟩ by unfold Addr.add; split <;> simp_all, hc]
    have hcs : j = 0 ∨ j = 1 ∨ j = 2 ∨ j = 3 ∨ j = 4 ∨ j = 5 ∨ j = 6 ∨ j = 7 := by omega
    rcases hcs with rfl | rfl | rfl | rfl | rfl | rfl | rfl | rfl <;> simp [beL, byteV, byteN, Nat.div_div_eq_div_mul])
  rw [hl] at this
  exact this

theorem conv1 (W : World) (b : Nat) (d : UInt8) (h : W.cell? ⟨b, 0, none⟩ = some (.int .u8 (d.toNat : Int))) :
    (convert 58 9 (.slice (some ⟨b, 0, none⟩) 1 1)).run Tryd.prog W = .ok (.string ⟨#[d]⟩) W :=
  run_convert_bytes_back W 58 9 5 ⟨b, 0, none⟩ 1 [d] Tryd.underlying58 Tryd.underlying5 Tryd.underlying9 (fun j hj => by
    have : j = 0 := by simpa using hj
    subst this
    exact h)

set_option maxRecDepth 100000 in
set_option maxHeartbeats 400000 in
theorem next_walk (s : ByteArray) (hs : s.size ≤ maxLen) (w : World) :
    Calls Tryd.prog 33 #[.string s] w fun e w' => e = .returned (.string (strB (nextL s.data.toList))) ∧ Below w.heap.size w w' := by
  unfold maxLen at hs
  go_enter Tryd.func33, Tryd.ntmps33
  go_wp2
  go_loop [3] (fun i => (i = .int .i64 (-1) ∧ Hid (∀ b ∈ s.data.toList, b = 255)) ∨ ∃ j : Nat, j < s.size ∧ i = .int .i64 (j : Int) ∧ Hid (∀ b ∈ s.data.toList.drop (j + 1), b = 255)) (fun i => (intOf i + 1).toNat)
  case atStart =>
    by_cases h0 : s.size = 0
    · refine Or.inl ⟨by rw [h0]; rfl, ?_⟩
      have : s.data.toList = [] := List.length_eq_zero_iff.1 h0
      show ∀ b ∈ _, _
      rw [this]
      intro b hb; cases hb
    · refine Or.inr ⟨s.size - 1, by omega, by rw [show ((s.size - 1 : Nat) : Int) = (s.size : Int) - 1 by omega], ?_⟩
      show ∀ b ∈ _, _
      rw [List.drop_of_length_le (by show s.size ≤ _; omega)]
      intro b hb; cases hb
  case round =>
    rcases hrel with ⟨rfl, HD⟩ | ⟨j, hj, rfl, HD⟩
    · go_wp2
      go_ret
      exact ⟨by rw [nextL_none HD.out]; rfl, Below.refl _ _⟩
    · have hj2 : j ≤ s.size := Nat.le_of_lt hj
      by_cases h255 : s[j].toNat < 255
      · have hne : ¬ s[j] = 255 := fun e => by rw [e] at h255; exact absurd h255 (by decide)
        have hsb := succ_byte hne
        have hcv := conv1 (w.alloc (.cells #[.int .u8 ((s[j].toNat : Int) + 1)] 5)).drew w.heap.size (s[j] + 1) (by rw [hsb]; simp [go_sem])
        have HS : Hid (strB (nextL s.data.toList) = s.extract 0 j ++ ⟨#[s[j] + 1]⟩) := by
          have e := nextL_at hne HD.out (s.data.toList.take j)
          show _ = _
          rw [← split_at s j hj] at e
          rw [e, strB_append, extract_take]
          rfl
        clear hne hsb
        go_wp2
        go_region
        all_goals go_wp2
        all_goals go_ret
        all_goals exact ⟨by rw [HS.out]; rfl, (below_alloc _ _).drew⟩
      · have h255' : 255 ≤ s[j].toNat := by omega
        have hlt := s[j].toNat_lt
        have he : s[j] = 255 := UInt8.toNat_inj.1 (by simp; omega)
        have HE : Hid (∀ b ∈ s.data.toList.drop j, b = 255) := by
          show ∀ b ∈ _, _
          rw [List.drop_eq_getElem_cons (show j < s.data.toList.length from hj)]
          intro b hb
          rcases List.mem_cons.1 hb with rfl | hb
          · exact he
          · exact HD.out b hb
        clear he hlt
        go_wp2
        refine ⟨?_, by simp [intOf]⟩
        by_cases h0 : j = 0
        · subst h0
          exact Or.inl ⟨rfl, HE.out⟩
        · refine Or.inr ⟨j - 1, by omega, by rw [show ((j - 1 : Nat) : Int) = (j : Int) - 1 by omega], ?_⟩
          rw [show j - 1 + 1 = j by omega]
          exact HE

end Go.Proofs.YtedlohapoafkjaaDoor
