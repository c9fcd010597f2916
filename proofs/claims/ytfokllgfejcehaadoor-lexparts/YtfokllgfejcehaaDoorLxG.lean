/-
  Lex: first of package lex.
-/
import Derived.Test.YtfokllgfejcehaaDoorLxF
namespace Go.Proofs.YtfokllgfejcehaaDoor
open Go.RowKit

/-- What the package's variables hold. -/
def LexV (w : World) : Prop := ErrR w ∧ SymV w
theorem LexV.on {w W : World} (h : LexV w) (hb : Below w.heap.size w W) : LexV W := ⟨h.1.on hb, h.2.on hb⟩

theorem extract_take (s : ByteArray) (k : Nat) : (s.extract 0 k).data.toList = s.data.toList.take k := by
  rw [ByteArray.data_extract, Array.toList_extract, List.extract_eq_take_drop]
  simp

theorem extract_drop (s : ByteArray) (k : Nat) : (s.extract k s.size).data.toList = s.data.toList.drop k := by
  rw [ByteArray.data_extract, Array.toList_extract, List.extract_eq_take_drop]
  apply List.take_of_length_le
  rw [List.length_drop, bsz]
  exact Nat.le_refl _

theorem mkB_take (s : ByteArray) (k : Nat) : s.extract 0 k = mkB (s.data.toList.take k) := by rw [← extract_take, mkB_of]
theorem mkB_drop (s : ByteArray) (k : Nat) : s.extract k s.size = mkB (s.data.toList.drop k) := by rw [← extract_drop, mkB_of]

set_option maxRecDepth 100000 in
set_option maxHeartbeats 4000000 in
theorem first_walk (s : ByteArray) (w : World) (h0 : 0 < s.size) (hs : s.size ≤ 1000000) (hV : LexV w) :
    Calls Tryd.prog 16 #[.string s] w fun e w' => e = .returned (.tuple #[tkV (firstP s.data.toList).1, .int .i64 (firstP s.data.toList).2]) ∧ Below w.heap.size w w' := by
  have hB := lxbelow w (zObj 36)
  have hlen := bsz s
  have hd : s.data.toList = s[0] :: s.data.toList.drop 1 := List.drop_eq_getElem_cons (l := s.data.toList) (i := 0) (by rw [hlen]; exact h0)
  have HI := fun W => inRun_walk s[0] W
  have HS := fun W => span_inRun s W (by unfold maxLen; omega)
  cases hr : runB s[0]
  · rw [hr] at HI
    cases hq : (s[0].toNat : Int) == 39
    · have hne : s[0] ≠ 39 := fun e => by rw [e] at hq; simp at hq
      have HF : firstP s.data.toList = symP s.data.toList := by
        generalize s.data.toList = l at hd ⊢
        rw [hd, firstP, if_neg (by simp [hr]), if_neg hne]
      have HY := symbol_walk s _ (hV.on hB).2
      rw [HF]
      clear HF hd hlen hne HS
      generalize symP s.data.toList = x at HY ⊢
      obtain ⟨⟨tk, tn, tp, ts⟩, sz⟩ := x
      unfold tkV at HY
      dsimp only at HY ⊢
      go_enter Tryd.func16, Tryd.ntmps16
      go_wp2_with (go_at_call 27; refine (HI _).mono ?_; rintro e w' ⟨rfl, rfl⟩)
      refine HY.mono ?_
      rintro e W1 ⟨rfl, hb1⟩
      obtain ⟨c0, c1, c2, c3, f0, f1, f2, f3, hlt⟩ := zfacts hb1
      have HE := zend hb1
      clear hb1 hB
      go_wp2_with fail
      refine bodyPost_ret (v := .tuple #[tkV ⟨tk, tn, tp, ts⟩, .int .i64 (sz : Int)]) (by simp [results, Tryd.results16, go_sem, tkV, c0, c1, c2, c3]) rfl ⟨rfl, HE _ _ _ _⟩
    · have he : s[0] = 39 := UInt8.toNat_inj.1 (by have := beq_iff_eq.1 hq; simp; omega)
      have HF : firstP s.data.toList = quoP s.data.toList := by
        generalize s.data.toList = l at hd ⊢
        rw [hd, firstP, if_neg (by simp [hr]), if_pos he]
      have HY := quoted_walk s (w.alloc (zObj 36)) h0 hs
      rw [HF]
      clear HF hd hlen he HS
      generalize quoP s.data.toList = x at HY ⊢
      obtain ⟨⟨tk, tn, tp, ts⟩, sz⟩ := x
      unfold tkV at HY
      dsimp only at HY ⊢
      go_enter Tryd.func16, Tryd.ntmps16
      go_wp2_with (go_at_call 27; refine (HI _).mono ?_; rintro e w' ⟨rfl, rfl⟩)
      refine HY.mono ?_
      rintro e W1 ⟨rfl, hb1⟩
      obtain ⟨c0, c1, c2, c3, f0, f1, f2, f3, hlt⟩ := zfacts hb1
      have HE := zend hb1
      clear hb1 hB
      go_wp2_with fail
      refine bodyPost_ret (v := .tuple #[tkV ⟨tk, tn, tp, ts⟩, .int .i64 (sz : Int)]) (by simp [results, Tryd.results16, go_sem, tkV, c0, c1, c2, c3]) rfl ⟨rfl, HE _ _ _ _⟩
  · rw [hr] at HI
    have HF : firstP s.data.toList = runP (s.data.toList.takeWhile runB) := by
      generalize s.data.toList = l at hd ⊢
      rw [hd, firstP, if_pos hr]
    have hsp : spanN runB s.data.toList ≤ s.size := by rw [← hlen]; exact spanN_le _ _
    have hsp0 : 0 < spanN runB s.data.toList := by
      generalize s.data.toList = l at hd ⊢
      rw [hd, spanN_cons_pos hr]
      omega
    have HX := mkB_take s (spanN runB s.data.toList)
    rw [take_span] at HX
    have hsz : (mkB (s.data.toList.takeWhile runB)).size = spanN runB s.data.toList := mkB_size _
    have HY := run_walk (mkB (s.data.toList.takeWhile runB)) _ (by rw [hsz]; exact hsp0) (by rw [hsz]; omega) (hV.on hB).1
    rw [mkB_list] at HY
    rw [HF]
    have hsl : ∀ W, (Instr.slice 9 (.string s) none (some (.int .i64 ((spanN runB s.data.toList : Nat) : Int))) none).run Tryd.prog W = .ok (.string (mkB (s.data.toList.takeWhile runB))) W := fun W => by
      rw [← HX]
      exact run_slice_string_h W 9 s Tryd.underlying9 .i64 _ (by omega) (by omega)
    clear HF hd hlen HX hsz
    generalize runP (s.data.toList.takeWhile runB) = x at HY ⊢
    generalize mkB (s.data.toList.takeWhile runB) = t at *
    generalize spanN runB s.data.toList = q at *
    obtain ⟨⟨tk, tn, tp, ts⟩, sz⟩ := x
    unfold tkV at HY
    dsimp only at HY ⊢
    go_enter Tryd.func16, Tryd.ntmps16
    go_wp2_with (first | (go_at_call 27; refine (HI _).mono ?_; rintro e w' ⟨rfl, rfl⟩) | (go_at_call 14; refine (HS _).mono ?_; rintro e w' ⟨rfl, rfl⟩))
    refine HY.mono ?_
    rintro e W1 ⟨rfl, hb1⟩
    obtain ⟨c0, c1, c2, c3, f0, f1, f2, f3, hlt⟩ := zfacts hb1
    have HE := zend hb1
    clear hb1 hB
    go_wp2_with fail
    refine bodyPost_ret (v := .tuple #[tkV ⟨tk, tn, tp, ts⟩, .int .i64 (sz : Int)]) (by simp [results, Tryd.results16, go_sem, tkV, c0, c1, c2, c3]) rfl ⟨rfl, HE _ _ _ _⟩
end Go.Proofs.YtfokllgfejcehaaDoor
