/-
  Lex: run and symbol of package lex.
-/
import Derived.Test.YtfokllgfejcehaaDoorLxC
namespace Go.Proofs.YtfokllgfejcehaaDoor
open Go.RowKit

def tkV (t : Tk) : Value := .agg #[.int .i64 t.kind, .int .i64 t.n, .int .i64 t.pl, .string t.s]

theorem lxbelow (w : World) (o : Obj) : Below w.heap.size w (w.alloc o) := (Below.refl _ _).alloc (Nat.le_refl _) o
theorem lxon {a b c : World} (h : Below a.heap.size a b) (k : Below b.heap.size b c) : Below a.heap.size a c := h.trans (k.mono h.size)

theorem sclone_walk (s : ByteArray) (w : World) (h : s.size ≤ 281474976710656) : Calls Tryd.prog 38 #[.string s] w fun e w' => e = .returned (.string s) ∧ Below w.heap.size w w' := by
  have HC := Tryd.stringslite_Clone s w h
  go_enter Tryd.func38, Tryd.ntmps38
  go_wp2_with (go_at_call 48; refine HC.mono ?_; rintro e w' ⟨rfl, hb⟩)
  go_ret
  exact ⟨rfl, hb⟩

/-- The error's variable lies where the program lays it. -/
def ErrR (w : World) : Prop := ∃ tp p, w.cell? ⟨4, 0, none⟩ = some (.iface tp p)

theorem ErrR.on {w W : World} (h : ErrR w) (hb : Below w.heap.size w W) : ErrR W := by
  obtain ⟨tp, p, hc⟩ := h
  exact ⟨tp, p, by rw [hb.cell (World.block_lt_of_cell? _ _ hc)]; exact hc⟩

/-- What Atoi makes of digits. -/
theorem parse_digits : ∀ (l : List UInt8) (a : Nat), l.all digB = true → a < 18446744073709551616 →
    (numF a l < 18446744073709551616 → Lib.parseUint10 a l = .ok (numF a l)) ∧ (18446744073709551616 ≤ numF a l → Lib.parseUint10 a l = .range)
  | [], a, _, ha => ⟨fun _ => rfl, fun h => by simp [numF] at h; omega⟩
  | c :: l, a, hd, ha => by
    simp only [List.all_cons, Bool.and_eq_true] at hd
    have hc := digB_iff.1 hd.1
    have hg := numF_ge l (a * 10 + (c.toNat - 48))
    rw [numF_cons, Lib.parseUint10, if_pos hc]
    by_cases h1 : 1844674407370955162 ≤ a
    · rw [if_pos h1]
      exact ⟨fun h => by omega, fun _ => rfl⟩
    rw [if_neg h1]
    by_cases h2 : 18446744073709551616 ≤ a * 10 + (c.toNat - 48)
    · rw [if_pos h2]
      exact ⟨fun h => by omega, fun _ => rfl⟩
    rw [if_neg h2]
    exact parse_digits l _ hd.2 (by omega)

theorem atoi_digits (l : List UInt8) (h0 : l ≠ []) (hd : l.all digB = true) : Lib.atoiAll l = if numL l < 9223372036854775808 then .ok (numL l : Int) else .range := by
  cases l with
  | nil => exact absurd rfl h0
  | cons c r =>
    have hc : 48 ≤ c.toNat ∧ c.toNat ≤ 57 := by
      simp only [List.all_cons, Bool.and_eq_true] at hd
      exact digB_iff.1 hd.1
    have hp := parse_digits (c :: r) 0 hd (by omega)
    have e : numF 0 (c :: r) = numL (c :: r) := rfl
    rw [e] at hp
    generalize numL (c :: r) = u at hp ⊢
    have hm : Lib.parseMag (if c.toNat = 43 ∨ c.toNat = 45 then r else c :: r) = Lib.parseUint10 0 (c :: r) := by
      rw [if_neg (by omega), Lib.parseMag, if_neg (by simp)]
    unfold Lib.atoiAll
    simp only [hm]
    by_cases h1 : u < 18446744073709551616
    · rw [hp.1 h1]
      simp only
      by_cases h2 : u < 9223372036854775808
      · rw [if_pos h2, if_neg (by omega), if_neg (by omega), if_neg (by omega)]
      · rw [if_neg h2, if_pos ⟨by omega, by omega⟩]
    · rw [hp.2 (by omega), if_neg (by omega)]

theorem runP_word {w : List UInt8} (h : w.all capB = true) : runP w = (⟨1, 0, 0, mkB w⟩, w.length) := by rw [runP, if_pos h]
theorem runP_name {w : List UInt8} (h : w.all capB = false) (h2 : nameB (mkB w) = true) : runP w = (⟨2, 0, 0, mkB w⟩, w.length) := by rw [runP, if_neg (by simp [h]), if_pos h2]
theorem runP_num {w : List UInt8} (h : w.all capB = false) (h2 : nameB (mkB w) = false) (h3 : w.all digB = true) (h4 : numL w < 9223372036854775808) : runP w = (⟨3, numL w, 0, mkB []⟩, w.length) := by rw [runP, if_neg (by simp [h]), if_neg (by simp [h2]), if_pos ⟨h3, h4⟩]
theorem runP_big {w : List UInt8} (h : w.all capB = false) (h2 : nameB (mkB w) = false) (h4 : ¬ numL w < 9223372036854775808) : runP w = (zTk, 0) := by rw [runP, if_neg (by simp [h]), if_neg (by simp [h2]), if_neg (fun h => h4 h.2)]
theorem runP_bad {w : List UInt8} (h : w.all capB = false) (h2 : nameB (mkB w) = false) (h3 : w.all digB = false) : runP w = (zTk, 0) := by rw [runP, if_neg (by simp [h]), if_neg (by simp [h2]), if_neg (fun h => by simp [h3] at h)]

theorem span_eq {p : UInt8 → Bool} (s : ByteArray) : (((spanN p s.data.toList : Nat) : Int) == (s.size : Int)) = s.data.toList.all p := by
  rw [Bool.eq_iff_iff, ← span_all, beq_iff_eq]
  have := bsz s
  omega

/-- The block of a token that a call answers. -/
def zObj (t : TypeId) : Obj := .cells #[.int .i64 0, .int .i64 0, .int .i64 0, .string ⟨#[]⟩] t

theorem zfacts {w W : World} (h : Below (w.alloc (zObj 36)).heap.size (w.alloc (zObj 36)) W) :
    W.cell? ⟨w.heap.size, 0, none⟩ = some (.int .i64 0) ∧ W.cell? ⟨w.heap.size, 1, none⟩ = some (.int .i64 0) ∧ W.cell? ⟨w.heap.size, 2, none⟩ = some (.int .i64 0) ∧ W.cell? ⟨w.heap.size, 3, none⟩ = some (.string ⟨#[]⟩) ∧
      W.frozen? ⟨w.heap.size, 0, none⟩ = false ∧ W.frozen? ⟨w.heap.size, 1, none⟩ = false ∧ W.frozen? ⟨w.heap.size, 2, none⟩ = false ∧ W.frozen? ⟨w.heap.size, 3, none⟩ = false ∧ w.heap.size < W.heap.size := by
  have hb : W.heap[w.heap.size]? = some (zObj 36) := (h.block _ (by simp)).trans (heap_alloc_new w _)
  exact ⟨cell_of_row _ _ _ _ _ _ hb, cell_of_row _ _ _ _ _ _ hb, cell_of_row _ _ _ _ _ _ hb, cell_of_row _ _ _ _ _ _ hb, frozen_of_row _ _ _ _ _ hb, frozen_of_row _ _ _ _ _ hb, frozen_of_row _ _ _ _ _ hb, frozen_of_row _ _ _ _ _ hb, (Array.getElem?_eq_some_iff.1 hb).1⟩

theorem zend {w W : World} (h : Below (w.alloc (zObj 36)).heap.size (w.alloc (zObj 36)) W) (a b c d : Value) :
    Below w.heap.size w ((((W.setCell ⟨w.heap.size, 0, none⟩ a).setCell ⟨w.heap.size, 1, none⟩ b).setCell ⟨w.heap.size, 2, none⟩ c).setCell ⟨w.heap.size, 3, none⟩ d) :=
  ((((lxon (lxbelow w _) h).setCell (Nat.le_refl _) a).setCell (Nat.le_refl _) b).setCell (Nat.le_refl _) c).setCell (Nat.le_refl _) d

set_option maxRecDepth 100000 in
set_option maxHeartbeats 1000000 in
theorem run_walk (s : ByteArray) (w : World) (h0 : 0 < s.size) (hs : s.size ≤ 1000000) (hE : ErrR w) :
    Calls Tryd.prog 28 #[.string s] w fun e w' => e = .returned (.tuple #[tkV (runP s.data.toList).1, .int .i64 (runP s.data.toList).2]) ∧ Below w.heap.size w w' := by
  have hml : s.size ≤ maxLen := by unfold maxLen; omega
  have HC := fun w => span_capital s w hml
  have HN := fun w => name_walk s w hml
  have HD := fun w => span_digit s w hml
  have HK := fun w => sclone_walk s w (by omega)
  have EC := span_eq (p := capB) s
  have ED := span_eq (p := digB) s
  have hlen := bsz s
  have hne : s.data.toList ≠ [] := fun e => by rw [e] at hlen; simp at hlen; omega
  have hB := lxbelow w (.cells #[.int .i64 0, .int .i64 0, .int .i64 0, .string ⟨#[]⟩] 36)
  generalize ((spanN capB s.data.toList : Nat) : Int) = nc at HC EC
  generalize ((spanN digB s.data.toList : Nat) : Int) = nd at HD ED
  cases h1 : s.data.toList.all capB
  · rw [h1] at EC
    cases h2 : nameB s
    · rw [h2] at HN
      have hm2 : nameB (mkB s.data.toList) = false := by rw [mkB_of]; exact h2
      cases h3 : s.data.toList.all digB
      · rw [h3] at ED
        rw [runP_bad h1 hm2 h3]
        clear h1 h2 hm2 h3 HK hE
        go_enter Tryd.func28, Tryd.ntmps28
        go_wp2_with fail
        refine (HC _).mono ?_
        rintro e w' ⟨rfl, rfl⟩
        go_wp2_with (go_at_call 39; refine (HN _).mono ?_; rintro e w' ⟨rfl, rfl⟩)
        refine (HD _).mono ?_
        rintro e w' ⟨rfl, rfl⟩
        go_wp2_with fail
        refine bodyPost_ret (v := .tuple #[tkV zTk, .int .i64 0]) (by simp [results, Tryd.results28, go_sem, tkV, zTk, mkB]) rfl ⟨rfl, hB⟩
      · rw [h3] at ED
        have HA := atoi_digits _ hne h3
        by_cases h4 : numL s.data.toList < 9223372036854775808
        · rw [if_pos h4] at HA
          have HT := fun w => Tryd.strconv_Atoi_ok s (by omega) _ HA w
          rw [runP_num h1 hm2 h3 h4]
          generalize numL s.data.toList = u at *
          rw [hlen]
          clear h1 h2 hm2 h3 HK hE HA
          go_enter Tryd.func28, Tryd.ntmps28
          go_wp2_with fail
          refine (HC _).mono ?_
          rintro e w' ⟨rfl, rfl⟩
          go_wp2_with (go_at_call 39; refine (HN _).mono ?_; rintro e w' ⟨rfl, rfl⟩)
          refine (HD _).mono ?_
          rintro e w' ⟨rfl, rfl⟩
          go_wp2_with fail
          refine (HT _).mono ?_
          rintro e W1 ⟨rfl, HW⟩
          have hb1 : Below (w.alloc (zObj 36)).heap.size (w.alloc (zObj 36)) W1 := by
            rcases HW with rfl | ⟨t, rfl⟩
            · exact Below.refl _ _
            · exact Lib.bytesWorld_below _ _ _
          obtain ⟨c0, c1, c2, c3, f0, f1, f2, f3, hlt⟩ := zfacts hb1
          have HE := zend hb1
          clear hb1 HW hB
          go_wp2_with fail
          refine bodyPost_ret (v := .tuple #[tkV ⟨3, u, 0, mkB []⟩, .int .i64 (s.size : Int)]) (by simp [results, Tryd.results28, go_sem, tkV, mkB, c0, c1, c2, c3]) rfl ⟨rfl, HE _ _ _ _⟩
        · rw [if_neg h4] at HA
          obtain ⟨tp, p, hv⟩ := hE.on hB
          have HT := Tryd.strconv_Atoi_range s (by omega) HA _ _ hv (Or.inr ⟨_, _, rfl⟩)
          rw [runP_big h1 hm2 h4]
          generalize Lib.atoiSat s.data.toList = sat at HT
          clear h1 h2 hm2 h3 h4 HK HA hv
          go_enter Tryd.func28, Tryd.ntmps28
          go_wp2_with fail
          refine (HC _).mono ?_
          rintro e w' ⟨rfl, rfl⟩
          go_wp2_with (go_at_call 39; refine (HN _).mono ?_; rintro e w' ⟨rfl, rfl⟩)
          refine (HD _).mono ?_
          rintro e w' ⟨rfl, rfl⟩
          go_wp2_with fail
          refine HT.mono ?_
          rintro e W1 ⟨N, rfl, -, -, hb1⟩
          obtain ⟨c0, c1, c2, c3, f0, f1, f2, f3, hlt⟩ := zfacts hb1
          have HE := zend hb1
          have hb2 := lxon hB hb1
          clear hb1 HT hB
          go_wp2_with fail
          first
            | refine bodyPost_ret (v := .tuple #[tkV zTk, .int .i64 0]) (by simp [results, Tryd.results28, go_sem, tkV, zTk, mkB, c0, c1, c2, c3]) rfl ⟨rfl, HE _ _ _ _⟩
            | refine bodyPost_ret (v := .tuple #[tkV zTk, .int .i64 0]) (by simp [results, Tryd.results28, go_sem, tkV, zTk, mkB, c0, c1, c2, c3]) rfl ⟨rfl, hb2⟩
    · rw [h2] at HN
      have hm2 : nameB (mkB s.data.toList) = true := by rw [mkB_of]; exact h2
      rw [runP_name h1 hm2, mkB_of, hlen]
      clear h1 h2 hm2 HD ED hE
      go_enter Tryd.func28, Tryd.ntmps28
      go_wp2_with fail
      refine (HC _).mono ?_
      rintro e w' ⟨rfl, rfl⟩
      go_wp2_with (go_at_call 39; refine (HN _).mono ?_; rintro e w' ⟨rfl, rfl⟩)
      refine (HK _).mono ?_
      rintro e W1 ⟨rfl, hb1⟩
      obtain ⟨c0, c1, c2, c3, f0, f1, f2, f3, hlt⟩ := zfacts hb1
      have HE := zend hb1
      clear hb1 hB
      go_wp2_with fail
      refine bodyPost_ret (v := .tuple #[tkV ⟨2, 0, 0, s⟩, .int .i64 (s.size : Int)]) (by simp [results, Tryd.results28, go_sem, tkV, c0, c1, c2, c3]) rfl ⟨rfl, HE _ _ _ _⟩
  · rw [h1] at EC
    rw [runP_word h1, mkB_of, hlen]
    clear h1 HD ED HN hE
    go_enter Tryd.func28, Tryd.ntmps28
    go_wp2_with fail
    refine (HC _).mono ?_
    rintro e w' ⟨rfl, rfl⟩
    go_wp2_with fail
    refine (HK _).mono ?_
    rintro e W1 ⟨rfl, hb1⟩
    obtain ⟨c0, c1, c2, c3, f0, f1, f2, f3, hlt⟩ := zfacts hb1
    have HE := zend hb1
    clear hb1 hB
    go_wp2_with fail
    refine bodyPost_ret (v := .tuple #[tkV ⟨1, 0, 0, s⟩, .int .i64 (s.size : Int)]) (by simp [results, Tryd.results28, go_sem, tkV, c0, c1, c2, c3]) rfl ⟨rfl, HE _ _ _ _⟩
end Go.Proofs.YtfokllgfejcehaaDoor
