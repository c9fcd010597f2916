/-
  Lex: quoted of package lex: a text between quotes.
-/
import Derived.Test.YtfokllgfejcehaaDoorLxE
namespace Go.Proofs.YtfokllgfejcehaaDoor
open Go.RowKit

/-- What is to come of a text between quotes. -/
def qRes (acc : List UInt8) (k : Nat) (r : List UInt8) : Tk × Nat :=
  match qScan r with
  | some x => if (acc ++ x.1).length ≤ 24 then (⟨4, 0, 0, mkB (acc ++ x.1)⟩, k + x.2) else (zTk, 0)
  | none => (zTk, 0)

theorem qRes_start (l : List UInt8) : qRes [] 1 (l.drop 1) = quoP l := by
  rw [List.drop_one, qRes, quoP]
  split <;> simp_all [Nat.add_comm]

theorem qRes_nil (acc : List UInt8) (k : Nat) : qRes acc k [] = (zTk, 0) := rfl

theorem qScan_other {c : UInt8} {r : List UInt8} (h : c ≠ 39) : qScan (c :: r) = (qScan r).map fun x => (c :: x.1, x.2 + 1) := by
  rw [qScan.eq_def]
  simp [h]

theorem qScan_two (r : List UInt8) : qScan (39 :: 39 :: r) = (qScan r).map fun x => (39 :: x.1, x.2 + 2) := by
  rw [qScan.eq_def]
  simp

theorem qScan_stop {r : List UInt8} (h : ∀ d, r.head? = some d → d ≠ 39) : qScan (39 :: r) = some ([], 1) := by
  rw [qScan.eq_def]
  cases r with
  | nil => simp
  | cons d r => simp [h d rfl]

theorem qRes_stop {acc r : List UInt8} {k : Nat} (h : ∀ d, r.head? = some d → d ≠ 39) (ha : acc.length ≤ 24) : qRes acc k (39 :: r) = (⟨4, 0, 0, mkB acc⟩, k + 1) := by
  rw [qRes, qScan_stop h]
  simp [ha]

theorem qRes_other {c : UInt8} {acc r : List UInt8} {k : Nat} (h : c ≠ 39) : qRes acc k (c :: r) = qRes (acc ++ [c]) (k + 1) r := by
  rw [qRes, qRes, qScan_other h]
  cases qScan r with
  | none => rfl
  | some x => simp [Nat.add_assoc, Nat.add_comm 1]

theorem qRes_two {acc r : List UInt8} {k : Nat} : qRes acc k (39 :: 39 :: r) = qRes (acc ++ [39]) (k + 2) r := by
  rw [qRes, qRes, qScan_two]
  cases qScan r with
  | none => rfl
  | some x => simp [Nat.add_assoc, Nat.add_comm 2]

theorem qRes_full {acc r : List UInt8} {k : Nat} (h : 24 < acc.length) : qRes acc k r = (zTk, 0) := by
  rw [qRes]
  split
  · rw [if_neg (by rw [List.length_append]; omega)]
  · rfl

theorem bytes_snoc (acc : List UInt8) (c : UInt8) : Lib.byteCells acc ++ [.int .u8 (c.toNat : Int)] = Lib.byteCells (acc ++ [c]) := by simp [Lib.byteCells]

set_option maxRecDepth 100000 in
set_option maxHeartbeats 4000000 in
theorem quoted_walk (s : ByteArray) (w : World) (h0 : 0 < s.size) (hs : s.size ≤ 1000000) :
    Calls Tryd.prog 29 #[.string s] w fun e w' => e = .returned (.tuple #[tkV (quoP s.data.toList).1, .int .i64 (quoP s.data.toList).2]) ∧ Below w.heap.size w w' := by
  have hlen := bsz s
  have HG : Hid (∀ k, (hk : k < s.size) → s.data.toList.drop k = s[k] :: s.data.toList.drop (k + 1)) := fun k hk => List.drop_eq_getElem_cons (by rw [hlen]; exact hk)
  have HL : Hid (∀ k, s.size ≤ k → s.data.toList.drop k = []) := fun k hk => List.drop_eq_nil_of_le (by rw [hlen]; exact hk)
  have HS0 : Hid (qRes [] 1 (s.data.toList.drop 1) = quoP s.data.toList) := qRes_start _
  have hse : (w.alloc (zObj 36)).heap.size = w.heap.size + 1 := by simp
  have HBu := thid (Lib.fresh_isBuilder 61 5 (w.alloc (zObj 36)))
  have HB0 := thid (lxbelow (w.alloc (zObj 36)) (.cells #[.pointer none, .slice none 0 0] 61))
  rw [hse] at HBu HB0
  have HZ : Hid (∀ W, Below (w.heap.size + 1) (w.alloc (zObj 36)) W → Below (w.alloc (zObj 36)).heap.size (w.alloc (zObj 36)) W) := fun W h => by rw [hse]; exact h
  clear hse
  generalize s.data.toList = l at *
  go_enter Tryd.func29, Tryd.ntmps29
  go_wp2_with fail
  go_loopw [5] (fun i wr => ∃ (k : Nat) (acc : List UInt8), 1 ≤ k ∧ k ≤ s.size ∧ i = .int .i64 k ∧ acc.length ≤ 24 ∧ Hid (qRes acc k (l.drop k) = quoP l ∧ Lib.IsBuilder 61 5 (w.heap.size + 1) (w.heap.size + 1) (Lib.byteCells acc) wr ∧ Below (w.heap.size + 1) (w.alloc (zObj 36)) wr)) (fun i _ => s.size - (intOf i).toNat)
  case atStart => exact ⟨1, [], Nat.le_refl _, h0, rfl, Nat.zero_le _, HS0.out, HBu.out, HB0.out⟩
  case round =>
    clear HBu HB0 HS0
    obtain ⟨k, acc, hk1, hk, rfl, hacc, HI⟩ := hrel
    have HLn := fun W h => Tryd.Builder_Len (w.heap.size + 1) (w.heap.size + 1) (Lib.byteCells acc) W h
    have hbl : (Lib.byteCells acc).length = acc.length := Lib.byteCells_length _
    rw [hbl] at HLn
    have HLN := thid (HLn wr HI.out.2.1)
    have HSt := thid (fun h => Tryd.Builder_String_any (w.heap.size + 1) (w.heap.size + 1) acc wr HI.out.2.1 h)
    have HWr := thid (fun (c : UInt8) h1 h2 => Tryd.Builder_WriteByte (w.heap.size + 1) (w.heap.size + 1) (Lib.byteCells acc) (c.toNat : Int) wr HI.out.2.1 h1 h2)
    have hsz : w.heap.size + 1 ≤ wr.heap.size := by have := HI.out.2.2.size; simp at this; exact this
    clear HLn
    by_cases hlt : k < s.size
    · have hd := HG.out k hlt
      cases hq : (s[k].toNat : Int) == 39
      · have hne : s[k] ≠ 39 := fun e => by rw [e] at hq; simp at hq
        have HR := qRes_other (acc := acc) (k := k) (r := l.drop (k + 1)) hne
        by_cases h24 : acc.length = 24
        · have HQ : Hid (quoP l = (zTk, 0)) := by
            show _ = _
            rw [← HI.out.1, hd, HR, qRes_full (by simp; omega)]
          have hb1 := HZ.out _ HI.out.2.2
          obtain ⟨c0, c1, c2, c3, f0, f1, f2, f3, hl1⟩ := zfacts hb1
          have HE := zend hb1
          have hb2 := lxon (lxbelow w _) hb1
          have hLN := HLN.out
          rw [h24] at hLN
          clear hb1 hd HR hne hbl
          go_wp2_with (go_at_call 41; refine hLN.mono ?_; rintro e w' ⟨rfl, rfl⟩)
          refine bodyPost_ret (v := .tuple #[tkV zTk, .int .i64 0]) (by simp [results, Tryd.results29, go_sem, tkV, zTk, mkB, c0, c1, c2, c3]) rfl ⟨by rw [HQ.out]; rfl, HE _ _ _ _⟩
        · have hnn : ((acc.length : Int) == 24) = false := by rw [beq_eq_false_iff_ne]; omega
          have HQ : Hid (qRes (acc ++ [s[k]]) (k + 1) (l.drop (k + 1)) = quoP l) := by
            show _ = _
            rw [← HI.out.1, hd, HR]
          have hLN := HLN.out
          have hW := HWr.out s[k] (by omega) hsz
          rw [bytes_snoc] at hW
          clear hd HR hne hbl
          go_wp2_with (first | (go_at_call 41; refine hLN.mono ?_; rintro e w' ⟨rfl, rfl⟩) | (go_at_call 42; refine hW.mono ?_; rintro e w' ⟨rfl, hb, hbel⟩))
          exact ⟨⟨k + 1, acc ++ [s[k]], by omega, by omega, by go_num, by simp; omega, HQ.out, Or.inr hb, HI.out.2.2.trans hbel⟩, by simp [intOf]; omega⟩
      · have he : s[k] = 39 := UInt8.toNat_inj.1 (by have := beq_iff_eq.1 hq; simp; omega)
        rw [he] at hd
        by_cases hend : k + 1 = s.size
        · have HQ : Hid (quoP l = (⟨4, 0, 0, mkB acc⟩, k + 1)) := by
            show _ = _
            rw [← HI.out.1, hd, HL.out (k + 1) (by omega), qRes_stop (by simp) hacc]
          have hee : ((k : Int) + 1 == (s.size : Int)) = true := by rw [beq_iff_eq]; omega
          have hST := HSt.out hsz
          have HZ2 := fun (W : World) (hb : Below (w.heap.size + 1) wr W) => HZ.out W (HI.out.2.2.trans hb)
          clear hd he hbl HSt HWr HLN
          go_wp2_with (go_at_call 35; refine hST.mono ?_; rintro e W1 ⟨rfl, hbel⟩; have hb1 := HZ2 _ hbel; obtain ⟨c0, c1, c2, c3, f0, f1, f2, f3, hl1⟩ := zfacts hb1; have HE := thid (zend hb1); clear hb1 hbel)
          refine bodyPost_ret (v := .tuple #[tkV ⟨4, 0, 0, mkB acc⟩, .int .i64 ((k : Int) + 1)]) (by simp [results, Tryd.results29, go_sem, tkV, mkB, c0, c1, c2, c3]) rfl ⟨by rw [HQ.out]; rfl, HE.out _ _ _ _⟩
        · have hlt2 : k + 1 < s.size := by omega
          have hee : ((k : Int) + 1 == (s.size : Int)) = false := by rw [beq_eq_false_iff_ne]; omega
          have hd2 := HG.out (k + 1) hlt2
          cases hq2 : (s[k + 1].toNat : Int) == 39
          · have hne : s[k + 1] ≠ 39 := fun e => by rw [e] at hq2; simp at hq2
            have HQ : Hid (quoP l = (⟨4, 0, 0, mkB acc⟩, k + 1)) := by
              show _ = _
              rw [← HI.out.1, hd, qRes_stop (by rw [hd2]; simp; exact hne) hacc]
            have hST := HSt.out hsz
            have HZ2 := fun (W : World) (hb : Below (w.heap.size + 1) wr W) => HZ.out W (HI.out.2.2.trans hb)
            clear hd he hbl HSt HWr HLN hne hd2
            go_wp2_with (go_at_call 35; refine hST.mono ?_; rintro e W1 ⟨rfl, hbel⟩; have hb1 := HZ2 _ hbel; obtain ⟨c0, c1, c2, c3, f0, f1, f2, f3, hl1⟩ := zfacts hb1; have HE := thid (zend hb1); clear hb1 hbel)
            refine bodyPost_ret (v := .tuple #[tkV ⟨4, 0, 0, mkB acc⟩, .int .i64 ((k : Int) + 1)]) (by simp [results, Tryd.results29, go_sem, tkV, mkB, c0, c1, c2, c3]) rfl ⟨by rw [HQ.out]; rfl, HE.out _ _ _ _⟩
          · have he2 : s[k + 1] = 39 := UInt8.toNat_inj.1 (by have := beq_iff_eq.1 hq2; simp; omega)
            rw [he2] at hd2
            by_cases h24 : acc.length = 24
            · have HQ : Hid (quoP l = (zTk, 0)) := by
                show _ = _
                rw [← HI.out.1, hd, hd2, qRes_two, qRes_full (by simp; omega)]
              have hb1 := HZ.out _ HI.out.2.2
              obtain ⟨c0, c1, c2, c3, f0, f1, f2, f3, hl1⟩ := zfacts hb1
              have HE := zend hb1
              have hLN := HLN.out
              rw [h24] at hLN
              clear hb1 hd hd2 he he2 hbl HSt HWr
              go_wp2_with (go_at_call 41; refine hLN.mono ?_; rintro e w' ⟨rfl, rfl⟩)
              refine bodyPost_ret (v := .tuple #[tkV zTk, .int .i64 0]) (by simp [results, Tryd.results29, go_sem, tkV, zTk, mkB, c0, c1, c2, c3]) rfl ⟨by rw [HQ.out]; rfl, HE _ _ _ _⟩
            · have hnn : ((acc.length : Int) == 24) = false := by rw [beq_eq_false_iff_ne]; omega
              have HQ : Hid (qRes (acc ++ [s[k + 1]]) (k + 2) (l.drop (k + 2)) = quoP l) := by
                show _ = _
                rw [← HI.out.1, hd, hd2, qRes_two, he2]
              have hLN := HLN.out
              have hW := HWr.out s[k + 1] (by omega) hsz
              rw [bytes_snoc] at hW
              clear hd hd2 he he2 hbl HSt HWr
              go_wp2_with (first | (go_at_call 41; refine hLN.mono ?_; rintro e w' ⟨rfl, rfl⟩) | (go_at_call 42; refine hW.mono ?_; rintro e w' ⟨rfl, hb, hbel⟩))
              exact ⟨⟨k + 2, acc ++ [s[k + 1]], by omega, by omega, by go_num, by simp; omega, HQ.out, Or.inr hb, HI.out.2.2.trans hbel⟩, by simp [intOf]; omega⟩
    · have HQ : Hid (quoP l = (zTk, 0)) := by
        show _ = _
        rw [← HI.out.1, HL.out k (by omega), qRes_nil]
      have hb1 := HZ.out _ HI.out.2.2
      obtain ⟨c0, c1, c2, c3, f0, f1, f2, f3, hl1⟩ := zfacts hb1
      have HE := zend hb1
      clear hb1 hbl HSt HWr HLN
      go_wp2_with fail
      refine bodyPost_ret (v := .tuple #[tkV zTk, .int .i64 0]) (by simp [results, Tryd.results29, go_sem, tkV, zTk, mkB, c0, c1, c2, c3]) rfl ⟨by rw [HQ.out]; rfl, HE _ _ _ _⟩
end Go.Proofs.YtfokllgfejcehaaDoor
