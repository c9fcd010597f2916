/-
  Lex: the document's Text.
-/
import Derived.Test.YtfokllgfejcehaaDoorLyB
namespace Go.Proofs.YtfokllgfejcehaaDoor
open Go.RowKit

set_option maxRecDepth 100000 in
set_option maxHeartbeats 2000000 in
theorem rtext_walk {l : List Tk} {a : Option Addr} {n c : Nat} {w : World} (h : Rw.SlG tkC 4 w a l) (hl : l.length = n) (hn : n ≤ 4000) (hok : ∀ t ∈ l, TkOk 3000 t) :
    Calls Tryd.prog 13 #[.slice a n c] w fun e w' => e = .returned (.string (joinB (textsL l))) ∧ Below w.heap.size w w' := by
  have HH := thid h
  have HL := thid hl
  have HT : Hid (l.take n = l) := by show _ = _; rw [← hl]; exact List.take_length
  have HOK := thid hok
  clear h hl hok
  go_enter Tryd.func13, Tryd.ntmps13
  go_wp2_with fail
  go_loopw [3, 4, 5] (fun v f i wr => ∃ (j : Nat) (S : ByteArray) (fb : Bool), j ≤ n ∧ i = .int .i64 (j : Int) ∧ v = .string S ∧ f = .bool fb ∧ Hid (S = joinB (textsL (l.take j)) ∧ fb = (textsL (l.take j)).isEmpty) ∧ Hid (Below w.heap.size w wr)) (fun _ _ i _ => n - (intOf i).toNat)
  case atStart => exact ⟨0, _, _, Nat.zero_le _, rfl, rfl, rfl, ⟨rfl, rfl⟩, Below.refl _ _⟩
  case round =>
    obtain ⟨j, S, fb, hj, rfl, rfl, rfl, HF, HB⟩ := hrel
    by_cases hlt : j < n
    · obtain ⟨b, o, x, rfl, hb, hx, hc⟩ := (HH.out.below HB.out).at (j := j) (by rw [HL.out]; exact hlt)
      have HSN : Hid (textsL (l.take (j + 1)) = textsL (l.take j) ++ (match tkT x with | some y => [y] | none => [])) := by
        show _ = _
        obtain ⟨hjl, rfl⟩ := List.getElem?_eq_some_iff.1 hx
        rw [List.take_succ_eq_append_getElem hjl]
        exact texts_snoc _ _
      have HXO := thid (HOK.out x (List.mem_of_getElem? hx))
      have hS : S.size ≤ 30000000 := by
        have hst := texts_size (N := 3000) (l := l.take j) fun t ht => HOK.out t (List.mem_of_mem_take ht)
        have hjs := joinB_size (textsL (l.take j)) 6030 hst.1
        have h5 : (textsL (l.take j)).length ≤ 4000 := by have h6 := hst.2; rw [List.length_take] at h6; omega
        have h4 : (textsL (l.take j)).length * (6030 + 1) ≤ 4000 * 6031 := Nat.mul_le_mul_right _ h5
        rw [HF.out.1]
        omega
      obtain ⟨xk, xn, xp, xs⟩ := x
      have c0 : wr.cell? ⟨b, o + j * 4, none⟩ = some (.int .i64 xk) := hc 0 _ rfl
      have c1 : wr.cell? ⟨b, o + j * 4 + 1, none⟩ = some (.int .i64 xn) := hc 1 _ rfl
      have c3 : wr.cell? ⟨b, o + j * 4 + 3, none⟩ = some (.string xs) := hc 3 _ rfl
      clear hx hc
      by_cases k1 : xk = 1
      · subst k1
        have HNX : Hid (textsL (l.take (j + 1)) = textsL (l.take j) ++ [xs]) := by show _ = _; rw [HSN.out]; rfl
        have hys : (xs).size ≤ 10000 := by
          have h2 : (xs).size ≤ 2 * 3000 + 30 := tkT_size HXO.out rfl
          omega
        cases fb
        · have HNS : Hid (joinB (textsL (l.take (j + 1))) = S ++ ⟨#[32]⟩ ++ xs) := by
            show _ = _
            rw [HNX.out, joinB_snoc (by intro e; rw [e] at HF; exact absurd HF.out.2 (by simp)), HF.out.1]
          have HNF : Hid ((textsL (l.take (j + 1))).isEmpty = false) := by show _ = _; rw [HNX.out]; simp
          clear HNX HSN
          go_wp2_with fail
          refine ⟨⟨j + 1, _, _, hlt, by go_num, rfl, rfl, ⟨HNS.out.symm, HNF.out.symm⟩, HB⟩, by simp [intOf]; omega⟩
        · have HNS : Hid (joinB (textsL (l.take (j + 1))) = S ++ xs) := by
            have h0 : textsL (l.take j) = [] := List.isEmpty_iff.1 HF.out.2.symm
            have hS0 := HF.out.1
            show _ = _
            rw [HNX.out, h0, List.nil_append, joinB_one]
            rw [h0, joinB_nil] at hS0
            rw [hS0, ← mkB_of (xs), ← mkB_append, List.nil_append]
          have HNF : Hid ((textsL (l.take (j + 1))).isEmpty = false) := by show _ = _; rw [HNX.out]; simp
          clear HNX HSN
          go_wp2_with fail
          refine ⟨⟨j + 1, _, _, hlt, by go_num, rfl, rfl, ⟨HNS.out.symm, HNF.out.symm⟩, HB⟩, by simp [intOf]; omega⟩
      by_cases k2 : xk = 2
      · subst k2
        have HNX : Hid (textsL (l.take (j + 1)) = textsL (l.take j) ++ [xs]) := by show _ = _; rw [HSN.out]; rfl
        have hys : (xs).size ≤ 10000 := by
          have h2 : (xs).size ≤ 2 * 3000 + 30 := tkT_size HXO.out rfl
          omega
        cases fb
        · have HNS : Hid (joinB (textsL (l.take (j + 1))) = S ++ ⟨#[32]⟩ ++ xs) := by
            show _ = _
            rw [HNX.out, joinB_snoc (by intro e; rw [e] at HF; exact absurd HF.out.2 (by simp)), HF.out.1]
          have HNF : Hid ((textsL (l.take (j + 1))).isEmpty = false) := by show _ = _; rw [HNX.out]; simp
          clear HNX HSN
          go_wp2_with fail
          refine ⟨⟨j + 1, _, _, hlt, by go_num, rfl, rfl, ⟨HNS.out.symm, HNF.out.symm⟩, HB⟩, by simp [intOf]; omega⟩
        · have HNS : Hid (joinB (textsL (l.take (j + 1))) = S ++ xs) := by
            have h0 : textsL (l.take j) = [] := List.isEmpty_iff.1 HF.out.2.symm
            have hS0 := HF.out.1
            show _ = _
            rw [HNX.out, h0, List.nil_append, joinB_one]
            rw [h0, joinB_nil] at hS0
            rw [hS0, ← mkB_of (xs), ← mkB_append, List.nil_append]
          have HNF : Hid ((textsL (l.take (j + 1))).isEmpty = false) := by show _ = _; rw [HNX.out]; simp
          clear HNX HSN
          go_wp2_with fail
          refine ⟨⟨j + 1, _, _, hlt, by go_num, rfl, rfl, ⟨HNS.out.symm, HNF.out.symm⟩, HB⟩, by simp [intOf]; omega⟩
      by_cases k5 : xk = 5
      · subst k5
        have HNX : Hid (textsL (l.take (j + 1)) = textsL (l.take j) ++ [xs]) := by show _ = _; rw [HSN.out]; rfl
        have hys : (xs).size ≤ 10000 := by
          have h2 : (xs).size ≤ 2 * 3000 + 30 := tkT_size HXO.out rfl
          omega
        cases fb
        · have HNS : Hid (joinB (textsL (l.take (j + 1))) = S ++ ⟨#[32]⟩ ++ xs) := by
            show _ = _
            rw [HNX.out, joinB_snoc (by intro e; rw [e] at HF; exact absurd HF.out.2 (by simp)), HF.out.1]
          have HNF : Hid ((textsL (l.take (j + 1))).isEmpty = false) := by show _ = _; rw [HNX.out]; simp
          clear HNX HSN
          go_wp2_with fail
          refine ⟨⟨j + 1, _, _, hlt, by go_num, rfl, rfl, ⟨HNS.out.symm, HNF.out.symm⟩, HB⟩, by simp [intOf]; omega⟩
        · have HNS : Hid (joinB (textsL (l.take (j + 1))) = S ++ xs) := by
            have h0 : textsL (l.take j) = [] := List.isEmpty_iff.1 HF.out.2.symm
            have hS0 := HF.out.1
            show _ = _
            rw [HNX.out, h0, List.nil_append, joinB_one]
            rw [h0, joinB_nil] at hS0
            rw [hS0, ← mkB_of (xs), ← mkB_append, List.nil_append]
          have HNF : Hid ((textsL (l.take (j + 1))).isEmpty = false) := by show _ = _; rw [HNX.out]; simp
          clear HNX HSN
          go_wp2_with fail
          refine ⟨⟨j + 1, _, _, hlt, by go_num, rfl, rfl, ⟨HNS.out.symm, HNF.out.symm⟩, HB⟩, by simp [intOf]; omega⟩
      by_cases k3 : xk = 3
      · subst k3
        have HDG : Hid (Calls Tryd.prog 25 #[.int .i64 xn] wr fun e w' => e = .returned (.string (mkB (Lib.itoa xn))) ∧ Below wr.heap.size wr w') := digits_walk xn HXO.out.1 wr
        have HNX : Hid (textsL (l.take (j + 1)) = textsL (l.take j) ++ [(mkB (Lib.itoa xn))]) := by show _ = _; rw [HSN.out]; rfl
        have hys : ((mkB (Lib.itoa xn))).size ≤ 10000 := by
          have h2 : ((mkB (Lib.itoa xn))).size ≤ 2 * 3000 + 30 := tkT_size HXO.out rfl
          omega
        cases fb
        · have HNS : Hid (joinB (textsL (l.take (j + 1))) = S ++ ⟨#[32]⟩ ++ (mkB (Lib.itoa xn))) := by
            show _ = _
            rw [HNX.out, joinB_snoc (by intro e; rw [e] at HF; exact absurd HF.out.2 (by simp)), HF.out.1]
          have HNF : Hid ((textsL (l.take (j + 1))).isEmpty = false) := by show _ = _; rw [HNX.out]; simp
          clear HNX HSN
          go_wp2_with (go_at_call 25; refine HDG.out.mono ?_; rintro e W1 ⟨rfl, hw⟩; have HB1 := thid (lxon HB.out hw); have d0 : W1.cell? ⟨b, o + j * 4, none⟩ = some (.int .i64 3) := (by rw [hw.cell hb]; exact c0); have hb1 : b < W1.heap.size := Nat.lt_of_lt_of_le hb hw.size; clear hw)
          refine ⟨⟨j + 1, _, _, hlt, by go_num, rfl, rfl, ⟨HNS.out.symm, HNF.out.symm⟩, HB1⟩, by simp [intOf]; omega⟩
        · have HNS : Hid (joinB (textsL (l.take (j + 1))) = S ++ (mkB (Lib.itoa xn))) := by
            have h0 : textsL (l.take j) = [] := List.isEmpty_iff.1 HF.out.2.symm
            have hS0 := HF.out.1
            show _ = _
            rw [HNX.out, h0, List.nil_append, joinB_one]
            rw [h0, joinB_nil] at hS0
            rw [hS0, ← mkB_of ((mkB (Lib.itoa xn))), ← mkB_append, List.nil_append]
          have HNF : Hid ((textsL (l.take (j + 1))).isEmpty = false) := by show _ = _; rw [HNX.out]; simp
          clear HNX HSN
          go_wp2_with (go_at_call 25; refine HDG.out.mono ?_; rintro e W1 ⟨rfl, hw⟩; have HB1 := thid (lxon HB.out hw); have d0 : W1.cell? ⟨b, o + j * 4, none⟩ = some (.int .i64 3) := (by rw [hw.cell hb]; exact c0); have hb1 : b < W1.heap.size := Nat.lt_of_lt_of_le hb hw.size; clear hw)
          refine ⟨⟨j + 1, _, _, hlt, by go_num, rfl, rfl, ⟨HNS.out.symm, HNF.out.symm⟩, HB1⟩, by simp [intOf]; omega⟩
      by_cases k4 : xk = 4
      · subst k4
        have HSH := thid (lrshow_text xs (by have h2 : xs.size ≤ 3000 := HXO.out.2; omega) wr)
        have HNX : Hid (textsL (l.take (j + 1)) = textsL (l.take j) ++ [(quoteB xs)]) := by show _ = _; rw [HSN.out]; rfl
        have hys : ((quoteB xs)).size ≤ 10000 := by
          have h2 : ((quoteB xs)).size ≤ 2 * 3000 + 30 := tkT_size HXO.out rfl
          omega
        cases fb
        · have HNS : Hid (joinB (textsL (l.take (j + 1))) = S ++ ⟨#[32]⟩ ++ (quoteB xs)) := by
            show _ = _
            rw [HNX.out, joinB_snoc (by intro e; rw [e] at HF; exact absurd HF.out.2 (by simp)), HF.out.1]
          have HNF : Hid ((textsL (l.take (j + 1))).isEmpty = false) := by show _ = _; rw [HNX.out]; simp
          clear HNX HSN
          go_wp2_with (go_at_call 26; refine HSH.out.mono ?_; rintro e W1 ⟨rfl, hw⟩; have HB1 := thid (lxon HB.out hw); clear hw)
          refine ⟨⟨j + 1, _, _, hlt, by go_num, rfl, rfl, ⟨HNS.out.symm, HNF.out.symm⟩, HB1⟩, by simp [intOf]; omega⟩
        · have HNS : Hid (joinB (textsL (l.take (j + 1))) = S ++ (quoteB xs)) := by
            have h0 : textsL (l.take j) = [] := List.isEmpty_iff.1 HF.out.2.symm
            have hS0 := HF.out.1
            show _ = _
            rw [HNX.out, h0, List.nil_append, joinB_one]
            rw [h0, joinB_nil] at hS0
            rw [hS0, ← mkB_of ((quoteB xs)), ← mkB_append, List.nil_append]
          have HNF : Hid ((textsL (l.take (j + 1))).isEmpty = false) := by show _ = _; rw [HNX.out]; simp
          clear HNX HSN
          go_wp2_with (go_at_call 26; refine HSH.out.mono ?_; rintro e W1 ⟨rfl, hw⟩; have HB1 := thid (lxon HB.out hw); clear hw)
          refine ⟨⟨j + 1, _, _, hlt, by go_num, rfl, rfl, ⟨HNS.out.symm, HNF.out.symm⟩, HB1⟩, by simp [intOf]; omega⟩
      have HNX : Hid (textsL (l.take (j + 1)) = textsL (l.take j)) := by
        show _ = _
        rw [HSN.out]
        have : tkT ⟨xk, xn, xp, xs⟩ = none := by simp [tkT, k1, k2, k3, k4, k5]
        rw [this]
        simp
      have HF2 : Hid (S = joinB (textsL (l.take (j + 1))) ∧ fb = (textsL (l.take (j + 1))).isEmpty) := by rw [HNX.out]; exact HF.out
      clear HNX HSN
      by_cases kk : xk < 1
      · go_wp2_with fail
        exact ⟨⟨j + 1, _, _, hlt, by go_num, rfl, rfl, HF2, HB⟩, by simp [intOf]; omega⟩
      · have kk5 : 5 < xk := by omega
        go_wp2_with fail
        exact ⟨⟨j + 1, _, _, hlt, by go_num, rfl, rfl, HF2, HB⟩, by simp [intOf]; omega⟩
    · have hjn : j = n := by omega
      subst hjn
      rw [HT.out] at HF
      go_wp2_with fail
      go_ret
      exact ⟨by rw [HF.out.1]; rfl, HB.out⟩
end Go.Proofs.YtfokllgfejcehaaDoor
