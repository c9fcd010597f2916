/-
  The document's Read, at a text: a loop that gathers the bytes.
-/
import Derived.Test.YtedlohapoafkjaaDoorCodeE
import Derived.Test.YtedlohapoafkjaaDoorCodeH
namespace Go.Proofs.YtedlohapoafkjaaDoor
open Go.RowKit

theorem owns_form {base : Nat} {W : World} {v : Value} {l : List UInt8} (h : Owns base W v l) : ∃ a cap, v = .slice a l.length cap := by
  rcases h.2 with ⟨rfl, h0⟩ | ⟨g, cap, cur, rfl, _⟩
  · exact ⟨none, 0, by rw [h0]⟩
  · exact ⟨_, _, rfl⟩

set_option maxRecDepth 100000 in
set_option maxHeartbeats 8000000 in
theorem rread_text (s : ByteArray) (hs : s.size ≤ 100000) (hp : 0 < s.size) (h3 : s[0] = 3) (w : World) :
    Calls Tryd.prog 19 #[.string s] w fun e w' => e = .returned (.tuple #[optV (left [] 1 (s.data.toList.drop 1)), .int .i64 (optN (left [] 1 (s.data.toList.drop 1)))]) ∧ Below w.heap.size w w' := by
  have b0 := byte_bool' (c := s[0]) (d := 0) (by rw [h3]; decide) 0 rfl
  have b1 := byte_bool' (c := s[0]) (d := 1) (by rw [h3]; decide) 1 rfl
  have b2 := byte_bool' (c := s[0]) (d := 2) (by rw [h3]; decide) 2 rfl
  have b3 := byte_bool h3 3 rfl
  clear h3
  have hz0 : ((s.size : Int) == 0) = false := by rw [beq_eq_false_iff_ne]; omega
  go_enter Tryd.func19, Tryd.ntmps19
  have B0 := below_alloc w (.cells #[.int .i64 0, .int .i64 0, .string ⟨#[]⟩] 23)
  obtain ⟨_, v0, v1, v2⟩ := boxed_new w 0 0 ⟨#[]⟩ 23
  have vf := frozen_new w #[.int .i64 0, .int .i64 0, .string ⟨#[]⟩] 23
  have hf : (w.alloc (.cells #[.int .i64 0, .int .i64 0, .string ⟨#[]⟩] 23)).heap.size = w.heap.size + 1 := by simp
  go_wp2
  have hO := owns_new (w.heap.size + 1) (w.alloc (.cells #[.int .i64 0, .int .i64 0, .string ⟨#[]⟩] 23)) (by simp) [] (by decide)
  have hB := (Below.refl (w.heap.size + 1) (w.alloc (.cells #[.int .i64 0, .int .i64 0, .string ⟨#[]⟩] 23))).alloc (by simp) (.cells #[] 5)
  generalize w.alloc (.cells #[.int .i64 0, .int .i64 0, .string ⟨#[]⟩] 23) = W at *
  go_loopw [4, 5] (fun v i wr => ∃ (j : Nat) (acc : List UInt8), 1 ≤ j ∧ j ≤ s.size ∧ acc.length ≤ j ∧ i = .int .i64 (j : Int) ∧ Hid (left [] 1 (s.data.toList.drop 1) = left acc j (s.data.toList.drop j)) ∧ Owns (w.heap.size + 1) wr v acc ∧ Below (w.heap.size + 1) W wr) (fun _ i _ => s.size - (intOf i).toNat)
  case atStart => exact ⟨1, [], by omega, by omega, by simp, rfl, rfl, by rw [hf] at hO; exact hO, hB⟩
  case round =>
    obtain ⟨j, acc, hj1, hj, ha, rfl, HL, O, B⟩ := hrel
    obtain ⟨ad, cp, rfl⟩ := owns_form O
    rw [← B.cell (by simp)] at v0 v1 v2
    have vf' : ∀ o, wr.frozen? ⟨w.heap.size, o, none⟩ = false := fun o => by rw [B.frozen (by simp)]; exact vf o
    have hw : w.heap.size + 1 ≤ wr.heap.size := by have := B.size; omega
    have HO : Hid _ := O
    have HB : Hid _ := B
    have HBw : Hid (Below w.heap.size w wr) := B0.trans (B.mono (by omega))
    clear O B hO hB vf
    by_cases hlt : j + 1 < s.size
    · have HD : Hid _ := drop_two s j hlt
      have hjs : j < s.size := by omega
      have hj2 : (j : Int) + 1 < (s.size : Int) := by omega
      have hj3 : 0 ≤ (j : Int) + 1 := by omega
      cases hc0 : ((s[j].toNat : Int) == 0)
      · have HN : Hid (left acc j (s.data.toList.drop j) = left (acc ++ [s[j]]) (j + 1) (s.data.toList.drop (j + 1))) := by
          show _ = _
          rw [HD.out, left_ne (byte_ne 0 rfl hc0), drop_one s (j + 1) hlt]
        go_wp2_with (first
          | (at_builtin; refine wpList_append_bytes rfl _ _ rfl rfl (w.heap.size + 1) W _ _ rfl (owns_alloc HO.out _) (HB.out.alloc hw _) (by omega) (Nat.le_trans hw (Nat.le_of_lt (by simp))) wr.heap.size [s[j]] 1 1 rfl (by simp) rfl (one_new _ _ _ rfl _) ?_; intro v1 w1 O1 B1; have HO1 : Hid _ := O1; have HB1 : Hid _ := B1; clear O1 B1)
          | go_in)
        exact ⟨⟨j + 1, acc ++ [s[j]], by omega, by omega, by simp; omega, by go_num, HL.out.trans HN.out, HO1.out, HB1.out⟩, by simp [intOf]; omega⟩
      · have HQ : Hid _ := byte_eq 0 rfl hc0
        cases hc1 : ((s[j + 1].toNat : Int) == 1)
        · cases hc2 : ((s[j + 1].toNat : Int) == 255)
          · have HN : Hid (left acc j (s.data.toList.drop j) = none) := by
              show _ = _
              rw [HD.out, HQ.out, left_bad (byte_ne 1 rfl hc1) (byte_ne 255 rfl hc2)]
            go_wp2
            refine bodyPost_ret (v := .tuple #[valV 0 0 ⟨#[]⟩, .int .i64 0]) (by simp [results, Tryd.results19, go_sem, valV, v0, v1, v2]) rfl ⟨?_, below_store3 HBw.out _ _ _⟩
            rw [HL.out, HN.out]
            rfl
          · have HN : Hid (left acc j (s.data.toList.drop j) = left (acc ++ [0]) (j + 2) (s.data.toList.drop (j + 2))) := by
              show _ = _
              rw [HD.out, HQ.out, byte_eq 255 rfl hc2, left_ff]
            go_wp2_with (first
              | (at_builtin; refine wpList_append_bytes rfl _ _ rfl rfl (w.heap.size + 1) W _ _ rfl (owns_alloc HO.out _) (HB.out.alloc hw _) (by omega) (Nat.le_trans hw (Nat.le_of_lt (by simp))) wr.heap.size [0] 1 1 rfl (by simp) rfl (one_new _ _ _ rfl _) ?_; intro v1 w1 O1 B1; have HO1 : Hid _ := O1; have HB1 : Hid _ := B1; clear O1 B1)
              | go_in)
            exact ⟨⟨j + 2, acc ++ [0], by omega, by omega, by simp; omega, by go_num, HL.out.trans HN.out, HO1.out, HB1.out⟩, by simp [intOf]; omega⟩
        · have hc2 : ((s[j + 1].toNat : Int) == 255) = false := by
            rw [byte_eq 1 rfl hc1]; rfl
          by_cases hlen : acc.length ≤ 24
          · have HN : Hid (left acc j (s.data.toList.drop j) = some (acc, j + 2)) := by
              show _ = _
              rw [HD.out, HQ.out, byte_eq 1 rfl hc1, left_one hlen]
            have hcv := conv_own HO.out
            go_wp2
            refine bodyPost_ret (v := .tuple #[valV 3 0 (strB acc), .int .i64 ((j : Int) + 2)]) (by simp [results, Tryd.results19, go_sem, valV, v0, v1, v2]) rfl ⟨?_, below_store3 HBw.out _ _ _⟩
            rw [HL.out, HN.out]
            rfl
          · have HN : Hid (left acc j (s.data.toList.drop j) = none) := by
              show _ = _
              rw [HD.out, HQ.out, byte_eq 1 rfl hc1, left_one_long hlen]
            go_wp2
            refine bodyPost_ret (v := .tuple #[valV 0 0 ⟨#[]⟩, .int .i64 0]) (by simp [results, Tryd.results19, go_sem, valV, v0, v1, v2]) rfl ⟨?_, below_store3 HBw.out _ _ _⟩
            rw [HL.out, HN.out]
            rfl
    · have HN : Hid (left acc j (s.data.toList.drop j) = none) := left_end _ _ _ (by rw [List.length_drop]; show s.size - j ≤ 1; omega)
      go_wp2
      refine bodyPost_ret (v := .tuple #[valV 0 0 ⟨#[]⟩, .int .i64 0]) (by simp [results, Tryd.results19, go_sem, valV, v0, v1, v2]) rfl ⟨?_, below_store3 HBw.out _ _ _⟩
      rw [HL.out, HN.out]
      rfl

theorem wrap_sub (x : Nat) (h : x < 18446744073709551616) : wrap64 (IntKind.u64.wrap ((x : Int) - 9223372036854775808)) = (x : Int) - 9223372036854775808 := by
  rw [IntKind.wrap_u64]
  unfold wrap64
  omega

set_option maxRecDepth 100000 in
set_option maxHeartbeats 4000000 in
theorem rread_walk (s : ByteArray) (hs : s.size ≤ 100000) (w : World) :
    Calls Tryd.prog 19 #[.string s] w fun e w' => e = .returned (.tuple #[rdV s.data.toList, .int .i64 (readN s.data.toList : Int)]) ∧ Below w.heap.size w w' := by
  by_cases hz : s.size = 0
  · go_enter Tryd.func19, Tryd.ntmps19
    obtain ⟨e1, e2⟩ := rd_none (read_empty hz)
    have hz0 : ((s.size : Int) == 0) = true := by rw [hz]; rfl
    go_wp2
    refine bodyPost_ret (v := .tuple #[valV 0 0 ⟨#[]⟩, .int .i64 0]) (by simp [results, Tryd.results19, go_sem, valV]) rfl ⟨?_, below_alloc _ _⟩
    first | rfl | (rw [e1, e2]; rfl)
  have hp : 0 < s.size := by omega
  have hz0 : ((s.size : Int) == 0) = false := by rw [beq_eq_false_iff_ne]; omega
  clear hz
  by_cases h3 : s[0] = 3
  · obtain ⟨e1, e2⟩ := read_3v hp h3
    rw [e1, e2]
    exact rread_text s hs hp h3 w
  go_enter Tryd.func19, Tryd.ntmps19
  have b3 := byte_bool' h3 3 rfl
  by_cases h0 : s[0] = 0
  · obtain ⟨e1, e2⟩ := rd_some (read_0 hp h0)
    have b0 := byte_bool h0 0 rfl
    clear h0
    go_wp2
    refine bodyPost_ret (v := .tuple #[valV 0 0 ⟨#[]⟩, .int .i64 1]) (by simp [results, Tryd.results19, go_sem, valV]) rfl ⟨?_, below_alloc _ _⟩
    first | rfl | (rw [e1, e2]; rfl)
  have b0 := byte_bool' h0 0 rfl
  by_cases h1 : s[0] = 1
  · have b1 := byte_bool h1 1 rfl
    have b2 := byte_bool' (c := s[0]) (d := 2) (by rw [h1]; decide) 2 rfl
    by_cases h2 : 1 < s.size
    · by_cases h4 : s[1].toNat ≤ 1
      · obtain ⟨e1, e2⟩ := rd_some (read_1 h2 h1 h4)
        clear h0 h1 h3
        have h4' : s[1].toNat < 2 := by omega
        have h5' := s[1].toNat_lt
        go_wp2
        refine bodyPost_ret (v := .tuple #[valV 1 (s[1].toNat : Int) ⟨#[]⟩, .int .i64 2]) (by simp [results, Tryd.results19, go_sem, valV]) rfl ⟨?_, below_alloc _ _⟩
        first | rfl | (rw [e1, e2]; rfl)
      · obtain ⟨e1, e2⟩ := rd_none (read_1no hp h1 (Or.inr ⟨h2, by omega⟩))
        clear h0 h1 h3
        have h4' : ¬ s[1].toNat < 2 := by omega
        go_wp2
        refine bodyPost_ret (v := .tuple #[valV 0 0 ⟨#[]⟩, .int .i64 0]) (by simp [results, Tryd.results19, go_sem, valV]) rfl ⟨?_, below_alloc _ _⟩
        first | rfl | (rw [e1, e2]; rfl)
    · obtain ⟨e1, e2⟩ := rd_none (read_1no hp h1 (Or.inl h2))
      clear h0 h1 h3
      go_wp2
      refine bodyPost_ret (v := .tuple #[valV 0 0 ⟨#[]⟩, .int .i64 0]) (by simp [results, Tryd.results19, go_sem, valV]) rfl ⟨?_, below_alloc _ _⟩
      first | rfl | (rw [e1, e2]; rfl)
  have b1 := byte_bool' h1 1 rfl
  by_cases h2 : s[0] = 2
  · have b2 := byte_bool h2 2 rfl
    by_cases h9 : 9 ≤ s.size
    · obtain ⟨e1, e2⟩ := rd_some (read_2 h9 h2)
      obtain ⟨x1, _⟩ := extract_eight s h9
      have hlt := number_lt (s.extract 1 9).data.toList
      rw [show (s.extract 1 9).data.toList.length = 8 from x1, show (256 : Nat) ^ 8 = 18446744073709551616 by decide] at hlt
      have HT : Hid _ := wrap_sub _ hlt
      clear h0 h1 h2 h3
      have h9i : (9 : Int) ≤ (s.size : Int) := by omega
      go_wp2_with fail
      refine (rnum_walk (s.extract 1 9) x1 _).mono ?_
      rintro e w1 ⟨rfl, rfl⟩
      generalize number (s.extract 1 9).data.toList = x at *
      go_wp2
      refine bodyPost_ret (v := .tuple #[valV 2 (wrap64 (IntKind.u64.wrap ((x : Int) - 9223372036854775808))) ⟨#[]⟩, .int .i64 9]) (by simp [results, Tryd.results19, go_sem, valV]) rfl ⟨?_, below_alloc _ _⟩
      rw [e1, e2, HT.out]
      rfl
    · obtain ⟨e1, e2⟩ := rd_none (read_2no hp h9 h2)
      clear h0 h1 h2 h3
      have h9' : ¬ 8 < s.size := by omega
      go_wp2
      refine bodyPost_ret (v := .tuple #[valV 0 0 ⟨#[]⟩, .int .i64 0]) (by simp [results, Tryd.results19, go_sem, valV]) rfl ⟨?_, below_alloc _ _⟩
      first | rfl | (rw [e1, e2]; rfl)
  have b2 := byte_bool' h2 2 rfl
  obtain ⟨e1, e2⟩ := rd_none (read_no hp h0 h1 h2 h3)
  clear h0 h1 h2 h3
  go_wp2
  refine bodyPost_ret (v := .tuple #[valV 0 0 ⟨#[]⟩, .int .i64 0]) (by simp [results, Tryd.results19, go_sem, valV]) rfl ⟨?_, below_alloc _ _⟩
  first | rfl | (rw [e1, e2]; rfl)
end Go.Proofs.YtedlohapoafkjaaDoor
