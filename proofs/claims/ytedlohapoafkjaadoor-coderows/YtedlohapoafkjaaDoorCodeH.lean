/-
  The value with whose key some bytes begin: begin and Read of package code.
-/
import Derived.Test.YtedlohapoafkjaaDoorCodeG
namespace Go.Proofs.YtedlohapoafkjaaDoor
open Go.RowKit

/-- The value that is read, as the model has it. -/
def rdV (l : List UInt8) : Value := valV (readV l).1 (readV l).2.1 (strB (readV l).2.2)

theorem rd_some {l : List UInt8} {k n : Int} {t : List UInt8} {m : Nat} (h : readL l = some ((k, n, t), m)) : rdV l = valV k n (strB t) ∧ readN l = m := by
  unfold rdV readV readN
  rw [h]
  exact ⟨rfl, rfl⟩

theorem rd_none {l : List UInt8} (h : readL l = none) : rdV l = valV 0 0 ⟨#[]⟩ ∧ readN l = 0 := by
  unfold rdV readV readN
  rw [h]
  exact ⟨rfl, rfl⟩

theorem cons_of (s : ByteArray) (h : 0 < s.size) : s.data.toList = s[0] :: s.data.toList.drop 1 := by
  have := drop_one s 0 h
  simpa using this

theorem read_0 {s : ByteArray} (h : 0 < s.size) (h0 : s[0] = 0) : readL s.data.toList = some ((0, 0, []), 1) := by
  rw [cons_of s h, h0]; rfl

theorem read_1 {s : ByteArray} (h : 1 < s.size) (h0 : s[0] = 1) (h1 : s[1].toNat ≤ 1) : readL s.data.toList = some (((1 : Int), (s[1].toNat : Int), []), 2) := by
  have e : (s.data.toList.drop 1).getD 0 0 = s[1] := by rw [drop_one s 1 h]; rfl
  have hl : 1 ≤ (s.data.toList.drop 1).length := by rw [List.length_drop]; show 1 ≤ s.size - 1; omega
  rw [cons_of s (by omega), h0]
  show (if 1 ≤ (s.data.toList.drop 1).length ∧ ((s.data.toList.drop 1).getD 0 0).toNat < 2 then _ else _) = _
  rw [e, if_pos ⟨hl, by omega⟩]

theorem read_1no {s : ByteArray} (h : 0 < s.size) (h0 : s[0] = 1) (h1 : ¬ 1 < s.size ∨ ∃ h : 1 < s.size, 1 < s[1].toNat) : readL s.data.toList = none := by
  rw [cons_of s h, h0]
  show (if 1 ≤ (s.data.toList.drop 1).length ∧ ((s.data.toList.drop 1).getD 0 0).toNat < 2 then _ else _) = _
  rw [if_neg]
  rintro ⟨a, b⟩
  rw [List.length_drop] at a
  have a' : 1 ≤ s.size - 1 := a
  rcases h1 with h1 | ⟨h1, h2⟩
  · omega
  · rw [drop_one s 1 h1] at b
    have : s[1].toNat < 2 := b
    omega

theorem extract_eight (s : ByteArray) (h : 9 ≤ s.size) : (s.extract 1 9).size = 8 ∧ (s.extract 1 9).data.toList = (s.data.toList.drop 1).take 8 := by
  constructor
  · rw [ByteArray.size_extract]; omega
  · rw [ByteArray.data_extract, Array.toList_extract]

theorem read_2 {s : ByteArray} (h : 9 ≤ s.size) (h0 : s[0] = 2) : readL s.data.toList = some ((2, (number (s.extract 1 9).data.toList : Int) - 9223372036854775808, []), 9) := by
  have hl : 8 ≤ (s.data.toList.drop 1).length := by rw [List.length_drop]; show 8 ≤ s.size - 1; omega
  rw [cons_of s (by omega), h0, (extract_eight s h).2]
  show (if 8 ≤ (s.data.toList.drop 1).length then _ else _) = _
  rw [if_pos hl]

theorem read_2no {s : ByteArray} (h : 0 < s.size) (h9 : ¬ 9 ≤ s.size) (h0 : s[0] = 2) : readL s.data.toList = none := by
  have hl : ¬ 8 ≤ (s.data.toList.drop 1).length := by rw [List.length_drop]; show ¬ 8 ≤ s.size - 1; omega
  rw [cons_of s h, h0]
  show (if 8 ≤ (s.data.toList.drop 1).length then _ else _) = _
  rw [if_neg hl]

theorem read_3 {s : ByteArray} (h : 0 < s.size) (h0 : s[0] = 3) : readL s.data.toList = (left [] 1 (s.data.toList.drop 1)).map fun p => ((3, 0, p.1), p.2) := by
  rw [cons_of s h, h0, read_text]
  simp

theorem read_3v {s : ByteArray} (h : 0 < s.size) (h0 : s[0] = 3) : rdV s.data.toList = optV (left [] 1 (s.data.toList.drop 1)) ∧ (readN s.data.toList : Int) = optN (left [] 1 (s.data.toList.drop 1)) := by
  have hr := read_3 h h0
  cases e : left [] 1 (s.data.toList.drop 1) with
  | none =>
    rw [e] at hr
    obtain ⟨a, b⟩ := rd_none hr
    rw [a, b]; exact ⟨rfl, rfl⟩
  | some p =>
    rw [e] at hr
    obtain ⟨a, b⟩ := rd_some hr
    rw [a, b]; exact ⟨rfl, rfl⟩

theorem read_no {s : ByteArray} (h : 0 < s.size) (h0 : ¬ s[0] = 0) (h1 : ¬ s[0] = 1) (h2 : ¬ s[0] = 2) (h3 : ¬ s[0] = 3) : readL s.data.toList = none := by
  rw [cons_of s h, readL]
  simp [h0, h1, h2, h3]

theorem read_empty {s : ByteArray} (h : s.size = 0) : readL s.data.toList = none := by
  have : s.data.toList = [] := List.length_eq_zero_iff.1 h
  rw [this]; rfl

theorem byte_bool {c d : UInt8} (h : c = d) (x : Int) (hd : x = (d.toNat : Int)) : ((c.toNat : Int) == x) = true := by rw [h, hd]; exact beq_self_eq_true _
theorem byte_bool' {c d : UInt8} (h : ¬ c = d) (x : Int) (hd : x = (d.toNat : Int)) : ((c.toNat : Int) == x) = false := by
  rw [beq_eq_false_iff_ne, hd]
  intro e
  exact h (UInt8.toNat_inj.1 (by omega))

theorem turn_back64 (u : Nat) (h : u < 18446744073709551616) : wrap64 (bits .xor .u64 (u : Int) 9223372036854775808) = (u : Int) - 9223372036854775808 := by
  have h2 : (9223372036854775808 : Int) = ((9223372036854775808 : Nat) : Int) := by omega
  rw [h2, bits_xor_u64_nat _ _ h (by omega), xor_top _ h]
  unfold wrap64
  omega

theorem bcell2 {W w1 : World} (hb : Below W.heap.size W w1) : (∀ b o, b < W.heap.size → w1.cell? ⟨b, o, none⟩ = W.cell? ⟨b, o, none⟩) ∧ (∀ b o, b < W.heap.size → w1.frozen? ⟨b, o, none⟩ = W.frozen? ⟨b, o, none⟩) :=
  ⟨fun b o h => hb.cell (p := ⟨b, o, none⟩) h, fun b o h => hb.frozen (p := ⟨b, o, none⟩) h⟩

set_option maxRecDepth 100000 in
set_option maxHeartbeats 4000000 in
theorem begin_walk (s : ByteArray) (hs : s.size ≤ 1000000) (w : World) :
    Calls Tryd.prog 36 #[.string s] w fun e w' => e = .returned (.tuple #[rdV s.data.toList, .int .i64 (readN s.data.toList : Int)]) ∧ Below w.heap.size w w' := by
  go_enter Tryd.func36, Tryd.ntmps36
  by_cases hz : s.size = 0
  · obtain ⟨e1, e2⟩ := rd_none (read_empty hz)
    have he : s.toList.isEmpty = true := by rw [toList_isEmpty, hz]; rfl
    go_wp2
    refine bodyPost_ret (v := .tuple #[valV 0 0 ⟨#[]⟩, .int .i64 0]) (by simp [results, Tryd.results36, go_sem, valV]) rfl ⟨?_, ?_⟩
    · first | rfl | (rw [e1, e2]; rfl)
    · exact below_alloc _ _
  · have hp : 0 < s.size := by omega
    have he : s.toList.isEmpty = false := by rw [toList_isEmpty]; simpa using hz
    clear hz
    by_cases h0 : s[0] = 0
    · obtain ⟨e1, e2⟩ := rd_some (read_0 hp h0)
      have b0 := byte_bool h0 0 rfl
      clear h0
      go_wp2
      refine bodyPost_ret (v := .tuple #[valV 0 0 ⟨#[]⟩, .int .i64 1]) (by simp [results, Tryd.results36, go_sem, valV]) rfl ⟨?_, below_alloc _ _⟩
      first | rfl | (rw [e1, e2]; rfl)
    have b0 := byte_bool' h0 0 rfl
    by_cases h1 : s[0] = 1
    · have b1 := byte_bool h1 1 rfl
      have b2 := byte_bool' (c := s[0]) (d := 2) (by rw [h1]; decide) 2 rfl
      have b3 := byte_bool' (c := s[0]) (d := 3) (by rw [h1]; decide) 3 rfl
      by_cases h2 : 1 < s.size
      · by_cases h3 : s[1].toNat ≤ 1
        · obtain ⟨e1, e2⟩ := rd_some (read_1 h2 h1 h3)
          clear h0 h1
          have h2' : 2 ≤ s.size := h2
          have h3' := s[1].toNat_lt
          go_wp2
          refine bodyPost_ret (v := .tuple #[valV 1 (s[1].toNat : Int) ⟨#[]⟩, .int .i64 2]) (by simp [results, Tryd.results36, go_sem, valV]) rfl ⟨?_, below_alloc _ _⟩
          first | rfl | (rw [e1, e2]; rfl)
        · obtain ⟨e1, e2⟩ := rd_none (read_1no hp h1 (Or.inr ⟨h2, by omega⟩))
          clear h0 h1
          have h2' : 2 ≤ s.size := h2
          have h3' : 1 < s[1].toNat := by omega
          go_wp2
          refine bodyPost_ret (v := .tuple #[valV 0 0 ⟨#[]⟩, .int .i64 0]) (by simp [results, Tryd.results36, go_sem, valV]) rfl ⟨?_, below_alloc _ _⟩
          first | rfl | (rw [e1, e2]; rfl)
      · obtain ⟨e1, e2⟩ := rd_none (read_1no hp h1 (Or.inl h2))
        clear h0 h1
        have h2' : ¬ 2 ≤ s.size := by omega
        go_wp2
        refine bodyPost_ret (v := .tuple #[valV 0 0 ⟨#[]⟩, .int .i64 0]) (by simp [results, Tryd.results36, go_sem, valV]) rfl ⟨?_, below_alloc _ _⟩
        first | rfl | (rw [e1, e2]; rfl)
    have b1 := byte_bool' h1 1 rfl
    by_cases h2 : s[0] = 2
    · have b2 := byte_bool h2 2 rfl
      have b3 := byte_bool' (c := s[0]) (d := 3) (by rw [h2]; decide) 3 rfl
      by_cases h9 : 9 ≤ s.size
      · obtain ⟨e1, e2⟩ := rd_some (read_2 h9 h2)
        obtain ⟨x1, _⟩ := extract_eight s h9
        have hlt := number_lt (s.extract 1 9).data.toList
        rw [show (s.extract 1 9).data.toList.length = 8 from x1, show (256 : Nat) ^ 8 = 18446744073709551616 by decide] at hlt
        have HT : Hid _ := turn_back64 _ hlt
        clear h0 h1 h2
        go_wp2_with fail
        refine (joined_walk (s.extract 1 9) x1 _).mono ?_
        rintro e w1 ⟨rfl, hb⟩
        generalize number (s.extract 1 9).data.toList = x at *
        have hB := below_on (below_alloc w _) hb
        obtain ⟨hc, hf⟩ := bcell2 hb
        go_wp2
        refine bodyPost_ret (v := .tuple #[valV 2 (wrap64 (bits BinOp.xor IntKind.u64 (x : Int) 9223372036854775808)) ⟨#[]⟩, .int .i64 9]) (by simp [results, Tryd.results36, go_sem, valV, hc]) rfl ⟨?_, below_store3 hB _ _ _⟩
        rw [e1, e2, ← HT.out]
        rfl
      · obtain ⟨e1, e2⟩ := rd_none (read_2no hp h9 h2)
        clear h0 h1 h2
        go_wp2
        refine bodyPost_ret (v := .tuple #[valV 0 0 ⟨#[]⟩, .int .i64 0]) (by simp [results, Tryd.results36, go_sem, valV]) rfl ⟨?_, below_alloc _ _⟩
        first | rfl | (rw [e1, e2]; rfl)
    have b2 := byte_bool' h2 2 rfl
    by_cases h3 : s[0] = 3
    · have b3 := byte_bool h3 3 rfl
      obtain ⟨e1, e2⟩ := read_3v hp h3
      clear h0 h1 h2 h3
      go_wp2_with fail
      refine (bt_walk s hs (by omega) _).mono ?_
      rintro e w1 ⟨rfl, hb⟩
      have hB := below_on (below_alloc w _) hb
      obtain ⟨hc, hf⟩ := bcell2 hb
      rw [← e1, ← e2]
      clear e1 e2
      unfold rdV valV
      go_wp2
      refine bodyPost_ret (v := .tuple #[valV (readV s.data.toList).1 (readV s.data.toList).2.1 (strB (readV s.data.toList).2.2), .int .i64 (readN s.data.toList : Int)]) (by simp [results, Tryd.results36, go_sem, valV, hc]) rfl ⟨rfl, below_store3 hB _ _ _⟩
    · have b3 := byte_bool' h3 3 rfl
      obtain ⟨e1, e2⟩ := rd_none (read_no hp h0 h1 h2 h3)
      clear h0 h1 h2 h3
      go_wp2
      refine bodyPost_ret (v := .tuple #[valV 0 0 ⟨#[]⟩, .int .i64 0]) (by simp [results, Tryd.results36, go_sem, valV]) rfl ⟨?_, below_alloc _ _⟩
      first | rfl | (rw [e1, e2]; rfl)

theorem frozen_new (w : World) (cs : Array Value) (t : TypeId) (o : Nat) : (w.alloc (.cells cs t)).frozen? ⟨w.heap.size, o, none⟩ = false := by
  rw [frozen?_alloc_cells]
  simp [World.frozen?]

/-- What Read answers behind the value: the rest, and the error. -/
def restS (s : ByteArray) : ByteArray := if readN s.data.toList = 0 then ⟨#[]⟩ else strB (s.data.toList.drop (readN s.data.toList))
def readE (s : ByteArray) : Int := if readN s.data.toList = 0 then 16 else 0

theorem readN_le (l : List UInt8) : readN l ≤ l.length := by
  unfold readN
  cases h : readL l with
  | none => exact Nat.zero_le _
  | some p =>
    obtain ⟨⟨k, n, t⟩, m⟩ := p
    obtain ⟨_, _, h1, more, h2⟩ := key_read h
    simp only
    rw [h1, h2, List.length_append]
    omega

theorem extract_drop (s : ByteArray) (j : Nat) : s.extract j s.size = strB (s.data.toList.drop j) := by
  apply ByteArray.ext
  apply Array.ext'
  rw [ByteArray.data_extract, Array.toList_extract]
  show _ = (s.data.toList.drop j)
  rw [List.extract_eq_take_drop]
  exact List.take_of_length_le (by rw [List.length_drop]; exact Nat.le_refl _)

theorem rdV_none {s : ByteArray} (h : readN s.data.toList = 0) : rdV s.data.toList = valV 0 0 ⟨#[]⟩ := by
  cases hr : readL s.data.toList with
  | none => exact (rd_none hr).1
  | some p =>
    exfalso
    obtain ⟨⟨k, n, t⟩, m⟩ := p
    obtain ⟨_, _, h1, _, _⟩ := key_read hr
    rw [(rd_some hr).2] at h
    rw [h] at h1
    have : keyL k n ⟨t.toArray⟩ ≠ [] := by
      unfold keyL
      split
      · simp
      split
      · simp
      split <;> simp
    exact this (List.length_eq_zero_iff.1 h1.symm)

set_option maxRecDepth 100000 in
set_option maxHeartbeats 4000000 in
theorem read_walk (s : ByteArray) (hs : s.size ≤ 1000000) (w : World) :
    Calls Tryd.prog 17 #[.string s] w fun e w' => e = .returned (.tuple #[rdV s.data.toList, .string (restS s), .int .i64 (readE s)]) ∧ Below w.heap.size w w' := by
  go_enter Tryd.func17, Tryd.ntmps17
  go_wp2_with fail
  refine (begin_walk s hs _).mono ?_
  rintro e w1 ⟨rfl, hb⟩
  have hB := below_on (below_alloc w _) hb
  obtain ⟨hz, c0, c1, c2⟩ := (boxed_new w 0 0 ⟨#[]⟩ 23).below hb
  have hf : ∀ o, w1.frozen? ⟨w.heap.size, o, none⟩ = false := fun o => by rw [hb.frozen (by simp)]; exact frozen_new w _ _ o
  clear hb
  by_cases h0 : readN s.data.toList = 0
  · have e1 := rdV_none h0
    have e2 : restS s = ⟨#[]⟩ := by unfold restS; rw [if_pos h0]
    have e3 : readE s = 16 := by unfold readE; rw [if_pos h0]
    rw [h0, e1]
    unfold valV
    go_wp2
    refine bodyPost_ret (v := .tuple #[valV 0 0 ⟨#[]⟩, .string ⟨#[]⟩, .int .i64 16]) (by simp [results, Tryd.results17, go_sem, valV, hz, c0, c1, c2]) rfl ⟨?_, (below_store3 hB _ _ _).alloc (Nat.le_of_lt (by simpa [World.setCell] using hz)) _⟩
    rw [e1, e2, e3]
  · have hle := readN_le s.data.toList
    have hle' : readN s.data.toList ≤ s.size := hle
    have e2 : restS s = s.extract (readN s.data.toList) s.size := by unfold restS; rw [if_neg h0, extract_drop]
    have e3 : readE s = 0 := by unfold readE; rw [if_neg h0]
    have hi : ((readN s.data.toList : Int) == 0) = false := by rw [beq_eq_false_iff_ne]; omega
    have E2 : Hid _ := e2
    have E3 : Hid _ := e3
    clear h0 hle e2 e3
    unfold rdV valV
    go_wp2
    go_region
    go_wp2
    refine bodyPost_ret (v := .tuple #[valV (readV s.data.toList).1 (readV s.data.toList).2.1 (strB (readV s.data.toList).2.2), .string (s.extract (readN s.data.toList) s.size), .int .i64 0]) (by simp [results, Tryd.results17, go_sem, valV, hz, c0, c1, c2]) rfl ⟨?_, ((below_store3 hB _ _ _).alloc (Nat.le_of_lt (by simpa [World.setCell] using hz)) _).drew⟩
    rw [E2.out, E3.out]
    rfl
end Go.Proofs.YtedlohapoafkjaaDoor
