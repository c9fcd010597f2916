/-
  Encode; the document's example.
-/
import Derived.Test.YtjocopclgehciaaGreatDoorMAG
import Derived.Laws.BitsAllLaws
namespace Go.Proofs.YtjocopclgehciaaGreatDoor.L5
open Go.RowKit

set_option maxRecDepth 100000 in
set_option maxHeartbeats 400000 in
theorem encode_no {n : No} {a : Option Addr} {c : Nat} {a' : Option Addr} {c' : Nat} {w : World} (hr : NR w n a c a' c') (hs : n.small) (hb : n.shaped = false) :
    Calls Tryz.prog 92 #[nodeV n a c a' c'] w fun e w' => e = .returned (.tuple #[.slice none 0 0, .int .i64 15]) ∧ Below w.heap.size w w' := by
  have HB := below_alloc w (.cells #[.bool n.leaf, .slice a n.recs.length c, .slice a' n.kids.length c'] 94)
  have HR : Hid (NR (w.alloc (.cells #[.bool n.leaf, .slice a n.recs.length c, .slice a' n.kids.length c'] 94)) n a c a' c') := hr.below HB
  go_enter Tryz.func92, Tryz.ntmps92
  unfold nodeV
  go_wp2_with fail
  refine (sound_walk (n := n) (a := a) (c := c) (a' := a') (c' := c') HR.out hs).mono ?_
  rintro e w1 ⟨rfl, B1⟩
  rw [hb]
  go_wp2
  go_ret2
  exact ⟨rfl, below_on HB B1⟩

set_option maxRecDepth 100000 in
set_option maxHeartbeats 400000 in
theorem encode_long {n : No} {a : Option Addr} {c : Nat} {a' : Option Addr} {c' : Nat} {w : World} (hr : NR w n a c a' c') (hs : n.small) (hb : n.shaped = true) (hl : 1024 < n.size) :
    Calls Tryz.prog 92 #[nodeV n a c a' c'] w fun e w' => e = .returned (.tuple #[.slice none 0 0, .int .i64 8]) ∧ Below w.heap.size w w' := by
  have HB := below_alloc w (.cells #[.bool n.leaf, .slice a n.recs.length c, .slice a' n.kids.length c'] 94)
  have HR : Hid (NR (w.alloc (.cells #[.bool n.leaf, .slice a n.recs.length c, .slice a' n.kids.length c'] 94)) n a c a' c') := hr.below HB
  have hz : w.heap.size < (w.alloc (.cells #[.bool n.leaf, .slice a n.recs.length c, .slice a' n.kids.length c'] 94)).heap.size := by simp
  obtain ⟨b0, b1, b2⟩ := box_cells w (.bool n.leaf) (.slice a n.recs.length c) (.slice a' n.kids.length c') 94
  have hl' : (1024 : Int) < (n.size : Int) := by omega
  go_enter Tryz.func92, Tryz.ntmps92
  unfold nodeV
  go_wp2_with fail
  refine (sound_walk (n := n) (a := a) (c := c) (a' := a') (c' := c') HR.out hs).mono ?_
  rintro e w1 ⟨rfl, B1⟩
  rw [hb]
  obtain ⟨hc1, _⟩ := bcell B1
  go_wp2_with fail
  refine (size_walk (n := n) (a := a) (c := c) (a' := a') (c' := c') (HR.out.below B1) hs).mono ?_
  rintro e w2 ⟨rfl, B2⟩
  go_wp2
  go_ret2
  exact ⟨rfl, below_on HB (below_on B1 B2)⟩

set_option maxRecDepth 100000 in
set_option maxHeartbeats 400000 in
theorem encode_ok {n : No} {a : Option Addr} {c : Nat} {a' : Option Addr} {c' : Nat} {w : World} (hr : NR w n a c a' c') (hs : n.small) (hb : n.shaped = true) (hl : n.size ≤ 1024) :
    Calls Tryz.prog 92 #[nodeV n a c a' c'] w fun e w' => ∃ b, e = .returned (.tuple #[.slice (some ⟨b, 0, none⟩) 1024 1024, .int .i64 0]) ∧ w.heap.size ≤ b ∧ Blk w' b (pageL n.toNd) ∧ Below w.heap.size w w' := by
  have HB := below_alloc w (.cells #[.bool n.leaf, .slice a n.recs.length c, .slice a' n.kids.length c'] 94)
  have HR : Hid (NR (w.alloc (.cells #[.bool n.leaf, .slice a n.recs.length c, .slice a' n.kids.length c'] 94)) n a c a' c') := hr.below HB
  have hz : w.heap.size < (w.alloc (.cells #[.bool n.leaf, .slice a n.recs.length c, .slice a' n.kids.length c'] 94)).heap.size := by simp
  obtain ⟨b0, b1, b2⟩ := box_cells w (.bool n.leaf) (.slice a n.recs.length c) (.slice a' n.kids.length c') 94
  have hl' : (n.size : Int) ≤ 1024 := by omega
  go_enter Tryz.func92, Tryz.ntmps92
  unfold nodeV
  go_wp2_with fail
  refine (sound_walk (n := n) (a := a) (c := c) (a' := a') (c' := c') HR.out hs).mono ?_
  rintro e w1 ⟨rfl, B1⟩
  rw [hb]
  obtain ⟨hc1, _⟩ := bcell B1
  go_wp2_with fail
  refine (size_walk (n := n) (a := a) (c := c) (a' := a') (c' := c') (HR.out.below B1) hs).mono ?_
  rintro e w2 ⟨rfl, B2⟩
  obtain ⟨hc2, _⟩ := bcell (below_on B1 B2)
  have HR2 : Hid (NR w2 n a c a' c') := HR.out.below (below_on B1 B2)
  have B3 := below_on HB (below_on B1 B2)
  clear hc1 B1 B2 HR
  go_wp2_with fail
  refine (written_walk (n := n) (a := a) (c := c) (a' := a') (c' := c') HR2.out hb hl).mono ?_
  rintro e w3 ⟨b, rfl, hbl, hk, B4⟩
  have hsz := B3.size
  go_wp2
  go_ret2
  exact ⟨b, rfl, by omega, hk, below_on B3 B4⟩

/-- The text of some bytes of a block. -/
theorem conv_blk {W : World} {b : Nat} {L : List UInt8} (h : Blk W b L) (o m cap : Nat) (hl : o + m ≤ L.length) : (convert 119 9 (.slice (some ⟨b, o, none⟩) m cap)).run Tryz.prog W = .ok (.string ⟨(cut L o m).toArray⟩) W := by
  have hm : (cut L o m).length = m := by unfold cut; simp; omega
  have := run_convert_bytes_back (P := Tryz.prog) W 119 9 5 ⟨b, o, none⟩ cap (cut L o m) Tryz.underlying119 Tryz.underlying5 Tryz.underlying9 (fun j hj => by
    rw [show (⟨b, o, none⟩ : Addr).add j = ⟨b, o + j, none⟩ by unfold Addr.add; split <;> simp_all, h.cell (o + j) (by omega)]
    have e : (cut L o m)[j] = L[o + j]'(by omega) := by
      have h1 : (cut L o m)[j]? = L[o + j]? := by
        unfold cut
        rw [List.getElem?_take, if_pos (by omega), List.getElem?_drop]
      rw [List.getElem?_eq_getElem hj, List.getElem?_eq_getElem (by omega)] at h1
      exact Option.some.inj h1
    rw [e])
  rwa [hm] at this

/-- The text of some bytes of a block that is read. -/
theorem conv_rblk {W : World} {b : Nat} {L : List UInt8} (h : RBlk W b L) (o m cap : Nat) (hl : o + m ≤ L.length) : (convert 119 9 (.slice (some ⟨b, o, none⟩) m cap)).run Tryz.prog W = .ok (.string ⟨(cut L o m).toArray⟩) W := by
  have hm : (cut L o m).length = m := by unfold cut; simp; omega
  have := run_convert_bytes_back (P := Tryz.prog) W 119 9 5 ⟨b, o, none⟩ cap (cut L o m) Tryz.underlying119 Tryz.underlying5 Tryz.underlying9 (fun j hj => by
    rw [show (⟨b, o, none⟩ : Addr).add j = ⟨b, o + j, none⟩ by unfold Addr.add; split <;> simp_all, h.cell (o + j) (by omega)]
    have e : (cut L o m)[j] = L[o + j]'(by omega) := by
      have h1 : (cut L o m)[j]? = L[o + j]? := by
        unfold cut
        rw [List.getElem?_take, if_pos (by omega), List.getElem?_drop]
      rw [List.getElem?_eq_getElem hj, List.getElem?_eq_getElem (by omega)] at h1
      exact Option.some.inj h1
    rw [e])
  rwa [hm] at this

def exN : No := ⟨true, [⟨#[97]⟩, ⟨#[98]⟩], []⟩

theorem ex_small : exN.small := ⟨by decide, by decide, by decide⟩
theorem ex_shaped : exN.shaped = true := by decide +kernel
theorem ex_size : exN.size = 13 := by decide +kernel
theorem ex_tail : cut (pageL exN.toNd) 1022 2 = [98, 97] := by
  have h : pageL exN.toNd = (headL exN.toNd ++ List.replicate (1024 - (headL exN.toNd).length - (tailL exN.toNd.recs).length) 0) ++ ([98, 97] ++ []) := by rfl
  rw [h]
  exact cut_mid _ _ _ _ _ (by rw [List.length_append, List.length_replicate]; decide +kernel) rfl

theorem rd_nil (W : World) : Rd W none 0 [] := ⟨by simp, by unfold maxLen; omega, fun j u h => by simp at h⟩

theorem ex_read (w : World) : NR ((w.alloc (.cells #[.string ⟨#[97]⟩, .string ⟨#[98]⟩] 9)).alloc (.cells #[.bool true, .slice (some ⟨w.heap.size, 0, none⟩) 2 2, .slice none 0 0] 94)) exN (some ⟨w.heap.size, 0, none⟩) 2 none 0 := by
  refine ⟨⟨by simp [exN, svs], by unfold maxLen; omega, fun j u h => ⟨w.heap.size, 0, rfl, by simp; omega, ?_⟩⟩, rd_nil _⟩
  have hj : j < 2 := by
    have := (List.getElem?_eq_some_iff.1 h).1
    simpa [exN, svs] using this
  have : j = 0 ∨ j = 1 := by omega
  rw [(below_alloc _ _).cell (by simp)]
  rcases this with rfl | rfl
  · simp [exN, svs] at h; subst h; simp [go_sem]
  · simp [exN, svs] at h; subst h; simp [go_sem]

end Go.Proofs.YtjocopclgehciaaGreatDoor.L5
/-
  Numbers are read out of blocks of bytes.
-/
namespace Go.Proofs.YtjocopclgehciaaGreatDoor.L5
open Go.RowKit

/-- The number that bytes write, the highest first. -/
def numL (l : List UInt8) : Nat := l.foldl (fun n c => n * 256 + c.toNat) 0

theorem numL_snoc (l : List UInt8) (x : UInt8) : numL (l ++ [x]) = numL l * 256 + x.toNat := by simp [numL]

theorem numL_lt (l : List UInt8) : ∀ x : Nat, l.foldl (fun n c => n * 256 + c.toNat) x < (x + 1) * 256 ^ l.length := by
  induction l with
  | nil => intro x; simp
  | cons c l ih =>
    intro x
    have h := ih (x * 256 + c.toNat)
    have hc := c.toNat_lt
    rw [List.foldl_cons, List.length_cons, Nat.pow_succ]
    refine Nat.lt_of_lt_of_le h ?_
    rw [Nat.mul_comm (256 ^ l.length) 256, ← Nat.mul_assoc]
    exact Nat.mul_le_mul_right _ (by omega)

theorem i64_or_nat (a b : Nat) (ha : a < 9223372036854775808) (hb : b < 9223372036854775808) : bits .or .i64 (a : Int) (b : Int) = ((a ||| b : Nat) : Int) := by
  have hx : a ||| b < 2 ^ 63 := Nat.or_lt_two_pow (by omega) (by omega)
  show IntKind.i64.wrap ((BitVec.ofInt 64 (a : Int) ||| BitVec.ofInt 64 (b : Int)).toNat : Int) = _
  rw [BitVec.toNat_or, ofInt_u64 a (by omega), ofInt_u64 b (by omega), IntKind.wrap_i64]
  omega

theorem cut_snoc (L : List UInt8) (o j : Nat) (h : o + j < L.length) : cut L o (j + 1) = cut L o j ++ [L[o + j]] := by
  unfold cut
  rw [List.take_succ_eq_append_getElem (by simp; omega)]
  simp

theorem cut_length (L : List UInt8) (o j : Nat) (h : o + j ≤ L.length) : (cut L o j).length = j := by
  unfold cut
  simp; omega

set_option maxRecDepth 100000 in
set_option maxHeartbeats 400000 in
theorem number_walk {b o m cap : Nat} {L : List UInt8} {w : World} (hb : RBlk w b L) (hm : m ≤ 4) (hl : o + m ≤ L.length) :
    Calls Tryz.prog 180 #[.slice (some ⟨b, o, none⟩) m cap] w fun e w' => e = .returned (.int .i64 (numL (cut L o m) : Int)) ∧ Below w.heap.size w w' := by
  have HB : Hid (RBlk w b L) := hb
  clear hb
  go_enter Tryz.func180, Tryz.ntmps180
  go_wp2
  go_loopw [3, 8] (fun n i wr => ∃ j : Nat, j ≤ m ∧ i = .int .i64 (j : Int) ∧ n = .int .i64 (numL (cut L o j) : Int) ∧ Hid (Below w.heap.size w wr)) (fun _ i _ => m - (intOf i).toNat)
  case atStart => exact ⟨0, Nat.zero_le _, rfl, rfl, Below.refl _ _⟩
  case round =>
    obtain ⟨j, hj, rfl, rfl, HO⟩ := hrel
    by_cases hlt : j < m
    · have hB : RBlk wr b L := (HO.out.block b HB.out.lt).trans HB.out
      have hc := hB.cell (o + j) (by omega)
      clear hB
      have hlt' : (j : Int) < (m : Int) := by omega
      have hj0 : (0 : Int) ≤ (j : Int) := by omega
      go_wp2
      have hlo := numL_lt (cut L o j) 0
      rw [cut_length L o j (by omega)] at hlo
      have hlo' : numL (cut L o j) < 256 ^ 3 := Nat.lt_of_lt_of_le (by simpa [numL] using hlo) (Nat.pow_le_pow_right (by decide) (by omega))
      have hx := (L[o + j]).toNat_lt
      have hv : bits .or .i64 (wrap64 ((numL (cut L o j) : Int) * 256)) (wrap64 (L[o + j].toNat : Int)) = (numL (cut L o (j + 1)) : Int) := by
        rw [cut_snoc L o j (by omega), numL_snoc]
        generalize numL (cut L o j) = p at hlo' ⊢
        generalize (L[o + j]).toNat = q at hx ⊢
        have e1 : wrap64 ((p : Int) * 256) = ((p * 256 : Nat) : Int) := by unfold wrap64; omega
        have e2 : wrap64 (q : Int) = (q : Int) := by unfold wrap64; omega
        rw [e1, e2, i64_or_nat _ _ (by omega) (by omega), nat_join 8 (p * 256) q (by omega) (by omega)]
      rw [hv]
      exact ⟨⟨j + 1, by omega, by go_num, rfl, HO⟩, by simp [intOf]; omega⟩
    · have hlt' : (m : Int) ≤ (j : Int) := by omega
      have hjm : j = m := by omega
      subst hjm
      go_wp2
      go_ret
      exact ⟨rfl, HO.out⟩
end Go.Proofs.YtjocopclgehciaaGreatDoor.L5
