/-
  Encode; the document's example.
-/
import Derived.Test.YtgpahhlmpdnbpaaNdG
namespace Go.Proofs.Ytgpahhlmpdnbpaa
open Go.RowKit

set_option maxRecDepth 100000 in
set_option maxHeartbeats 400000 in
theorem encode_no {n : No} {a : Option Addr} {c : Nat} {a' : Option Addr} {c' : Nat} {w : World} (hr : NR w n a c a' c') (hs : n.small) (hb : n.shaped = false) :
    Calls Try.prog 13 #[nodeV n a c a' c'] w fun e w' => e = .returned (.tuple #[.slice none 0 0, .int .i64 15]) ∧ Below w.heap.size w w' := by
  have HB := below_alloc w (.cells #[.bool n.leaf, .slice a n.recs.length c, .slice a' n.kids.length c'] 25)
  have HR : Hid (NR (w.alloc (.cells #[.bool n.leaf, .slice a n.recs.length c, .slice a' n.kids.length c'] 25)) n a c a' c') := hr.below HB
  go_enter Try.func13, Try.ntmps13
  unfold nodeV
  go_wp2_with fail
  refine (sound_walk (n := n) (a := a) (c := c) (a' := a') (c' := c') HR.out hs).mono ?_
  rintro e w1 ⟨rfl, B1⟩
  rw [hb]
  go_wp2
  go_ret2
  exact ⟨rfl, below_on HB B1⟩

set_option maxRecDepth 100000 in
set_option maxHeartbeats 400000 in
theorem encode_long {n : No} {a : Option Addr} {c : Nat} {a' : Option Addr} {c' : Nat} {w : World} (hr : NR w n a c a' c') (hs : n.small) (hb : n.shaped = true) (hl : 1024 < n.size) :
    Calls Try.prog 13 #[nodeV n a c a' c'] w fun e w' => e = .returned (.tuple #[.slice none 0 0, .int .i64 8]) ∧ Below w.heap.size w w' := by
  have HB := below_alloc w (.cells #[.bool n.leaf, .slice a n.recs.length c, .slice a' n.kids.length c'] 25)
  have HR : Hid (NR (w.alloc (.cells #[.bool n.leaf, .slice a n.recs.length c, .slice a' n.kids.length c'] 25)) n a c a' c') := hr.below HB
  have hz : w.heap.size < (w.alloc (.cells #[.bool n.leaf, .slice a n.recs.length c, .slice a' n.kids.length c'] 25)).heap.size := by simp
  obtain ⟨b0, b1, b2⟩ := box_cells w (.bool n.leaf) (.slice a n.recs.length c) (.slice a' n.kids.length c') 25
  have hl' : (1024 : Int) < (n.size : Int) := by omega
  go_enter Try.func13, Try.ntmps13
  unfold nodeV
  go_wp2_with fail
  refine (sound_walk (n := n) (a := a) (c := c) (a' := a') (c' := c') HR.out hs).mono ?_
  rintro e w1 ⟨rfl, B1⟩
  rw [hb]
  obtain ⟨hc1, _⟩ := bcell B1
  go_wp2_with fail
  refine (size_walk (n := n) (a := a) (c := c) (a' := a') (c' := c') (HR.out.below B1) hs).mono ?_
  rintro e w2 ⟨rfl, B2⟩
  go_wp2
  go_ret2
  exact ⟨rfl, below_on HB (below_on B1 B2)⟩

set_option maxRecDepth 100000 in
set_option maxHeartbeats 400000 in
theorem encode_ok {n : No} {a : Option Addr} {c : Nat} {a' : Option Addr} {c' : Nat} {w : World} (hr : NR w n a c a' c') (hs : n.small) (hb : n.shaped = true) (hl : n.size ≤ 1024) :
    Calls Try.prog 13 #[nodeV n a c a' c'] w fun e w' => ∃ b, e = .returned (.tuple #[.slice (some ⟨b, 0, none⟩) 1024 1024, .int .i64 0]) ∧ w.heap.size ≤ b ∧ Blk w' b (pageL n.toNd) ∧ Below w.heap.size w w' := by
  have HB := below_alloc w (.cells #[.bool n.leaf, .slice a n.recs.length c, .slice a' n.kids.length c'] 25)
  have HR : Hid (NR (w.alloc (.cells #[.bool n.leaf, .slice a n.recs.length c, .slice a' n.kids.length c'] 25)) n a c a' c') := hr.below HB
  have hz : w.heap.size < (w.alloc (.cells #[.bool n.leaf, .slice a n.recs.length c, .slice a' n.kids.length c'] 25)).heap.size := by simp
  obtain ⟨b0, b1, b2⟩ := box_cells w (.bool n.leaf) (.slice a n.recs.length c) (.slice a' n.kids.length c') 25
  have hl' : (n.size : Int) ≤ 1024 := by omega
  go_enter Try.func13, Try.ntmps13
  unfold nodeV
  go_wp2_with fail
  refine (sound_walk (n := n) (a := a) (c := c) (a' := a') (c' := c') HR.out hs).mono ?_
  rintro e w1 ⟨rfl, B1⟩
  rw [hb]
  obtain ⟨hc1, _⟩ := bcell B1
  go_wp2_with fail
  refine (size_walk (n := n) (a := a) (c := c) (a' := a') (c' := c') (HR.out.below B1) hs).mono ?_
  rintro e w2 ⟨rfl, B2⟩
  obtain ⟨hc2, _⟩ := bcell (below_on B1 B2)
  have HR2 : Hid (NR w2 n a c a' c') := HR.out.below (below_on B1 B2)
  have B3 := below_on HB (below_on B1 B2)
  clear hc1 B1 B2 HR
  go_wp2_with fail
  refine (written_walk (n := n) (a := a) (c := c) (a' := a') (c' := c') HR2.out hb hl).mono ?_
  rintro e w3 ⟨b, rfl, hbl, hk, B4⟩
  have hsz := B3.size
  go_wp2
  go_ret2
  exact ⟨b, rfl, by omega, hk, below_on B3 B4⟩

/-- The text of some bytes of a block. -/
theorem conv_blk {W : World} {b : Nat} {L : List UInt8} (h : Blk W b L) (o m cap : Nat) (hl : o + m ≤ L.length) : (convert 37 9 (.slice (some ⟨b, o, none⟩) m cap)).run Try.prog W = .ok (.string ⟨(cut L o m).toArray⟩) W := by
  have hm : (cut L o m).length = m := by unfold cut; simp; omega
  have := run_convert_bytes_back (P := Try.prog) W 37 9 5 ⟨b, o, none⟩ cap (cut L o m) Try.underlying37 Try.underlying5 Try.underlying9 (fun j hj => by
    rw [show (⟨b, o, none⟩ : Addr).add j = ⟨b, o + j, none⟩ by unfold Addr.add; split <;> simp_all, h.cell (o + j) (by omega)]
    have e : (cut L o m)[j] = L[o + j]'(by omega) := by
      have h1 : (cut L o m)[j]? = L[o + j]? := by
        unfold cut
        rw [List.getElem?_take, if_pos (by omega), List.getElem?_drop]
      rw [List.getElem?_eq_getElem hj, List.getElem?_eq_getElem (by omega)] at h1
      exact Option.some.inj h1
    rw [e])
  rwa [hm] at this

/-- The text of some bytes of a block that is read. -/
theorem conv_rblk {W : World} {b : Nat} {L : List UInt8} (h : RBlk W b L) (o m cap : Nat) (hl : o + m ≤ L.length) : (convert 37 9 (.slice (some ⟨b, o, none⟩) m cap)).run Try.prog W = .ok (.string ⟨(cut L o m).toArray⟩) W := by
  have hm : (cut L o m).length = m := by unfold cut; simp; omega
  have := run_convert_bytes_back (P := Try.prog) W 37 9 5 ⟨b, o, none⟩ cap (cut L o m) Try.underlying37 Try.underlying5 Try.underlying9 (fun j hj => by
    rw [show (⟨b, o, none⟩ : Addr).add j = ⟨b, o + j, none⟩ by unfold Addr.add; split <;> simp_all, h.cell (o + j) (by omega)]
    have e : (cut L o m)[j] = L[o + j]'(by omega) := by
      have h1 : (cut L o m)[j]? = L[o + j]? := by
        unfold cut
        rw [List.getElem?_take, if_pos (by omega), List.getElem?_drop]
      rw [List.getElem?_eq_getElem hj, List.getElem?_eq_getElem (by omega)] at h1
      exact Option.some.inj h1
    rw [e])
  rwa [hm] at this

def exN : No := ⟨true, [⟨#[97]⟩, ⟨#[98]⟩], []⟩

theorem ex_small : exN.small := ⟨by decide, by decide, by decide⟩
theorem ex_shaped : exN.shaped = true := by decide +kernel
theorem ex_size : exN.size = 13 := by decide +kernel
theorem ex_tail : cut (pageL exN.toNd) 1022 2 = [98, 97] := by
  have h : pageL exN.toNd = (headL exN.toNd ++ List.replicate (1024 - (headL exN.toNd).length - (tailL exN.toNd.recs).length) 0) ++ ([98, 97] ++ []) := by rfl
  rw [h]
  exact cut_mid _ _ _ _ _ (by rw [List.length_append, List.length_replicate]; decide +kernel) rfl

theorem rd_nil (W : World) : Rd W none 0 [] := ⟨by simp, by unfold maxLen; omega, fun j u h => by simp at h⟩

theorem ex_read (w : World) : NR ((w.alloc (.cells #[.string ⟨#[97]⟩, .string ⟨#[98]⟩] 9)).alloc (.cells #[.bool true, .slice (some ⟨w.heap.size, 0, none⟩) 2 2, .slice none 0 0] 25)) exN (some ⟨w.heap.size, 0, none⟩) 2 none 0 := by
  refine ⟨⟨by simp [exN, svs], by unfold maxLen; omega, fun j u h => ⟨w.heap.size, 0, rfl, by simp; omega, ?_⟩⟩, rd_nil _⟩
  have hj : j < 2 := by
    have := (List.getElem?_eq_some_iff.1 h).1
    simpa [exN, svs] using this
  have : j = 0 ∨ j = 1 := by omega
  rw [(below_alloc _ _).cell (by simp)]
  rcases this with rfl | rfl
  · simp [exN, svs] at h; subst h; simp [go_sem]
  · simp [exN, svs] at h; subst h; simp [go_sem]

set_option maxRecDepth 100000 in
set_option maxHeartbeats 400000 in
theorem awake_walk (w : World) : Calls Try.prog 5 #[] w fun e w' => e = .returned (.bool true) ∧ Below w.heap.size w w' := by
  have HR : Hid _ := ex_read w
  have HB := below_on (below_alloc w (.cells #[.string ⟨#[97]⟩, .string ⟨#[98]⟩] 9)) (below_alloc _ (.cells #[.bool true, .slice (some ⟨w.heap.size, 0, none⟩) 2 2, .slice none 0 0] 25))
  obtain ⟨b0, b1, b2⟩ := box_cells (w.alloc (.cells #[.string ⟨#[97]⟩, .string ⟨#[98]⟩] 9)) (.bool true) (.slice (some ⟨w.heap.size, 0, none⟩) 2 2) (.slice none 0 0) 25
  have hz : ((w.alloc (.cells #[.string ⟨#[97]⟩, .string ⟨#[98]⟩] 9)).alloc (.cells #[.bool true, .slice (some ⟨w.heap.size, 0, none⟩) 2 2, .slice none 0 0] 25)).heap.size = w.heap.size + 2 := by simp
  rw [show (w.alloc (.cells #[.string ⟨#[97]⟩, .string ⟨#[98]⟩] 9)).heap.size = w.heap.size + 1 by simp] at b0 b1 b2
  go_enter Try.func5, Try.ntmps5
  go_wp2_with fail
  generalize (w.alloc (.cells #[.string ⟨#[97]⟩, .string ⟨#[98]⟩] 9)).alloc (.cells #[.bool true, .slice (some ⟨w.heap.size, 0, none⟩) 2 2, .slice none 0 0] 25) = W at *
  refine (encode_ok (n := exN) HR.out ex_small ex_shaped (by rw [ex_size]; decide)).mono ?_
  rintro e w1 ⟨b, rfl, hbl, hk, B1⟩
  obtain ⟨hc1, _⟩ := bcell B1
  have HR1 : Hid _ := HR.out.below B1
  have hz1 := B1.size
  go_wp2_with fail
  refine (size_walk (n := exN) HR1.out ex_small).mono ?_
  rintro e w2 ⟨rfl, B2⟩
  rw [ex_size]
  have hk2 : Blk w2 b (pageL exN.toNd) := (B2.block b hk.lt).trans hk
  have hcv := conv_blk hk2 1022 2 2 (by rw [pageL_length (by rw [toNd_size, ex_size]; decide)]; decide)
  rw [ex_tail] at hcv
  have B3 := below_on HB (below_on B1 B2)
  clear hk2 hk HR1 HR B1 B2 hc1
  go_wp2
  go_ret
  exact ⟨rfl, B3⟩
end Go.Proofs.Ytgpahhlmpdnbpaa
