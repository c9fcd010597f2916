/-
  Tree: the document's example.
-/
import Derived.Test.YtjdbjnkmlajdoaaGreatTrNn
namespace Go.Proofs.YtjdbjnkmlajdoaaGreat
open Go.RowKit
open L4 (Ar ArP Abs arV nv)

def bA : ByteArray := ⟨#[97]⟩
def bB : ByteArray := ⟨#[98]⟩
def leafB : L5.No := ⟨true, [bB], []⟩
def leafAB : L5.No := ⟨true, [bA, bB], []⟩
def leafA : L5.No := ⟨true, [bA], []⟩

theorem lt_ab : Op.bytesLess bA.toList bB.toList = true := by rw [ByteArray.toList_eq, ByteArray.toList_eq]; decide
theorem lt_ba : Op.bytesLess bB.toList bA.toList = false := by rw [ByteArray.toList_eq, ByteArray.toList_eq]; decide
theorem lt_bb : Op.bytesLess bB.toList bB.toList = false := by rw [ByteArray.toList_eq]; decide
theorem eq_ba : (bB.toList == bA.toList) = false := by rw [ByteArray.toList_eq, ByteArray.toList_eq]; decide
theorem eq_bb : (bB.toList == bB.toList) = true := by simp

theorem cnt1 : leaf0.recs.countP (L5.ltB bB) = 0 := rfl
theorem cnt2 : leafB.recs.countP (L5.ltB bA) = 0 := by simp [leafB, L5.ltB, lt_ba]
theorem cnt3 : leafAB.recs.countP (L5.ltB bB) = 1 := by simp [leafAB, L5.ltB, lt_ab, lt_bb]
theorem is1 : L5.isAt leaf0.recs bB 0 = false := rfl
theorem is2 : L5.isAt leafB.recs bA 0 = false := eq_ba
theorem is3 : L5.isAt leafAB.recs bB 1 = true := eq_bb
theorem sh1 : leafB.shaped = true := by decide
theorem sh2 : leafAB.shaped = true := by
  simp [L5.No.shaped, leafAB, L5.recOk, List.range_succ, lt_ab]
  decide
theorem sh3 : leafA.shaped = true := by decide
theorem sm1 : leafB.small := ⟨by decide, by decide, fun s hs => by simp [leafB] at hs; subst hs; decide⟩
theorem sm2 : leafAB.small := ⟨by decide, by decide, fun s hs => by simp [leafAB] at hs; rcases hs with rfl | rfl <;> decide⟩
theorem sm3 : leafA.small := ⟨by decide, by decide, fun s hs => by simp [leafA] at hs; subst hs; decide⟩

theorem at_lay_same {a : Abs} {n : Nat} {c : List UInt8} (h : a.at (n : Int) = some c) (d : List UInt8) : (a.lay n (some d)).at (n : Int) = some d := by
  obtain ⟨h1, h2, h3⟩ := L4.Abs.at_some h
  unfold L4.Abs.at L4.Abs.lay
  rw [if_pos h1]
  simp only [Int.toNat_natCast] at h2 ⊢
  simp [h2]

/-- A tree of the call's own with one leaf. -/
structure Mine (w : World) (s : Ar) (t l : Nat) (nd : L5.No) (w' : World) : Prop where
  one : One s t 1 l nd w'
  own : ∀ k, s.own k → w.heap.size ≤ k
  tl : w.heap.size ≤ t
  bel : Below w.heap.size w w'
  left : 2 ≤ s.abs.left

theorem Mine.on {w : World} {s : Ar} {t l : Nat} {nd : L5.No} {w1 w2 : World} (k : Mine w s t l nd w1) (hb : Below w1.heap.size w1 w2) : Mine w s t l nd w2 := ⟨k.one.below hb, k.own, k.tl, tbelow_on k.bel hb, k.left⟩

theorem Mine.has {w : World} {s : Ar} {t l l' : Nat} {nd nd' : L5.No} {w1 w2 : World} (k : Mine w s t l nd w1) (h : TrHas s t (s.abs.lay 1 (some (L5.pageL nd'.toNd))) 1 1 l' w1 w2) (h1 : nd'.shaped = true) (h2 : nd'.size ≤ 1024) (h3 : nd'.leaf = true) (h4 : nd'.small) : ∃ s', Mine w s' t l' nd' w2 := by
  obtain ⟨s', hp, hab, hok, hA, hT, hO, hw⟩ := h
  refine ⟨s', ⟨hA, hok, by rw [hp]; exact hT, by rw [hab]; exact at_lay_same k.one.at_ _, h1, h2, h3, h4, by decide⟩, fun q hq => ?_, k.tl, ?_, ?_⟩
  · rcases hw q hq with y | y
    · exact k.own q y
    · exact Nat.le_trans k.bel.size y
  · refine k.bel.trans (hO.below k.bel.size fun q hq x => ?_)
    rcases x with x | x
    · have := k.own q x; omega
    · have := k.tl; omega
  · rw [hab]
    have := k.left
    unfold L4.Abs.left L4.Abs.used at this ⊢
    simpa [L4.Abs.lay] using this

/-- A new tree in a new arena. -/
theorem Mine.new {q : Nat} {w : World} {s : Ar} {w1 w2 : World} (h : L4.Fresh q w s w1) (hq : 3 ≤ q) (hq2 : q ≤ 4096) (hn : TrHas s w1.heap.size (s.abs.alloc.lay s.abs.next (some (L5.pageL leaf0.toNd))) s.abs.next 1 0 w1 w2) : ∃ s', Mine w s' w1.heap.size 0 leaf0 w2 := by
  obtain ⟨_, hab0, hB, hown⟩ := h
  obtain ⟨s', hp, hab, hok, hA, hT, hO, hw⟩ := hn
  have e1 : s.abs.next = 1 := by rw [hab0]; rfl
  rw [e1] at hT hab
  have hok0 : s.abs.Ok := by
    rw [hab0]
    exact ⟨by simp, by simp, by simp, by simp, by simp, hq2⟩
  have hat := (L4.Abs.alloc_used hok0).2.2
  rw [e1] at hat
  refine ⟨s', ⟨hA, hok, by rw [hp]; exact hT, by rw [hab]; exact at_lay_same hat _, by decide, by decide, rfl, leaf0_small, by decide⟩, fun k hk => ?_, hB.size, ?_, ?_⟩
  · rcases hw k hk with y | y
    · exact hown k y
    · exact Nat.le_trans hB.size y
  · refine hB.trans (hO.below hB.size fun k hk x => ?_)
    rcases x with x | x
    · have := hown k x; omega
    · have := hB.size; omega
  · rw [hab, hab0]
    simp [L4.Abs.left, L4.Abs.used, L4.Abs.lay, L4.Abs.alloc, L4.Abs.take, L4.Abs.next]
    omega

theorem ins1 {w : World} {s : Ar} {t : Nat} {w1 : World} (k : Mine w s t 0 leaf0 w1) : Calls Tryz.prog 32 #[.pointer (some ⟨t, 0, none⟩), .string ⟨#[98]⟩] w1 fun e w' => e = .returned (.int .i64 0) ∧ ∃ s', Mine w s' t 1 leafB w' := by
  refine (tinsert_fit (k := bB) k.one (by decide) (by decide) (by rw [cnt1]; exact is1) k.left (by rw [cnt1]; exact sm1) (by rw [cnt1]; exact sh1) (by rw [cnt1]; exact (by decide : leafB.size ≤ 1024)) (by decide)).mono ?_
  rintro e w2 ⟨rfl, h⟩
  rw [cnt1] at h
  exact ⟨rfl, k.has (nd' := leafB) h sh1 (by decide) rfl sm1⟩

theorem ins2 {w : World} {s : Ar} {t : Nat} {w1 : World} (k : Mine w s t 1 leafB w1) : Calls Tryz.prog 32 #[.pointer (some ⟨t, 0, none⟩), .string ⟨#[97]⟩] w1 fun e w' => e = .returned (.int .i64 0) ∧ ∃ s', Mine w s' t 2 leafAB w' := by
  refine (tinsert_fit (k := bA) k.one (by decide) (by decide) (by rw [cnt2]; exact is2) k.left (by rw [cnt2]; exact sm2) (by rw [cnt2]; exact sh2) (by rw [cnt2]; exact (by decide : leafAB.size ≤ 1024)) (by decide)).mono ?_
  rintro e w2 ⟨rfl, h⟩
  rw [cnt2] at h
  exact ⟨rfl, k.has (nd' := leafAB) h sh2 (by decide) rfl sm2⟩

theorem del3 {w : World} {s : Ar} {t : Nat} {w1 : World} (k : Mine w s t 2 leafAB w1) : Calls Tryz.prog 36 #[.pointer (some ⟨t, 0, none⟩), .string ⟨#[98]⟩] w1 fun e w' => e = .returned (.int .i64 0) ∧ ∃ s', Mine w s' t 1 leafA w' := by
  refine (tdelete_one (k := bB) (l := 1) k.one (by rw [cnt3]; exact is3) (by rw [cnt3]; decide) (by decide) (by rw [cnt3]; exact sm3) (by rw [cnt3]; exact sh3) (by rw [cnt3]; exact (by decide : leafA.size ≤ 1024)) (by decide)).mono ?_
  rintro e w2 ⟨rfl, h⟩
  rw [cnt3] at h
  exact ⟨rfl, k.has (nd' := leafA) h sh3 (by decide) rfl sm3⟩

set_option maxRecDepth 100000 in
set_option maxHeartbeats 1000000 in
theorem awake_walk (w : World) : Calls Tryz.prog 11 #[] w fun e w' => e = .returned (.bool true) ∧ Below w.heap.size w w' := by
  go_enter Tryz.func11, Tryz.ntmps11
  go_wp2_with fail
  refine (L4.new_ok 20 (by decide) _).mono ?_
  rintro e w1 ⟨s, rfl, hF⟩
  have HF := thid hF
  have hok0 : s.abs.Ok := by
    rw [hF.2.1]
    exact ⟨by simp, by simp, by simp, by simp, by simp, by decide⟩
  have hl0 : 0 < s.abs.left := by rw [hF.2.1]; decide
  have HN := thid (new_ok hF.1 hok0 hl0)
  clear hF
  unfold arV at HN ⊢
  go_wp2_with fail
  refine HN.out.mono ?_
  rintro e w2 ⟨rfl, hT⟩
  obtain ⟨s2, hM⟩ := Mine.new HF.out (by decide) (by decide) hT
  clear HN HF hT hok0 hl0
  generalize w1.heap.size = t at hM ⊢
  have HM2 := thid hM
  clear hM
  go_wp2_with fail
  refine (ins1 HM2.out).mono ?_
  rintro e w3 ⟨rfl, s3, hM⟩
  have HM3 := thid hM
  clear hM HM2
  go_wp2_with fail
  refine (ins2 HM3.out).mono ?_
  rintro e w4 ⟨rfl, s4, hM⟩
  have HM4 := thid hM
  clear hM HM3
  go_wp2_with fail
  refine (all_one HM4.out.one).mono ?_
  rintro e w5 ⟨a, c, rfl, ho, hb⟩
  have HM5 := thid (HM4.out.on hb)
  have hrd := L5.owns_rd_slice ho
  obtain ⟨b, of, rfl, hbl, hbc⟩ := hrd.2.2 0 (.string bA) rfl
  have hcc : 2 ≤ c := hrd.1
  have hbc' : w5.cell? ⟨b, of, none⟩ = some (.string ⟨#[97]⟩) := hbc
  have e2 : leafAB.recs.length = 2 := rfl
  rw [e2]
  clear ho hb hrd HM4 hbc
  go_wp2_with fail
  refine (del3 HM5.out).mono ?_
  rintro e w6 ⟨rfl, s6, hM⟩
  have HM6 := thid hM
  clear hM HM5 hbc' hbl hcc
  go_wp2_with fail
  refine (len_ok HM6.out.one.tr).mono ?_
  rintro e w7 ⟨rfl, hb⟩
  have HM7 := thid (HM6.out.on hb)
  clear hb HM6
  go_wp2_with fail
  refine (height_ok HM7.out.one.tr).mono ?_
  rintro e w8 ⟨rfl, hb⟩
  have HM8 := thid (tbelow_on HM7.out.bel hb)
  clear hb HM7
  go_wp2
  go_ret
  exact ⟨rfl, HM8.out⟩
end Go.Proofs.YtjdbjnkmlajdoaaGreat
