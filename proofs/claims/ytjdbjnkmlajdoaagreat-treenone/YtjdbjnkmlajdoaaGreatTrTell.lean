/-
  Tree: telling a leaf's entries into a list.
-/
import Derived.Test.YtjdbjnkmlajdoaaGreatTrDlT
namespace Go.Proofs.YtjdbjnkmlajdoaaGreat
open Go.RowKit
open L4 (Ar ArP Abs arV nv)

/-- A list under way: its variable in block o, its row from B on. -/
structure Lst (B o : Nat) (v : Value) (xs : List ByteArray) (w : World) : Prop where
  blk : w.heap[o]? = some (.cells #[v] 33 (0, 0))
  row : w.ownsRow B 9 1 v xs.length (L5.svs xs)
  lt : o < B
  bs : B ≤ w.heap.size

theorem Lst.on {B o : Nat} {v : Value} {xs : List ByteArray} {w w' : World} (k : Lst B o v xs w) (hb : Below w.heap.size w w') : Lst B o v xs w' :=
  ⟨(hb.block _ (Nat.lt_of_lt_of_le k.lt k.bs)).trans k.blk, L5.owns_below k.row hb, k.lt, Nat.le_trans k.bs hb.size⟩

set_option maxRecDepth 100000 in
set_option maxHeartbeats 1000000 in
theorem all1_ok {B o : Nat} {v : Value} {xs : List ByteArray} {s : ByteArray} {w : World} (k : Lst B o v xs w) (hx : xs.length ≤ 100000) :
    Calls Tryz.prog 55 #[.string s, .pointer (some ⟨o, 0, none⟩)] w fun e w' => e = .returned (.bool true) ∧ ∃ v', Lst B o v' (xs ++ [s]) w' ∧ Only (fun q => q = o ∨ B ≤ q) w w' := by
  have HK := thid k
  have ol : o < w.heap.size := Nat.lt_of_lt_of_le k.lt k.bs
  have c0 : w.cell? ⟨o, 0, none⟩ = some v := by rw [cell_of_row _ _ _ _ _ _ k.blk]; rfl
  have hf : ∀ i, w.frozen? ⟨o, i, none⟩ = false := fun i => frozen_of_row _ _ _ _ _ k.blk
  obtain ⟨va, vc, rfl⟩ := own_slice k.row
  clear k
  go_enter Tryz.func55, Tryz.ntmps55
  have HB1 := thid (tbelow w (.cells #[.string s] 9))
  go_wp2_with (first
    | (at_builtin
       revert HB1)
    | fail)
  intro HB1
  have HK1 := thid (HK.out.on HB1.out)
  refine L5.append_row (z := .string ⟨#[]⟩) (by_ := 16) Tryz.underlying33 (by kernel_rfl) (by decide) rfl B HK1.out.bs rfl _ _ rfl (.slice va xs.length vc) xs.length (L5.svs xs) [.string s] rfl HK1.out.row (by omega) 1 (by omega) ⟨w.heap.size, 0, none⟩ 1 rfl rfl (fun i u hi => by
      rw [Addr.add_lit, cell_of_row _ _ _ _ _ _ (heap_alloc_new _ _)]
      simpa using hi) (fun u hu => by simp at hu; subst hu; rfl) ?_
  intro v' w5 hown hg hat
  have hno : (Value.slice va xs.length vc).ownBlock ≠ some o := fun e => by have := (HK1.out.row.lt o e).1; have := HK1.out.lt; omega
  have b5 : w5.heap[o]? = some (.cells #[.slice va xs.length vc] 33 (0, 0)) := (hg.block o (Nat.lt_of_lt_of_le ol HB1.out.size) (fun e => hno e.symm)).trans HK1.out.blk
  have c5 : w5.cell? ⟨o, 0, none⟩ = some (.slice va xs.length vc) := by rw [cell_of_row _ _ _ _ _ _ b5]; rfl
  have f5 : ∀ i, w5.frozen? ⟨o, i, none⟩ = false := fun i => frozen_of_row _ _ _ _ _ b5
  have l5 := (Array.getElem?_eq_some_iff.1 b5).1
  obtain ⟨ad, cp, rfl⟩ := L5.owns_at hown
  have HF : Hid (Lst B o (.slice ad (xs.length + 1) cp) (xs ++ [s]) (w5.setCell ⟨o, 0, none⟩ (.slice ad (xs.length + 1) cp)) ∧ Only (fun q => q = o ∨ B ≤ q) w (w5.setCell ⟨o, 0, none⟩ (.slice ad (xs.length + 1) cp))) := by
    refine ⟨⟨heap_setCell_same w5 o 0 _ _ _ b5, ?_, HK1.out.lt, ?_⟩, ⟨hg.os.trans HB1.out.os, hg.tape.trans HB1.out.tape, hg.output.trans HB1.out.output, ?_, fun q hq hs => ?_⟩⟩
    · have h1 := ownsRow_setCell_other hown (a := ⟨o, 0, none⟩) (row_ne b5 hown (by decide)) (.slice ad (xs.length + 1) cp)
      rw [List.length_append, show L5.svs (xs ++ [s]) = L5.svs xs ++ [.string s] by simp [L5.svs]]
      exact h1
    · have z1 := HK1.out.bs; have z2 := hg.size; simp [World.setCell]; omega
    · have z1 := HB1.out.size; have z2 := hg.size; simp [World.setCell]; omega
    · rw [heap_setCell_other _ _ _ _ (fun e => hs (Or.inl e)), hg.block q (Nat.lt_of_lt_of_le hq HB1.out.size) (fun e => hs (Or.inr (HK1.out.row.lt q e.symm).1)), HB1.out.block q hq]
  clear hown hg hat b5 HK HK1 HB1 c0 hf
  go_wp2
  go_ret
  exact ⟨rfl, _, HF.out⟩

/-- An Each's walk over everything into a list. -/
def WalkC (w : World) (k o : Nat) : Prop := w.heap[k]? = some (.cells #[.string ⟨#[]⟩, .string ⟨#[]⟩, .func (.func 55) #[] #[.pointer (some ⟨o, 0, none⟩)], .bool false] 116 (0, 0))

theorem WalkC.cells {w : World} {k o : Nat} (h : WalkC w k o) : w.cell? ⟨k, 0, none⟩ = some (.string ⟨#[]⟩) ∧ w.cell? ⟨k, 1, none⟩ = some (.string ⟨#[]⟩) ∧ w.cell? ⟨k, 2, none⟩ = some (.func (.func 55) #[] #[.pointer (some ⟨o, 0, none⟩)]) ∧ w.cell? ⟨k, 3, none⟩ = some (.bool false) ∧ k < w.heap.size := by
  refine ⟨?_, ?_, ?_, ?_, (Array.getElem?_eq_some_iff.1 h).1⟩ <;> rw [cell_of_row _ _ _ _ _ _ h] <;> rfl

set_option maxRecDepth 100000 in
set_option maxHeartbeats 1000000 in
theorem tell_ok {k o : Nat} {at_ : Int} {n : L5.No} {a : Option Addr} {c : Nat} {a' : Option Addr} {c' : Nat} {w : World} (hW : WalkC w k o) (ho : w.heap[o]? = some (.cells #[.slice none 0 0] 33 (0, 0))) (hr : L5.NR w n a c a' c') (hs : n.small) (hlf : n.leaf = true) :
    Calls Tryz.prog 62 #[.pointer (some ⟨k, 0, none⟩), .int .i64 at_, L5.nodeV n a c a' c'] w fun e w' => e = .returned (.tuple #[]) ∧ ∃ v', Lst w.heap.size o v' n.recs w' ∧ Only (fun q => q = o ∨ w.heap.size ≤ q) w w' := by
  obtain ⟨k0, k1, k2, k3, kl⟩ := hW.cells
  have ol := (Array.getElem?_eq_some_iff.1 ho).1
  have HW := thid hW
  have HO := thid ho
  have HR := thid hr
  have HR0 := thid hr
  have HW0 := thid hW
  have HO0 := thid ho
  have hko : k ≠ o := tag_ne hW ho (by decide)
  clear hW ho hr
  have HLF := thid hlf
  have HB1 := thid (tbelow w (.cells #[.bool n.leaf, .slice a n.recs.length c, .slice a' n.kids.length c'] 91))
  have a1 := heap_alloc_new w (.cells #[.bool n.leaf, .slice a n.recs.length c, .slice a' n.kids.length c'] 91)
  have h0 : n.recs.countP (L5.ltB ⟨#[]⟩) = 0 := by
    rw [List.countP_eq_zero]
    intro x _
    have e : L5.ltB ⟨#[]⟩ x = false := by
      unfold L5.ltB
      rw [List.isEmpty_iff.1 (show (ByteArray.mk #[]).toList.isEmpty = true by rw [L5.isEmpty_size]; rfl)]
      cases x.toList <;> rfl
    rw [e]
    decide
  unfold L5.nodeV
  go_enter Tryz.func62, Tryz.ntmps62
  have nlf : (w.alloc (.cells #[.bool n.leaf, .slice a n.recs.length c, .slice a' n.kids.length c'] 91)).cell? ⟨w.heap.size, 0, none⟩ = some (.bool true) := by rw [cell_of_row _ _ _ _ _ _ a1]; simp [hlf]
  clear hlf
  go_wp2_with fail
  clear nlf
  have hk : k < (w.alloc (.cells #[.bool n.leaf, .slice a n.recs.length c, .slice a' n.kids.length c'] 91)).heap.size := Nat.lt_of_lt_of_le kl HB1.out.size
  have HR1 := thid (HR.out.below HB1.out)
  have HW1 := thid ((HB1.out.block k kl).trans HW.out)
  have HO1 := thid ((HB1.out.block o ol).trans HO.out)
  clear k0 k1 k2 k3 HW HO HR
  generalize w.alloc (.cells #[.bool n.leaf, .slice a n.recs.length c, .slice a' n.kids.length c'] 91) = W at *
  have nl := (Array.getElem?_eq_some_iff.1 a1).1
  have HM := thid (fun q : L4.BelowW W => (q.below.block w.heap.size nl).trans a1)
  have HMW := thid (fun q : L4.BelowW W => ((q.below.block k hk).trans HW1.out : WalkC q.w k o))
  have y0 : ∀ q : L4.BelowW W, q.w.cell? ⟨w.heap.size, 0, none⟩ = some (.bool n.leaf) := fun q => by rw [cell_of_row _ _ _ _ _ _ (HM.out q)]; rfl
  have y1 : ∀ q : L4.BelowW W, q.w.cell? ⟨w.heap.size, 1, none⟩ = some (.slice a n.recs.length c) := fun q => by rw [cell_of_row _ _ _ _ _ _ (HM.out q)]; rfl
  have y2 : ∀ q : L4.BelowW W, q.w.cell? ⟨w.heap.size, 2, none⟩ = some (.slice a' n.kids.length c') := fun q => by rw [cell_of_row _ _ _ _ _ _ (HM.out q)]; rfl
  have x0 : ∀ q : L4.BelowW W, q.w.cell? ⟨k, 0, none⟩ = some (.string ⟨#[]⟩) := fun q => (WalkC.cells (HMW.out q)).1
  have HFN : ∀ q : L4.BelowW W, Calls Tryz.prog 54 #[.agg #[.bool n.leaf, .slice a n.recs.length c, .slice a' n.kids.length c'], .string ⟨#[]⟩] q.w fun e w' => e = .returned (.tuple #[.int .i64 0, .bool (L5.isAt n.recs ⟨#[]⟩ 0)]) ∧ Below q.w.heap.size q.w w' := fun q => by
    have := L5.find_walk (n := n) (HR1.out.below q.below) hs.recs ⟨#[]⟩
    rw [h0] at this
    exact this
  refine L4.wp_region_below (by kernel_rfl) (by kernel_rfl) (fun _ => ?_)
  repeat (go_big_quiet_step (first | (go_at_call 54; exact L4.quiet_of_below (HFN _))))
  refine wpQuiet_nil ?_
  rintro _ ⟨q, rfl⟩
  have HR2 := thid (HR1.out.below q.below)
  have HW2 := thid (HMW.out q)
  have HO2 := thid ((q.below.block o (Nat.lt_of_lt_of_le ol HB1.out.size)).trans HO1.out)
  have HB2 := thid (tbelow_on HB1.out q.below)
  have a2 := HM.out q
  generalize q.w = w2 at *
  clear HM HMW y0 y1 y2 x0 HFN q a1 HR1 HW1 HO1 hk nl HB1
  obtain ⟨k0, k1, k2, k3, kl2⟩ := WalkC.cells HW2.out
  have n1 : w2.cell? ⟨w.heap.size, 1, none⟩ = some (.slice a n.recs.length c) := by rw [cell_of_row _ _ _ _ _ _ a2]; rfl
  have nl := (Array.getElem?_eq_some_iff.1 a2).1
  have hcp : n.recs.length ≤ c := by have := HR2.out.recs.1; simpa [L5.svs] using this
  go_wp2_with fail
  go_loopw [27] (fun i wr => ∃ j : Nat, j ≤ n.recs.length ∧ i = .int .i64 (j : Int) ∧ ∃ v : Value, Hid (Lst w.heap.size o v (n.recs.take j) wr ∧ Only (fun q => q = o ∨ w.heap.size ≤ q) w wr)) (fun i _ => n.recs.length - (intOf i).toNat)
  case atStart => exact ⟨0, Nat.zero_le _, rfl, .slice none 0 0, ⟨⟨HO2.out, ⟨rfl, Or.inl ⟨rfl, rfl⟩⟩, ol, HB2.out.size⟩, Only.of_below HB2.out⟩⟩
  case round =>
    clear k0 k1 k2 k3 kl2 n1 nl HO2 HW2 HR2 HB2 a2
    obtain ⟨j, hj, rfl, v, HL⟩ := hrel
    obtain ⟨hL, hO⟩ := HL.out
    have HLL := thid hL
    have HOO := thid hO
    clear hL hO HL
    have hsr := hs.recs
    by_cases hlt : j < n.recs.length
    · have hlt' : (j : Int) < (n.recs.length : Int) := by omega
      have hw : WalkC wr k o := (HOO.out.block k kl (fun x => by rcases x with x | x; exact hko x; omega)).trans HW0.out
      obtain ⟨k0, k1, k2, k3, kl2⟩ := WalkC.cells hw
      obtain ⟨b, of, rfl, hbl, hbc⟩ := HR0.out.recs.2.2 j (.string n.recs[j]) (by simp [L5.svs, hlt])
      have hbo : b ≠ o := fun e => by
        subst e
        rw [cell_of_row _ _ _ _ _ _ HO0.out] at hbc
        cases hof : of + j with
        | zero => rw [hof] at hbc; cases hbc
        | succ m => rw [hof] at hbc; simp at hbc
      have hbr : wr.cell? ⟨b, of + j, none⟩ = some (.string n.recs[j]) := (HOO.out.cell (p := ⟨b, of + j, none⟩) hbl (fun x => by rcases x with x | x; exact hbo x; exact absurd hbl (Nat.not_lt.2 x))).trans hbc
      have hblr : b < wr.heap.size := Nat.lt_of_lt_of_le hbl HOO.out.size
      have HY : Hid (n.recs.take (j + 1) = n.recs.take j ++ [n.recs[j]]) := (List.take_append_getElem hlt).symm
      generalize n.recs[j] = y at *
      clear hw hbc
      go_wp2_with fail
      refine (all1_ok (s := y) HLL.out (by simp; omega)).mono ?_
      rintro e w5 ⟨rfl, v5, hL5, hO5⟩
      have HD5 : Hid (Lst w.heap.size o v5 (n.recs.take (j + 1)) w5 ∧ Only (fun q => q = o ∨ w.heap.size ≤ q) w w5) := ⟨by rw [HY.out]; exact hL5, HOO.out.trans hO5⟩
      clear hL5 hO5 HLL HOO HY hbr hblr k0 k1 k2 k3 kl2
      go_wp2
      exact ⟨⟨j + 1, by omega, by go_num, v5, HD5⟩, by simp [intOf]; omega⟩
    · have hlt' : (n.recs.length : Int) ≤ (j : Int) := by omega
      have hjl : j = n.recs.length := by omega
      subst hjl
      rw [List.take_length] at HLL
      go_wp2
      go_end0
      exact ⟨rfl, v, HLL.out, HOO.out⟩
end Go.Proofs.YtjdbjnkmlajdoaaGreat
