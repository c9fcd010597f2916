/-
  Tree: telling a leaf's entries into a list.
-/
import Derived.Test.YtmochjhhmahokaaGreatMAL
import Derived.Laws.EntriesVeiled
import Derived.RangeFuncFrom
import Derived.RangeFuncBound
import Derived.RangeFuncCalls
import Derived.RangeFuncLeaves
import Derived.WalkKit
import Derived.OwnWalkIn
import Derived.TacticsInMore
import Derived.Test.YtmochjhhmahokaaGreatMAI
namespace Go.Proofs.YtmochjhhmahokaaGreat
open Go.RowKit
open L4 (Ar ArP Abs arV nv)

/-- A list under way: its variable in block o, its row from B on. -/
structure Lst (B o : Nat) (v : Value) (xs : List ByteArray) (w : World) : Prop where
  blk : w.heap[o]? = some (.cells #[v] 33 (0, 0))
  row : w.ownsRow B 9 1 v xs.length (L5.svs xs)
  lt : o < B
  bs : B ≤ w.heap.size

theorem Lst.on {B o : Nat} {v : Value} {xs : List ByteArray} {w w' : World} (k : Lst B o v xs w) (hb : Below w.heap.size w w') : Lst B o v xs w' :=
  ⟨(hb.block _ (Nat.lt_of_lt_of_le k.lt k.bs)).trans k.blk, L5.owns_below k.row hb, k.lt, Nat.le_trans k.bs hb.size⟩

set_option maxRecDepth 100000 in
set_option maxHeartbeats 1000000 in
theorem all1_ok {B o : Nat} {v : Value} {xs : List ByteArray} {s : ByteArray} {w : World} (k : Lst B o v xs w) (hx : xs.length ≤ 100000) :
    Calls Tryz.prog 50 #[.string s, .pointer (some ⟨o, 0, none⟩)] w fun e w' => e = .returned (.bool true) ∧ ∃ v', Lst B o v' (xs ++ [s]) w' ∧ Only (fun q => q = o ∨ B ≤ q) w w' := by
  have HK := thid k
  have ol : o < w.heap.size := Nat.lt_of_lt_of_le k.lt k.bs
  have c0 : w.cell? ⟨o, 0, none⟩ = some v := by rw [cell_of_row _ _ _ _ _ _ k.blk]; rfl
  have hf : ∀ i, w.frozen? ⟨o, i, none⟩ = false := fun i => frozen_of_row _ _ _ _ _ k.blk
  obtain ⟨va, vc, rfl⟩ := own_slice k.row
  clear k
  go_enter Tryz.func50, Tryz.ntmps50
  have HB1 := thid (tbelow w (.cells #[.string s] 9))
  go_wp2_with (first
    | (at_builtin
       revert HB1)
    | fail)
  intro HB1
  have HK1 := thid (HK.out.on HB1.out)
  refine L5.append_row (z := .string ⟨#[]⟩) (by_ := 16) Tryz.underlying33 (by kernel_rfl) (by decide) rfl B HK1.out.bs rfl _ _ rfl (.slice va xs.length vc) xs.length (L5.svs xs) [.string s] rfl HK1.out.row (by omega) 1 (by omega) ⟨w.heap.size, 0, none⟩ 1 rfl rfl (fun i u hi => by
      rw [Addr.add_lit, cell_of_row _ _ _ _ _ _ (heap_alloc_new _ _)]
      simpa using hi) (fun u hu => by simp at hu; subst hu; rfl) ?_
  intro v' w5 hown hg hat
  have hno : (Value.slice va xs.length vc).ownBlock ≠ some o := fun e => by have := (HK1.out.row.lt o e).1; have := HK1.out.lt; omega
  have b5 : w5.heap[o]? = some (.cells #[.slice va xs.length vc] 33 (0, 0)) := (hg.block o (Nat.lt_of_lt_of_le ol HB1.out.size) (fun e => hno e.symm)).trans HK1.out.blk
  have c5 : w5.cell? ⟨o, 0, none⟩ = some (.slice va xs.length vc) := by rw [cell_of_row _ _ _ _ _ _ b5]; rfl
  have f5 : ∀ i, w5.frozen? ⟨o, i, none⟩ = false := fun i => frozen_of_row _ _ _ _ _ b5
  have l5 := (Array.getElem?_eq_some_iff.1 b5).1
  obtain ⟨ad, cp, rfl⟩ := L5.owns_at hown
  have HF : Hid (Lst B o (.slice ad (xs.length + 1) cp) (xs ++ [s]) (w5.setCell ⟨o, 0, none⟩ (.slice ad (xs.length + 1) cp)) ∧ Only (fun q => q = o ∨ B ≤ q) w (w5.setCell ⟨o, 0, none⟩ (.slice ad (xs.length + 1) cp))) := by
    refine ⟨⟨heap_setCell_same w5 o 0 _ _ _ b5, ?_, HK1.out.lt, ?_⟩, ⟨hg.os.trans HB1.out.os, hg.tape.trans HB1.out.tape, hg.output.trans HB1.out.output, ?_, fun q hq hs => ?_⟩⟩
    · have h1 := ownsRow_setCell_other hown (a := ⟨o, 0, none⟩) (row_ne b5 hown (by decide)) (.slice ad (xs.length + 1) cp)
      rw [List.length_append, show L5.svs (xs ++ [s]) = L5.svs xs ++ [.string s] by simp [L5.svs]]
      exact h1
    · have z1 := HK1.out.bs; have z2 := hg.size; simp [World.setCell]; omega
    · have z1 := HB1.out.size; have z2 := hg.size; simp [World.setCell]; omega
    · rw [heap_setCell_other _ _ _ _ (fun e => hs (Or.inl e)), hg.block q (Nat.lt_of_lt_of_le hq HB1.out.size) (fun e => hs (Or.inr (HK1.out.row.lt q e.symm).1)), HB1.out.block q hq]
  clear hown hg hat b5 HK HK1 HB1 c0 hf
  go_wp2
  go_ret
  exact ⟨rfl, _, HF.out⟩

/-- An Each's walk over everything into a list. -/
def WalkC (w : World) (k o : Nat) : Prop := w.heap[k]? = some (.cells #[.string ⟨#[]⟩, .string ⟨#[]⟩, .func (.func 50) #[] #[.pointer (some ⟨o, 0, none⟩)], .bool false] 108 (0, 0))

theorem WalkC.cells {w : World} {k o : Nat} (h : WalkC w k o) : w.cell? ⟨k, 0, none⟩ = some (.string ⟨#[]⟩) ∧ w.cell? ⟨k, 1, none⟩ = some (.string ⟨#[]⟩) ∧ w.cell? ⟨k, 2, none⟩ = some (.func (.func 50) #[] #[.pointer (some ⟨o, 0, none⟩)]) ∧ w.cell? ⟨k, 3, none⟩ = some (.bool false) ∧ k < w.heap.size := by
  refine ⟨?_, ?_, ?_, ?_, (Array.getElem?_eq_some_iff.1 h).1⟩ <;> rw [cell_of_row _ _ _ _ _ _ h] <;> rfl

set_option maxRecDepth 100000 in
set_option maxHeartbeats 1000000 in
theorem tell_ok {k o : Nat} {at_ : Int} {n : L5.No} {a : Option Addr} {c : Nat} {a' : Option Addr} {c' : Nat} {w : World} (hW : WalkC w k o) (ho : w.heap[o]? = some (.cells #[.slice none 0 0] 33 (0, 0))) (hr : L5.NR w n a c a' c') (hs : n.small) (hlf : n.leaf = true) :
    Calls Tryz.prog 57 #[.pointer (some ⟨k, 0, none⟩), .int .i64 at_, L5.nodeV n a c a' c'] w fun e w' => e = .returned (.tuple #[]) ∧ ∃ v', Lst w.heap.size o v' n.recs w' ∧ Only (fun q => q = o ∨ w.heap.size ≤ q) w w' := by
  obtain ⟨k0, k1, k2, k3, kl⟩ := hW.cells
  have ol := (Array.getElem?_eq_some_iff.1 ho).1
  have HW := thid hW
  have HO := thid ho
  have HR := thid hr
  have HR0 := thid hr
  have HW0 := thid hW
  have HO0 := thid ho
  have hko : k ≠ o := tag_ne hW ho (by decide)
  clear hW ho hr
  have HLF := thid hlf
  have HB1 := thid (tbelow w (.cells #[.bool n.leaf, .slice a n.recs.length c, .slice a' n.kids.length c'] 82))
  have a1 := heap_alloc_new w (.cells #[.bool n.leaf, .slice a n.recs.length c, .slice a' n.kids.length c'] 82)
  have h0 : n.recs.countP (L5.ltB ⟨#[]⟩) = 0 := by
    rw [List.countP_eq_zero]
    intro x _
    have e : L5.ltB ⟨#[]⟩ x = false := by
      unfold L5.ltB
      rw [List.isEmpty_iff.1 (show (ByteArray.mk #[]).toList.isEmpty = true by rw [L5.isEmpty_size]; rfl)]
      cases x.toList <;> rfl
    rw [e]
    decide
  unfold L5.nodeV
  go_enter Tryz.func57, Tryz.ntmps57
  have nlf : (w.alloc (.cells #[.bool n.leaf, .slice a n.recs.length c, .slice a' n.kids.length c'] 82)).cell? ⟨w.heap.size, 0, none⟩ = some (.bool true) := by rw [cell_of_row _ _ _ _ _ _ a1]; simp [hlf]
  clear hlf
  go_wp2_with fail
  clear nlf
  have hk : k < (w.alloc (.cells #[.bool n.leaf, .slice a n.recs.length c, .slice a' n.kids.length c'] 82)).heap.size := Nat.lt_of_lt_of_le kl HB1.out.size
  have HR1 := thid (HR.out.below HB1.out)
  have HW1 := thid ((HB1.out.block k kl).trans HW.out)
  have HO1 := thid ((HB1.out.block o ol).trans HO.out)
  clear k0 k1 k2 k3 HW HO HR
  generalize w.alloc (.cells #[.bool n.leaf, .slice a n.recs.length c, .slice a' n.kids.length c'] 82) = W at *
  have nl := (Array.getElem?_eq_some_iff.1 a1).1
  have HM := thid (fun q : L4.BelowW W => (q.below.block w.heap.size nl).trans a1)
  have HMW := thid (fun q : L4.BelowW W => ((q.below.block k hk).trans HW1.out : WalkC q.w k o))
  have y0 : ∀ q : L4.BelowW W, q.w.cell? ⟨w.heap.size, 0, none⟩ = some (.bool n.leaf) := fun q => by rw [cell_of_row _ _ _ _ _ _ (HM.out q)]; rfl
  have y1 : ∀ q : L4.BelowW W, q.w.cell? ⟨w.heap.size, 1, none⟩ = some (.slice a n.recs.length c) := fun q => by rw [cell_of_row _ _ _ _ _ _ (HM.out q)]; rfl
  have y2 : ∀ q : L4.BelowW W, q.w.cell? ⟨w.heap.size, 2, none⟩ = some (.slice a' n.kids.length c') := fun q => by rw [cell_of_row _ _ _ _ _ _ (HM.out q)]; rfl
  have x0 : ∀ q : L4.BelowW W, q.w.cell? ⟨k, 0, none⟩ = some (.string ⟨#[]⟩) := fun q => (WalkC.cells (HMW.out q)).1
  have HFN : ∀ q : L4.BelowW W, Calls Tryz.prog 49 #[.agg #[.bool n.leaf, .slice a n.recs.length c, .slice a' n.kids.length c'], .string ⟨#[]⟩] q.w fun e w' => e = .returned (.tuple #[.int .i64 0, .bool (L5.isAt n.recs ⟨#[]⟩ 0)]) ∧ Below q.w.heap.size q.w w' := fun q => by
    have := L5.find_walk (n := n) (HR1.out.below q.below) hs.recs ⟨#[]⟩
    rw [h0] at this
    exact this
  refine L4.wp_region_below (by kernel_rfl) (by kernel_rfl) (fun _ => ?_)
  repeat (go_big_quiet_step (first | (go_at_call 49; exact L4.quiet_of_below (HFN _))))
  refine wpQuiet_nil ?_
  rintro _ ⟨q, rfl⟩
  have HR2 := thid (HR1.out.below q.below)
  have HW2 := thid (HMW.out q)
  have HO2 := thid ((q.below.block o (Nat.lt_of_lt_of_le ol HB1.out.size)).trans HO1.out)
  have HB2 := thid (tbelow_on HB1.out q.below)
  have a2 := HM.out q
  generalize q.w = w2 at *
  clear HM HMW y0 y1 y2 x0 HFN q a1 HR1 HW1 HO1 hk nl HB1
  obtain ⟨k0, k1, k2, k3, kl2⟩ := WalkC.cells HW2.out
  have n1 : w2.cell? ⟨w.heap.size, 1, none⟩ = some (.slice a n.recs.length c) := by rw [cell_of_row _ _ _ _ _ _ a2]; rfl
  have nl := (Array.getElem?_eq_some_iff.1 a2).1
  have hcp : n.recs.length ≤ c := by have := HR2.out.recs.1; simpa [L5.svs] using this
  go_wp2_with fail
  go_loopw [27] (fun i wr => ∃ j : Nat, j ≤ n.recs.length ∧ i = .int .i64 (j : Int) ∧ ∃ v : Value, Hid (Lst w.heap.size o v (n.recs.take j) wr ∧ Only (fun q => q = o ∨ w.heap.size ≤ q) w wr)) (fun i _ => n.recs.length - (intOf i).toNat)
  case atStart => exact ⟨0, Nat.zero_le _, rfl, .slice none 0 0, ⟨⟨HO2.out, ⟨rfl, Or.inl ⟨rfl, rfl⟩⟩, ol, HB2.out.size⟩, Only.of_below HB2.out⟩⟩
  case round =>
    clear k0 k1 k2 k3 kl2 n1 nl HO2 HW2 HR2 HB2 a2
    obtain ⟨j, hj, rfl, v, HL⟩ := hrel
    obtain ⟨hL, hO⟩ := HL.out
    have HLL := thid hL
    have HOO := thid hO
    clear hL hO HL
    have hsr := hs.recs
    by_cases hlt : j < n.recs.length
    · have hlt' : (j : Int) < (n.recs.length : Int) := by omega
      have hw : WalkC wr k o := (HOO.out.block k kl (fun x => by rcases x with x | x; exact hko x; omega)).trans HW0.out
      obtain ⟨k0, k1, k2, k3, kl2⟩ := WalkC.cells hw
      obtain ⟨b, of, rfl, hbl, hbc⟩ := HR0.out.recs.2.2 j (.string n.recs[j]) (by simp [L5.svs, hlt])
      have hbo : b ≠ o := fun e => by
        subst e
        rw [cell_of_row _ _ _ _ _ _ HO0.out] at hbc
        cases hof : of + j with
        | zero => rw [hof] at hbc; cases hbc
        | succ m => rw [hof] at hbc; simp at hbc
      have hbr : wr.cell? ⟨b, of + j, none⟩ = some (.string n.recs[j]) := (HOO.out.cell (p := ⟨b, of + j, none⟩) hbl (fun x => by rcases x with x | x; exact hbo x; exact absurd hbl (Nat.not_lt.2 x))).trans hbc
      have hblr : b < wr.heap.size := Nat.lt_of_lt_of_le hbl HOO.out.size
      have HY : Hid (n.recs.take (j + 1) = n.recs.take j ++ [n.recs[j]]) := (List.take_append_getElem hlt).symm
      generalize n.recs[j] = y at *
      clear hw hbc
      go_wp2_with fail
      refine (all1_ok (s := y) HLL.out (by simp; omega)).mono ?_
      rintro e w5 ⟨rfl, v5, hL5, hO5⟩
      have HD5 : Hid (Lst w.heap.size o v5 (n.recs.take (j + 1)) w5 ∧ Only (fun q => q = o ∨ w.heap.size ≤ q) w w5) := ⟨by rw [HY.out]; exact hL5, HOO.out.trans hO5⟩
      clear hL5 hO5 HLL HOO HY hbr hblr k0 k1 k2 k3 kl2
      go_wp2
      exact ⟨⟨j + 1, by omega, by go_num, v5, HD5⟩, by simp [intOf]; omega⟩
    · have hlt' : (n.recs.length : Int) ≤ (j : Int) := by omega
      have hjl : j = n.recs.length := by omega
      subst hjl
      rw [List.take_length] at HLL
      go_wp2
      go_end0
      exact ⟨rfl, v, HLL.out, HOO.out⟩
end Go.Proofs.YtmochjhhmahokaaGreat
/-
  Tree: through, Each, All over a tree of one leaf.
-/
namespace Go.Proofs.YtmochjhhmahokaaGreat
open Go.RowKit
open L4 (Ar ArP Abs arV nv)

/-- A variable that is no arena's is set. -/
theorem One.set {s : Ar} {t r l : Nat} {nd : L5.No} {w : World} (h : One s t r l nd w) {q : Nat} {cs : Array Value} (hq : w.heap[q]? = some (.cells cs 3 (0, 0))) (hn : ¬ s.own q) (v : Value) : One s t r l nd (w.setCell ⟨q, 0, none⟩ v) := by
  have oth : ∀ p, p ≠ q → (w.setCell ⟨q, 0, none⟩ v).heap[p]? = w.heap[p]? := fun p hp => heap_setCell_other _ _ _ _ hp
  exact ⟨L4.arSt.keep s w _ h.ar (fun p hp => oth p fun e => hn (e ▸ hp)) (fun p cs hp => oth p (tag_ne hp hq (by decide))), h.ok, ⟨(oth t (tag_ne h.tr.blk hq (by decide))).trans h.tr.blk⟩, h.at_, h.shaped, h.size, h.leaf, h.small, h.pos⟩

set_option maxRecDepth 100000 in
set_option maxHeartbeats 1000000 in
theorem visit_ok {s : Ar} {t r l k o n0 n1 n2 n3 n4 n5 : Nat} {nd : L5.No} {w : World} (h1 : One s t r l nd w) (hW : WalkC w k o) (ho : w.heap[o]? = some (.cells #[.slice none 0 0] 33 (0, 0))) (hl : w.heap[n4]? = some (.cells #[.int .i64 4096] 3 (0, 0))) (hno : ¬ s.own n4) (ht : w.cell? ⟨n0, 0, none⟩ = some (.pointer (some ⟨t, 0, none⟩))) (htl : w.cell? ⟨n2, 0, none⟩ = some (.func (.func 57) #[.pointer (some ⟨k, 0, none⟩)] #[])) (x0 : n0 ≠ n4) (x2 : n2 ≠ n4) (l2 : n2 < w.heap.size) :
    Calls Tryz.prog 80 #[.int .i64 (r : Int), .int .i64 1, .pointer (some ⟨n4, 0, none⟩), .pointer (some ⟨n0, 0, none⟩), .pointer (some ⟨n2, 0, none⟩), .pointer (some ⟨n1, 0, none⟩), .pointer (some ⟨n5, 0, none⟩), .pointer (some ⟨n3, 0, none⟩)] w fun e w' => e = .returned (.int .i64 0) ∧ ∃ v' B, w.heap.size ≤ B ∧ Lst B o v' nd.recs w' ∧ Only (fun q => q = o ∨ q = n4) w w' := by
  have H2 := thid (h1.set hl hno (.int .i64 4095))
  have oth : ∀ p, p ≠ n4 → (w.setCell ⟨n4, 0, none⟩ (.int .i64 4095)).heap[p]? = w.heap[p]? := fun p hp => heap_setCell_other _ _ _ _ hp
  have HW2 : Hid (WalkC (w.setCell ⟨n4, 0, none⟩ (.int .i64 4095)) k o) := (oth k (tag_ne hW hl (by decide))).trans hW
  have HO2 := thid ((oth o (tag_ne ho hl (by decide))).trans ho)
  have HS2 : Hid (Only (fun q => q = o ∨ q = n4) w (w.setCell ⟨n4, 0, none⟩ (.int .i64 4095))) := (Only.refl _ w).setCell (p := ⟨n4, 0, none⟩) (Or.inr (Or.inr rfl)) _
  have t2 : (w.setCell ⟨n4, 0, none⟩ (.int .i64 4095)).cell? ⟨n0, 0, none⟩ = some (.pointer (some ⟨t, 0, none⟩)) := (World.cell?_of_block (oth n0 x0)).trans ht
  have tl2 : (w.setCell ⟨n4, 0, none⟩ (.int .i64 4095)).cell? ⟨n2, 0, none⟩ = some (.func (.func 57) #[.pointer (some ⟨k, 0, none⟩)] #[]) := (World.cell?_of_block (oth n2 x2)).trans htl
  have zz : (w.setCell ⟨n4, 0, none⟩ (.int .i64 4095)).heap.size = w.heap.size := by simp [World.setCell]
  have HRD := thid (read_ok H2.out.ar H2.out.ok H2.out.tr H2.out.at_ H2.out.shaped H2.out.size)
  have hle := H2.out.leaf
  have HSM := thid H2.out.small
  rw [hle] at HRD
  have c4 : w.cell? ⟨n4, 0, none⟩ = some (.int .i64 4096) := by rw [cell_of_row _ _ _ _ _ _ hl]; rfl
  have f4 : ∀ i, w.frozen? ⟨n4, i, none⟩ = false := fun i => frozen_of_row _ _ _ _ _ hl
  have l4 := (Array.getElem?_eq_some_iff.1 hl).1
  clear h1 hW ho hl
  go_enter Tryz.func80, Tryz.ntmps80
  go_wp2_with fail
  refine HRD.out.mono ?_
  rintro e w2 ⟨v, rfl, a, c, a', c', rfl, o1, o2, B2⟩
  have HNR := thid (L5.NR.mk (L5.owns_rd_slice o1) (L5.owns_rd_slice o2) : L5.NR w2 nd a c a' c')
  have HB2 := thid B2
  have HW3 : Hid (WalkC w2 k o) := (B2.block k (Array.getElem?_eq_some_iff.1 HW2.out).1).trans HW2.out
  have HO3 := thid ((B2.block o (Array.getElem?_eq_some_iff.1 HO2.out).1).trans HO2.out)
  have tl3 := (B2.cell (p := ⟨n2, 0, none⟩) (by rw [zz]; exact l2)).trans tl2
  have l23 : n2 < w2.heap.size := Nat.lt_of_lt_of_le l2 (by rw [← zz]; exact B2.size)
  clear HRD o1 o2 B2 t2 tl2 HW2 HO2 c4 f4 l4 ht htl
  unfold L5.nodeV
  rw [hle]
  go_wp2_with fail
  have hb3 := tbelow w2 (.cells #[.bool true, .slice a nd.recs.length c, .slice a' nd.kids.length c'] 82)
  have n5 := (L5.box_cells w2 (.bool true) (.slice a nd.recs.length c) (.slice a' nd.kids.length c') 82).1
  have HTL := thid (tell_ok (at_ := (r : Int)) (n := nd) ((hb3.block k (Array.getElem?_eq_some_iff.1 HW3.out).1).trans HW3.out) ((hb3.block o (Array.getElem?_eq_some_iff.1 HO3.out).1).trans HO3.out) (HNR.out.below hb3) HSM.out hle)
  unfold L5.nodeV at HTL
  rw [hle] at HTL
  have hol := (Array.getElem?_eq_some_iff.1 HO3.out).1
  have HB3 := thid (tbelow_on HB2.out hb3)
  have z5 : w2.heap.size < (w2.alloc (.cells #[.bool true, .slice a nd.recs.length c, .slice a' nd.kids.length c'] 82)).heap.size := by simp
  clear hb3 HNR HW3 HO3 tl3 l23 HB2
  generalize w2.alloc (.cells #[.bool true, .slice a nd.recs.length c, .slice a' nd.kids.length c'] 82) = W3 at *
  refine HTL.out.mono ?_
  rintro e w4 ⟨rfl, v', hL, hO⟩
  have n6 : w4.cell? ⟨w2.heap.size, 0, none⟩ = some (.bool true) := (hO.cell (p := ⟨w2.heap.size, 0, none⟩) z5 (fun x => by
    rcases x with x | x
    · have x' : w2.heap.size = o := x
      omega
    · exact absurd z5 (Nat.not_lt.2 x))).trans n5
  have HF : Hid (∃ v' B, w.heap.size ≤ B ∧ Lst B o v' nd.recs w4 ∧ Only (fun q => q = o ∨ q = n4) w w4) := by
    refine ⟨v', W3.heap.size, ?_, hL, ?_⟩
    · have := HB3.out.size; omega
    · refine ⟨hO.os.trans (HB3.out.os.trans HS2.out.os), hO.tape.trans (HB3.out.tape.trans HS2.out.tape), hO.output.trans (HB3.out.output.trans HS2.out.output), Nat.le_trans HS2.out.size (Nat.le_trans HB3.out.size hO.size), fun q hq hs => ?_⟩
      have z1 := HB3.out.size
      rw [hO.block q (by omega) (fun x => by
        rcases x with x | x
        · exact hs (Or.inl x)
        · omega), HB3.out.block q (by omega)]
      exact HS2.out.block q hq hs
  clear HTL hL hO n5 HB3 HS2 H2 HSM
  go_wp2
  go_ret
  exact ⟨rfl, HF.out⟩

set_option maxRecDepth 100000 in
set_option maxHeartbeats 1000000 in
theorem through_ok {s : Ar} {t r l k o : Nat} {nd : L5.No} {w : World} (h1 : One s t r l nd w) (hW : WalkC w k o) (ho : w.heap[o]? = some (.cells #[.slice none 0 0] 33 (0, 0))) :
    Calls Tryz.prog 56 #[.pointer (some ⟨t, 0, none⟩), .string ⟨#[]⟩, .func (.func 57) #[.pointer (some ⟨k, 0, none⟩)] #[], .func (.func 58) #[.pointer (some ⟨k, 0, none⟩)] #[]] w fun e w' => e = .returned (.int .i64 0) ∧ ∃ v' B, w.heap.size ≤ B ∧ Lst B o v' nd.recs w' ∧ Only (fun q => q = o) w w' := by
  obtain ⟨c0, c1, c2, c3, ct, cf⟩ := h1.tr.cells
  have H1 := thid h1
  have HW := thid hW
  have HO := thid ho
  have hmf : ∀ (fn : Fn) (first cap : Array Value) (w : World), (Instr.makeFunc fn first cap).run Tryz.prog w = .ok (.func fn first cap) w := fun _ _ _ _ => rfl
  have own_lt : ∀ q, s.own q → q < w.heap.size := fun q hq => L4.arSt.lt s w q h1.ar hq
  clear h1 hW ho
  go_enter Tryz.func56, Tryz.ntmps56
  have p5 : ((((((w.alloc (.cells #[.pointer (some ⟨t, 0, none⟩)] 29)).alloc (.cells #[.string ⟨#[]⟩] 9)).alloc (.cells #[.func (.func 57) #[.pointer (some ⟨k, 0, none⟩)] #[]] 80)).alloc (.cells #[.func (.func 58) #[.pointer (some ⟨k, 0, none⟩)] #[]] 23)).alloc (.cells #[.int .i64 4096] 3)).alloc (.cells #[.nilFunc] 126)).cell? ⟨w.heap.size + 1 + 1 + 1 + 1 + 1, 0, none⟩ = some .nilFunc := by simp [go_sem]
  have f5 : ∀ i, ((((((w.alloc (.cells #[.pointer (some ⟨t, 0, none⟩)] 29)).alloc (.cells #[.string ⟨#[]⟩] 9)).alloc (.cells #[.func (.func 57) #[.pointer (some ⟨k, 0, none⟩)] #[]] 80)).alloc (.cells #[.func (.func 58) #[.pointer (some ⟨k, 0, none⟩)] #[]] 23)).alloc (.cells #[.int .i64 4096] 3)).alloc (.cells #[.nilFunc] 126)).frozen? ⟨w.heap.size + 1 + 1 + 1 + 1 + 1, i, none⟩ = false := fun i => by simp [go_sem]
  go_wp2_with fail
  clear p5 f5
  have HB := thid ((((((tbelow w (.cells #[.pointer (some ⟨t, 0, none⟩)] 29)).alloc (by simp) (.cells #[.string ⟨#[]⟩] 9)).alloc (by simp; omega) (.cells #[.func (.func 57) #[.pointer (some ⟨k, 0, none⟩)] #[]] 80)).alloc (by simp; omega) (.cells #[.func (.func 58) #[.pointer (some ⟨k, 0, none⟩)] #[]] 23)).alloc (by simp; omega) (.cells #[.int .i64 4096] 3)).alloc (by simp; omega) (.cells #[(.func (.func 80) #[] #[.pointer (some ⟨w.heap.size + 1 + 1 + 1 + 1, 0, none⟩), .pointer (some ⟨w.heap.size, 0, none⟩), .pointer (some ⟨w.heap.size + 1 + 1, 0, none⟩), .pointer (some ⟨w.heap.size + 1, 0, none⟩), .pointer (some ⟨w.heap.size + 1 + 1 + 1 + 1 + 1, 0, none⟩), .pointer (some ⟨w.heap.size + 1 + 1 + 1, 0, none⟩)])] 126))
  have z6 : ((((((w.alloc (.cells #[.pointer (some ⟨t, 0, none⟩)] 29)).alloc (.cells #[.string ⟨#[]⟩] 9)).alloc (.cells #[.func (.func 57) #[.pointer (some ⟨k, 0, none⟩)] #[]] 80)).alloc (.cells #[.func (.func 58) #[.pointer (some ⟨k, 0, none⟩)] #[]] 23)).alloc (.cells #[.int .i64 4096] 3)).alloc (.cells #[(.func (.func 80) #[] #[.pointer (some ⟨w.heap.size + 1 + 1 + 1 + 1, 0, none⟩), .pointer (some ⟨w.heap.size, 0, none⟩), .pointer (some ⟨w.heap.size + 1 + 1, 0, none⟩), .pointer (some ⟨w.heap.size + 1, 0, none⟩), .pointer (some ⟨w.heap.size + 1 + 1 + 1 + 1 + 1, 0, none⟩), .pointer (some ⟨w.heap.size + 1 + 1 + 1, 0, none⟩)])] 126)).heap.size = w.heap.size + 6 := by simp
  have v0 : ((((((w.alloc (.cells #[.pointer (some ⟨t, 0, none⟩)] 29)).alloc (.cells #[.string ⟨#[]⟩] 9)).alloc (.cells #[.func (.func 57) #[.pointer (some ⟨k, 0, none⟩)] #[]] 80)).alloc (.cells #[.func (.func 58) #[.pointer (some ⟨k, 0, none⟩)] #[]] 23)).alloc (.cells #[.int .i64 4096] 3)).alloc (.cells #[(.func (.func 80) #[] #[.pointer (some ⟨w.heap.size + 1 + 1 + 1 + 1, 0, none⟩), .pointer (some ⟨w.heap.size, 0, none⟩), .pointer (some ⟨w.heap.size + 1 + 1, 0, none⟩), .pointer (some ⟨w.heap.size + 1, 0, none⟩), .pointer (some ⟨w.heap.size + 1 + 1 + 1 + 1 + 1, 0, none⟩), .pointer (some ⟨w.heap.size + 1 + 1 + 1, 0, none⟩)])] 126)).cell? ⟨w.heap.size, 0, none⟩ = some (.pointer (some ⟨t, 0, none⟩)) := by simp [go_sem]
  have v2 : ((((((w.alloc (.cells #[.pointer (some ⟨t, 0, none⟩)] 29)).alloc (.cells #[.string ⟨#[]⟩] 9)).alloc (.cells #[.func (.func 57) #[.pointer (some ⟨k, 0, none⟩)] #[]] 80)).alloc (.cells #[.func (.func 58) #[.pointer (some ⟨k, 0, none⟩)] #[]] 23)).alloc (.cells #[.int .i64 4096] 3)).alloc (.cells #[(.func (.func 80) #[] #[.pointer (some ⟨w.heap.size + 1 + 1 + 1 + 1, 0, none⟩), .pointer (some ⟨w.heap.size, 0, none⟩), .pointer (some ⟨w.heap.size + 1 + 1, 0, none⟩), .pointer (some ⟨w.heap.size + 1, 0, none⟩), .pointer (some ⟨w.heap.size + 1 + 1 + 1 + 1 + 1, 0, none⟩), .pointer (some ⟨w.heap.size + 1 + 1 + 1, 0, none⟩)])] 126)).cell? ⟨w.heap.size + 1 + 1, 0, none⟩ = some (.func (.func 57) #[.pointer (some ⟨k, 0, none⟩)] #[]) := by simp [go_sem]
  have v5 : ((((((w.alloc (.cells #[.pointer (some ⟨t, 0, none⟩)] 29)).alloc (.cells #[.string ⟨#[]⟩] 9)).alloc (.cells #[.func (.func 57) #[.pointer (some ⟨k, 0, none⟩)] #[]] 80)).alloc (.cells #[.func (.func 58) #[.pointer (some ⟨k, 0, none⟩)] #[]] 23)).alloc (.cells #[.int .i64 4096] 3)).alloc (.cells #[(.func (.func 80) #[] #[.pointer (some ⟨w.heap.size + 1 + 1 + 1 + 1, 0, none⟩), .pointer (some ⟨w.heap.size, 0, none⟩), .pointer (some ⟨w.heap.size + 1 + 1, 0, none⟩), .pointer (some ⟨w.heap.size + 1, 0, none⟩), .pointer (some ⟨w.heap.size + 1 + 1 + 1 + 1 + 1, 0, none⟩), .pointer (some ⟨w.heap.size + 1 + 1 + 1, 0, none⟩)])] 126)).cell? ⟨w.heap.size + 1 + 1 + 1 + 1 + 1, 0, none⟩ = some (.func (.func 80) #[] #[.pointer (some ⟨w.heap.size + 1 + 1 + 1 + 1, 0, none⟩), .pointer (some ⟨w.heap.size, 0, none⟩), .pointer (some ⟨w.heap.size + 1 + 1, 0, none⟩), .pointer (some ⟨w.heap.size + 1, 0, none⟩), .pointer (some ⟨w.heap.size + 1 + 1 + 1 + 1 + 1, 0, none⟩), .pointer (some ⟨w.heap.size + 1 + 1 + 1, 0, none⟩)]) := by simp [go_sem]
  have v4 : ((((((w.alloc (.cells #[.pointer (some ⟨t, 0, none⟩)] 29)).alloc (.cells #[.string ⟨#[]⟩] 9)).alloc (.cells #[.func (.func 57) #[.pointer (some ⟨k, 0, none⟩)] #[]] 80)).alloc (.cells #[.func (.func 58) #[.pointer (some ⟨k, 0, none⟩)] #[]] 23)).alloc (.cells #[.int .i64 4096] 3)).alloc (.cells #[(.func (.func 80) #[] #[.pointer (some ⟨w.heap.size + 1 + 1 + 1 + 1, 0, none⟩), .pointer (some ⟨w.heap.size, 0, none⟩), .pointer (some ⟨w.heap.size + 1 + 1, 0, none⟩), .pointer (some ⟨w.heap.size + 1, 0, none⟩), .pointer (some ⟨w.heap.size + 1 + 1 + 1 + 1 + 1, 0, none⟩), .pointer (some ⟨w.heap.size + 1 + 1 + 1, 0, none⟩)])] 126)).heap[w.heap.size + 1 + 1 + 1 + 1]? = some (.cells #[.int .i64 4096] 3 (0, 0)) := by
    have h := heap_alloc_new ((((w.alloc (.cells #[.pointer (some ⟨t, 0, none⟩)] 29)).alloc (.cells #[.string ⟨#[]⟩] 9)).alloc (.cells #[.func (.func 57) #[.pointer (some ⟨k, 0, none⟩)] #[]] 80)).alloc (.cells #[.func (.func 58) #[.pointer (some ⟨k, 0, none⟩)] #[]] 23)) (.cells #[.int .i64 4096] 3)
    rw [show ((((w.alloc (.cells #[.pointer (some ⟨t, 0, none⟩)] 29)).alloc (.cells #[.string ⟨#[]⟩] 9)).alloc (.cells #[.func (.func 57) #[.pointer (some ⟨k, 0, none⟩)] #[]] 80)).alloc (.cells #[.func (.func 58) #[.pointer (some ⟨k, 0, none⟩)] #[]] 23)).heap.size = w.heap.size + 1 + 1 + 1 + 1 by simp] at h
    exact ((tbelow _ _).block _ (by simp)).trans h
  have HV4 := thid v4
  clear v4
  generalize ((((((w.alloc (.cells #[.pointer (some ⟨t, 0, none⟩)] 29)).alloc (.cells #[.string ⟨#[]⟩] 9)).alloc (.cells #[.func (.func 57) #[.pointer (some ⟨k, 0, none⟩)] #[]] 80)).alloc (.cells #[.func (.func 58) #[.pointer (some ⟨k, 0, none⟩)] #[]] 23)).alloc (.cells #[.int .i64 4096] 3)).alloc (.cells #[(.func (.func 80) #[] #[.pointer (some ⟨w.heap.size + 1 + 1 + 1 + 1, 0, none⟩), .pointer (some ⟨w.heap.size, 0, none⟩), .pointer (some ⟨w.heap.size + 1 + 1, 0, none⟩), .pointer (some ⟨w.heap.size + 1, 0, none⟩), .pointer (some ⟨w.heap.size + 1 + 1 + 1 + 1 + 1, 0, none⟩), .pointer (some ⟨w.heap.size + 1 + 1 + 1, 0, none⟩)])] 126)) = V at *
  have t1 := (HB.out.cell (p := ⟨t, 1, none⟩) ct).trans c1
  have t2 : V.cell? ⟨t, 2, none⟩ = some (.int .i64 1) := (HB.out.cell (p := ⟨t, 2, none⟩) ct).trans c2
  refine wp_region_quiet_tail (fun w' => ∃ n, w' = World.drewN V n) 11 (by kernel_rfl) (by kernel_rfl) ⟨1, rfl⟩ ?_
  simp only [List.take_succ_cons, List.take_zero, List.drop_succ_cons, List.drop_zero]
  repeat (go_big_quiet_step (fail))
  refine wpQuiet_nil ?_
  rintro _ ⟨nq, rfl⟩
  have hd : Below V.heap.size V (World.drewN V nq) := below_drewN (Below.refl _ _) nq
  have HB2 := thid (tbelow_on HB.out hd)
  have HVI := thid (visit_ok (n0 := w.heap.size) (n1 := w.heap.size + 1) (n2 := w.heap.size + 1 + 1) (n3 := w.heap.size + 1 + 1 + 1) (n4 := w.heap.size + 1 + 1 + 1 + 1) (n5 := w.heap.size + 1 + 1 + 1 + 1 + 1) (H1.out.below HB2.out) ((HB2.out.block k (Array.getElem?_eq_some_iff.1 HW.out).1).trans HW.out) ((HB2.out.block o (Array.getElem?_eq_some_iff.1 HO.out).1).trans HO.out) ((hd.block _ (by omega)).trans HV4.out) (fun x => by have := own_lt _ x; omega) ((hd.cell (p := ⟨w.heap.size, 0, none⟩) (by show w.heap.size < V.heap.size; omega)).trans v0) ((hd.cell (p := ⟨w.heap.size + 1 + 1, 0, none⟩) (by show w.heap.size + 1 + 1 < V.heap.size; omega)).trans v2) (by omega) (by omega) (by have := hd.size; omega))
  clear v0 v2 v5 t1 t2 hd HB HV4 H1 HW c0 c1 c2 c3 cf
  generalize World.drewN V nq = V2 at *
  go_wp2_with fail
  refine HVI.out.mono ?_
  rintro e w4 ⟨rfl, v', B, hB, hL, hO⟩
  have HF : Hid (∃ v' B, w.heap.size ≤ B ∧ Lst B o v' nd.recs w4 ∧ Only (fun q => q = o) w w4) := by
    refine ⟨v', B, Nat.le_trans HB2.out.size hB, hL, ⟨hO.os.trans HB2.out.os, hO.tape.trans HB2.out.tape, hO.output.trans HB2.out.output, Nat.le_trans HB2.out.size hO.size, fun q hq hs => ?_⟩⟩
    rw [hO.block q (Nat.lt_of_lt_of_le hq HB2.out.size) (fun x => by
      rcases x with x | x
      · exact hs x
      · omega)]
    exact HB2.out.block q hq
  clear hL hO HVI HB2
  go_wp2
  go_ret
  exact ⟨rfl, HF.out⟩
end Go.Proofs.YtmochjhhmahokaaGreat
/-
  Tree: Each and All over a tree of one leaf.
-/
namespace Go.Proofs.YtmochjhhmahokaaGreat
open Go.RowKit
open L4 (Ar ArP Abs arV nv)

theorem eql_func_nil (w : World) (t : TypeId) {a : Array TypeId} {b : Array TypeId} {v : Bool} (fn : Fn) (first cap : Array Value) (h : Tryz.prog.underlying t = some (.func a b v)) : (binOp .eql t (.func fn first cap) .nilFunc).run Tryz.prog w = .ok (.bool false) w := by
  have h1 : ∀ d : Nat, (Op.equalIn (d + 1) t (.func fn first cap) .nilFunc).run Tryz.prog w = .ok false w := fun d => by simp [Op.equalIn, run_underlying h]
  have h2 : (Op.equal t (.func fn first cap) .nilFunc).run Tryz.prog w = .ok false w := h1 9999
  simp [binOp, h2]

set_option maxRecDepth 100000 in
set_option maxHeartbeats 1000000 in
theorem each_one {s : Ar} {t r l o : Nat} {nd : L5.No} {w : World} (h1 : One s t r l nd w) (ho : w.heap[o]? = some (.cells #[.slice none 0 0] 33 (0, 0))) :
    Calls Tryz.prog 25 #[.pointer (some ⟨t, 0, none⟩), .string ⟨#[]⟩, .string ⟨#[]⟩, .func (.func 50) #[] #[.pointer (some ⟨o, 0, none⟩)]] w fun e w' => e = .returned (.tuple #[]) ∧ ∃ v' B, w.heap.size ≤ B ∧ Lst B o v' nd.recs w' ∧ Only (fun q => q = o) w w' := by
  have H1 := thid h1
  have HO := thid ho
  have HOV := thid (over_ok h1.tr h1.pos)
  have hmf : ∀ (fn : Fn) (first cap : Array Value) (w : World), (Instr.makeFunc fn first cap).run Tryz.prog w = .ok (.func fn first cap) w := fun _ _ _ _ => rfl
  have hfe := fun (fn : Fn) (first cap : Array Value) (w : World) => eql_func_nil w 44 fn first cap Tryz.underlying44
  clear h1 ho
  go_enter Tryz.func25, Tryz.ntmps25
  go_wp2_with fail
  refine HOV.out.mono ?_
  rintro e w1 ⟨rfl, B1⟩
  have HB1 := thid B1
  clear HOV B1
  go_wp2_with fail
  have HB2 := thid (tbelow_on HB1.out (tbelow w1 (.cells #[.string ⟨#[]⟩, .string ⟨#[]⟩, .func (.func 50) #[] #[.pointer (some ⟨o, 0, none⟩)], .bool false] 108)))
  have HTH := thid (through_ok (k := w1.heap.size) (H1.out.below HB2.out) (heap_alloc_new _ _) ((HB2.out.block o (Array.getElem?_eq_some_iff.1 HO.out).1).trans HO.out))
  refine HTH.out.mono ?_
  rintro e w4 ⟨rfl, v', B, hB, hL, hO⟩
  have HF : Hid (∃ v' B, w.heap.size ≤ B ∧ Lst B o v' nd.recs w4 ∧ Only (fun q => q = o) w w4) :=
    ⟨v', B, Nat.le_trans HB2.out.size hB, hL, (Only.of_below HB2.out).trans hO⟩
  clear hL hO HTH HB2 HB1 H1 HO
  go_wp2
  go_end0
  exact ⟨rfl, HF.out⟩

set_option maxRecDepth 100000 in
set_option maxHeartbeats 1000000 in
theorem all_one {s : Ar} {t r l : Nat} {nd : L5.No} {w : World} (h1 : One s t r l nd w) :
    Calls Tryz.prog 19 #[.pointer (some ⟨t, 0, none⟩)] w fun e w' => ∃ a c, e = .returned (.slice a nd.recs.length c) ∧ w'.ownsRow w.heap.size 9 1 (.slice a nd.recs.length c) nd.recs.length (L5.svs nd.recs) ∧ Below w.heap.size w w' := by
  have hb := tbelow w (.cells #[.slice none 0 0] 33)
  have HEA := thid (each_one (h1.below hb) (heap_alloc_new _ _))
  have HB := thid hb
  have hmf : ∀ (fn : Fn) (first cap : Array Value) (w : World), (Instr.makeFunc fn first cap).run Tryz.prog w = .ok (.func fn first cap) w := fun _ _ _ _ => rfl
  clear h1 hb
  go_enter Tryz.func19, Tryz.ntmps19
  go_wp2_with fail
  refine HEA.out.mono ?_
  rintro e w4 ⟨rfl, v', B, hB, hL, hO⟩
  have c0 : w4.cell? ⟨w.heap.size, 0, none⟩ = some v' := by rw [cell_of_row _ _ _ _ _ _ hL.blk]; rfl
  obtain ⟨a, c, rfl⟩ := own_slice hL.row
  have HF : Hid (w4.ownsRow w.heap.size 9 1 (.slice a nd.recs.length c) nd.recs.length (L5.svs nd.recs) ∧ Below w.heap.size w w4) := by
    refine ⟨owns_weak hL.row (Nat.le_trans HB.out.size hB), HB.out.trans (hO.below HB.out.size fun k hk x => by
      have x' : k = w.heap.size := x
      omega)⟩
  clear hL hO HEA HB
  go_wp2
  go_ret
  exact ⟨a, c, rfl, HF.out⟩
end Go.Proofs.YtmochjhhmahokaaGreat
/-
  Tree: New without an arena.
-/
namespace Go.Proofs.YtmochjhhmahokaaGreat
open Go.RowKit
open L4 (Ar ArP Abs arV nv)
open L1 (stopped faultV Came undoW)

/-- An edit of a tree without an arena, nothing done. -/
structure EdN (w : World) (x t : Nat) : Prop where
  ed : EdC w x t 0 0 0 (.slice none 0 0) (.slice none 0 0) (.slice none 0 0)
  tr : w.heap[t]? = some (.cells #[.pointer none, .int .i64 0, .int .i64 0, .int .i64 0] 74 (0, 0))

theorem EdN.on {w w' : World} {x t : Nat} (k : EdN w x t) (hb : Below w.heap.size w w') : EdN w' x t := ⟨k.ed.on hb, (hb.block _ (Array.getElem?_eq_some_iff.1 k.tr).1).trans k.tr⟩

set_option maxRecDepth 100000 in
set_option maxHeartbeats 1000000 in
theorem take_nil {w : World} {x t : Nat} (k : EdN w x t) : Calls Tryz.prog 39 #[.pointer (some ⟨x, 0, none⟩)] w fun e w' => e = .panicked (stopped 15 0) ∧ Below w.heap.size w w' := by
  obtain ⟨d0, d1, d2, d3, d4, d5, d6, dl, df⟩ := k.ed.cells
  have t0 : w.cell? ⟨t, 0, none⟩ = some (.pointer none) := by rw [cell_of_row _ _ _ _ _ _ k.tr]; rfl
  have tl := (Array.getElem?_eq_some_iff.1 k.tr).1
  clear k
  go_enter Tryz.func39, Tryz.ntmps39
  go_wp2_with fail
  refine (L4.alloc_nil _).mono ?_
  rintro e w1 ⟨rfl, rfl⟩
  go_wp2_with fail
  refine (L1.check_no 15 (by decide) _).mono ?_
  rintro e w2 ⟨rfl, rfl⟩
  exact ⟨rfl, rfl, Below.refl _ _⟩

set_option maxRecDepth 100000 in
set_option maxHeartbeats 1000000 in
theorem new1_nil {w : World} {x t : Nat} (k : EdN w x t) : Calls Tryz.prog 38 #[.pointer (some ⟨x, 0, none⟩)] w fun e w' => e = .panicked (stopped 15 0) ∧ Below w.heap.size w w' := by
  have HT := thid (take_nil k)
  clear k
  go_enter Tryz.func38, Tryz.ntmps38
  go_wp2_with fail
  refine HT.out.mono ?_
  rintro e w2 ⟨rfl, B2⟩
  exact ⟨rfl, rfl, B2⟩

set_option maxRecDepth 100000 in
set_option maxHeartbeats 1000000 in
theorem change1_nil {w : World} {x t b0 b2 : Nat} (k : EdN w x t) (h0 : w.cell? ⟨b0, 0, none⟩ = some (.func (.func 38) #[] #[])) (h2 : w.cell? ⟨b2, 0, none⟩ = some (.pointer (some ⟨x, 0, none⟩))) : Calls Tryz.prog 65 #[.pointer (some ⟨b0, 0, none⟩), .pointer (some ⟨b2, 0, none⟩)] w fun e w' => e = .panicked (stopped 15 0) ∧ Below w.heap.size w w' := by
  have HT := thid (new1_nil k)
  clear k
  go_enter Tryz.func65, Tryz.ntmps65
  go_wp2_with fail
  refine HT.out.mono ?_
  rintro e w2 ⟨rfl, B2⟩
  exact ⟨rfl, rfl, B2⟩

set_option maxRecDepth 100000 in
set_option maxHeartbeats 1000000 in
theorem bwd_nil {w : World} : Calls Tryz.prog 88 #[.slice none 0 0] w fun e w' => e = .returned (.func (.func 107) #[] #[.pointer (some ⟨w.heap.size, 0, none⟩)]) ∧ w'.cell? ⟨w.heap.size, 0, none⟩ = some (.slice none 0 0) ∧ w.heap.size < w'.heap.size ∧ Below w.heap.size w w' := by
  have hmf : ∀ (fn : Fn) (first cap : Array Value) (w : World), (Instr.makeFunc fn first cap).run Tryz.prog w = .ok (.func fn first cap) w := fun _ _ _ _ => rfl
  go_enter Tryz.func88, Tryz.ntmps88
  go_wp2
  go_ret
  exact ⟨rfl, by simp [go_sem], by simp, tbelow _ _⟩

set_option maxRecDepth 100000 in
set_option maxHeartbeats 1000000 in
theorem bwd1_nil {w : World} {b : Nat} {f : Value} (hc : w.cell? ⟨b, 0, none⟩ = some (.slice none 0 0)) (hb : b < w.heap.size) : Calls Tryz.prog 107 #[f, .pointer (some ⟨b, 0, none⟩)] w fun e w' => e = .returned (.tuple #[]) ∧ w' = w := by
  go_enter Tryz.func107, Tryz.ntmps107
  go_wp2_with fail
  go_loopw [3] (fun i w2 => i = .int .i64 (-1) ∧ w2 = w) (fun _ _ => 0)
  case atStart => exact ⟨rfl, rfl⟩
  case round =>
    obtain ⟨rfl, rfl⟩ := hrel
    go_wp2
    go_end0
    exact ⟨rfl, rfl⟩

attribute [local go_sem] Oper.semAt_some in
set_option maxRecDepth 100000 in
set_option maxHeartbeats 1000000 in
theorem back_nil {w : World} {x t : Nat} (k : EdN w x t) : Calls Tryz.prog 67 #[.pointer (some ⟨x, 0, none⟩)] w fun e w' => e = .returned (.tuple #[]) ∧ Below w.heap.size w w' := by
  obtain ⟨d0, d1, d2, d3, d4, d5, d6, dl, df⟩ := k.ed.cells
  clear k
  refine (callsIn_wide (n := 5)).1 ?_
  refine callsIn_of_wp_marks Tryz.func67 rfl trivial ?_ rfl
  simp only [Tryz.ntmps67, List.size_toArray, List.length_cons, List.length_nil, Nat.reduceAdd, Nat.reduceSub, Array.replicate_succ, Array.replicate_zero, List.push_toArray, List.append_toArray, List.nil_append, List.cons_append]
  gi_wp2_with fail
  refine ⟨trivial, (callsIn_wide.2 bwd_nil).mono ?_⟩
  rintro e w2 ⟨rfl, hc2, hl2, B2⟩
  have hz : (w.alloc (.cells #[.pointer (some ⟨x, 0, none⟩)] 76)).heap.size = w.heap.size + 1 := by simp
  have HB2 := thid (tbelow_on (tbelow w _) B2)
  rw [hz] at hc2 hl2 ⊢
  clear B2
  gi_wp2_with fail
  refine wpIn_rangeFunc_ownF (α := Empty) rfl (by omega) (gf := 107) (lb := #[.pointer (some ⟨w.heap.size + 1, 0, none⟩)]) rfl trivial (enters_of Tryz.func107 (by kernel_rfl) rfl)
    (encs := fun x => x.elim) (Kp := fun _ _ => True) (S := fun xs => xs = []) (Sp := fun _ => False) (N := 0) (w0 := w2) (fun l J Jx W hW _ _ _ h0 => ?seq) (fun _ _ => trivial) (fun _ _ _ _ _ _ _ _ => trivial) (Below.refl _ _) (fun x => x.elim)
    (fun _ W => Below w.heap.size w W) (fun _ _ _ => False) (ownFrom_below (Nat.le_refl _) HB2.out.size) (fun _ _ _ _ _ hs _ _ => hs) HB2.out (fun x => x.elim) ?assign ?body ?done ?stop
  case seq =>
    refine (callsIn_wide.2 (bwd1_nil ((hW.cell (p := ⟨w.heap.size + 1, 0, none⟩) hl2).trans hc2) (Nat.lt_of_lt_of_le hl2 hW.size))).mono ?_
    rintro e W' ⟨rfl, rfl⟩
    exact ⟨⟨_, rfl⟩, .inl ⟨[], rfl, h0⟩⟩
  case assign => exact fun _ x => x.elim
  case body => exact fun _ _ x => x.elim
  case done =>
    rintro D ys W hD rfl hB hK
    gi_wp2
    refine ⟨by simp, .inl ⟨_, _, rfl, run_takeDeferred hK, ?_⟩⟩
    exact ⟨_, results_none rfl _ _ _, rfl, hB.trans (belowK_b (w := w) (Nat.le_refl _) W D _ _ (by have := HB2.out.size; omega) hK rfl rfl)⟩
  case stop =>
    rintro D c pre W _ h _ _
    exact h.elim
end Go.Proofs.YtmochjhhmahokaaGreat
/-
  Tree: New without an arena.
-/
namespace Go.Proofs.YtmochjhhmahokaaGreat
open Go.RowKit
open L4 (Ar ArP Abs arV nv)
open L1 (stopped faultV Came undoW)

/-- A state that owns nothing. -/
def nothing : L4.St Unit where
  own := fun _ _ => False
  P := fun _ _ => True
  keep := fun _ _ _ _ _ _ => trivial
  lt := fun _ _ _ _ h => h.elim
  tag := fun _ _ _ _ _ h => h.elim

theorem nothing_moves {w w' : World} (h : Below w.heap.size w w') : L4.Moves nothing () () w w' := ⟨Only.of_below h, fun _ h => h.elim⟩

theorem nothing_below {w w' : World} (h : L4.Moves nothing () () w w') : Below w.heap.size w w' := h.only.below (Nat.le_refl _) fun _ _ x => x

theorem stopped_inj {c a c' a' : Int} (h : Ending.panicked (stopped c a) = .panicked (stopped c' a')) : c = c' ∧ a = a' := by
  simp only [Ending.panicked.injEq, stopped, List.cons.injEq, PanicEntry.mk.injEq, Value.iface.injEq, faultV, Value.agg.injEq] at h
  simpa using h

set_option maxRecDepth 100000 in
set_option maxHeartbeats 1000000 in
theorem change_nil {t : Nat} {w : World} (ht : w.heap[t]? = some (.cells #[.pointer none, .int .i64 0, .int .i64 0, .int .i64 0] 74 (0, 0))) :
    Calls Tryz.prog 37 #[.pointer (some ⟨t, 0, none⟩), .func (.func 38) #[] #[]] w fun e w' => e = .returned (.int .i64 15) ∧ Below w.heap.size w w' := by
  have c1 : w.cell? ⟨t, 1, none⟩ = some (.int .i64 0) := by rw [cell_of_row _ _ _ _ _ _ ht]; rfl
  have c2 : w.cell? ⟨t, 2, none⟩ = some (.int .i64 0) := by rw [cell_of_row _ _ _ _ _ _ ht]; rfl
  have c3 : w.cell? ⟨t, 3, none⟩ = some (.int .i64 0) := by rw [cell_of_row _ _ _ _ _ _ ht]; rfl
  have ct := (Array.getElem?_eq_some_iff.1 ht).1
  have HT := thid ht
  clear ht
  have hmf : ∀ (fn : Fn) (first cap : Array Value) (w : World), (Instr.makeFunc fn first cap).run Tryz.prog w = .ok (.func fn first cap) w := fun _ _ _ _ => rfl
  go_enter Tryz.func37, Tryz.ntmps37
  go_wp2_with fail
  have B3 : Below w.heap.size w (((w.alloc (.cells #[.func (.func 38) #[] #[]] 83)).alloc (.cells #[.pointer (some ⟨t, 0, none⟩), .int .i64 0, .int .i64 0, .int .i64 0, .slice none 0 0, .slice none 0 0, .slice none 0 0] 79)).alloc (.cells #[.pointer (some ⟨w.heap.size + 1, 0, none⟩)] 76)) := ((tbelow w _).alloc (by simp) _).alloc (by simp; omega) _
  have z3 : (((w.alloc (.cells #[.func (.func 38) #[] #[]] 83)).alloc (.cells #[.pointer (some ⟨t, 0, none⟩), .int .i64 0, .int .i64 0, .int .i64 0, .slice none 0 0, .slice none 0 0, .slice none 0 0] 79)).alloc (.cells #[.pointer (some ⟨w.heap.size + 1, 0, none⟩)] 76)).heap.size = w.heap.size + 3 := by simp
  have k0 : (((w.alloc (.cells #[.func (.func 38) #[] #[]] 83)).alloc (.cells #[.pointer (some ⟨t, 0, none⟩), .int .i64 0, .int .i64 0, .int .i64 0, .slice none 0 0, .slice none 0 0, .slice none 0 0] 79)).alloc (.cells #[.pointer (some ⟨w.heap.size + 1, 0, none⟩)] 76)).cell? ⟨w.heap.size, 0, none⟩ = some (.func (.func 38) #[] #[]) := by simp [go_sem]
  have k1 : EdC (((w.alloc (.cells #[.func (.func 38) #[] #[]] 83)).alloc (.cells #[.pointer (some ⟨t, 0, none⟩), .int .i64 0, .int .i64 0, .int .i64 0, .slice none 0 0, .slice none 0 0, .slice none 0 0] 79)).alloc (.cells #[.pointer (some ⟨w.heap.size + 1, 0, none⟩)] 76)) (w.heap.size + 1) t 0 0 0 (.slice none 0 0) (.slice none 0 0) (.slice none 0 0) := by
    have h1 := heap_alloc_new (w.alloc (.cells #[.func (.func 38) #[] #[]] 83)) (.cells #[.pointer (some ⟨t, 0, none⟩), .int .i64 0, .int .i64 0, .int .i64 0, .slice none 0 0, .slice none 0 0, .slice none 0 0] 79)
    rw [show (w.alloc (.cells #[.func (.func 38) #[] #[]] 83)).heap.size = w.heap.size + 1 by simp] at h1
    exact ((tbelow _ _).block _ (by simp)).trans h1
  have k2 : (((w.alloc (.cells #[.func (.func 38) #[] #[]] 83)).alloc (.cells #[.pointer (some ⟨t, 0, none⟩), .int .i64 0, .int .i64 0, .int .i64 0, .slice none 0 0, .slice none 0 0, .slice none 0 0] 79)).alloc (.cells #[.pointer (some ⟨w.heap.size + 1, 0, none⟩)] 76)).cell? ⟨w.heap.size + 1 + 1, 0, none⟩ = some (.pointer (some ⟨w.heap.size + 1, 0, none⟩)) := by simp [go_sem]
  have HB3 := thid B3
  have HK1 := thid k1
  clear B3 k1 c1 c2 c3 hmf
  generalize ((w.alloc (.cells #[.func (.func 38) #[] #[]] 83)).alloc (.cells #[.pointer (some ⟨t, 0, none⟩), .int .i64 0, .int .i64 0, .int .i64 0, .slice none 0 0, .slice none 0 0, .slice none 0 0] 79)).alloc (.cells #[.pointer (some ⟨w.heap.size + 1, 0, none⟩)] 76) = W at *
  have HE : Hid (EdN W (w.heap.size + 1) t) := ⟨HK1.out, (HB3.out.block t ct).trans HT.out⟩
  have HU := thid (L1.below_catchW W : Below W.heap.size W (undoW W))
  refine (L4.undo_st nothing 65 (fun _ _ => rfl) _ 67 (fun _ _ => rfl) _ W () trivial (fun e _ => e = .panicked (stopped 15 0)) (fun _ e _ => e = .returned (.tuple #[])) ?_ ?_).mono ?_
  · refine (change1_nil (HE.out.on HU.out) ((HU.out.cell (p := ⟨w.heap.size, 0, none⟩) (by show w.heap.size < W.heap.size; omega)).trans k0) ((HU.out.cell (p := ⟨w.heap.size + 1 + 1, 0, none⟩) (by show w.heap.size + 1 + 1 < W.heap.size; omega)).trans k2)).mono ?_
    rintro e w1 ⟨rfl, B⟩
    exact ⟨(), rfl, trivial, nothing_moves B, _, _, _, .stop 15 0⟩
  · intro W2 s' c a _ _ hm
    refine (back_nil (HE.out.on (nothing_below hm))).mono ?_
    rintro e w1 ⟨rfl, B⟩
    exact ⟨(), rfl, trivial, nothing_moves B, _, _, _, .done⟩
  · rintro e w2 ⟨_, _, hm, h⟩
    have HB4 := thid (tbelow_on HB3.out (nothing_below hm))
    have he : e = .returned (faultV 15 0) := by
      rcases h with ⟨h, _⟩ | ⟨c, a, s1, e2, c2, a2, t2, h1, h2, h3, rfl⟩
      · cases h
      · obtain ⟨rfl, rfl⟩ := stopped_inj h1
        subst h2
        cases h3
        rfl
    subst he
    clear h hm HE HU HB3 HK1 k0 k2 HT
    simp only [faultV]
    have ff := fun w => ffield 15 0 w
    go_wp2
    refine bodyPost_ret (v := .int .i64 15) (by simp [results, Tryz.results37, go_sem]) rfl ⟨rfl, HB4.out⟩

set_option maxRecDepth 100000 in
set_option maxHeartbeats 1000000 in
theorem new_nil (w : World) : Calls Tryz.prog 12 #[.pointer none] w fun e w' => e = .returned (.tuple #[.pointer none, .int .i64 15]) ∧ Below w.heap.size w w' := by
  have HB := thid (tbelow w (.cells #[.pointer none, .int .i64 0, .int .i64 0, .int .i64 0] 74))
  have HC := thid (change_nil (w := w.alloc (.cells #[.pointer none, .int .i64 0, .int .i64 0, .int .i64 0] 74)) (heap_alloc_new _ _))
  have hmf : ∀ (fn : Fn) (first cap : Array Value) (w : World), (Instr.makeFunc fn first cap).run Tryz.prog w = .ok (.func fn first cap) w := fun _ _ _ _ => rfl
  go_enter Tryz.func12, Tryz.ntmps12
  go_wp2_with fail
  refine HC.out.mono ?_
  rintro e w1 ⟨rfl, B1⟩
  have HF := thid (tbelow_on HB.out B1)
  clear HC HB hmf B1
  go_wp2
  refine bodyPost_ret (v := .tuple #[.pointer none, .int .i64 15]) (by simp [results, Tryz.results12, go_sem]) rfl ⟨rfl, HF.out⟩
end Go.Proofs.YtmochjhhmahokaaGreat
/-
  The document's side and Cut.
-/
namespace Go.Proofs.YtmochjhhmahokaaGreat.L5
open Go.RowKit

theorem weigh_wts (m : Nat) (l : List ByteArray) : weigh l + m * l.length = (wts (4 + m) l).sum := by
  induction l with
  | nil => simp [weigh, wts]
  | cons s l ih =>
    unfold weigh wts at ih ⊢
    simp only [List.map_cons, List.sum_cons, List.length_cons]
    rw [Nat.mul_add]
    omega

theorem weigh_take (m : Nat) (l : List ByteArray) (k : Nat) (hk : k ≤ l.length) : weigh (l.take k) + m * k = sumN (4 + m) l k := by
  have := weigh_wts m (l.take k)
  rw [List.length_take, Nat.min_eq_left hk] at this
  rw [this]
  unfold sumN wts
  rw [List.map_take]

theorem weigh_drop (m : Nat) (l : List ByteArray) (k : Nat) : weigh (l.drop k) + m * (l.length - k) = (wts (4 + m) l).sum - sumN (4 + m) l k := by
  have := weigh_wts m (l.drop k)
  rw [List.length_drop] at this
  rw [this]
  have h := sum_parts (wts (4 + m) l) k
  unfold sumN
  have e : wts (4 + m) (l.drop k) = (wts (4 + m) l).drop k := by unfold wts; rw [List.map_drop]
  rw [e]
  omega

/-- How heavy the heavier side is; -1: one of them has nothing. -/
def sideI (n : No) (k : Nat) : Int := if n.leaf then (heavy 4 0 n.recs k : Int) else if k + 1 < n.recs.length then (heavy 8 1 n.recs k : Int) else -1

end Go.Proofs.YtmochjhhmahokaaGreat.L5
/-
  The document's Cut.
-/
namespace Go.Proofs.YtmochjhhmahokaaGreat.L5
open Go.RowKit

/-- A world behind the boxing of a node that can be read. -/
structure Nq (w : World) (n : No) (a : Option Addr) (c : Nat) (a' : Option Addr) (c' : Nat) (wr : World) : Prop where
  bx : Bx w n a c a' c' wr
  nr : NR wr n a c a' c'

theorem Nq.on {w : World} {n : No} {a : Option Addr} {c : Nat} {a' : Option Addr} {c' : Nat} {wr wr' : World} (h : Nq w n a c a' c' wr) (hb : Below wr.heap.size wr wr') : Nq w n a c a' c' wr' := ⟨h.bx.on hb, h.nr.below hb⟩

theorem Nq.new {w : World} {n : No} {a : Option Addr} {c : Nat} {a' : Option Addr} {c' : Nat} (hr : NR w n a c a' c') (t : TypeId) : Nq w n a c a' c' (w.alloc (.cells #[.bool n.leaf, .slice a n.recs.length c, .slice a' n.kids.length c'] t)) := ⟨Bx.new w n a c a' c' t, hr.below (below_alloc _ _)⟩

/-- A world in which all that W holds still stands. -/
structure BelowW (W : World) where
  w : World
  below : Below W.heap.size W w

theorem wp_region_below {P : Program} {id : Nat} {Q : Exit → Act → World → Prop} {a : Act} {W : World} {l : List Oper} (hm : P.follows .mixedOrders = true) (hB : Region.lexB .any l.toArray = true)
    (h : Nonempty (BelowW W) → wpQuiet P l.toArray (fun w' => ∃ q : BelowW W, w' = q.w) (fun a' => ∀ w', (∃ q : BelowW W, w' = q.w) → Q .normal a' w') l a) : (Code.region id l.toArray true).wp P Q a W :=
  wp_region_quiet (C := fun w' => ∃ q : BelowW W, w' = q.w) hm hB ⟨⟨{ W with drawn := W.drawn + 1 }, (Below.refl _ _).drew⟩, rfl⟩ (by simpa using h ⟨⟨W, Below.refl _ _⟩⟩)

theorem quiet_of_below {P : Program} {f : FuncId} {args : Array Value} {W : World} {q : BelowW W} {v : Value} (h : Calls P f args q.w fun e w' => e = .returned v ∧ Below q.w.heap.size q.w w') :
    Calls P f args q.w fun e w'' => e = .returned v ∧ ∃ q' : BelowW W, w'' = q'.w :=
  h.mono fun _ w' ⟨he, hb⟩ => ⟨he, ⟨w', below_on q.below hb⟩, rfl⟩

/-- The heaviest side's function and its gap, by the kind. -/
def No.gap (n : No) : Nat := if n.leaf then 0 else 1
def No.hv (n : No) (k : Nat) : Nat := if n.leaf then heavy 4 0 n.recs k else heavy 8 1 n.recs k
def No.cut (n : No) : Nat := minAt n.hv (n.recs.length - n.gap - 2)

theorem cut_leaf {n : No} (h : n.leaf = true) : n.cut = cutN 4 0 n.recs := by
  unfold No.cut cutN No.gap
  rw [if_pos h]
  congr 1
  funext k
  unfold No.hv
  rw [if_pos h]

theorem cut_inner {n : No} (h : n.leaf = false) : n.cut = cutN 8 1 n.recs := by
  unfold No.cut cutN No.gap
  rw [h]
  congr 1
  funext k
  unfold No.hv
  rw [h]
  rfl

theorem side_some {n : No} {k : Nat} (h : k + n.gap < n.recs.length) : sideI n k = (n.hv k : Int) := by
  unfold sideI No.hv
  unfold No.gap at h
  cases hl : n.leaf
  · rw [hl] at h
    simp at h
    rw [if_neg (by decide), if_pos h, if_neg (by decide)]
  · rw [if_pos rfl, if_pos rfl]

theorem side_none {n : No} {k : Nat} (hk : k < n.recs.length) (h : ¬ k + n.gap < n.recs.length) : sideI n k = -1 := by
  unfold sideI
  unfold No.gap at h
  cases hl : n.leaf
  · rw [hl] at h
    simp at h
    rw [if_neg (by decide), if_neg (by omega)]
  · rw [hl] at h
    simp at h
    omega

end Go.Proofs.YtmochjhhmahokaaGreat.L5
/-
  Rising entries, as a list in order: parts of them, one more among them; each half of a leaf that is just too great fits. Of no program's text.
-/
namespace Go.Proofs.YtmochjhhmahokaaGreat.L5
open Go.RowKit

def ltP (x y : ByteArray) : Prop := Op.bytesLess x.toList y.toList = true

theorem rises_iff (l : List ByteArray) : risesB l = true ↔ (∀ s ∈ l, 1 ≤ s.size ∧ s.size ≤ 400) ∧ l.Pairwise ltP := by
  constructor
  · intro h
    refine ⟨fun s hs => ?_, List.pairwise_iff_getElem.2 fun i j hi hj hij => rises_lt h j i hij hj⟩
    obtain ⟨i, hi, rfl⟩ := List.getElem_of_mem hs
    have := List.all_eq_true.1 h i (by simpa using hi)
    rcases rec_cases l i hi with ⟨_, no⟩ | ⟨_, no⟩ | ⟨_, h1, h2, _⟩ | ⟨_, _, _, h1, h2, _, _⟩ | ⟨_, _, _, h1, h2, _, _⟩
    · rw [no] at this; cases this
    · rw [no] at this; cases this
    · exact ⟨h1, h2⟩
    · exact ⟨h1, h2⟩
    · exact ⟨h1, h2⟩
  · rintro ⟨h1, h2⟩
    refine rises_of l fun i hi => ?_
    have hs := h1 l[i] (List.getElem_mem hi)
    have e1 : decide (1 ≤ l[i].size) = true := decide_eq_true hs.1
    have e2 : decide (l[i].size ≤ 400) = true := decide_eq_true hs.2
    cases i with
    | zero => rw [recOk_zero l hi, e1, e2]; rfl
    | succ i => rw [recOk_succ l i hi, e1, e2, List.pairwise_iff_getElem.1 h2 i (i + 1) (by omega) hi (by omega)]; rfl

theorem rises_take {l : List ByteArray} (h : risesB l = true) (k : Nat) : risesB (l.take k) = true := by
  rw [rises_iff] at h ⊢
  exact ⟨fun s hs => h.1 s (List.mem_of_mem_take hs), h.2.sublist (List.take_sublist k l)⟩

theorem rises_drop {l : List ByteArray} (h : risesB l = true) (k : Nat) : risesB (l.drop k) = true := by
  rw [rises_iff] at h ⊢
  exact ⟨fun s hs => h.1 s (List.mem_of_mem_drop hs), h.2.sublist (List.drop_sublist k l)⟩

/-- One more entry among others. -/
def insL (l : List ByteArray) (s : ByteArray) : List ByteArray := l.take (firstN l s) ++ [s] ++ l.drop (firstN l s)

theorem rises_ins {l : List ByteArray} (h : risesB l = true) (s : ByteArray) (h1 : 1 ≤ s.size) (h2 : s.size ≤ 400) (hn : isAt l s (firstN l s) = false) : risesB (insL l s) = true := by
  have hk := firstN_le l s
  have hlow : ∀ x ∈ l.take (firstN l s), ltP x s := fun x hx => by
    obtain ⟨i, hi, rfl⟩ := List.getElem_of_mem hx
    simp at hi
    rw [List.getElem_take]
    exact first_lt l s i (by omega) (by omega)
  have hhigh : ∀ x ∈ l.drop (firstN l s), ltP s x := fun x hx => by
    obtain ⟨i, hi, rfl⟩ := List.getElem_of_mem hx
    simp at hi
    rw [List.getElem_drop]
    have hlt : firstN l s < l.length := by omega
    have g := first_ge l s hlt
    unfold isAt at hn
    rw [List.getElem?_eq_getElem hlt] at hn
    have h0 : Op.bytesLess s.toList l[firstN l s].toList = true := by
      have := le_not_lt l[firstN l s].toList s.toList
      unfold ltB at g
      simp only at hn
      rw [g, hn] at this
      simpa using this.symm
    by_cases e : i = 0
    · subst e
      exact h0
    · exact lt_trans_b h0 (rises_lt h (firstN l s + i) (firstN l s) (by omega) (by omega))
  rw [rises_iff] at h ⊢
  unfold insL
  refine ⟨fun x hx => ?_, ?_⟩
  · rcases List.mem_append.1 hx with hx | hx
    · rcases List.mem_append.1 hx with hx | hx
      · exact h.1 x (List.mem_of_mem_take hx)
      · simp at hx; subst hx; exact ⟨h1, h2⟩
    · exact h.1 x (List.mem_of_mem_drop hx)
  · rw [List.append_assoc, List.pairwise_append]
    refine ⟨h.2.sublist (List.take_sublist _ l), ?_, fun x hx y hy => ?_⟩
    · rw [List.pairwise_append]
      refine ⟨by simp, h.2.sublist (List.drop_sublist _ l), fun x hx y hy => ?_⟩
      simp at hx
      subst hx
      exact hhigh y hy
    · rcases List.mem_append.1 hy with hy | hy
      · simp at hy; subst hy; exact hlow x hx
      · exact lt_trans_b (hlow x hx) (hhigh y hy)

theorem leaf_shaped (l : List ByteArray) : (No.mk true l []).shaped = risesB l := by
  rw [shaped_eq]
  simp [numbB]

theorem weigh_append (x y : List ByteArray) : weigh (x ++ y) = weigh x + weigh y := by
  unfold weigh; rw [List.map_append, List.sum_append]

theorem ins_length (l : List ByteArray) (s : ByteArray) : (insL l s).length = l.length + 1 := by
  have := firstN_le l s
  unfold insL
  simp
  omega

theorem ins_weigh (l : List ByteArray) (s : ByteArray) : weigh (insL l s) = weigh l + (4 + s.size) := by
  unfold insL
  rw [weigh_append, weigh_append]
  have h1 : weigh l = weigh (l.take (firstN l s)) + weigh (l.drop (firstN l s)) := by rw [← weigh_append, List.take_append_drop]
  have h2 : weigh [s] = 4 + s.size := by simp [weigh]
  omega

theorem ins_mem (l : List ByteArray) (s x : ByteArray) (h : x ∈ insL l s) : x = s ∨ x ∈ l := by
  unfold insL at h
  rcases List.mem_append.1 h with h | h
  · rcases List.mem_append.1 h with h | h
    · exact Or.inr (List.mem_of_mem_take h)
    · simp at h; exact Or.inl h
  · exact Or.inr (List.mem_of_mem_drop h)

theorem weigh_sum (l : List ByteArray) : weigh l = (wts 4 l).sum := rfl

/-- Each half of a leaf that is too great by one entry fits. -/
theorem halves_fit {l : List ByteArray} (hw : weigh l ≤ 1425) (hs : ∀ s ∈ l, s.size ≤ 400) (h2 : 2 ≤ l.length) : 3 + weigh (l.take (cutN 4 0 l)) ≤ 1024 ∧ 3 + weigh (l.drop (cutN 4 0 l)) ≤ 1024 := by
  obtain ⟨k, k1, k2, k3, k4⟩ := half_exists (wts 4 l) 404 (fun x hx => by
    obtain ⟨s, h, rfl⟩ := List.mem_map.1 hx
    have := hs s h
    omega) (by rw [wts_length]; exact h2)
  rw [wts_length] at k2
  rw [weigh_sum] at hw
  have hp := sum_parts (wts 4 l) k
  have hm : heavy 4 0 l (cutN 4 0 l) ≤ heavy 4 0 l k := minAt_min _ _ k k1 (by omega)
  have hh : heavy 4 0 l k ≤ 914 := by
    unfold heavy sumN
    rw [Nat.add_zero]
    omega
  obtain ⟨c1, c2⟩ := cutN_le 4 0 l (by omega)
  have w1 := weigh_take 0 l (cutN 4 0 l) (by omega)
  have w2 := weigh_drop 0 l (cutN 4 0 l)
  have hd : heavy 4 0 l (cutN 4 0 l) = max (sumN 4 l (cutN 4 0 l)) ((wts 4 l).sum - sumN 4 l (cutN 4 0 l)) := by unfold heavy; rw [Nat.add_zero]
  rw [Nat.zero_mul, Nat.add_zero] at w1 w2
  rw [hd] at hm
  have e4 : (4 + 0) = 4 := rfl
  rw [e4] at w1 w2
  omega
end Go.Proofs.YtmochjhhmahokaaGreat.L5
