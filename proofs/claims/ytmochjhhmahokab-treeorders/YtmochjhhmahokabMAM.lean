/-
  Tree: telling a leaf's entries into a list.
-/
import Derived.Test.YtmochjhhmahokabMAL
import Derived.Laws.EntriesVeiled
import Derived.RangeFuncFrom
import Derived.RangeFuncBound
import Derived.RangeFuncCalls
import Derived.RangeFuncLeaves
import Derived.WalkKit
import Derived.OwnWalkIn
import Derived.TacticsInMore
namespace Go.Proofs.Ytmochjhhmahokab
open Go.RowKit
open L4 (Ar ArP Abs arV nv)

/-- A list under way: its variable in block o, its row from B on. -/
structure Lst (B o : Nat) (v : Value) (xs : List ByteArray) (w : World) : Prop where
  blk : w.heap[o]? = some (.cells #[v] 22 (0, 0))
  row : w.ownsRow B 9 1 v xs.length (L5.svs xs)
  lt : o < B
  bs : B ≤ w.heap.size

theorem Lst.on {B o : Nat} {v : Value} {xs : List ByteArray} {w w' : World} (k : Lst B o v xs w) (hb : Below w.heap.size w w') : Lst B o v xs w' :=
  ⟨(hb.block _ (Nat.lt_of_lt_of_le k.lt k.bs)).trans k.blk, L5.owns_below k.row hb, k.lt, Nat.le_trans k.bs hb.size⟩

set_option maxRecDepth 100000 in
set_option maxHeartbeats 1000000 in
theorem all1_ok {B o : Nat} {v : Value} {xs : List ByteArray} {s : ByteArray} {w : World} (k : Lst B o v xs w) (hx : xs.length ≤ 100000) :
    Calls Try.prog 22 #[.string s, .pointer (some ⟨o, 0, none⟩)] w fun e w' => e = .returned (.bool true) ∧ ∃ v', Lst B o v' (xs ++ [s]) w' ∧ Only (fun q => q = o ∨ B ≤ q) w w' := by
  have HK := thid k
  have ol : o < w.heap.size := Nat.lt_of_lt_of_le k.lt k.bs
  have c0 : w.cell? ⟨o, 0, none⟩ = some v := by rw [cell_of_row _ _ _ _ _ _ k.blk]; rfl
  have hf : ∀ i, w.frozen? ⟨o, i, none⟩ = false := fun i => frozen_of_row _ _ _ _ _ k.blk
  obtain ⟨va, vc, rfl⟩ := own_slice k.row
  clear k
  go_enter Try.func22, Try.ntmps22
  have HB1 := thid (tbelow w (.cells #[.string s] 9))
  go_wp2_with (first
    | (at_builtin
       revert HB1)
    | fail)
  intro HB1
  have HK1 := thid (HK.out.on HB1.out)
  refine L5.append_row (z := .string ⟨#[]⟩) (by_ := 16) Try.underlying22 (by kernel_rfl) (by decide) rfl B HK1.out.bs rfl _ _ rfl (.slice va xs.length vc) xs.length (L5.svs xs) [.string s] rfl HK1.out.row (by omega) 1 (by omega) ⟨w.heap.size, 0, none⟩ 1 rfl rfl (fun i u hi => by
      rw [Addr.add_lit, cell_of_row _ _ _ _ _ _ (heap_alloc_new _ _)]
      simpa using hi) (fun u hu => by simp at hu; subst hu; rfl) ?_
  intro v' w5 hown hg hat
  have hno : (Value.slice va xs.length vc).ownBlock ≠ some o := fun e => by have := (HK1.out.row.lt o e).1; have := HK1.out.lt; omega
  have b5 : w5.heap[o]? = some (.cells #[.slice va xs.length vc] 22 (0, 0)) := (hg.block o (Nat.lt_of_lt_of_le ol HB1.out.size) (fun e => hno e.symm)).trans HK1.out.blk
  have c5 : w5.cell? ⟨o, 0, none⟩ = some (.slice va xs.length vc) := by rw [cell_of_row _ _ _ _ _ _ b5]; rfl
  have f5 : ∀ i, w5.frozen? ⟨o, i, none⟩ = false := fun i => frozen_of_row _ _ _ _ _ b5
  have l5 := (Array.getElem?_eq_some_iff.1 b5).1
  obtain ⟨ad, cp, rfl⟩ := L5.owns_at hown
  have HF : Hid (Lst B o (.slice ad (xs.length + 1) cp) (xs ++ [s]) (w5.setCell ⟨o, 0, none⟩ (.slice ad (xs.length + 1) cp)) ∧ Only (fun q => q = o ∨ B ≤ q) w (w5.setCell ⟨o, 0, none⟩ (.slice ad (xs.length + 1) cp))) := by
    refine ⟨⟨heap_setCell_same w5 o 0 _ _ _ b5, ?_, HK1.out.lt, ?_⟩, ⟨hg.os.trans HB1.out.os, hg.tape.trans HB1.out.tape, hg.output.trans HB1.out.output, ?_, fun q hq hs => ?_⟩⟩
    · have h1 := ownsRow_setCell_other hown (a := ⟨o, 0, none⟩) (row_ne b5 hown (by decide)) (.slice ad (xs.length + 1) cp)
      rw [List.length_append, show L5.svs (xs ++ [s]) = L5.svs xs ++ [.string s] by simp [L5.svs]]
      exact h1
    · have z1 := HK1.out.bs; have z2 := hg.size; simp [World.setCell]; omega
    · have z1 := HB1.out.size; have z2 := hg.size; simp [World.setCell]; omega
    · rw [heap_setCell_other _ _ _ _ (fun e => hs (Or.inl e)), hg.block q (Nat.lt_of_lt_of_le hq HB1.out.size) (fun e => hs (Or.inr (HK1.out.row.lt q e.symm).1)), HB1.out.block q hq]
  clear hown hg hat b5 HK HK1 HB1 c0 hf
  go_wp2
  go_ret
  exact ⟨rfl, _, HF.out⟩

/-- An Each's walk over everything into a list. -/
def WalkC (w : World) (k o : Nat) : Prop := w.heap[k]? = some (.cells #[.string ⟨#[]⟩, .string ⟨#[]⟩, .func (.func 22) #[] #[.pointer (some ⟨o, 0, none⟩)], .bool false] 75 (0, 0))

theorem WalkC.cells {w : World} {k o : Nat} (h : WalkC w k o) : w.cell? ⟨k, 0, none⟩ = some (.string ⟨#[]⟩) ∧ w.cell? ⟨k, 1, none⟩ = some (.string ⟨#[]⟩) ∧ w.cell? ⟨k, 2, none⟩ = some (.func (.func 22) #[] #[.pointer (some ⟨o, 0, none⟩)]) ∧ w.cell? ⟨k, 3, none⟩ = some (.bool false) ∧ k < w.heap.size := by
  refine ⟨?_, ?_, ?_, ?_, (Array.getElem?_eq_some_iff.1 h).1⟩ <;> rw [cell_of_row _ _ _ _ _ _ h] <;> rfl

set_option maxRecDepth 100000 in
set_option maxHeartbeats 1000000 in
theorem tell_ok {k o : Nat} {at_ : Int} {n : L5.No} {a : Option Addr} {c : Nat} {a' : Option Addr} {c' : Nat} {w : World} (hW : WalkC w k o) (ho : w.heap[o]? = some (.cells #[.slice none 0 0] 22 (0, 0))) (hr : L5.NR w n a c a' c') (hs : n.small) (hlf : n.leaf = true) :
    Calls Try.prog 38 #[.pointer (some ⟨k, 0, none⟩), .int .i64 at_, L5.nodeV n a c a' c'] w fun e w' => e = .returned (.tuple #[]) ∧ ∃ v', Lst w.heap.size o v' n.recs w' ∧ Only (fun q => q = o ∨ w.heap.size ≤ q) w w' := by
  obtain ⟨k0, k1, k2, k3, kl⟩ := hW.cells
  have ol := (Array.getElem?_eq_some_iff.1 ho).1
  have HW := thid hW
  have HO := thid ho
  have HR := thid hr
  have HR0 := thid hr
  have HW0 := thid hW
  have HO0 := thid ho
  have hko : k ≠ o := tag_ne hW ho (by decide)
  clear hW ho hr
  have HLF := thid hlf
  have HB1 := thid (tbelow w (.cells #[.bool n.leaf, .slice a n.recs.length c, .slice a' n.kids.length c'] 54))
  have a1 := heap_alloc_new w (.cells #[.bool n.leaf, .slice a n.recs.length c, .slice a' n.kids.length c'] 54)
  have h0 : n.recs.countP (L5.ltB ⟨#[]⟩) = 0 := by
    rw [List.countP_eq_zero]
    intro x _
    have e : L5.ltB ⟨#[]⟩ x = false := by
      unfold L5.ltB
      rw [List.isEmpty_iff.1 (show (ByteArray.mk #[]).toList.isEmpty = true by rw [L5.isEmpty_size]; rfl)]
      cases x.toList <;> rfl
    rw [e]
    decide
  unfold L5.nodeV
  go_enter Try.func38, Try.ntmps38
  have nlf : (w.alloc (.cells #[.bool n.leaf, .slice a n.recs.length c, .slice a' n.kids.length c'] 54)).cell? ⟨w.heap.size, 0, none⟩ = some (.bool true) := by rw [cell_of_row _ _ _ _ _ _ a1]; simp [hlf]
  clear hlf
  go_wp2_with fail
  clear nlf
  have hk : k < (w.alloc (.cells #[.bool n.leaf, .slice a n.recs.length c, .slice a' n.kids.length c'] 54)).heap.size := Nat.lt_of_lt_of_le kl HB1.out.size
  have HR1 := thid (HR.out.below HB1.out)
  have HW1 := thid ((HB1.out.block k kl).trans HW.out)
  have HO1 := thid ((HB1.out.block o ol).trans HO.out)
  clear k0 k1 k2 k3 HW HO HR
  generalize w.alloc (.cells #[.bool n.leaf, .slice a n.recs.length c, .slice a' n.kids.length c'] 54) = W at *
  have nl := (Array.getElem?_eq_some_iff.1 a1).1
  have HM := thid (fun q : L4.BelowW W => (q.below.block w.heap.size nl).trans a1)
  have HMW := thid (fun q : L4.BelowW W => ((q.below.block k hk).trans HW1.out : WalkC q.w k o))
  have y0 : ∀ q : L4.BelowW W, q.w.cell? ⟨w.heap.size, 0, none⟩ = some (.bool n.leaf) := fun q => by rw [cell_of_row _ _ _ _ _ _ (HM.out q)]; rfl
  have y1 : ∀ q : L4.BelowW W, q.w.cell? ⟨w.heap.size, 1, none⟩ = some (.slice a n.recs.length c) := fun q => by rw [cell_of_row _ _ _ _ _ _ (HM.out q)]; rfl
  have y2 : ∀ q : L4.BelowW W, q.w.cell? ⟨w.heap.size, 2, none⟩ = some (.slice a' n.kids.length c') := fun q => by rw [cell_of_row _ _ _ _ _ _ (HM.out q)]; rfl
  have x0 : ∀ q : L4.BelowW W, q.w.cell? ⟨k, 0, none⟩ = some (.string ⟨#[]⟩) := fun q => (WalkC.cells (HMW.out q)).1
  have HFN : ∀ q : L4.BelowW W, Calls Try.prog 33 #[.agg #[.bool n.leaf, .slice a n.recs.length c, .slice a' n.kids.length c'], .string ⟨#[]⟩] q.w fun e w' => e = .returned (.tuple #[.int .i64 0, .bool (L5.isAt n.recs ⟨#[]⟩ 0)]) ∧ Below q.w.heap.size q.w w' := fun q => by
    have := L5.find_walk (n := n) (HR1.out.below q.below) hs.recs ⟨#[]⟩
    rw [h0] at this
    exact this
  refine L4.wp_region_below (by kernel_rfl) (by kernel_rfl) (fun _ => ?_)
  repeat (go_big_quiet_step (first | (go_at_call 33; exact L4.quiet_of_below (HFN _))))
  refine wpQuiet_nil ?_
  rintro _ ⟨q, rfl⟩
  have HR2 := thid (HR1.out.below q.below)
  have HW2 := thid (HMW.out q)
  have HO2 := thid ((q.below.block o (Nat.lt_of_lt_of_le ol HB1.out.size)).trans HO1.out)
  have HB2 := thid (tbelow_on HB1.out q.below)
  have a2 := HM.out q
  generalize q.w = w2 at *
  clear HM HMW y0 y1 y2 x0 HFN q a1 HR1 HW1 HO1 hk nl HB1
  obtain ⟨k0, k1, k2, k3, kl2⟩ := WalkC.cells HW2.out
  have n1 : w2.cell? ⟨w.heap.size, 1, none⟩ = some (.slice a n.recs.length c) := by rw [cell_of_row _ _ _ _ _ _ a2]; rfl
  have nl := (Array.getElem?_eq_some_iff.1 a2).1
  have hcp : n.recs.length ≤ c := by have := HR2.out.recs.1; simpa [L5.svs] using this
  go_wp2_with fail
  go_loopw [27] (fun i wr => ∃ j : Nat, j ≤ n.recs.length ∧ i = .int .i64 (j : Int) ∧ ∃ v : Value, Hid (Lst w.heap.size o v (n.recs.take j) wr ∧ Only (fun q => q = o ∨ w.heap.size ≤ q) w wr)) (fun i _ => n.recs.length - (intOf i).toNat)
  case atStart => exact ⟨0, Nat.zero_le _, rfl, .slice none 0 0, ⟨⟨HO2.out, ⟨rfl, Or.inl ⟨rfl, rfl⟩⟩, ol, HB2.out.size⟩, Only.of_below HB2.out⟩⟩
  case round =>
    clear k0 k1 k2 k3 kl2 n1 nl HO2 HW2 HR2 HB2 a2
    obtain ⟨j, hj, rfl, v, HL⟩ := hrel
    obtain ⟨hL, hO⟩ := HL.out
    have HLL := thid hL
    have HOO := thid hO
    clear hL hO HL
    have hsr := hs.recs
    by_cases hlt : j < n.recs.length
    · have hlt' : (j : Int) < (n.recs.length : Int) := by omega
      have hw : WalkC wr k o := (HOO.out.block k kl (fun x => by rcases x with x | x; exact hko x; omega)).trans HW0.out
      obtain ⟨k0, k1, k2, k3, kl2⟩ := WalkC.cells hw
      obtain ⟨b, of, rfl, hbl, hbc⟩ := HR0.out.recs.2.2 j (.string n.recs[j]) (by simp [L5.svs, hlt])
      have hbo : b ≠ o := fun e => by
        subst e
        rw [cell_of_row _ _ _ _ _ _ HO0.out] at hbc
        cases hof : of + j with
        | zero => rw [hof] at hbc; cases hbc
        | succ m => rw [hof] at hbc; simp at hbc
      have hbr : wr.cell? ⟨b, of + j, none⟩ = some (.string n.recs[j]) := (HOO.out.cell (p := ⟨b, of + j, none⟩) hbl (fun x => by rcases x with x | x; exact hbo x; exact absurd hbl (Nat.not_lt.2 x))).trans hbc
      have hblr : b < wr.heap.size := Nat.lt_of_lt_of_le hbl HOO.out.size
      have HY : Hid (n.recs.take (j + 1) = n.recs.take j ++ [n.recs[j]]) := (List.take_append_getElem hlt).symm
      generalize n.recs[j] = y at *
      clear hw hbc
      go_wp2_with fail
      refine (all1_ok (s := y) HLL.out (by simp; omega)).mono ?_
      rintro e w5 ⟨rfl, v5, hL5, hO5⟩
      have HD5 : Hid (Lst w.heap.size o v5 (n.recs.take (j + 1)) w5 ∧ Only (fun q => q = o ∨ w.heap.size ≤ q) w w5) := ⟨by rw [HY.out]; exact hL5, HOO.out.trans hO5⟩
      clear hL5 hO5 HLL HOO HY hbr hblr k0 k1 k2 k3 kl2
      go_wp2
      exact ⟨⟨j + 1, by omega, by go_num, v5, HD5⟩, by simp [intOf]; omega⟩
    · have hlt' : (n.recs.length : Int) ≤ (j : Int) := by omega
      have hjl : j = n.recs.length := by omega
      subst hjl
      rw [List.take_length] at HLL
      go_wp2
      go_end0
      exact ⟨rfl, v, HLL.out, HOO.out⟩
end Go.Proofs.Ytmochjhhmahokab
/-
  Tree: through, Each, All over a tree of one leaf.
-/
namespace Go.Proofs.Ytmochjhhmahokab
open Go.RowKit
open L4 (Ar ArP Abs arV nv)

/-- A variable that is no arena's is set. -/
theorem One.set {s : Ar} {t r l : Nat} {nd : L5.No} {w : World} (h : One s t r l nd w) {q : Nat} {cs : Array Value} (hq : w.heap[q]? = some (.cells cs 3 (0, 0))) (hn : ¬ s.own q) (v : Value) : One s t r l nd (w.setCell ⟨q, 0, none⟩ v) := by
  have oth : ∀ p, p ≠ q → (w.setCell ⟨q, 0, none⟩ v).heap[p]? = w.heap[p]? := fun p hp => heap_setCell_other _ _ _ _ hp
  exact ⟨L4.arSt.keep s w _ h.ar (fun p hp => oth p fun e => hn (e ▸ hp)) (fun p cs hp => oth p (tag_ne hp hq (by decide))), h.ok, ⟨(oth t (tag_ne h.tr.blk hq (by decide))).trans h.tr.blk⟩, h.at_, h.shaped, h.size, h.leaf, h.small, h.pos⟩

set_option maxRecDepth 100000 in
set_option maxHeartbeats 1000000 in
theorem visit_ok {s : Ar} {t r l k o n0 n1 n2 n3 n4 n5 : Nat} {nd : L5.No} {w : World} (h1 : One s t r l nd w) (hW : WalkC w k o) (ho : w.heap[o]? = some (.cells #[.slice none 0 0] 22 (0, 0))) (hl : w.heap[n4]? = some (.cells #[.int .i64 4096] 3 (0, 0))) (hno : ¬ s.own n4) (ht : w.cell? ⟨n0, 0, none⟩ = some (.pointer (some ⟨t, 0, none⟩))) (htl : w.cell? ⟨n2, 0, none⟩ = some (.func (.func 38) #[.pointer (some ⟨k, 0, none⟩)] #[])) (x0 : n0 ≠ n4) (x2 : n2 ≠ n4) (l2 : n2 < w.heap.size) :
    Calls Try.prog 58 #[.int .i64 (r : Int), .int .i64 1, .pointer (some ⟨n4, 0, none⟩), .pointer (some ⟨n0, 0, none⟩), .pointer (some ⟨n2, 0, none⟩), .pointer (some ⟨n1, 0, none⟩), .pointer (some ⟨n5, 0, none⟩), .pointer (some ⟨n3, 0, none⟩)] w fun e w' => e = .returned (.int .i64 0) ∧ ∃ v' B, w.heap.size ≤ B ∧ Lst B o v' nd.recs w' ∧ Only (fun q => q = o ∨ q = n4) w w' := by
  have H2 := thid (h1.set hl hno (.int .i64 4095))
  have oth : ∀ p, p ≠ n4 → (w.setCell ⟨n4, 0, none⟩ (.int .i64 4095)).heap[p]? = w.heap[p]? := fun p hp => heap_setCell_other _ _ _ _ hp
  have HW2 : Hid (WalkC (w.setCell ⟨n4, 0, none⟩ (.int .i64 4095)) k o) := (oth k (tag_ne hW hl (by decide))).trans hW
  have HO2 := thid ((oth o (tag_ne ho hl (by decide))).trans ho)
  have HS2 : Hid (Only (fun q => q = o ∨ q = n4) w (w.setCell ⟨n4, 0, none⟩ (.int .i64 4095))) := (Only.refl _ w).setCell (p := ⟨n4, 0, none⟩) (Or.inr (Or.inr rfl)) _
  have t2 : (w.setCell ⟨n4, 0, none⟩ (.int .i64 4095)).cell? ⟨n0, 0, none⟩ = some (.pointer (some ⟨t, 0, none⟩)) := (World.cell?_of_block (oth n0 x0)).trans ht
  have tl2 : (w.setCell ⟨n4, 0, none⟩ (.int .i64 4095)).cell? ⟨n2, 0, none⟩ = some (.func (.func 38) #[.pointer (some ⟨k, 0, none⟩)] #[]) := (World.cell?_of_block (oth n2 x2)).trans htl
  have zz : (w.setCell ⟨n4, 0, none⟩ (.int .i64 4095)).heap.size = w.heap.size := by simp [World.setCell]
  have HRD := thid (read_ok H2.out.ar H2.out.ok H2.out.tr H2.out.at_ H2.out.shaped H2.out.size)
  have hle := H2.out.leaf
  have HSM := thid H2.out.small
  rw [hle] at HRD
  have c4 : w.cell? ⟨n4, 0, none⟩ = some (.int .i64 4096) := by rw [cell_of_row _ _ _ _ _ _ hl]; rfl
  have f4 : ∀ i, w.frozen? ⟨n4, i, none⟩ = false := fun i => frozen_of_row _ _ _ _ _ hl
  have l4 := (Array.getElem?_eq_some_iff.1 hl).1
  clear h1 hW ho hl
  go_enter Try.func58, Try.ntmps58
  go_wp2_with fail
  refine HRD.out.mono ?_
  rintro e w2 ⟨v, rfl, a, c, a', c', rfl, o1, o2, B2⟩
  have HNR := thid (L5.NR.mk (L5.owns_rd_slice o1) (L5.owns_rd_slice o2) : L5.NR w2 nd a c a' c')
  have HB2 := thid B2
  have HW3 : Hid (WalkC w2 k o) := (B2.block k (Array.getElem?_eq_some_iff.1 HW2.out).1).trans HW2.out
  have HO3 := thid ((B2.block o (Array.getElem?_eq_some_iff.1 HO2.out).1).trans HO2.out)
  have tl3 := (B2.cell (p := ⟨n2, 0, none⟩) (by rw [zz]; exact l2)).trans tl2
  have l23 : n2 < w2.heap.size := Nat.lt_of_lt_of_le l2 (by rw [← zz]; exact B2.size)
  clear HRD o1 o2 B2 t2 tl2 HW2 HO2 c4 f4 l4 ht htl
  unfold L5.nodeV
  rw [hle]
  go_wp2_with fail
  have hb3 := tbelow w2 (.cells #[.bool true, .slice a nd.recs.length c, .slice a' nd.kids.length c'] 54)
  have n5 := (L5.box_cells w2 (.bool true) (.slice a nd.recs.length c) (.slice a' nd.kids.length c') 54).1
  have HTL := thid (tell_ok (at_ := (r : Int)) (n := nd) ((hb3.block k (Array.getElem?_eq_some_iff.1 HW3.out).1).trans HW3.out) ((hb3.block o (Array.getElem?_eq_some_iff.1 HO3.out).1).trans HO3.out) (HNR.out.below hb3) HSM.out hle)
  unfold L5.nodeV at HTL
  rw [hle] at HTL
  have hol := (Array.getElem?_eq_some_iff.1 HO3.out).1
  have HB3 := thid (tbelow_on HB2.out hb3)
  have z5 : w2.heap.size < (w2.alloc (.cells #[.bool true, .slice a nd.recs.length c, .slice a' nd.kids.length c'] 54)).heap.size := by simp
  clear hb3 HNR HW3 HO3 tl3 l23 HB2
  generalize w2.alloc (.cells #[.bool true, .slice a nd.recs.length c, .slice a' nd.kids.length c'] 54) = W3 at *
  refine HTL.out.mono ?_
  rintro e w4 ⟨rfl, v', hL, hO⟩
  have n6 : w4.cell? ⟨w2.heap.size, 0, none⟩ = some (.bool true) := (hO.cell (p := ⟨w2.heap.size, 0, none⟩) z5 (fun x => by
    rcases x with x | x
    · have x' : w2.heap.size = o := x
      omega
    · exact absurd z5 (Nat.not_lt.2 x))).trans n5
  have HF : Hid (∃ v' B, w.heap.size ≤ B ∧ Lst B o v' nd.recs w4 ∧ Only (fun q => q = o ∨ q = n4) w w4) := by
    refine ⟨v', W3.heap.size, ?_, hL, ?_⟩
    · have := HB3.out.size; omega
    · refine ⟨hO.os.trans (HB3.out.os.trans HS2.out.os), hO.tape.trans (HB3.out.tape.trans HS2.out.tape), hO.output.trans (HB3.out.output.trans HS2.out.output), Nat.le_trans HS2.out.size (Nat.le_trans HB3.out.size hO.size), fun q hq hs => ?_⟩
      have z1 := HB3.out.size
      rw [hO.block q (by omega) (fun x => by
        rcases x with x | x
        · exact hs (Or.inl x)
        · omega), HB3.out.block q (by omega)]
      exact HS2.out.block q hq hs
  clear HTL hL hO n5 HB3 HS2 H2 HSM
  go_wp2
  go_ret
  exact ⟨rfl, HF.out⟩

set_option maxRecDepth 100000 in
set_option maxHeartbeats 1000000 in
theorem through_ok {s : Ar} {t r l k o : Nat} {nd : L5.No} {w : World} (h1 : One s t r l nd w) (hW : WalkC w k o) (ho : w.heap[o]? = some (.cells #[.slice none 0 0] 22 (0, 0))) :
    Calls Try.prog 37 #[.pointer (some ⟨t, 0, none⟩), .string ⟨#[]⟩, .func (.func 38) #[.pointer (some ⟨k, 0, none⟩)] #[], .func (.func 39) #[.pointer (some ⟨k, 0, none⟩)] #[]] w fun e w' => e = .returned (.int .i64 0) ∧ ∃ v' B, w.heap.size ≤ B ∧ Lst B o v' nd.recs w' ∧ Only (fun q => q = o) w w' := by
  obtain ⟨c0, c1, c2, c3, ct, cf⟩ := h1.tr.cells
  have H1 := thid h1
  have HW := thid hW
  have HO := thid ho
  have hmf : ∀ (fn : Fn) (first cap : Array Value) (w : World), (Instr.makeFunc fn first cap).run Try.prog w = .ok (.func fn first cap) w := fun _ _ _ _ => rfl
  have own_lt : ∀ q, s.own q → q < w.heap.size := fun q hq => L4.arSt.lt s w q h1.ar hq
  clear h1 hW ho
  go_enter Try.func37, Try.ntmps37
  have p5 : ((((((w.alloc (.cells #[.pointer (some ⟨t, 0, none⟩)] 29)).alloc (.cells #[.string ⟨#[]⟩] 9)).alloc (.cells #[.func (.func 38) #[.pointer (some ⟨k, 0, none⟩)] #[]] 52)).alloc (.cells #[.func (.func 39) #[.pointer (some ⟨k, 0, none⟩)] #[]] 24)).alloc (.cells #[.int .i64 4096] 3)).alloc (.cells #[.nilFunc] 102)).cell? ⟨w.heap.size + 1 + 1 + 1 + 1 + 1, 0, none⟩ = some .nilFunc := by simp [go_sem]
  have f5 : ∀ i, ((((((w.alloc (.cells #[.pointer (some ⟨t, 0, none⟩)] 29)).alloc (.cells #[.string ⟨#[]⟩] 9)).alloc (.cells #[.func (.func 38) #[.pointer (some ⟨k, 0, none⟩)] #[]] 52)).alloc (.cells #[.func (.func 39) #[.pointer (some ⟨k, 0, none⟩)] #[]] 24)).alloc (.cells #[.int .i64 4096] 3)).alloc (.cells #[.nilFunc] 102)).frozen? ⟨w.heap.size + 1 + 1 + 1 + 1 + 1, i, none⟩ = false := fun i => by simp [go_sem]
  go_wp2_with fail
  clear p5 f5
  have HB := thid ((((((tbelow w (.cells #[.pointer (some ⟨t, 0, none⟩)] 29)).alloc (by simp) (.cells #[.string ⟨#[]⟩] 9)).alloc (by simp; omega) (.cells #[.func (.func 38) #[.pointer (some ⟨k, 0, none⟩)] #[]] 52)).alloc (by simp; omega) (.cells #[.func (.func 39) #[.pointer (some ⟨k, 0, none⟩)] #[]] 24)).alloc (by simp; omega) (.cells #[.int .i64 4096] 3)).alloc (by simp; omega) (.cells #[(.func (.func 58) #[] #[.pointer (some ⟨w.heap.size + 1 + 1 + 1 + 1, 0, none⟩), .pointer (some ⟨w.heap.size, 0, none⟩), .pointer (some ⟨w.heap.size + 1 + 1, 0, none⟩), .pointer (some ⟨w.heap.size + 1, 0, none⟩), .pointer (some ⟨w.heap.size + 1 + 1 + 1 + 1 + 1, 0, none⟩), .pointer (some ⟨w.heap.size + 1 + 1 + 1, 0, none⟩)])] 102))
  have z6 : ((((((w.alloc (.cells #[.pointer (some ⟨t, 0, none⟩)] 29)).alloc (.cells #[.string ⟨#[]⟩] 9)).alloc (.cells #[.func (.func 38) #[.pointer (some ⟨k, 0, none⟩)] #[]] 52)).alloc (.cells #[.func (.func 39) #[.pointer (some ⟨k, 0, none⟩)] #[]] 24)).alloc (.cells #[.int .i64 4096] 3)).alloc (.cells #[(.func (.func 58) #[] #[.pointer (some ⟨w.heap.size + 1 + 1 + 1 + 1, 0, none⟩), .pointer (some ⟨w.heap.size, 0, none⟩), .pointer (some ⟨w.heap.size + 1 + 1, 0, none⟩), .pointer (some ⟨w.heap.size + 1, 0, none⟩), .pointer (some ⟨w.heap.size + 1 + 1 + 1 + 1 + 1, 0, none⟩), .pointer (some ⟨w.heap.size + 1 + 1 + 1, 0, none⟩)])] 102)).heap.size = w.heap.size + 6 := by simp
  have v0 : ((((((w.alloc (.cells #[.pointer (some ⟨t, 0, none⟩)] 29)).alloc (.cells #[.string ⟨#[]⟩] 9)).alloc (.cells #[.func (.func 38) #[.pointer (some ⟨k, 0, none⟩)] #[]] 52)).alloc (.cells #[.func (.func 39) #[.pointer (some ⟨k, 0, none⟩)] #[]] 24)).alloc (.cells #[.int .i64 4096] 3)).alloc (.cells #[(.func (.func 58) #[] #[.pointer (some ⟨w.heap.size + 1 + 1 + 1 + 1, 0, none⟩), .pointer (some ⟨w.heap.size, 0, none⟩), .pointer (some ⟨w.heap.size + 1 + 1, 0, none⟩), .pointer (some ⟨w.heap.size + 1, 0, none⟩), .pointer (some ⟨w.heap.size + 1 + 1 + 1 + 1 + 1, 0, none⟩), .pointer (some ⟨w.heap.size + 1 + 1 + 1, 0, none⟩)])] 102)).cell? ⟨w.heap.size, 0, none⟩ = some (.pointer (some ⟨t, 0, none⟩)) := by simp [go_sem]
  have v2 : ((((((w.alloc (.cells #[.pointer (some ⟨t, 0, none⟩)] 29)).alloc (.cells #[.string ⟨#[]⟩] 9)).alloc (.cells #[.func (.func 38) #[.pointer (some ⟨k, 0, none⟩)] #[]] 52)).alloc (.cells #[.func (.func 39) #[.pointer (some ⟨k, 0, none⟩)] #[]] 24)).alloc (.cells #[.int .i64 4096] 3)).alloc (.cells #[(.func (.func 58) #[] #[.pointer (some ⟨w.heap.size + 1 + 1 + 1 + 1, 0, none⟩), .pointer (some ⟨w.heap.size, 0, none⟩), .pointer (some ⟨w.heap.size + 1 + 1, 0, none⟩), .pointer (some ⟨w.heap.size + 1, 0, none⟩), .pointer (some ⟨w.heap.size + 1 + 1 + 1 + 1 + 1, 0, none⟩), .pointer (some ⟨w.heap.size + 1 + 1 + 1, 0, none⟩)])] 102)).cell? ⟨w.heap.size + 1 + 1, 0, none⟩ = some (.func (.func 38) #[.pointer (some ⟨k, 0, none⟩)] #[]) := by simp [go_sem]
  have v5 : ((((((w.alloc (.cells #[.pointer (some ⟨t, 0, none⟩)] 29)).alloc (.cells #[.string ⟨#[]⟩] 9)).alloc (.cells #[.func (.func 38) #[.pointer (some ⟨k, 0, none⟩)] #[]] 52)).alloc (.cells #[.func (.func 39) #[.pointer (some ⟨k, 0, none⟩)] #[]] 24)).alloc (.cells #[.int .i64 4096] 3)).alloc (.cells #[(.func (.func 58) #[] #[.pointer (some ⟨w.heap.size + 1 + 1 + 1 + 1, 0, none⟩), .pointer (some ⟨w.heap.size, 0, none⟩), .pointer (some ⟨w.heap.size + 1 + 1, 0, none⟩), .pointer (some ⟨w.heap.size + 1, 0, none⟩), .pointer (some ⟨w.heap.size + 1 + 1 + 1 + 1 + 1, 0, none⟩), .pointer (some ⟨w.heap.size + 1 + 1 + 1, 0, none⟩)])] 102)).cell? ⟨w.heap.size + 1 + 1 + 1 + 1 + 1, 0, none⟩ = some (.func (.func 58) #[] #[.pointer (some ⟨w.heap.size + 1 + 1 + 1 + 1, 0, none⟩), .pointer (some ⟨w.heap.size, 0, none⟩), .pointer (some ⟨w.heap.size + 1 + 1, 0, none⟩), .pointer (some ⟨w.heap.size + 1, 0, none⟩), .pointer (some ⟨w.heap.size + 1 + 1 + 1 + 1 + 1, 0, none⟩), .pointer (some ⟨w.heap.size + 1 + 1 + 1, 0, none⟩)]) := by simp [go_sem]
  have v4 : ((((((w.alloc (.cells #[.pointer (some ⟨t, 0, none⟩)] 29)).alloc (.cells #[.string ⟨#[]⟩] 9)).alloc (.cells #[.func (.func 38) #[.pointer (some ⟨k, 0, none⟩)] #[]] 52)).alloc (.cells #[.func (.func 39) #[.pointer (some ⟨k, 0, none⟩)] #[]] 24)).alloc (.cells #[.int .i64 4096] 3)).alloc (.cells #[(.func (.func 58) #[] #[.pointer (some ⟨w.heap.size + 1 + 1 + 1 + 1, 0, none⟩), .pointer (some ⟨w.heap.size, 0, none⟩), .pointer (some ⟨w.heap.size + 1 + 1, 0, none⟩), .pointer (some ⟨w.heap.size + 1, 0, none⟩), .pointer (some ⟨w.heap.size + 1 + 1 + 1 + 1 + 1, 0, none⟩), .pointer (some ⟨w.heap.size + 1 + 1 + 1, 0, none⟩)])] 102)).heap[w.heap.size + 1 + 1 + 1 + 1]? = some (.cells #[.int .i64 4096] 3 (0, 0)) := by
    have h := heap_alloc_new ((((w.alloc (.cells #[.pointer (some ⟨t, 0, none⟩)] 29)).alloc (.cells #[.string ⟨#[]⟩] 9)).alloc (.cells #[.func (.func 38) #[.pointer (some ⟨k, 0, none⟩)] #[]] 52)).alloc (.cells #[.func (.func 39) #[.pointer (some ⟨k, 0, none⟩)] #[]] 24)) (.cells #[.int .i64 4096] 3)
    rw [show ((((w.alloc (.cells #[.pointer (some ⟨t, 0, none⟩)] 29)).alloc (.cells #[.string ⟨#[]⟩] 9)).alloc (.cells #[.func (.func 38) #[.pointer (some ⟨k, 0, none⟩)] #[]] 52)).alloc (.cells #[.func (.func 39) #[.pointer (some ⟨k, 0, none⟩)] #[]] 24)).heap.size = w.heap.size + 1 + 1 + 1 + 1 by simp] at h
    exact ((tbelow _ _).block _ (by simp)).trans h
  have HV4 := thid v4
  clear v4
  generalize ((((((w.alloc (.cells #[.pointer (some ⟨t, 0, none⟩)] 29)).alloc (.cells #[.string ⟨#[]⟩] 9)).alloc (.cells #[.func (.func 38) #[.pointer (some ⟨k, 0, none⟩)] #[]] 52)).alloc (.cells #[.func (.func 39) #[.pointer (some ⟨k, 0, none⟩)] #[]] 24)).alloc (.cells #[.int .i64 4096] 3)).alloc (.cells #[(.func (.func 58) #[] #[.pointer (some ⟨w.heap.size + 1 + 1 + 1 + 1, 0, none⟩), .pointer (some ⟨w.heap.size, 0, none⟩), .pointer (some ⟨w.heap.size + 1 + 1, 0, none⟩), .pointer (some ⟨w.heap.size + 1, 0, none⟩), .pointer (some ⟨w.heap.size + 1 + 1 + 1 + 1 + 1, 0, none⟩), .pointer (some ⟨w.heap.size + 1 + 1 + 1, 0, none⟩)])] 102)) = V at *
  have t1 := (HB.out.cell (p := ⟨t, 1, none⟩) ct).trans c1
  have t2 : V.cell? ⟨t, 2, none⟩ = some (.int .i64 1) := (HB.out.cell (p := ⟨t, 2, none⟩) ct).trans c2
  refine wp_region_quiet_tail (fun w' => ∃ n, w' = World.drewN V n) 11 (by kernel_rfl) (by kernel_rfl) ⟨1, rfl⟩ ?_
  simp only [List.take_succ_cons, List.take_zero, List.drop_succ_cons, List.drop_zero]
  repeat (go_big_quiet_step (fail))
  refine wpQuiet_nil ?_
  rintro _ ⟨nq, rfl⟩
  have hd : Below V.heap.size V (World.drewN V nq) := below_drewN (Below.refl _ _) nq
  have HB2 := thid (tbelow_on HB.out hd)
  have HVI := thid (visit_ok (n0 := w.heap.size) (n1 := w.heap.size + 1) (n2 := w.heap.size + 1 + 1) (n3 := w.heap.size + 1 + 1 + 1) (n4 := w.heap.size + 1 + 1 + 1 + 1) (n5 := w.heap.size + 1 + 1 + 1 + 1 + 1) (H1.out.below HB2.out) ((HB2.out.block k (Array.getElem?_eq_some_iff.1 HW.out).1).trans HW.out) ((HB2.out.block o (Array.getElem?_eq_some_iff.1 HO.out).1).trans HO.out) ((hd.block _ (by omega)).trans HV4.out) (fun x => by have := own_lt _ x; omega) ((hd.cell (p := ⟨w.heap.size, 0, none⟩) (by show w.heap.size < V.heap.size; omega)).trans v0) ((hd.cell (p := ⟨w.heap.size + 1 + 1, 0, none⟩) (by show w.heap.size + 1 + 1 < V.heap.size; omega)).trans v2) (by omega) (by omega) (by have := hd.size; omega))
  clear v0 v2 v5 t1 t2 hd HB HV4 H1 HW c0 c1 c2 c3 cf
  generalize World.drewN V nq = V2 at *
  go_wp2_with fail
  refine HVI.out.mono ?_
  rintro e w4 ⟨rfl, v', B, hB, hL, hO⟩
  have HF : Hid (∃ v' B, w.heap.size ≤ B ∧ Lst B o v' nd.recs w4 ∧ Only (fun q => q = o) w w4) := by
    refine ⟨v', B, Nat.le_trans HB2.out.size hB, hL, ⟨hO.os.trans HB2.out.os, hO.tape.trans HB2.out.tape, hO.output.trans HB2.out.output, Nat.le_trans HB2.out.size hO.size, fun q hq hs => ?_⟩⟩
    rw [hO.block q (Nat.lt_of_lt_of_le hq HB2.out.size) (fun x => by
      rcases x with x | x
      · exact hs x
      · omega)]
    exact HB2.out.block q hq
  clear hL hO HVI HB2
  go_wp2
  go_ret
  exact ⟨rfl, HF.out⟩
end Go.Proofs.Ytmochjhhmahokab
/-
  Tree: Each and All over a tree of one leaf.
-/
namespace Go.Proofs.Ytmochjhhmahokab
open Go.RowKit
open L4 (Ar ArP Abs arV nv)

theorem eql_func_nil (w : World) (t : TypeId) {a : Array TypeId} {b : Array TypeId} {v : Bool} (fn : Fn) (first cap : Array Value) (h : Try.prog.underlying t = some (.func a b v)) : (binOp .eql t (.func fn first cap) .nilFunc).run Try.prog w = .ok (.bool false) w := by
  have h1 : ∀ d : Nat, (Op.equalIn (d + 1) t (.func fn first cap) .nilFunc).run Try.prog w = .ok false w := fun d => by simp [Op.equalIn, run_underlying h]
  have h2 : (Op.equal t (.func fn first cap) .nilFunc).run Try.prog w = .ok false w := h1 9999
  simp [binOp, h2]

set_option maxRecDepth 100000 in
set_option maxHeartbeats 1000000 in
theorem each_one {s : Ar} {t r l o : Nat} {nd : L5.No} {w : World} (h1 : One s t r l nd w) (ho : w.heap[o]? = some (.cells #[.slice none 0 0] 22 (0, 0))) :
    Calls Try.prog 21 #[.pointer (some ⟨t, 0, none⟩), .string ⟨#[]⟩, .string ⟨#[]⟩, .func (.func 22) #[] #[.pointer (some ⟨o, 0, none⟩)]] w fun e w' => e = .returned (.tuple #[]) ∧ ∃ v' B, w.heap.size ≤ B ∧ Lst B o v' nd.recs w' ∧ Only (fun q => q = o) w w' := by
  have H1 := thid h1
  have HO := thid ho
  have HOV := thid (over_ok h1.tr h1.pos)
  have hmf : ∀ (fn : Fn) (first cap : Array Value) (w : World), (Instr.makeFunc fn first cap).run Try.prog w = .ok (.func fn first cap) w := fun _ _ _ _ => rfl
  have hfe := fun (fn : Fn) (first cap : Array Value) (w : World) => eql_func_nil w 58 fn first cap Try.underlying58
  clear h1 ho
  go_enter Try.func21, Try.ntmps21
  go_wp2_with fail
  refine HOV.out.mono ?_
  rintro e w1 ⟨rfl, B1⟩
  have HB1 := thid B1
  clear HOV B1
  go_wp2_with fail
  have HB2 := thid (tbelow_on HB1.out (tbelow w1 (.cells #[.string ⟨#[]⟩, .string ⟨#[]⟩, .func (.func 22) #[] #[.pointer (some ⟨o, 0, none⟩)], .bool false] 75)))
  have HTH := thid (through_ok (k := w1.heap.size) (H1.out.below HB2.out) (heap_alloc_new _ _) ((HB2.out.block o (Array.getElem?_eq_some_iff.1 HO.out).1).trans HO.out))
  refine HTH.out.mono ?_
  rintro e w4 ⟨rfl, v', B, hB, hL, hO⟩
  have HF : Hid (∃ v' B, w.heap.size ≤ B ∧ Lst B o v' nd.recs w4 ∧ Only (fun q => q = o) w w4) :=
    ⟨v', B, Nat.le_trans HB2.out.size hB, hL, (Only.of_below HB2.out).trans hO⟩
  clear hL hO HTH HB2 HB1 H1 HO
  go_wp2
  go_end0
  exact ⟨rfl, HF.out⟩

set_option maxRecDepth 100000 in
set_option maxHeartbeats 1000000 in
theorem all_one {s : Ar} {t r l : Nat} {nd : L5.No} {w : World} (h1 : One s t r l nd w) :
    Calls Try.prog 9 #[.pointer (some ⟨t, 0, none⟩)] w fun e w' => ∃ a c, e = .returned (.slice a nd.recs.length c) ∧ w'.ownsRow w.heap.size 9 1 (.slice a nd.recs.length c) nd.recs.length (L5.svs nd.recs) ∧ Below w.heap.size w w' := by
  have hb := tbelow w (.cells #[.slice none 0 0] 22)
  have HEA := thid (each_one (h1.below hb) (heap_alloc_new _ _))
  have HB := thid hb
  have hmf : ∀ (fn : Fn) (first cap : Array Value) (w : World), (Instr.makeFunc fn first cap).run Try.prog w = .ok (.func fn first cap) w := fun _ _ _ _ => rfl
  clear h1 hb
  go_enter Try.func9, Try.ntmps9
  go_wp2_with fail
  refine HEA.out.mono ?_
  rintro e w4 ⟨rfl, v', B, hB, hL, hO⟩
  have c0 : w4.cell? ⟨w.heap.size, 0, none⟩ = some v' := by rw [cell_of_row _ _ _ _ _ _ hL.blk]; rfl
  obtain ⟨a, c, rfl⟩ := own_slice hL.row
  have HF : Hid (w4.ownsRow w.heap.size 9 1 (.slice a nd.recs.length c) nd.recs.length (L5.svs nd.recs) ∧ Below w.heap.size w w4) := by
    refine ⟨owns_weak hL.row (Nat.le_trans HB.out.size hB), HB.out.trans (hO.below HB.out.size fun k hk x => by
      have x' : k = w.heap.size := x
      omega)⟩
  clear hL hO HEA HB
  go_wp2
  go_ret
  exact ⟨a, c, rfl, HF.out⟩
end Go.Proofs.Ytmochjhhmahokab
/-
  Tree: New without an arena.
-/
namespace Go.Proofs.Ytmochjhhmahokab
open Go.RowKit
open L4 (Ar ArP Abs arV nv)
open L1 (stopped faultV Came undoW)

/-- An edit of a tree without an arena, nothing done. -/
structure EdN (w : World) (x t : Nat) : Prop where
  ed : EdC w x t 0 0 0 (.slice none 0 0) (.slice none 0 0) (.slice none 0 0)
  tr : w.heap[t]? = some (.cells #[.pointer none, .int .i64 0, .int .i64 0, .int .i64 0] 46 (0, 0))

theorem EdN.on {w w' : World} {x t : Nat} (k : EdN w x t) (hb : Below w.heap.size w w') : EdN w' x t := ⟨k.ed.on hb, (hb.block _ (Array.getElem?_eq_some_iff.1 k.tr).1).trans k.tr⟩

set_option maxRecDepth 100000 in
set_option maxHeartbeats 1000000 in
theorem take_nil {w : World} {x t : Nat} (k : EdN w x t) : Calls Try.prog 16 #[.pointer (some ⟨x, 0, none⟩)] w fun e w' => e = .panicked (stopped 15 0) ∧ Below w.heap.size w w' := by
  obtain ⟨d0, d1, d2, d3, d4, d5, d6, dl, df⟩ := k.ed.cells
  have t0 : w.cell? ⟨t, 0, none⟩ = some (.pointer none) := by rw [cell_of_row _ _ _ _ _ _ k.tr]; rfl
  have tl := (Array.getElem?_eq_some_iff.1 k.tr).1
  clear k
  go_enter Try.func16, Try.ntmps16
  go_wp2_with fail
  refine (L4.alloc_nil _).mono ?_
  rintro e w1 ⟨rfl, rfl⟩
  go_wp2_with fail
  refine (L1.check_no 15 (by decide) _).mono ?_
  rintro e w2 ⟨rfl, rfl⟩
  exact ⟨rfl, rfl, Below.refl _ _⟩

set_option maxRecDepth 100000 in
set_option maxHeartbeats 1000000 in
theorem new1_nil {w : World} {x t : Nat} (k : EdN w x t) : Calls Try.prog 15 #[.pointer (some ⟨x, 0, none⟩)] w fun e w' => e = .panicked (stopped 15 0) ∧ Below w.heap.size w w' := by
  have HT := thid (take_nil k)
  clear k
  go_enter Try.func15, Try.ntmps15
  go_wp2_with fail
  refine HT.out.mono ?_
  rintro e w2 ⟨rfl, B2⟩
  exact ⟨rfl, rfl, B2⟩

set_option maxRecDepth 100000 in
set_option maxHeartbeats 1000000 in
theorem change1_nil {w : World} {x t b0 b2 : Nat} (k : EdN w x t) (h0 : w.cell? ⟨b0, 0, none⟩ = some (.func (.func 15) #[] #[])) (h2 : w.cell? ⟨b2, 0, none⟩ = some (.pointer (some ⟨x, 0, none⟩))) : Calls Try.prog 27 #[.pointer (some ⟨b0, 0, none⟩), .pointer (some ⟨b2, 0, none⟩)] w fun e w' => e = .panicked (stopped 15 0) ∧ Below w.heap.size w w' := by
  have HT := thid (new1_nil k)
  clear k
  go_enter Try.func27, Try.ntmps27
  go_wp2_with fail
  refine HT.out.mono ?_
  rintro e w2 ⟨rfl, B2⟩
  exact ⟨rfl, rfl, B2⟩

set_option maxRecDepth 100000 in
set_option maxHeartbeats 1000000 in
theorem bwd_nil {w : World} : Calls Try.prog 46 #[.slice none 0 0] w fun e w' => e = .returned (.func (.func 66) #[] #[.pointer (some ⟨w.heap.size, 0, none⟩)]) ∧ w'.cell? ⟨w.heap.size, 0, none⟩ = some (.slice none 0 0) ∧ w.heap.size < w'.heap.size ∧ Below w.heap.size w w' := by
  have hmf : ∀ (fn : Fn) (first cap : Array Value) (w : World), (Instr.makeFunc fn first cap).run Try.prog w = .ok (.func fn first cap) w := fun _ _ _ _ => rfl
  go_enter Try.func46, Try.ntmps46
  go_wp2
  go_ret
  exact ⟨rfl, by simp [go_sem], by simp, tbelow _ _⟩

set_option maxRecDepth 100000 in
set_option maxHeartbeats 1000000 in
theorem bwd1_nil {w : World} {b : Nat} {f : Value} (hc : w.cell? ⟨b, 0, none⟩ = some (.slice none 0 0)) (hb : b < w.heap.size) : Calls Try.prog 66 #[f, .pointer (some ⟨b, 0, none⟩)] w fun e w' => e = .returned (.tuple #[]) ∧ w' = w := by
  go_enter Try.func66, Try.ntmps66
  go_wp2_with fail
  go_loopw [3] (fun i w2 => i = .int .i64 (-1) ∧ w2 = w) (fun _ _ => 0)
  case atStart => exact ⟨rfl, rfl⟩
  case round =>
    obtain ⟨rfl, rfl⟩ := hrel
    go_wp2
    go_end0
    exact ⟨rfl, rfl⟩

attribute [local go_sem] Oper.semAt_some in
set_option maxRecDepth 100000 in
set_option maxHeartbeats 1000000 in
theorem back_nil {w : World} {x t : Nat} (k : EdN w x t) : Calls Try.prog 29 #[.pointer (some ⟨x, 0, none⟩)] w fun e w' => e = .returned (.tuple #[]) ∧ Below w.heap.size w w' := by
  obtain ⟨d0, d1, d2, d3, d4, d5, d6, dl, df⟩ := k.ed.cells
  clear k
  refine (callsIn_wide (n := 5)).1 ?_
  refine callsIn_of_wp_marks Try.func29 rfl trivial ?_ rfl
  simp only [Try.ntmps29, List.size_toArray, List.length_cons, List.length_nil, Nat.reduceAdd, Nat.reduceSub, Array.replicate_succ, Array.replicate_zero, List.push_toArray, List.append_toArray, List.nil_append, List.cons_append]
  gi_wp2_with fail
  refine ⟨trivial, (callsIn_wide.2 bwd_nil).mono ?_⟩
  rintro e w2 ⟨rfl, hc2, hl2, B2⟩
  have hz : (w.alloc (.cells #[.pointer (some ⟨x, 0, none⟩)] 48)).heap.size = w.heap.size + 1 := by simp
  have HB2 := thid (tbelow_on (tbelow w _) B2)
  rw [hz] at hc2 hl2 ⊢
  clear B2
  gi_wp2_with fail
  refine wpIn_rangeFunc_ownF (α := Empty) rfl (by omega) (gf := 66) (lb := #[.pointer (some ⟨w.heap.size + 1, 0, none⟩)]) rfl trivial (enters_of Try.func66 (by kernel_rfl) rfl)
    (encs := fun x => x.elim) (Kp := fun _ _ => True) (S := fun xs => xs = []) (Sp := fun _ => False) (N := 0) (w0 := w2) (fun l J Jx W hW _ _ _ h0 => ?seq) (fun _ _ => trivial) (fun _ _ _ _ _ _ _ _ => trivial) (Below.refl _ _) (fun x => x.elim)
    (fun _ W => Below w.heap.size w W) (fun _ _ _ => False) (ownFrom_below (Nat.le_refl _) HB2.out.size) (fun _ _ _ _ _ hs _ _ => hs) HB2.out (fun x => x.elim) ?assign ?body ?done ?stop
  case seq =>
    refine (callsIn_wide.2 (bwd1_nil ((hW.cell (p := ⟨w.heap.size + 1, 0, none⟩) hl2).trans hc2) (Nat.lt_of_lt_of_le hl2 hW.size))).mono ?_
    rintro e W' ⟨rfl, rfl⟩
    exact ⟨⟨_, rfl⟩, .inl ⟨[], rfl, h0⟩⟩
  case assign => exact fun _ x => x.elim
  case body => exact fun _ _ x => x.elim
  case done =>
    rintro D ys W hD rfl hB hK
    gi_wp2
    refine ⟨by simp, .inl ⟨_, _, rfl, run_takeDeferred hK, ?_⟩⟩
    exact ⟨_, results_none rfl _ _ _, rfl, hB.trans (belowK_b (w := w) (Nat.le_refl _) W D _ _ (by have := HB2.out.size; omega) hK rfl rfl)⟩
  case stop =>
    rintro D c pre W _ h _ _
    exact h.elim
end Go.Proofs.Ytmochjhhmahokab
/-
  Tree: New without an arena.
-/
namespace Go.Proofs.Ytmochjhhmahokab
open Go.RowKit
open L4 (Ar ArP Abs arV nv)
open L1 (stopped faultV Came undoW)

/-- A state that owns nothing. -/
def nothing : L4.St Unit where
  own := fun _ _ => False
  P := fun _ _ => True
  keep := fun _ _ _ _ _ _ => trivial
  lt := fun _ _ _ _ h => h.elim
  tag := fun _ _ _ _ _ h => h.elim

theorem nothing_moves {w w' : World} (h : Below w.heap.size w w') : L4.Moves nothing () () w w' := ⟨Only.of_below h, fun _ h => h.elim⟩

theorem nothing_below {w w' : World} (h : L4.Moves nothing () () w w') : Below w.heap.size w w' := h.only.below (Nat.le_refl _) fun _ _ x => x

theorem stopped_inj {c a c' a' : Int} (h : Ending.panicked (stopped c a) = .panicked (stopped c' a')) : c = c' ∧ a = a' := by
  simp only [Ending.panicked.injEq, stopped, List.cons.injEq, PanicEntry.mk.injEq, Value.iface.injEq, faultV, Value.agg.injEq] at h
  simpa using h

set_option maxRecDepth 100000 in
set_option maxHeartbeats 1000000 in
theorem change_nil {t : Nat} {w : World} (ht : w.heap[t]? = some (.cells #[.pointer none, .int .i64 0, .int .i64 0, .int .i64 0] 46 (0, 0))) :
    Calls Try.prog 14 #[.pointer (some ⟨t, 0, none⟩), .func (.func 15) #[] #[]] w fun e w' => e = .returned (.int .i64 15) ∧ Below w.heap.size w w' := by
  have c1 : w.cell? ⟨t, 1, none⟩ = some (.int .i64 0) := by rw [cell_of_row _ _ _ _ _ _ ht]; rfl
  have c2 : w.cell? ⟨t, 2, none⟩ = some (.int .i64 0) := by rw [cell_of_row _ _ _ _ _ _ ht]; rfl
  have c3 : w.cell? ⟨t, 3, none⟩ = some (.int .i64 0) := by rw [cell_of_row _ _ _ _ _ _ ht]; rfl
  have ct := (Array.getElem?_eq_some_iff.1 ht).1
  have HT := thid ht
  clear ht
  have hmf : ∀ (fn : Fn) (first cap : Array Value) (w : World), (Instr.makeFunc fn first cap).run Try.prog w = .ok (.func fn first cap) w := fun _ _ _ _ => rfl
  go_enter Try.func14, Try.ntmps14
  go_wp2_with fail
  have B3 : Below w.heap.size w (((w.alloc (.cells #[.func (.func 15) #[] #[]] 55)).alloc (.cells #[.pointer (some ⟨t, 0, none⟩), .int .i64 0, .int .i64 0, .int .i64 0, .slice none 0 0, .slice none 0 0, .slice none 0 0] 51)).alloc (.cells #[.pointer (some ⟨w.heap.size + 1, 0, none⟩)] 48)) := ((tbelow w _).alloc (by simp) _).alloc (by simp; omega) _
  have z3 : (((w.alloc (.cells #[.func (.func 15) #[] #[]] 55)).alloc (.cells #[.pointer (some ⟨t, 0, none⟩), .int .i64 0, .int .i64 0, .int .i64 0, .slice none 0 0, .slice none 0 0, .slice none 0 0] 51)).alloc (.cells #[.pointer (some ⟨w.heap.size + 1, 0, none⟩)] 48)).heap.size = w.heap.size + 3 := by simp
  have k0 : (((w.alloc (.cells #[.func (.func 15) #[] #[]] 55)).alloc (.cells #[.pointer (some ⟨t, 0, none⟩), .int .i64 0, .int .i64 0, .int .i64 0, .slice none 0 0, .slice none 0 0, .slice none 0 0] 51)).alloc (.cells #[.pointer (some ⟨w.heap.size + 1, 0, none⟩)] 48)).cell? ⟨w.heap.size, 0, none⟩ = some (.func (.func 15) #[] #[]) := by simp [go_sem]
  have k1 : EdC (((w.alloc (.cells #[.func (.func 15) #[] #[]] 55)).alloc (.cells #[.pointer (some ⟨t, 0, none⟩), .int .i64 0, .int .i64 0, .int .i64 0, .slice none 0 0, .slice none 0 0, .slice none 0 0] 51)).alloc (.cells #[.pointer (some ⟨w.heap.size + 1, 0, none⟩)] 48)) (w.heap.size + 1) t 0 0 0 (.slice none 0 0) (.slice none 0 0) (.slice none 0 0) := by
    have h1 := heap_alloc_new (w.alloc (.cells #[.func (.func 15) #[] #[]] 55)) (.cells #[.pointer (some ⟨t, 0, none⟩), .int .i64 0, .int .i64 0, .int .i64 0, .slice none 0 0, .slice none 0 0, .slice none 0 0] 51)
    rw [show (w.alloc (.cells #[.func (.func 15) #[] #[]] 55)).heap.size = w.heap.size + 1 by simp] at h1
    exact ((tbelow _ _).block _ (by simp)).trans h1
  have k2 : (((w.alloc (.cells #[.func (.func 15) #[] #[]] 55)).alloc (.cells #[.pointer (some ⟨t, 0, none⟩), .int .i64 0, .int .i64 0, .int .i64 0, .slice none 0 0, .slice none 0 0, .slice none 0 0] 51)).alloc (.cells #[.pointer (some ⟨w.heap.size + 1, 0, none⟩)] 48)).cell? ⟨w.heap.size + 1 + 1, 0, none⟩ = some (.pointer (some ⟨w.heap.size + 1, 0, none⟩)) := by simp [go_sem]
  have HB3 := thid B3
  have HK1 := thid k1
  clear B3 k1 c1 c2 c3 hmf
  generalize ((w.alloc (.cells #[.func (.func 15) #[] #[]] 55)).alloc (.cells #[.pointer (some ⟨t, 0, none⟩), .int .i64 0, .int .i64 0, .int .i64 0, .slice none 0 0, .slice none 0 0, .slice none 0 0] 51)).alloc (.cells #[.pointer (some ⟨w.heap.size + 1, 0, none⟩)] 48) = W at *
  have HE : Hid (EdN W (w.heap.size + 1) t) := ⟨HK1.out, (HB3.out.block t ct).trans HT.out⟩
  have HU := thid (L1.below_catchW W : Below W.heap.size W (undoW W))
  refine (L4.undo_st nothing 27 (fun _ _ => rfl) _ 29 (fun _ _ => rfl) _ W () trivial (fun e _ => e = .panicked (stopped 15 0)) (fun _ e _ => e = .returned (.tuple #[])) ?_ ?_).mono ?_
  · refine (change1_nil (HE.out.on HU.out) ((HU.out.cell (p := ⟨w.heap.size, 0, none⟩) (by show w.heap.size < W.heap.size; omega)).trans k0) ((HU.out.cell (p := ⟨w.heap.size + 1 + 1, 0, none⟩) (by show w.heap.size + 1 + 1 < W.heap.size; omega)).trans k2)).mono ?_
    rintro e w1 ⟨rfl, B⟩
    exact ⟨(), rfl, trivial, nothing_moves B, _, _, _, .stop 15 0⟩
  · intro W2 s' c a _ _ hm
    refine (back_nil (HE.out.on (nothing_below hm))).mono ?_
    rintro e w1 ⟨rfl, B⟩
    exact ⟨(), rfl, trivial, nothing_moves B, _, _, _, .done⟩
  · rintro e w2 ⟨_, _, hm, h⟩
    have HB4 := thid (tbelow_on HB3.out (nothing_below hm))
    have he : e = .returned (faultV 15 0) := by
      rcases h with ⟨h, _⟩ | ⟨c, a, s1, e2, c2, a2, t2, h1, h2, h3, rfl⟩
      · cases h
      · obtain ⟨rfl, rfl⟩ := stopped_inj h1
        subst h2
        cases h3
        rfl
    subst he
    clear h hm HE HU HB3 HK1 k0 k2 HT
    simp only [faultV]
    have ff := fun w => ffield 15 0 w
    go_wp2
    refine bodyPost_ret (v := .int .i64 15) (by simp [results, Try.results14, go_sem]) rfl ⟨rfl, HB4.out⟩

set_option maxRecDepth 100000 in
set_option maxHeartbeats 1000000 in
theorem new_nil (w : World) : Calls Try.prog 6 #[.pointer none] w fun e w' => e = .returned (.tuple #[.pointer none, .int .i64 15]) ∧ Below w.heap.size w w' := by
  have HB := thid (tbelow w (.cells #[.pointer none, .int .i64 0, .int .i64 0, .int .i64 0] 46))
  have HC := thid (change_nil (w := w.alloc (.cells #[.pointer none, .int .i64 0, .int .i64 0, .int .i64 0] 46)) (heap_alloc_new _ _))
  have hmf : ∀ (fn : Fn) (first cap : Array Value) (w : World), (Instr.makeFunc fn first cap).run Try.prog w = .ok (.func fn first cap) w := fun _ _ _ _ => rfl
  go_enter Try.func6, Try.ntmps6
  go_wp2_with fail
  refine HC.out.mono ?_
  rintro e w1 ⟨rfl, B1⟩
  have HF := thid (tbelow_on HB.out B1)
  clear HC HB hmf B1
  go_wp2
  refine bodyPost_ret (v := .tuple #[.pointer none, .int .i64 15]) (by simp [results, Try.results6, go_sem]) rfl ⟨rfl, HF.out⟩
end Go.Proofs.Ytmochjhhmahokab
/-
  Tree: calls that stop, nothing taken.
-/
namespace Go.Proofs.Ytmochjhhmahokab
open Go.RowKit
open L4 (Ar ArP Abs arV nv)
open L1 (stopped faultV Came undoW)

attribute [local go_sem] Oper.semAt_some in
set_option maxRecDepth 100000 in
set_option maxHeartbeats 1000000 in
theorem back_none {w : World} {x t xr xh xl : Nat} {ld gn : Value} (k : EdC w x t xr xh xl (.slice none 0 0) ld gn) : Calls Try.prog 29 #[.pointer (some ⟨x, 0, none⟩)] w fun e w' => e = .returned (.tuple #[]) ∧ Below w.heap.size w w' := by
  obtain ⟨d0, d1, d2, d3, d4, d5, d6, dl, df⟩ := k.cells
  clear k
  refine (callsIn_wide (n := 5)).1 ?_
  refine callsIn_of_wp_marks Try.func29 rfl trivial ?_ rfl
  simp only [Try.ntmps29, List.size_toArray, List.length_cons, List.length_nil, Nat.reduceAdd, Nat.reduceSub, Array.replicate_succ, Array.replicate_zero, List.push_toArray, List.append_toArray, List.nil_append, List.cons_append]
  gi_wp2_with fail
  refine ⟨trivial, (callsIn_wide.2 bwd_nil).mono ?_⟩
  rintro e w2 ⟨rfl, hc2, hl2, B2⟩
  have hz : (w.alloc (.cells #[.pointer (some ⟨x, 0, none⟩)] 48)).heap.size = w.heap.size + 1 := by simp
  have HB2 := thid (tbelow_on (tbelow w _) B2)
  rw [hz] at hc2 hl2 ⊢
  clear B2
  gi_wp2_with fail
  refine wpIn_rangeFunc_ownF (α := Empty) rfl (by omega) (gf := 66) (lb := #[.pointer (some ⟨w.heap.size + 1, 0, none⟩)]) rfl trivial (enters_of Try.func66 (by kernel_rfl) rfl)
    (encs := fun x => x.elim) (Kp := fun _ _ => True) (S := fun xs => xs = []) (Sp := fun _ => False) (N := 0) (w0 := w2) (fun l J Jx W hW _ _ _ h0 => ?seq) (fun _ _ => trivial) (fun _ _ _ _ _ _ _ _ => trivial) (Below.refl _ _) (fun x => x.elim)
    (fun _ W => Below w.heap.size w W) (fun _ _ _ => False) (ownFrom_below (Nat.le_refl _) HB2.out.size) (fun _ _ _ _ _ hs _ _ => hs) HB2.out (fun x => x.elim) ?assign ?body ?done ?stop
  case seq =>
    refine (callsIn_wide.2 (bwd1_nil ((hW.cell (p := ⟨w.heap.size + 1, 0, none⟩) hl2).trans hc2) (Nat.lt_of_lt_of_le hl2 hW.size))).mono ?_
    rintro e W' ⟨rfl, rfl⟩
    exact ⟨⟨_, rfl⟩, .inl ⟨[], rfl, h0⟩⟩
  case assign => exact fun _ x => x.elim
  case body => exact fun _ _ x => x.elim
  case done =>
    rintro D ys W hD rfl hB hK
    gi_wp2
    refine ⟨by simp, .inl ⟨_, _, rfl, run_takeDeferred hK, ?_⟩⟩
    exact ⟨_, results_none rfl _ _ _, rfl, hB.trans (belowK_b (w := w) (Nat.le_refl _) W D _ _ (by have := HB2.out.size; omega) hK rfl rfl)⟩
  case stop =>
    rintro D c pre W _ h _ _
    exact h.elim

set_option maxRecDepth 100000 in
set_option maxHeartbeats 1000000 in
theorem change1_stop {w : World} {x b0 b2 : Nat} {c : Int} {g : FuncId} {cap : Array Value} (hg : ∀ args w, (callFunc g args).run Try.prog w = .ok (.enter g args) w) (h0 : w.cell? ⟨b0, 0, none⟩ = some (.func (.func g) #[] cap)) (h2 : w.cell? ⟨b2, 0, none⟩ = some (.pointer (some ⟨x, 0, none⟩))) (H : Calls Try.prog g (#[.pointer (some ⟨x, 0, none⟩)] ++ cap) w fun e w1 => e = .panicked (stopped c 0) ∧ Below w.heap.size w w1) : Calls Try.prog 27 #[.pointer (some ⟨b0, 0, none⟩), .pointer (some ⟨b2, 0, none⟩)] w fun e w' => e = .panicked (stopped c 0) ∧ Below w.heap.size w w' := by
  have HT := thid H
  clear H
  go_enter Try.func27, Try.ntmps27
  go_wp2_with fail
  refine HT.out.mono ?_
  rintro e w2 ⟨rfl, B2⟩
  exact ⟨rfl, rfl, B2⟩

set_option maxRecDepth 100000 in
set_option maxHeartbeats 1000000 in
theorem change_stop {s : Ar} {t r h l : Nat} {c : Int} {w : World} (hA : ArP s w) (ht : TrC w t s.p r h l) (g : FuncId) (hg : ∀ args w, (callFunc g args).run Try.prog w = .ok (.enter g args) w) (cap : Array Value)
    (H : ∀ (x : Nat) (W : World), w.heap.size ≤ x → Below w.heap.size w W → Es W.heap.size s t x r h l r h l (.slice none 0 0) (.slice none 0 0) (.slice none 0 0) [] [] [] W → Calls Try.prog g (#[.pointer (some ⟨x, 0, none⟩)] ++ cap) W fun e w1 => e = .panicked (stopped c 0) ∧ Below W.heap.size W w1) :
    Calls Try.prog 14 #[.pointer (some ⟨t, 0, none⟩), .func (.func g) #[] cap] w fun e w' => e = .returned (.int .i64 c) ∧ Below w.heap.size w w' := by
  obtain ⟨c0, c1, c2, c3, ct, cf⟩ := ht.cells
  have HA := thid hA
  have HT := thid ht
  have HH := thid H
  clear hA ht H
  have hmf : ∀ (fn : Fn) (first cap : Array Value) (w : World), (Instr.makeFunc fn first cap).run Try.prog w = .ok (.func fn first cap) w := fun _ _ _ _ => rfl
  go_enter Try.func14, Try.ntmps14
  go_wp2_with fail
  have B3 : Below w.heap.size w (((w.alloc (.cells #[.func (.func g) #[] cap] 55)).alloc (.cells #[.pointer (some ⟨t, 0, none⟩), .int .i64 (r : Int), .int .i64 (h : Int), .int .i64 (l : Int), .slice none 0 0, .slice none 0 0, .slice none 0 0] 51)).alloc (.cells #[.pointer (some ⟨w.heap.size + 1, 0, none⟩)] 48)) := ((tbelow w _).alloc (by simp) _).alloc (by simp; omega) _
  have z3 : (((w.alloc (.cells #[.func (.func g) #[] cap] 55)).alloc (.cells #[.pointer (some ⟨t, 0, none⟩), .int .i64 (r : Int), .int .i64 (h : Int), .int .i64 (l : Int), .slice none 0 0, .slice none 0 0, .slice none 0 0] 51)).alloc (.cells #[.pointer (some ⟨w.heap.size + 1, 0, none⟩)] 48)).heap.size = w.heap.size + 3 := by simp
  have k0 : (((w.alloc (.cells #[.func (.func g) #[] cap] 55)).alloc (.cells #[.pointer (some ⟨t, 0, none⟩), .int .i64 (r : Int), .int .i64 (h : Int), .int .i64 (l : Int), .slice none 0 0, .slice none 0 0, .slice none 0 0] 51)).alloc (.cells #[.pointer (some ⟨w.heap.size + 1, 0, none⟩)] 48)).cell? ⟨w.heap.size, 0, none⟩ = some (.func (.func g) #[] cap) := by simp [go_sem]
  have k1 : EdC (((w.alloc (.cells #[.func (.func g) #[] cap] 55)).alloc (.cells #[.pointer (some ⟨t, 0, none⟩), .int .i64 (r : Int), .int .i64 (h : Int), .int .i64 (l : Int), .slice none 0 0, .slice none 0 0, .slice none 0 0] 51)).alloc (.cells #[.pointer (some ⟨w.heap.size + 1, 0, none⟩)] 48)) (w.heap.size + 1) t r h l (.slice none 0 0) (.slice none 0 0) (.slice none 0 0) := by
    have h1 := heap_alloc_new (w.alloc (.cells #[.func (.func g) #[] cap] 55)) (.cells #[.pointer (some ⟨t, 0, none⟩), .int .i64 (r : Int), .int .i64 (h : Int), .int .i64 (l : Int), .slice none 0 0, .slice none 0 0, .slice none 0 0] 51)
    rw [show (w.alloc (.cells #[.func (.func g) #[] cap] 55)).heap.size = w.heap.size + 1 by simp] at h1
    exact ((tbelow _ _).block _ (by simp)).trans h1
  have k2 : (((w.alloc (.cells #[.func (.func g) #[] cap] 55)).alloc (.cells #[.pointer (some ⟨t, 0, none⟩), .int .i64 (r : Int), .int .i64 (h : Int), .int .i64 (l : Int), .slice none 0 0, .slice none 0 0, .slice none 0 0] 51)).alloc (.cells #[.pointer (some ⟨w.heap.size + 1, 0, none⟩)] 48)).cell? ⟨w.heap.size + 1 + 1, 0, none⟩ = some (.pointer (some ⟨w.heap.size + 1, 0, none⟩)) := by simp [go_sem]
  have HB3 := thid B3
  have HK1 := thid k1
  clear B3 k1 c0 c1 c2 c3 cf hmf
  generalize ((w.alloc (.cells #[.func (.func g) #[] cap] 55)).alloc (.cells #[.pointer (some ⟨t, 0, none⟩), .int .i64 (r : Int), .int .i64 (h : Int), .int .i64 (l : Int), .slice none 0 0, .slice none 0 0, .slice none 0 0] 51)).alloc (.cells #[.pointer (some ⟨w.heap.size + 1, 0, none⟩)] 48) = W at *
  have HU := thid (L1.below_catchW W : Below W.heap.size W (undoW W))
  have HBU := thid (HB3.out.trans (HU.out.mono HB3.out.size))
  have HE : Hid (Es (undoW W).heap.size s t (w.heap.size + 1) r h l r h l (.slice none 0 0) (.slice none 0 0) (.slice none 0 0) [] [] [] (undoW W)) :=
    ⟨L4.arSt.below HA.out HBU.out, HT.out.on HBU.out, HK1.out.on HU.out, Nat.le_refl _, ⟨rfl, Or.inl ⟨rfl, rfl⟩⟩, ⟨rfl, Or.inl ⟨rfl, rfl⟩⟩, ⟨rfl, Or.inl ⟨rfl, rfl⟩⟩, fun y hy => by simp at hy, fun y hy => by simp at hy, fun k _ => ⟨by simp [Value.ownBlock], by simp [Value.ownBlock], fun y hy => by simp at hy⟩, fun k hk => by simp [Value.ownBlock] at hk, fun k hk => by simp [Value.ownBlock] at hk⟩
  have HG := thid (HH.out (w.heap.size + 1) (undoW W) (by omega) HBU.out HE.out)
  refine (L4.undo_st nothing 27 (fun _ _ => rfl) _ 29 (fun _ _ => rfl) _ W () trivial (fun e _ => e = .panicked (stopped c 0)) (fun _ e _ => e = .returned (.tuple #[])) ?_ ?_).mono ?_
  · refine (change1_stop hg ((HU.out.cell (p := ⟨w.heap.size, 0, none⟩) (by show w.heap.size < W.heap.size; omega)).trans k0) ((HU.out.cell (p := ⟨w.heap.size + 1 + 1, 0, none⟩) (by show w.heap.size + 1 + 1 < W.heap.size; omega)).trans k2) HG.out).mono ?_
    rintro e w1 ⟨rfl, B⟩
    exact ⟨(), rfl, trivial, nothing_moves B, _, _, _, .stop c 0⟩
  · intro W2 s' c' a _ _ hm
    refine (back_none (HK1.out.on (nothing_below hm))).mono ?_
    rintro e w1 ⟨rfl, B⟩
    exact ⟨(), rfl, trivial, nothing_moves B, _, _, _, .done⟩
  · rintro e w2 ⟨_, _, hm, hh⟩
    have HB4 := thid (tbelow_on HB3.out (nothing_below hm))
    have he : e = .returned (faultV c 0) := by
      rcases hh with ⟨h, _⟩ | ⟨c', a, s1, e2, c2, a2, t2, h1, h2, h3, rfl⟩
      · cases h
      · obtain ⟨rfl, rfl⟩ := stopped_inj h1
        subst h2
        cases h3
        rfl
    subst he
    clear hh hm HE HU HB3 HK1 k0 k2 HT HA HH HG HBU
    simp only [faultV]
    have ff := fun w => ffield c 0 w
    go_wp2
    refine bodyPost_ret (v := .int .i64 c) (by simp [results, Try.results14, go_sem]) rfl ⟨rfl, HB4.out⟩

end Go.Proofs.Ytmochjhhmahokab
/-
  Tree: calls on a tree of one leaf that stop.
-/
namespace Go.Proofs.Ytmochjhhmahokab
open Go.RowKit
open L4 (Ar ArP Abs arV nv)
open L1 (stopped)

set_option maxRecDepth 100000 in
set_option maxHeartbeats 1000000 in
theorem insert_there {N : Nat} {s : Ar} {t x r l : Nat} {nd : L5.No} {k : ByteArray} {w : World} (hE : Es N s t x r 1 l r 1 l (.slice none 0 0) (.slice none 0 0) (.slice none 0 0) [] [] [] w) (ho : s.abs.Ok) (hn : s.abs.at (r : Int) = some (L5.pageL nd.toNd)) (hs : nd.shaped = true) (hz : nd.size ≤ 1024) (hlf : nd.leaf = true) (hsm : nd.small) (hno : L5.isAt nd.recs k (nd.recs.countP (L5.ltB k)) = true) :
    Calls Try.prog 20 #[.pointer (some ⟨x, 0, none⟩), .string k] w fun e w1 => e = .panicked (stopped 3 0) ∧ Below w.heap.size w w1 := by
  have HE := thid hE
  obtain ⟨d0, d1, d2, d3, d4, d5, d6, dl, df⟩ := hE.ed.cells
  have HWY := thid (way_ok (k := k) hE.ar ho hE.tr hn hs hz hlf)
  clear hE
  go_enter Try.func20, Try.ntmps20
  go_wp2_with fail
  refine HWY.out.mono ?_
  rintro e w1 ⟨a, c, a', c', b, cp, rfl, o0, o1, o2, B1⟩
  have HO0 := thid o0
  have HO1 := thid o1
  have HO2 := thid o2
  have HB1 := thid B1
  have HE1 := thid (HE.out.below B1)
  clear HWY o0 o1 o2 B1 d0 d1 d2 d3 d4 d5 d6 dl df
  obtain ⟨d0, d1, d2, d3, d4, d5, d6, dl, df⟩ := HE1.out.ed.cells
  rw [show (Value.bool true) = .bool nd.leaf by rw [hlf]] at HO0
  obtain ⟨hW1, _, _⟩ := way1_of HO0.out
  have HW1 := thid hW1
  obtain ⟨lb, hcp, q0, q1, q2, q3, q4⟩ := hW1
  have HFN := thid (L5.find_walk (n := nd) (L5.NR.mk (L5.owns_rd_slice HO1.out) (L5.owns_rd_slice HO2.out)) hsm.recs k)
  rw [hno] at HFN
  clear HO0
  have HLE := thid hlf
  clear hlf
  unfold L5.nodeV at HFN
  go_wp2_with fail
  refine HFN.out.mono ?_
  rintro e w2 ⟨rfl, B2⟩
  have HB2 := thid B2
  have HE2 := thid (HE1.out.below B2)
  have HW2 := thid (HW1.out.on B2)
  have HP1 := thid (L5.owns_below HO1.out B2)
  have HP2 := thid (L5.owns_below HO2.out B2)
  have HBB := thid (tbelow_on HB1.out HB2.out)
  clear HFN HO1 HO2 HW1 HE1 B2 lb hcp q0 q1 q2 q3 q4 d0 d1 d2 d3 d4 d5 d6 dl df HE2 HW2 HP1 HP2 HB1 HB2
  go_wp2_with fail
  refine (L1.check_no 3 (by decide) _).mono ?_
  rintro e w3 ⟨rfl, rfl⟩
  exact ⟨rfl, rfl, HBB.out⟩

set_option maxRecDepth 100000 in
set_option maxHeartbeats 1000000 in
theorem delete_absent {N : Nat} {s : Ar} {t x r l : Nat} {nd : L5.No} {k : ByteArray} {w : World} (hE : Es N s t x r 1 l r 1 l (.slice none 0 0) (.slice none 0 0) (.slice none 0 0) [] [] [] w) (ho : s.abs.Ok) (hn : s.abs.at (r : Int) = some (L5.pageL nd.toNd)) (hs : nd.shaped = true) (hz : nd.size ≤ 1024) (hlf : nd.leaf = true) (hsm : nd.small) (hno : L5.isAt nd.recs k (nd.recs.countP (L5.ltB k)) = false) :
    Calls Try.prog 25 #[.pointer (some ⟨x, 0, none⟩), .string k] w fun e w1 => e = .panicked (stopped 2 0) ∧ Below w.heap.size w w1 := by
  have HE := thid hE
  obtain ⟨d0, d1, d2, d3, d4, d5, d6, dl, df⟩ := hE.ed.cells
  have HWY := thid (way_ok (k := k) hE.ar ho hE.tr hn hs hz hlf)
  clear hE
  go_enter Try.func25, Try.ntmps25
  go_wp2_with fail
  refine HWY.out.mono ?_
  rintro e w1 ⟨a, c, a', c', b, cp, rfl, o0, o1, o2, B1⟩
  have HO0 := thid o0
  have HO1 := thid o1
  have HO2 := thid o2
  have HB1 := thid B1
  have HE1 := thid (HE.out.below B1)
  clear HWY o0 o1 o2 B1 d0 d1 d2 d3 d4 d5 d6 dl df
  obtain ⟨d0, d1, d2, d3, d4, d5, d6, dl, df⟩ := HE1.out.ed.cells
  rw [show (Value.bool true) = .bool nd.leaf by rw [hlf]] at HO0
  obtain ⟨hW1, _, _⟩ := way1_of HO0.out
  have HW1 := thid hW1
  obtain ⟨lb, hcp, q0, q1, q2, q3, q4⟩ := hW1
  have HFN := thid (L5.find_walk (n := nd) (L5.NR.mk (L5.owns_rd_slice HO1.out) (L5.owns_rd_slice HO2.out)) hsm.recs k)
  rw [hno] at HFN
  clear HO0
  have HLE := thid hlf
  clear hlf
  unfold L5.nodeV at HFN
  go_wp2_with fail
  refine HFN.out.mono ?_
  rintro e w2 ⟨rfl, B2⟩
  have HB2 := thid B2
  have HE2 := thid (HE1.out.below B2)
  have HW2 := thid (HW1.out.on B2)
  have HP1 := thid (L5.owns_below HO1.out B2)
  have HP2 := thid (L5.owns_below HO2.out B2)
  have HBB := thid (tbelow_on HB1.out HB2.out)
  clear HFN HO1 HO2 HW1 HE1 B2 lb hcp q0 q1 q2 q3 q4 d0 d1 d2 d3 d4 d5 d6 dl df HE2 HW2 HP1 HP2 HB1 HB2
  go_wp2_with fail
  refine (L1.check_no 2 (by decide) _).mono ?_
  rintro e w3 ⟨rfl, rfl⟩
  exact ⟨rfl, rfl, HBB.out⟩

set_option maxRecDepth 100000 in
set_option maxHeartbeats 1000000 in
theorem insert_quota {N : Nat} {s : Ar} {t x r l : Nat} {nd : L5.No} {k : ByteArray} {w : World} (hE : Es N s t x r 1 l r 1 l (.slice none 0 0) (.slice none 0 0) (.slice none 0 0) [] [] [] w) (ho : s.abs.Ok) (hn : s.abs.at (r : Int) = some (L5.pageL nd.toNd)) (hs : nd.shaped = true) (hz : nd.size ≤ 1024) (hlf : nd.leaf = true) (hsm : nd.small) (hno : L5.isAt nd.recs k (nd.recs.countP (L5.ltB k)) = false) (hl : s.abs.left < 2) :
    Calls Try.prog 20 #[.pointer (some ⟨x, 0, none⟩), .string k] w fun e w1 => e = .panicked (stopped 9 0) ∧ Below w.heap.size w w1 := by
  have HE := thid hE
  obtain ⟨d0, d1, d2, d3, d4, d5, d6, dl, df⟩ := hE.ed.cells
  have HWY := thid (way_ok (k := k) hE.ar ho hE.tr hn hs hz hlf)
  clear hE
  go_enter Try.func20, Try.ntmps20
  go_wp2_with fail
  refine HWY.out.mono ?_
  rintro e w1 ⟨a, c, a', c', b, cp, rfl, o0, o1, o2, B1⟩
  have HO0 := thid o0
  have HO1 := thid o1
  have HO2 := thid o2
  have HB1 := thid B1
  have HE1 := thid (HE.out.below B1)
  clear HWY o0 o1 o2 B1 d0 d1 d2 d3 d4 d5 d6 dl df
  obtain ⟨d0, d1, d2, d3, d4, d5, d6, dl, df⟩ := HE1.out.ed.cells
  rw [show (Value.bool true) = .bool nd.leaf by rw [hlf]] at HO0
  obtain ⟨hW1, _, _⟩ := way1_of HO0.out
  have HW1 := thid hW1
  obtain ⟨lb, hcp, q0, q1, q2, q3, q4⟩ := hW1
  have HFN := thid (L5.find_walk (n := nd) (L5.NR.mk (L5.owns_rd_slice HO1.out) (L5.owns_rd_slice HO2.out)) hsm.recs k)
  rw [hno] at HFN
  clear HO0
  have HLE := thid hlf
  clear hlf
  unfold L5.nodeV at HFN
  go_wp2_with fail
  refine HFN.out.mono ?_
  rintro e w2 ⟨rfl, B2⟩
  have HB2 := thid B2
  have HE2 := thid (HE1.out.below B2)
  have HW2 := thid (HW1.out.on B2)
  have HP1 := thid (L5.owns_below HO1.out B2)
  have HP2 := thid (L5.owns_below HO2.out B2)
  clear HFN HO1 HO2 HW1 HE1 B2 lb hcp q0 q1 q2 q3 q4 d0 d1 d2 d3 d4 d5 d6 dl df
  have x0 : ∀ q : L4.BelowW w2, q.w.cell? ⟨x, 0, none⟩ = some (.pointer (some ⟨t, 0, none⟩)) := fun q => (HE2.out.below q.below).ed.cells.1
  have x2 : ∀ q : L4.BelowW w2, q.w.cell? ⟨x, 2, none⟩ = some (.int .i64 1) := fun q => (HE2.out.below q.below).ed.cells.2.2.1
  have y0 : ∀ q : L4.BelowW w2, q.w.cell? ⟨t, 0, none⟩ = some (.pointer (some ⟨s.p, 0, none⟩)) := fun q => (HE2.out.below q.below).tr.cells.1
  have HL : ∀ q : L4.BelowW w2, Calls Try.prog 34 #[.pointer (some ⟨s.p, 0, none⟩)] q.w fun e w' => e = .returned (.int .i64 (s.abs.left : Int)) ∧ Below q.w.heap.size q.w w' := fun q => L4.left_walk (HE2.out.below q.below).ar ho
  have hl2 : decide ((s.abs.left : Int) < 2) = true := by simp; omega
  obtain ⟨i, hi⟩ : ∃ i, Hid (nd.recs.countP (L5.ltB k) = i) := ⟨_, rfl⟩
  rw [hi.out]
  go_wp2_with fail
  refine L4.wp_region_below (by kernel_rfl) (by kernel_rfl) (fun _ => ?_)
  repeat (go_big_quiet_step (first | (go_at_call 34; exact L4.quiet_of_below (HL _))))
  refine wpQuiet_nil ?_
  rintro _ ⟨q, rfl⟩
  have HBB := thid (tbelow_on (tbelow_on HB1.out HB2.out) q.below)
  generalize q.w = w3 at *
  clear x0 x2 y0 HL HE2 HW2 HP1 HP2 HB2 HB1 q
  go_wp2_with fail
  refine (L1.check_no 9 (by decide) _).mono ?_
  rintro e w4 ⟨rfl, rfl⟩
  exact ⟨rfl, rfl, HBB.out⟩

end Go.Proofs.Ytmochjhhmahokab
/-
  Tree: Insert and Delete that stop.
-/
namespace Go.Proofs.Ytmochjhhmahokab
open Go.RowKit
open L4 (Ar ArP Abs arV nv)
open L1 (stopped)

set_option maxRecDepth 100000 in
set_option maxHeartbeats 1000000 in
theorem tinsert1_stop {x b : Nat} {k : ByteArray} {c : Int} {w : World} (hc : w.cell? ⟨b, 0, none⟩ = some (.string k)) (H : Calls Try.prog 20 #[.pointer (some ⟨x, 0, none⟩), .string k] w fun e w1 => e = .panicked (stopped c 0) ∧ Below w.heap.size w w1) :
    Calls Try.prog 19 #[.pointer (some ⟨x, 0, none⟩), .pointer (some ⟨b, 0, none⟩)] w fun e w1 => e = .panicked (stopped c 0) ∧ Below w.heap.size w w1 := by
  have HH := thid H
  clear H
  go_enter Try.func19, Try.ntmps19
  go_wp2_with fail
  refine HH.out.mono ?_
  rintro e w1 ⟨rfl, hR⟩
  exact ⟨rfl, rfl, hR⟩

set_option maxRecDepth 100000 in
set_option maxHeartbeats 1000000 in
/-- A call that stops, nothing taken: its code is answered, nothing turns. -/
theorem tinsert_stop {s : Ar} {t r h l : Nat} {k : ByteArray} {c : Int} {w : World} (hA : ArP s w) (ht : TrC w t s.p r h l) (hr : r ≠ 0) (hk1 : 1 ≤ k.size) (hk2 : k.size ≤ 400)
    (H : ∀ (x : Nat) (W : World), Es W.heap.size s t x r h l r h l (.slice none 0 0) (.slice none 0 0) (.slice none 0 0) [] [] [] W → Calls Try.prog 20 #[.pointer (some ⟨x, 0, none⟩), .string k] W fun e w1 => e = .panicked (stopped c 0) ∧ Below W.heap.size W w1) :
    Calls Try.prog 7 #[.pointer (some ⟨t, 0, none⟩), .string k] w fun e w' => e = .returned (.int .i64 c) ∧ Below w.heap.size w w' := by
  have HB1 := thid (tbelow w (.cells #[.string k] 9))
  have HA1 := thid (L4.arSt.below hA HB1.out)
  have HT1 := thid (ht.on HB1.out)
  have hc1 : (w.alloc (.cells #[.string k] 9)).cell? ⟨w.heap.size, 0, none⟩ = some (.string k) := by simp [go_sem]
  have HOV := thid (over_ok HT1.out hr)
  have HH := thid H
  clear hA ht H
  have hmf : ∀ (fn : Fn) (first cap : Array Value) (w : World), (Instr.makeFunc fn first cap).run Try.prog w = .ok (.func fn first cap) w := fun _ _ _ _ => rfl
  go_enter Try.func7, Try.ntmps7
  go_wp2_with fail
  refine HOV.out.mono ?_
  rintro e w2 ⟨rfl, B2⟩
  have hl2 : w.heap.size < (w.alloc (.cells #[.string k] 9)).heap.size := by simp
  have hc2 := (B2.cell (p := ⟨w.heap.size, 0, none⟩) hl2).trans hc1
  have HB2 := thid (tbelow_on HB1.out B2)
  have HA2 := thid (L4.arSt.below HA1.out B2)
  have HT2 := thid (HT1.out.on B2)
  have hl3 : w.heap.size < w2.heap.size := Nat.lt_of_lt_of_le hl2 B2.size
  clear HOV B2 HA1 HT1 HB1 hc1 hl2
  have he : k.toList.isEmpty = false := by rw [L5.isEmpty_size]; exact decide_eq_false (by omega)
  have hk4 : decide (400 < (k.size : Int)) = false := by simp; omega
  have HC := thid (change_stop HA2.out HT2.out 19 (fun _ _ => rfl) #[.pointer (some ⟨w.heap.size, 0, none⟩)] (fun x W _ hb hE => by
    have hcW := (hb.cell (p := ⟨w.heap.size, 0, none⟩) hl3).trans hc2
    simpa using tinsert1_stop hcW (HH.out x W hE)))
  clear HA2 HT2 HH
  go_wp2_with fail
  refine HC.out.mono ?_
  rintro e w3 ⟨rfl, B3⟩
  have HF := thid (tbelow_on HB2.out B3)
  clear HC HB2 hmf B3
  go_wp2
  go_ret
  exact ⟨rfl, HF.out⟩

set_option maxRecDepth 100000 in
set_option maxHeartbeats 1000000 in
theorem tdelete1_stop {x b : Nat} {k : ByteArray} {c : Int} {w : World} (hc : w.cell? ⟨b, 0, none⟩ = some (.string k)) (H : Calls Try.prog 25 #[.pointer (some ⟨x, 0, none⟩), .string k] w fun e w1 => e = .panicked (stopped c 0) ∧ Below w.heap.size w w1) :
    Calls Try.prog 24 #[.pointer (some ⟨x, 0, none⟩), .pointer (some ⟨b, 0, none⟩)] w fun e w1 => e = .panicked (stopped c 0) ∧ Below w.heap.size w w1 := by
  have HH := thid H
  clear H
  go_enter Try.func24, Try.ntmps24
  go_wp2_with fail
  refine HH.out.mono ?_
  rintro e w1 ⟨rfl, hR⟩
  exact ⟨rfl, rfl, hR⟩

set_option maxRecDepth 100000 in
set_option maxHeartbeats 1000000 in
/-- A call that stops, nothing taken: its code is answered, nothing turns. -/
theorem tdelete_stop {s : Ar} {t r h l : Nat} {k : ByteArray} {c : Int} {w : World} (hA : ArP s w) (ht : TrC w t s.p r h l) (hr : r ≠ 0)
    (H : ∀ (x : Nat) (W : World), Es W.heap.size s t x r h l r h l (.slice none 0 0) (.slice none 0 0) (.slice none 0 0) [] [] [] W → Calls Try.prog 25 #[.pointer (some ⟨x, 0, none⟩), .string k] W fun e w1 => e = .panicked (stopped c 0) ∧ Below W.heap.size W w1) :
    Calls Try.prog 11 #[.pointer (some ⟨t, 0, none⟩), .string k] w fun e w' => e = .returned (.int .i64 c) ∧ Below w.heap.size w w' := by
  have HB1 := thid (tbelow w (.cells #[.string k] 9))
  have HA1 := thid (L4.arSt.below hA HB1.out)
  have HT1 := thid (ht.on HB1.out)
  have hc1 : (w.alloc (.cells #[.string k] 9)).cell? ⟨w.heap.size, 0, none⟩ = some (.string k) := by simp [go_sem]
  have HOV := thid (over_ok HT1.out hr)
  have HH := thid H
  clear hA ht H
  have hmf : ∀ (fn : Fn) (first cap : Array Value) (w : World), (Instr.makeFunc fn first cap).run Try.prog w = .ok (.func fn first cap) w := fun _ _ _ _ => rfl
  go_enter Try.func11, Try.ntmps11
  go_wp2_with fail
  refine HOV.out.mono ?_
  rintro e w2 ⟨rfl, B2⟩
  have hl2 : w.heap.size < (w.alloc (.cells #[.string k] 9)).heap.size := by simp
  have hc2 := (B2.cell (p := ⟨w.heap.size, 0, none⟩) hl2).trans hc1
  have HB2 := thid (tbelow_on HB1.out B2)
  have HA2 := thid (L4.arSt.below HA1.out B2)
  have HT2 := thid (HT1.out.on B2)
  have hl3 : w.heap.size < w2.heap.size := Nat.lt_of_lt_of_le hl2 B2.size
  clear HOV B2 HA1 HT1 HB1 hc1 hl2
  have HC := thid (change_stop HA2.out HT2.out 24 (fun _ _ => rfl) #[.pointer (some ⟨w.heap.size, 0, none⟩)] (fun x W _ hb hE => by
    have hcW := (hb.cell (p := ⟨w.heap.size, 0, none⟩) hl3).trans hc2
    simpa using tdelete1_stop hcW (HH.out x W hE)))
  clear HA2 HT2 HH
  go_wp2_with fail
  refine HC.out.mono ?_
  rintro e w3 ⟨rfl, B3⟩
  have HF := thid (tbelow_on HB2.out B3)
  clear HC HB2 hmf B3
  go_wp2
  go_ret
  exact ⟨rfl, HF.out⟩

set_option maxRecDepth 100000 in
set_option maxHeartbeats 1000000 in
/-- Insert of no entry, or of one that is too long. -/
theorem tinsert_arg {s : Ar} {t r h l : Nat} {k : ByteArray} {w : World} (ht : TrC w t s.p r h l) (hr : r ≠ 0) (hk : k.size = 0 ∨ 400 < k.size) :
    Calls Try.prog 7 #[.pointer (some ⟨t, 0, none⟩), .string k] w fun e w' => e = .returned (.int .i64 15) ∧ Below w.heap.size w w' := by
  have HB1 := thid (tbelow w (.cells #[.string k] 9))
  have HT1 := thid (ht.on HB1.out)
  have hc1 : (w.alloc (.cells #[.string k] 9)).cell? ⟨w.heap.size, 0, none⟩ = some (.string k) := by simp [go_sem]
  have HOV := thid (over_ok HT1.out hr)
  clear ht
  go_enter Try.func7, Try.ntmps7
  go_wp2_with fail
  refine HOV.out.mono ?_
  rintro e w2 ⟨rfl, B2⟩
  have hl2 : w.heap.size < (w.alloc (.cells #[.string k] 9)).heap.size := by simp
  have hc2 := (B2.cell (p := ⟨w.heap.size, 0, none⟩) hl2).trans hc1
  have HB2 := thid (tbelow_on HB1.out B2)
  have hl3 : w.heap.size < w2.heap.size := Nat.lt_of_lt_of_le hl2 B2.size
  clear HOV B2 HT1 HB1 hc1 hl2
  rcases hk with h | h
  · have h1 : k.toList.isEmpty = true := by rw [L5.isEmpty_size]; exact decide_eq_true h
    clear h
    go_wp2
    go_ret
    exact ⟨rfl, HB2.out⟩
  · have h1 : k.toList.isEmpty = false := by rw [L5.isEmpty_size]; exact decide_eq_false (by omega)
    have h2 : decide (400 < (k.size : Int)) = true := by simp; omega
    go_wp2
    go_ret
    exact ⟨rfl, HB2.out⟩
end Go.Proofs.Ytmochjhhmahokab
