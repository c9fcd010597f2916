/-
  Tree: Delete from a tree of one leaf.
-/
import Derived.Test.YtfdfamjajhmihaaGreatMAW
import Derived.Laws.EntriesVeiled
namespace Go.Proofs.YtfdfamjajhmihaaGreat
open Go.RowKit
open L4 (Ar ArP Abs arV nv)

set_option maxRecDepth 100000 in
set_option maxHeartbeats 1000000 in
theorem tdelete1 {x b : Nat} {k : ByteArray} {w : World} {R : World → Prop} (hc : w.cell? ⟨b, 0, none⟩ = some (.string k)) (H : Calls Tryz.prog 68 #[.pointer (some ⟨x, 0, none⟩), .string k] w fun e w1 => e = .returned (.tuple #[]) ∧ R w1) :
    Calls Tryz.prog 67 #[.pointer (some ⟨x, 0, none⟩), .pointer (some ⟨b, 0, none⟩)] w fun e w1 => e = .returned (.tuple #[]) ∧ R w1 := by
  have HH := thid H
  clear H
  go_enter Tryz.func67, Tryz.ntmps67
  go_wp2_with fail
  refine HH.out.mono ?_
  rintro e w1 ⟨rfl, hR⟩
  have HR := thid hR
  clear hR HH hc
  go_wp2
  go_end0
  exact ⟨rfl, HR.out⟩

set_option maxRecDepth 100000 in
set_option maxHeartbeats 1000000 in
theorem tdelete_one {s : Ar} {t r l : Nat} {nd : L5.No} {k : ByteArray} {w : World} (h1 : One s t r (l + 1) nd w)
    (hno : L5.isAt nd.recs k (nd.recs.countP (L5.ltB k)) = true) (hil : nd.recs.countP (L5.ltB k) < nd.recs.length) (hk0 : nd.kids.length ≠ 1) (h2 : (lessRec nd (nd.recs.countP (L5.ltB k))).small) (h3 : (lessRec nd (nd.recs.countP (L5.ltB k))).shaped = true) (h4 : (lessRec nd (nd.recs.countP (L5.ltB k))).size ≤ 1024) (hll : l ≤ 1000000) :
    Calls Tryz.prog 38 #[.pointer (some ⟨t, 0, none⟩), .string k] w fun e w' => e = .returned (.int .i64 0) ∧ TrHas s t (s.abs.lay r (some (L5.pageL (lessRec nd (nd.recs.countP (L5.ltB k))).toNd))) r 1 l w w' := by
  have HB1 := thid (tbelow w (.cells #[.string k] 9))
  have H1 := thid (h1.below HB1.out)
  have hc1 : (w.alloc (.cells #[.string k] 9)).cell? ⟨w.heap.size, 0, none⟩ = some (.string k) := by simp [go_sem]
  have HOV := thid (over_ok H1.out.tr H1.out.pos)
  clear h1
  have hmf : ∀ (fn : Fn) (first cap : Array Value) (w : World), (Instr.makeFunc fn first cap).run Tryz.prog w = .ok (.func fn first cap) w := fun _ _ _ _ => rfl
  go_enter Tryz.func38, Tryz.ntmps38
  go_wp2_with fail
  refine HOV.out.mono ?_
  rintro e w2 ⟨rfl, B2⟩
  have hl2 : w.heap.size < (w.alloc (.cells #[.string k] 9)).heap.size := by simp
  have hc2 := (B2.cell (p := ⟨w.heap.size, 0, none⟩) hl2).trans hc1
  have HB2 := thid (tbelow_on HB1.out B2)
  have H2 := thid (H1.out.below B2)
  have hl3 : w.heap.size < w2.heap.size := Nat.lt_of_lt_of_le hl2 B2.size
  clear HOV B2 H1 HB1 hc1 hl2
  have HC := thid (change_ok H2.out.ar H2.out.tr 67 (fun _ _ => rfl) #[.pointer (some ⟨w.heap.size, 0, none⟩)] (fun N x W _ hb hE => by
    have hcW := (hb.cell (p := ⟨w.heap.size, 0, none⟩) hl3).trans hc2
    simpa using tdelete1 hcW (delete_one hE H2.out.ok H2.out.at_ H2.out.shaped H2.out.size H2.out.leaf H2.out.small hno hil hk0 h2 h3 h4 hll)))
  clear H2 hno hil hk0 h2 h3 h4
  go_wp2_with fail
  refine HC.out.mono ?_
  rintro e w3 ⟨rfl, s', hp, hab, hok, hA3, hT3, hon, hown⟩
  have HF : Hid (TrHas s t (s.abs.lay r (some (L5.pageL (lessRec nd (nd.recs.countP (L5.ltB k))).toNd))) r 1 l w w3) := by
    refine ⟨s', hp, hab, hok, hA3, hT3, ?_, fun q hq => (hown q hq).imp id fun y => Nat.le_trans HB2.out.size y⟩
    exact ⟨hon.os.trans HB2.out.os, hon.tape.trans HB2.out.tape, hon.output.trans HB2.out.output, Nat.le_trans HB2.out.size hon.size, fun q hq hs => by
      rw [hon.block q (Nat.lt_of_lt_of_le hq HB2.out.size) hs]
      exact HB2.out.block q hq⟩
  clear hA3 hT3 hon hown HC HB2 hmf
  go_wp2
  go_ret
  exact ⟨rfl, HF.out⟩
end Go.Proofs.YtfdfamjajhmihaaGreat
/-
  Tree: telling a leaf's entries into a list.
-/
namespace Go.Proofs.YtfdfamjajhmihaaGreat
open Go.RowKit
open L4 (Ar ArP Abs arV nv)

/-- A list under way: its variable in block o, its row from B on. -/
structure Lst (B o : Nat) (v : Value) (xs : List ByteArray) (w : World) : Prop where
  blk : w.heap[o]? = some (.cells #[v] 33 (0, 0))
  row : w.ownsRow B 9 1 v xs.length (L5.svs xs)
  lt : o < B
  bs : B ≤ w.heap.size

theorem Lst.on {B o : Nat} {v : Value} {xs : List ByteArray} {w w' : World} (k : Lst B o v xs w) (hb : Below w.heap.size w w') : Lst B o v xs w' :=
  ⟨(hb.block _ (Nat.lt_of_lt_of_le k.lt k.bs)).trans k.blk, L5.owns_below k.row hb, k.lt, Nat.le_trans k.bs hb.size⟩

set_option maxRecDepth 100000 in
set_option maxHeartbeats 1000000 in
theorem all1_ok {B o : Nat} {v : Value} {xs : List ByteArray} {s : ByteArray} {w : World} (k : Lst B o v xs w) (hx : xs.length ≤ 100000) :
    Calls Tryz.prog 52 #[.string s, .pointer (some ⟨o, 0, none⟩)] w fun e w' => e = .returned (.bool true) ∧ ∃ v', Lst B o v' (xs ++ [s]) w' ∧ Only (fun q => q = o ∨ B ≤ q) w w' := by
  have HK := thid k
  have ol : o < w.heap.size := Nat.lt_of_lt_of_le k.lt k.bs
  have c0 : w.cell? ⟨o, 0, none⟩ = some v := by rw [cell_of_row _ _ _ _ _ _ k.blk]; rfl
  have hf : ∀ i, w.frozen? ⟨o, i, none⟩ = false := fun i => frozen_of_row _ _ _ _ _ k.blk
  obtain ⟨va, vc, rfl⟩ := own_slice k.row
  clear k
  go_enter Tryz.func52, Tryz.ntmps52
  have HB1 := thid (tbelow w (.cells #[.string s] 9))
  go_wp2_with (first
    | (at_builtin
       revert HB1)
    | fail)
  intro HB1
  have HK1 := thid (HK.out.on HB1.out)
  refine L5.append_row (z := .string ⟨#[]⟩) (by_ := 16) Tryz.underlying33 (by kernel_rfl) (by decide) rfl B HK1.out.bs rfl _ _ rfl (.slice va xs.length vc) xs.length (L5.svs xs) [.string s] rfl HK1.out.row (by omega) 1 (by omega) ⟨w.heap.size, 0, none⟩ 1 rfl rfl (fun i u hi => by
      rw [Addr.add_lit, cell_of_row _ _ _ _ _ _ (heap_alloc_new _ _)]
      simpa using hi) (fun u hu => by simp at hu; subst hu; rfl) ?_
  intro v' w5 hown hg hat
  have hno : (Value.slice va xs.length vc).ownBlock ≠ some o := fun e => by have := (HK1.out.row.lt o e).1; have := HK1.out.lt; omega
  have b5 : w5.heap[o]? = some (.cells #[.slice va xs.length vc] 33 (0, 0)) := (hg.block o (Nat.lt_of_lt_of_le ol HB1.out.size) (fun e => hno e.symm)).trans HK1.out.blk
  have c5 : w5.cell? ⟨o, 0, none⟩ = some (.slice va xs.length vc) := by rw [cell_of_row _ _ _ _ _ _ b5]; rfl
  have f5 : ∀ i, w5.frozen? ⟨o, i, none⟩ = false := fun i => frozen_of_row _ _ _ _ _ b5
  have l5 := (Array.getElem?_eq_some_iff.1 b5).1
  obtain ⟨ad, cp, rfl⟩ := L5.owns_at hown
  have HF : Hid (Lst B o (.slice ad (xs.length + 1) cp) (xs ++ [s]) (w5.setCell ⟨o, 0, none⟩ (.slice ad (xs.length + 1) cp)) ∧ Only (fun q => q = o ∨ B ≤ q) w (w5.setCell ⟨o, 0, none⟩ (.slice ad (xs.length + 1) cp))) := by
    refine ⟨⟨heap_setCell_same w5 o 0 _ _ _ b5, ?_, HK1.out.lt, ?_⟩, ⟨hg.os.trans HB1.out.os, hg.tape.trans HB1.out.tape, hg.output.trans HB1.out.output, ?_, fun q hq hs => ?_⟩⟩
    · have h1 := ownsRow_setCell_other hown (a := ⟨o, 0, none⟩) (row_ne b5 hown (by decide)) (.slice ad (xs.length + 1) cp)
      rw [List.length_append, show L5.svs (xs ++ [s]) = L5.svs xs ++ [.string s] by simp [L5.svs]]
      exact h1
    · have z1 := HK1.out.bs; have z2 := hg.size; simp [World.setCell]; omega
    · have z1 := HB1.out.size; have z2 := hg.size; simp [World.setCell]; omega
    · rw [heap_setCell_other _ _ _ _ (fun e => hs (Or.inl e)), hg.block q (Nat.lt_of_lt_of_le hq HB1.out.size) (fun e => hs (Or.inr (HK1.out.row.lt q e.symm).1)), HB1.out.block q hq]
  clear hown hg hat b5 HK HK1 HB1 c0 hf
  go_wp2
  go_ret
  exact ⟨rfl, _, HF.out⟩

/-- An Each's walk over everything into a list. -/
def WalkC (w : World) (k o : Nat) : Prop := w.heap[k]? = some (.cells #[.string ⟨#[]⟩, .string ⟨#[]⟩, .func (.func 52) #[] #[.pointer (some ⟨o, 0, none⟩)], .bool false] 115 (0, 0))

theorem WalkC.cells {w : World} {k o : Nat} (h : WalkC w k o) : w.cell? ⟨k, 0, none⟩ = some (.string ⟨#[]⟩) ∧ w.cell? ⟨k, 1, none⟩ = some (.string ⟨#[]⟩) ∧ w.cell? ⟨k, 2, none⟩ = some (.func (.func 52) #[] #[.pointer (some ⟨o, 0, none⟩)]) ∧ w.cell? ⟨k, 3, none⟩ = some (.bool false) ∧ k < w.heap.size := by
  refine ⟨?_, ?_, ?_, ?_, (Array.getElem?_eq_some_iff.1 h).1⟩ <;> rw [cell_of_row _ _ _ _ _ _ h] <;> rfl

set_option maxRecDepth 100000 in
set_option maxHeartbeats 1000000 in
theorem tell_ok {k o : Nat} {at_ : Int} {n : L5.No} {a : Option Addr} {c : Nat} {a' : Option Addr} {c' : Nat} {w : World} (hW : WalkC w k o) (ho : w.heap[o]? = some (.cells #[.slice none 0 0] 33 (0, 0))) (hr : L5.NR w n a c a' c') (hs : n.small) (hlf : n.leaf = true) :
    Calls Tryz.prog 60 #[.pointer (some ⟨k, 0, none⟩), .int .i64 at_, L5.nodeV n a c a' c'] w fun e w' => e = .returned (.tuple #[]) ∧ ∃ v', Lst w.heap.size o v' n.recs w' ∧ Only (fun q => q = o ∨ w.heap.size ≤ q) w w' := by
  obtain ⟨k0, k1, k2, k3, kl⟩ := hW.cells
  have ol := (Array.getElem?_eq_some_iff.1 ho).1
  have HW := thid hW
  have HO := thid ho
  have HR := thid hr
  have HR0 := thid hr
  have HW0 := thid hW
  have HO0 := thid ho
  have hko : k ≠ o := tag_ne hW ho (by decide)
  clear hW ho hr
  have HLF := thid hlf
  have HB1 := thid (tbelow w (.cells #[.bool n.leaf, .slice a n.recs.length c, .slice a' n.kids.length c'] 90))
  have a1 := heap_alloc_new w (.cells #[.bool n.leaf, .slice a n.recs.length c, .slice a' n.kids.length c'] 90)
  have h0 : n.recs.countP (L5.ltB ⟨#[]⟩) = 0 := by
    rw [List.countP_eq_zero]
    intro x _
    have e : L5.ltB ⟨#[]⟩ x = false := by
      unfold L5.ltB
      rw [List.isEmpty_iff.1 (show (ByteArray.mk #[]).toList.isEmpty = true by rw [L5.isEmpty_size]; rfl)]
      cases x.toList <;> rfl
    rw [e]
    decide
  unfold L5.nodeV
  go_enter Tryz.func60, Tryz.ntmps60
  have nlf : (w.alloc (.cells #[.bool n.leaf, .slice a n.recs.length c, .slice a' n.kids.length c'] 90)).cell? ⟨w.heap.size, 0, none⟩ = some (.bool true) := by rw [cell_of_row _ _ _ _ _ _ a1]; simp [hlf]
  clear hlf
  go_wp2_with fail
  clear nlf
  have hk : k < (w.alloc (.cells #[.bool n.leaf, .slice a n.recs.length c, .slice a' n.kids.length c'] 90)).heap.size := Nat.lt_of_lt_of_le kl HB1.out.size
  have HR1 := thid (HR.out.below HB1.out)
  have HW1 := thid ((HB1.out.block k kl).trans HW.out)
  have HO1 := thid ((HB1.out.block o ol).trans HO.out)
  clear k0 k1 k2 k3 HW HO HR
  generalize w.alloc (.cells #[.bool n.leaf, .slice a n.recs.length c, .slice a' n.kids.length c'] 90) = W at *
  have nl := (Array.getElem?_eq_some_iff.1 a1).1
  have HM := thid (fun q : L4.BelowW W => (q.below.block w.heap.size nl).trans a1)
  have HMW := thid (fun q : L4.BelowW W => ((q.below.block k hk).trans HW1.out : WalkC q.w k o))
  have y0 : ∀ q : L4.BelowW W, q.w.cell? ⟨w.heap.size, 0, none⟩ = some (.bool n.leaf) := fun q => by rw [cell_of_row _ _ _ _ _ _ (HM.out q)]; rfl
  have y1 : ∀ q : L4.BelowW W, q.w.cell? ⟨w.heap.size, 1, none⟩ = some (.slice a n.recs.length c) := fun q => by rw [cell_of_row _ _ _ _ _ _ (HM.out q)]; rfl
  have y2 : ∀ q : L4.BelowW W, q.w.cell? ⟨w.heap.size, 2, none⟩ = some (.slice a' n.kids.length c') := fun q => by rw [cell_of_row _ _ _ _ _ _ (HM.out q)]; rfl
  have x0 : ∀ q : L4.BelowW W, q.w.cell? ⟨k, 0, none⟩ = some (.string ⟨#[]⟩) := fun q => (WalkC.cells (HMW.out q)).1
  have HFN : ∀ q : L4.BelowW W, Calls Tryz.prog 51 #[.agg #[.bool n.leaf, .slice a n.recs.length c, .slice a' n.kids.length c'], .string ⟨#[]⟩] q.w fun e w' => e = .returned (.tuple #[.int .i64 0, .bool (L5.isAt n.recs ⟨#[]⟩ 0)]) ∧ Below q.w.heap.size q.w w' := fun q => by
    have := L5.find_walk (n := n) (HR1.out.below q.below) hs.recs ⟨#[]⟩
    rw [h0] at this
    exact this
  refine L4.wp_region_below (by kernel_rfl) (by kernel_rfl) (fun _ => ?_)
  repeat (go_big_quiet_step (first | (go_at_call 51; exact L4.quiet_of_below (HFN _))))
  refine wpQuiet_nil ?_
  rintro _ ⟨q, rfl⟩
  have HR2 := thid (HR1.out.below q.below)
  have HW2 := thid (HMW.out q)
  have HO2 := thid ((q.below.block o (Nat.lt_of_lt_of_le ol HB1.out.size)).trans HO1.out)
  have HB2 := thid (tbelow_on HB1.out q.below)
  have a2 := HM.out q
  generalize q.w = w2 at *
  clear HM HMW y0 y1 y2 x0 HFN q a1 HR1 HW1 HO1 hk nl HB1
  obtain ⟨k0, k1, k2, k3, kl2⟩ := WalkC.cells HW2.out
  have n1 : w2.cell? ⟨w.heap.size, 1, none⟩ = some (.slice a n.recs.length c) := by rw [cell_of_row _ _ _ _ _ _ a2]; rfl
  have nl := (Array.getElem?_eq_some_iff.1 a2).1
  have hcp : n.recs.length ≤ c := by have := HR2.out.recs.1; simpa [L5.svs] using this
  go_wp2_with fail
  go_loopw [27] (fun i wr => ∃ j : Nat, j ≤ n.recs.length ∧ i = .int .i64 (j : Int) ∧ ∃ v : Value, Hid (Lst w.heap.size o v (n.recs.take j) wr ∧ Only (fun q => q = o ∨ w.heap.size ≤ q) w wr)) (fun i _ => n.recs.length - (intOf i).toNat)
  case atStart => exact ⟨0, Nat.zero_le _, rfl, .slice none 0 0, ⟨⟨HO2.out, ⟨rfl, Or.inl ⟨rfl, rfl⟩⟩, ol, HB2.out.size⟩, Only.of_below HB2.out⟩⟩
  case round =>
    clear k0 k1 k2 k3 kl2 n1 nl HO2 HW2 HR2 HB2 a2
    obtain ⟨j, hj, rfl, v, HL⟩ := hrel
    obtain ⟨hL, hO⟩ := HL.out
    have HLL := thid hL
    have HOO := thid hO
    clear hL hO HL
    have hsr := hs.recs
    by_cases hlt : j < n.recs.length
    · have hlt' : (j : Int) < (n.recs.length : Int) := by omega
      have hw : WalkC wr k o := (HOO.out.block k kl (fun x => by rcases x with x | x; exact hko x; omega)).trans HW0.out
      obtain ⟨k0, k1, k2, k3, kl2⟩ := WalkC.cells hw
      obtain ⟨b, of, rfl, hbl, hbc⟩ := HR0.out.recs.2.2 j (.string n.recs[j]) (by simp [L5.svs, hlt])
      have hbo : b ≠ o := fun e => by
        subst e
        rw [cell_of_row _ _ _ _ _ _ HO0.out] at hbc
        cases hof : of + j with
        | zero => rw [hof] at hbc; cases hbc
        | succ m => rw [hof] at hbc; simp at hbc
      have hbr : wr.cell? ⟨b, of + j, none⟩ = some (.string n.recs[j]) := (HOO.out.cell (p := ⟨b, of + j, none⟩) hbl (fun x => by rcases x with x | x; exact hbo x; exact absurd hbl (Nat.not_lt.2 x))).trans hbc
      have hblr : b < wr.heap.size := Nat.lt_of_lt_of_le hbl HOO.out.size
      have HY : Hid (n.recs.take (j + 1) = n.recs.take j ++ [n.recs[j]]) := (List.take_append_getElem hlt).symm
      generalize n.recs[j] = y at *
      clear hw hbc
      go_wp2_with fail
      refine (all1_ok (s := y) HLL.out (by simp; omega)).mono ?_
      rintro e w5 ⟨rfl, v5, hL5, hO5⟩
      have HD5 : Hid (Lst w.heap.size o v5 (n.recs.take (j + 1)) w5 ∧ Only (fun q => q = o ∨ w.heap.size ≤ q) w w5) := ⟨by rw [HY.out]; exact hL5, HOO.out.trans hO5⟩
      clear hL5 hO5 HLL HOO HY hbr hblr k0 k1 k2 k3 kl2
      go_wp2
      exact ⟨⟨j + 1, by omega, by go_num, v5, HD5⟩, by simp [intOf]; omega⟩
    · have hlt' : (n.recs.length : Int) ≤ (j : Int) := by omega
      have hjl : j = n.recs.length := by omega
      subst hjl
      rw [List.take_length] at HLL
      go_wp2
      go_end0
      exact ⟨rfl, v, HLL.out, HOO.out⟩
end Go.Proofs.YtfdfamjajhmihaaGreat
/-
  Tree: through, Each, All over a tree of one leaf.
-/
namespace Go.Proofs.YtfdfamjajhmihaaGreat
open Go.RowKit
open L4 (Ar ArP Abs arV nv)

/-- A variable that is no arena's is set. -/
theorem One.set {s : Ar} {t r l : Nat} {nd : L5.No} {w : World} (h : One s t r l nd w) {q : Nat} {cs : Array Value} (hq : w.heap[q]? = some (.cells cs 3 (0, 0))) (hn : ¬ s.own q) (v : Value) : One s t r l nd (w.setCell ⟨q, 0, none⟩ v) := by
  have oth : ∀ p, p ≠ q → (w.setCell ⟨q, 0, none⟩ v).heap[p]? = w.heap[p]? := fun p hp => heap_setCell_other _ _ _ _ hp
  exact ⟨L4.arSt.keep s w _ h.ar (fun p hp => oth p fun e => hn (e ▸ hp)) (fun p cs hp => oth p (tag_ne hp hq (by decide))), h.ok, ⟨(oth t (tag_ne h.tr.blk hq (by decide))).trans h.tr.blk⟩, h.at_, h.shaped, h.size, h.leaf, h.small, h.pos⟩

set_option maxRecDepth 100000 in
set_option maxHeartbeats 1000000 in
theorem visit_ok {s : Ar} {t r l k o n0 n1 n2 n3 n4 n5 : Nat} {nd : L5.No} {w : World} (h1 : One s t r l nd w) (hW : WalkC w k o) (ho : w.heap[o]? = some (.cells #[.slice none 0 0] 33 (0, 0))) (hl : w.heap[n4]? = some (.cells #[.int .i64 4096] 3 (0, 0))) (hno : ¬ s.own n4) (ht : w.cell? ⟨n0, 0, none⟩ = some (.pointer (some ⟨t, 0, none⟩))) (htl : w.cell? ⟨n2, 0, none⟩ = some (.func (.func 60) #[.pointer (some ⟨k, 0, none⟩)] #[])) (x0 : n0 ≠ n4) (x2 : n2 ≠ n4) (l2 : n2 < w.heap.size) :
    Calls Tryz.prog 85 #[.int .i64 (r : Int), .int .i64 1, .pointer (some ⟨n4, 0, none⟩), .pointer (some ⟨n0, 0, none⟩), .pointer (some ⟨n2, 0, none⟩), .pointer (some ⟨n1, 0, none⟩), .pointer (some ⟨n5, 0, none⟩), .pointer (some ⟨n3, 0, none⟩)] w fun e w' => e = .returned (.int .i64 0) ∧ ∃ v' B, w.heap.size ≤ B ∧ Lst B o v' nd.recs w' ∧ Only (fun q => q = o ∨ q = n4) w w' := by
  have H2 := thid (h1.set hl hno (.int .i64 4095))
  have oth : ∀ p, p ≠ n4 → (w.setCell ⟨n4, 0, none⟩ (.int .i64 4095)).heap[p]? = w.heap[p]? := fun p hp => heap_setCell_other _ _ _ _ hp
  have HW2 : Hid (WalkC (w.setCell ⟨n4, 0, none⟩ (.int .i64 4095)) k o) := (oth k (tag_ne hW hl (by decide))).trans hW
  have HO2 := thid ((oth o (tag_ne ho hl (by decide))).trans ho)
  have HS2 : Hid (Only (fun q => q = o ∨ q = n4) w (w.setCell ⟨n4, 0, none⟩ (.int .i64 4095))) := (Only.refl _ w).setCell (p := ⟨n4, 0, none⟩) (Or.inr (Or.inr rfl)) _
  have t2 : (w.setCell ⟨n4, 0, none⟩ (.int .i64 4095)).cell? ⟨n0, 0, none⟩ = some (.pointer (some ⟨t, 0, none⟩)) := (World.cell?_of_block (oth n0 x0)).trans ht
  have tl2 : (w.setCell ⟨n4, 0, none⟩ (.int .i64 4095)).cell? ⟨n2, 0, none⟩ = some (.func (.func 60) #[.pointer (some ⟨k, 0, none⟩)] #[]) := (World.cell?_of_block (oth n2 x2)).trans htl
  have zz : (w.setCell ⟨n4, 0, none⟩ (.int .i64 4095)).heap.size = w.heap.size := by simp [World.setCell]
  have HRD := thid (read_ok H2.out.ar H2.out.ok H2.out.tr H2.out.at_ H2.out.shaped H2.out.size)
  have hle := H2.out.leaf
  have HSM := thid H2.out.small
  rw [hle] at HRD
  have c4 : w.cell? ⟨n4, 0, none⟩ = some (.int .i64 4096) := by rw [cell_of_row _ _ _ _ _ _ hl]; rfl
  have f4 : ∀ i, w.frozen? ⟨n4, i, none⟩ = false := fun i => frozen_of_row _ _ _ _ _ hl
  have l4 := (Array.getElem?_eq_some_iff.1 hl).1
  clear h1 hW ho hl
  go_enter Tryz.func85, Tryz.ntmps85
  go_wp2_with fail
  refine HRD.out.mono ?_
  rintro e w2 ⟨v, rfl, a, c, a', c', rfl, o1, o2, B2⟩
  have HNR := thid (L5.NR.mk (L5.owns_rd_slice o1) (L5.owns_rd_slice o2) : L5.NR w2 nd a c a' c')
  have HB2 := thid B2
  have HW3 : Hid (WalkC w2 k o) := (B2.block k (Array.getElem?_eq_some_iff.1 HW2.out).1).trans HW2.out
  have HO3 := thid ((B2.block o (Array.getElem?_eq_some_iff.1 HO2.out).1).trans HO2.out)
  have tl3 := (B2.cell (p := ⟨n2, 0, none⟩) (by rw [zz]; exact l2)).trans tl2
  have l23 : n2 < w2.heap.size := Nat.lt_of_lt_of_le l2 (by rw [← zz]; exact B2.size)
  clear HRD o1 o2 B2 t2 tl2 HW2 HO2 c4 f4 l4 ht htl
  unfold L5.nodeV
  rw [hle]
  go_wp2_with fail
  have hb3 := tbelow w2 (.cells #[.bool true, .slice a nd.recs.length c, .slice a' nd.kids.length c'] 90)
  have n5 := (L5.box_cells w2 (.bool true) (.slice a nd.recs.length c) (.slice a' nd.kids.length c') 90).1
  have HTL := thid (tell_ok (at_ := (r : Int)) (n := nd) ((hb3.block k (Array.getElem?_eq_some_iff.1 HW3.out).1).trans HW3.out) ((hb3.block o (Array.getElem?_eq_some_iff.1 HO3.out).1).trans HO3.out) (HNR.out.below hb3) HSM.out hle)
  unfold L5.nodeV at HTL
  rw [hle] at HTL
  have hol := (Array.getElem?_eq_some_iff.1 HO3.out).1
  have HB3 := thid (tbelow_on HB2.out hb3)
  have z5 : w2.heap.size < (w2.alloc (.cells #[.bool true, .slice a nd.recs.length c, .slice a' nd.kids.length c'] 90)).heap.size := by simp
  clear hb3 HNR HW3 HO3 tl3 l23 HB2
  generalize w2.alloc (.cells #[.bool true, .slice a nd.recs.length c, .slice a' nd.kids.length c'] 90) = W3 at *
  refine HTL.out.mono ?_
  rintro e w4 ⟨rfl, v', hL, hO⟩
  have n6 : w4.cell? ⟨w2.heap.size, 0, none⟩ = some (.bool true) := (hO.cell (p := ⟨w2.heap.size, 0, none⟩) z5 (fun x => by
    rcases x with x | x
    · have x' : w2.heap.size = o := x
      omega
    · exact absurd z5 (Nat.not_lt.2 x))).trans n5
  have HF : Hid (∃ v' B, w.heap.size ≤ B ∧ Lst B o v' nd.recs w4 ∧ Only (fun q => q = o ∨ q = n4) w w4) := by
    refine ⟨v', W3.heap.size, ?_, hL, ?_⟩
    · have := HB3.out.size; omega
    · refine ⟨hO.os.trans (HB3.out.os.trans HS2.out.os), hO.tape.trans (HB3.out.tape.trans HS2.out.tape), hO.output.trans (HB3.out.output.trans HS2.out.output), Nat.le_trans HS2.out.size (Nat.le_trans HB3.out.size hO.size), fun q hq hs => ?_⟩
      have z1 := HB3.out.size
      rw [hO.block q (by omega) (fun x => by
        rcases x with x | x
        · exact hs (Or.inl x)
        · omega), HB3.out.block q (by omega)]
      exact HS2.out.block q hq hs
  clear HTL hL hO n5 HB3 HS2 H2 HSM
  go_wp2
  go_ret
  exact ⟨rfl, HF.out⟩

set_option maxRecDepth 100000 in
set_option maxHeartbeats 1000000 in
theorem through_ok {s : Ar} {t r l k o : Nat} {nd : L5.No} {w : World} (h1 : One s t r l nd w) (hW : WalkC w k o) (ho : w.heap[o]? = some (.cells #[.slice none 0 0] 33 (0, 0))) :
    Calls Tryz.prog 59 #[.pointer (some ⟨t, 0, none⟩), .string ⟨#[]⟩, .func (.func 60) #[.pointer (some ⟨k, 0, none⟩)] #[], .func (.func 61) #[.pointer (some ⟨k, 0, none⟩)] #[]] w fun e w' => e = .returned (.int .i64 0) ∧ ∃ v' B, w.heap.size ≤ B ∧ Lst B o v' nd.recs w' ∧ Only (fun q => q = o) w w' := by
  obtain ⟨c0, c1, c2, c3, ct, cf⟩ := h1.tr.cells
  have H1 := thid h1
  have HW := thid hW
  have HO := thid ho
  have hmf : ∀ (fn : Fn) (first cap : Array Value) (w : World), (Instr.makeFunc fn first cap).run Tryz.prog w = .ok (.func fn first cap) w := fun _ _ _ _ => rfl
  have own_lt : ∀ q, s.own q → q < w.heap.size := fun q hq => L4.arSt.lt s w q h1.ar hq
  clear h1 hW ho
  go_enter Tryz.func59, Tryz.ntmps59
  have p5 : ((((((w.alloc (.cells #[.pointer (some ⟨t, 0, none⟩)] 29)).alloc (.cells #[.string ⟨#[]⟩] 9)).alloc (.cells #[.func (.func 60) #[.pointer (some ⟨k, 0, none⟩)] #[]] 88)).alloc (.cells #[.func (.func 61) #[.pointer (some ⟨k, 0, none⟩)] #[]] 23)).alloc (.cells #[.int .i64 4096] 3)).alloc (.cells #[.nilFunc] 135)).cell? ⟨w.heap.size + 1 + 1 + 1 + 1 + 1, 0, none⟩ = some .nilFunc := by simp [go_sem]
  have f5 : ∀ i, ((((((w.alloc (.cells #[.pointer (some ⟨t, 0, none⟩)] 29)).alloc (.cells #[.string ⟨#[]⟩] 9)).alloc (.cells #[.func (.func 60) #[.pointer (some ⟨k, 0, none⟩)] #[]] 88)).alloc (.cells #[.func (.func 61) #[.pointer (some ⟨k, 0, none⟩)] #[]] 23)).alloc (.cells #[.int .i64 4096] 3)).alloc (.cells #[.nilFunc] 135)).frozen? ⟨w.heap.size + 1 + 1 + 1 + 1 + 1, i, none⟩ = false := fun i => by simp [go_sem]
  go_wp2_with fail
  clear p5 f5
  have HB := thid ((((((tbelow w (.cells #[.pointer (some ⟨t, 0, none⟩)] 29)).alloc (by simp) (.cells #[.string ⟨#[]⟩] 9)).alloc (by simp; omega) (.cells #[.func (.func 60) #[.pointer (some ⟨k, 0, none⟩)] #[]] 88)).alloc (by simp; omega) (.cells #[.func (.func 61) #[.pointer (some ⟨k, 0, none⟩)] #[]] 23)).alloc (by simp; omega) (.cells #[.int .i64 4096] 3)).alloc (by simp; omega) (.cells #[(.func (.func 85) #[] #[.pointer (some ⟨w.heap.size + 1 + 1 + 1 + 1, 0, none⟩), .pointer (some ⟨w.heap.size, 0, none⟩), .pointer (some ⟨w.heap.size + 1 + 1, 0, none⟩), .pointer (some ⟨w.heap.size + 1, 0, none⟩), .pointer (some ⟨w.heap.size + 1 + 1 + 1 + 1 + 1, 0, none⟩), .pointer (some ⟨w.heap.size + 1 + 1 + 1, 0, none⟩)])] 135))
  have z6 : ((((((w.alloc (.cells #[.pointer (some ⟨t, 0, none⟩)] 29)).alloc (.cells #[.string ⟨#[]⟩] 9)).alloc (.cells #[.func (.func 60) #[.pointer (some ⟨k, 0, none⟩)] #[]] 88)).alloc (.cells #[.func (.func 61) #[.pointer (some ⟨k, 0, none⟩)] #[]] 23)).alloc (.cells #[.int .i64 4096] 3)).alloc (.cells #[(.func (.func 85) #[] #[.pointer (some ⟨w.heap.size + 1 + 1 + 1 + 1, 0, none⟩), .pointer (some ⟨w.heap.size, 0, none⟩), .pointer (some ⟨w.heap.size + 1 + 1, 0, none⟩), .pointer (some ⟨w.heap.size + 1, 0, none⟩), .pointer (some ⟨w.heap.size + 1 + 1 + 1 + 1 + 1, 0, none⟩), .pointer (some ⟨w.heap.size + 1 + 1 + 1, 0, none⟩)])] 135)).heap.size = w.heap.size + 6 := by simp
  have v0 : ((((((w.alloc (.cells #[.pointer (some ⟨t, 0, none⟩)] 29)).alloc (.cells #[.string ⟨#[]⟩] 9)).alloc (.cells #[.func (.func 60) #[.pointer (some ⟨k, 0, none⟩)] #[]] 88)).alloc (.cells #[.func (.func 61) #[.pointer (some ⟨k, 0, none⟩)] #[]] 23)).alloc (.cells #[.int .i64 4096] 3)).alloc (.cells #[(.func (.func 85) #[] #[.pointer (some ⟨w.heap.size + 1 + 1 + 1 + 1, 0, none⟩), .pointer (some ⟨w.heap.size, 0, none⟩), .pointer (some ⟨w.heap.size + 1 + 1, 0, none⟩), .pointer (some ⟨w.heap.size + 1, 0, none⟩), .pointer (some ⟨w.heap.size + 1 + 1 + 1 + 1 + 1, 0, none⟩), .pointer (some ⟨w.heap.size + 1 + 1 + 1, 0, none⟩)])] 135)).cell? ⟨w.heap.size, 0, none⟩ = some (.pointer (some ⟨t, 0, none⟩)) := by simp [go_sem]
  have v2 : ((((((w.alloc (.cells #[.pointer (some ⟨t, 0, none⟩)] 29)).alloc (.cells #[.string ⟨#[]⟩] 9)).alloc (.cells #[.func (.func 60) #[.pointer (some ⟨k, 0, none⟩)] #[]] 88)).alloc (.cells #[.func (.func 61) #[.pointer (some ⟨k, 0, none⟩)] #[]] 23)).alloc (.cells #[.int .i64 4096] 3)).alloc (.cells #[(.func (.func 85) #[] #[.pointer (some ⟨w.heap.size + 1 + 1 + 1 + 1, 0, none⟩), .pointer (some ⟨w.heap.size, 0, none⟩), .pointer (some ⟨w.heap.size + 1 + 1, 0, none⟩), .pointer (some ⟨w.heap.size + 1, 0, none⟩), .pointer (some ⟨w.heap.size + 1 + 1 + 1 + 1 + 1, 0, none⟩), .pointer (some ⟨w.heap.size + 1 + 1 + 1, 0, none⟩)])] 135)).cell? ⟨w.heap.size + 1 + 1, 0, none⟩ = some (.func (.func 60) #[.pointer (some ⟨k, 0, none⟩)] #[]) := by simp [go_sem]
  have v5 : ((((((w.alloc (.cells #[.pointer (some ⟨t, 0, none⟩)] 29)).alloc (.cells #[.string ⟨#[]⟩] 9)).alloc (.cells #[.func (.func 60) #[.pointer (some ⟨k, 0, none⟩)] #[]] 88)).alloc (.cells #[.func (.func 61) #[.pointer (some ⟨k, 0, none⟩)] #[]] 23)).alloc (.cells #[.int .i64 4096] 3)).alloc (.cells #[(.func (.func 85) #[] #[.pointer (some ⟨w.heap.size + 1 + 1 + 1 + 1, 0, none⟩), .pointer (some ⟨w.heap.size, 0, none⟩), .pointer (some ⟨w.heap.size + 1 + 1, 0, none⟩), .pointer (some ⟨w.heap.size + 1, 0, none⟩), .pointer (some ⟨w.heap.size + 1 + 1 + 1 + 1 + 1, 0, none⟩), .pointer (some ⟨w.heap.size + 1 + 1 + 1, 0, none⟩)])] 135)).cell? ⟨w.heap.size + 1 + 1 + 1 + 1 + 1, 0, none⟩ = some (.func (.func 85) #[] #[.pointer (some ⟨w.heap.size + 1 + 1 + 1 + 1, 0, none⟩), .pointer (some ⟨w.heap.size, 0, none⟩), .pointer (some ⟨w.heap.size + 1 + 1, 0, none⟩), .pointer (some ⟨w.heap.size + 1, 0, none⟩), .pointer (some ⟨w.heap.size + 1 + 1 + 1 + 1 + 1, 0, none⟩), .pointer (some ⟨w.heap.size + 1 + 1 + 1, 0, none⟩)]) := by simp [go_sem]
  have v4 : ((((((w.alloc (.cells #[.pointer (some ⟨t, 0, none⟩)] 29)).alloc (.cells #[.string ⟨#[]⟩] 9)).alloc (.cells #[.func (.func 60) #[.pointer (some ⟨k, 0, none⟩)] #[]] 88)).alloc (.cells #[.func (.func 61) #[.pointer (some ⟨k, 0, none⟩)] #[]] 23)).alloc (.cells #[.int .i64 4096] 3)).alloc (.cells #[(.func (.func 85) #[] #[.pointer (some ⟨w.heap.size + 1 + 1 + 1 + 1, 0, none⟩), .pointer (some ⟨w.heap.size, 0, none⟩), .pointer (some ⟨w.heap.size + 1 + 1, 0, none⟩), .pointer (some ⟨w.heap.size + 1, 0, none⟩), .pointer (some ⟨w.heap.size + 1 + 1 + 1 + 1 + 1, 0, none⟩), .pointer (some ⟨w.heap.size + 1 + 1 + 1, 0, none⟩)])] 135)).heap[w.heap.size + 1 + 1 + 1 + 1]? = some (.cells #[.int .i64 4096] 3 (0, 0)) := by
    have h := heap_alloc_new ((((w.alloc (.cells #[.pointer (some ⟨t, 0, none⟩)] 29)).alloc (.cells #[.string ⟨#[]⟩] 9)).alloc (.cells #[.func (.func 60) #[.pointer (some ⟨k, 0, none⟩)] #[]] 88)).alloc (.cells #[.func (.func 61) #[.pointer (some ⟨k, 0, none⟩)] #[]] 23)) (.cells #[.int .i64 4096] 3)
    rw [show ((((w.alloc (.cells #[.pointer (some ⟨t, 0, none⟩)] 29)).alloc (.cells #[.string ⟨#[]⟩] 9)).alloc (.cells #[.func (.func 60) #[.pointer (some ⟨k, 0, none⟩)] #[]] 88)).alloc (.cells #[.func (.func 61) #[.pointer (some ⟨k, 0, none⟩)] #[]] 23)).heap.size = w.heap.size + 1 + 1 + 1 + 1 by simp] at h
    exact ((tbelow _ _).block _ (by simp)).trans h
  have HV4 := thid v4
  clear v4
  generalize ((((((w.alloc (.cells #[.pointer (some ⟨t, 0, none⟩)] 29)).alloc (.cells #[.string ⟨#[]⟩] 9)).alloc (.cells #[.func (.func 60) #[.pointer (some ⟨k, 0, none⟩)] #[]] 88)).alloc (.cells #[.func (.func 61) #[.pointer (some ⟨k, 0, none⟩)] #[]] 23)).alloc (.cells #[.int .i64 4096] 3)).alloc (.cells #[(.func (.func 85) #[] #[.pointer (some ⟨w.heap.size + 1 + 1 + 1 + 1, 0, none⟩), .pointer (some ⟨w.heap.size, 0, none⟩), .pointer (some ⟨w.heap.size + 1 + 1, 0, none⟩), .pointer (some ⟨w.heap.size + 1, 0, none⟩), .pointer (some ⟨w.heap.size + 1 + 1 + 1 + 1 + 1, 0, none⟩), .pointer (some ⟨w.heap.size + 1 + 1 + 1, 0, none⟩)])] 135)) = V at *
  have t1 := (HB.out.cell (p := ⟨t, 1, none⟩) ct).trans c1
  have t2 : V.cell? ⟨t, 2, none⟩ = some (.int .i64 1) := (HB.out.cell (p := ⟨t, 2, none⟩) ct).trans c2
  refine wp_region_quiet_tail (fun w' => ∃ n, w' = World.drewN V n) 11 (by kernel_rfl) (by kernel_rfl) ⟨1, rfl⟩ ?_
  simp only [List.take_succ_cons, List.take_zero, List.drop_succ_cons, List.drop_zero]
  repeat (go_big_quiet_step (fail))
  refine wpQuiet_nil ?_
  rintro _ ⟨nq, rfl⟩
  have hd : Below V.heap.size V (World.drewN V nq) := below_drewN (Below.refl _ _) nq
  have HB2 := thid (tbelow_on HB.out hd)
  have HVI := thid (visit_ok (n0 := w.heap.size) (n1 := w.heap.size + 1) (n2 := w.heap.size + 1 + 1) (n3 := w.heap.size + 1 + 1 + 1) (n4 := w.heap.size + 1 + 1 + 1 + 1) (n5 := w.heap.size + 1 + 1 + 1 + 1 + 1) (H1.out.below HB2.out) ((HB2.out.block k (Array.getElem?_eq_some_iff.1 HW.out).1).trans HW.out) ((HB2.out.block o (Array.getElem?_eq_some_iff.1 HO.out).1).trans HO.out) ((hd.block _ (by omega)).trans HV4.out) (fun x => by have := own_lt _ x; omega) ((hd.cell (p := ⟨w.heap.size, 0, none⟩) (by show w.heap.size < V.heap.size; omega)).trans v0) ((hd.cell (p := ⟨w.heap.size + 1 + 1, 0, none⟩) (by show w.heap.size + 1 + 1 < V.heap.size; omega)).trans v2) (by omega) (by omega) (by have := hd.size; omega))
  clear v0 v2 v5 t1 t2 hd HB HV4 H1 HW c0 c1 c2 c3 cf
  generalize World.drewN V nq = V2 at *
  go_wp2_with fail
  refine HVI.out.mono ?_
  rintro e w4 ⟨rfl, v', B, hB, hL, hO⟩
  have HF : Hid (∃ v' B, w.heap.size ≤ B ∧ Lst B o v' nd.recs w4 ∧ Only (fun q => q = o) w w4) := by
    refine ⟨v', B, Nat.le_trans HB2.out.size hB, hL, ⟨hO.os.trans HB2.out.os, hO.tape.trans HB2.out.tape, hO.output.trans HB2.out.output, Nat.le_trans HB2.out.size hO.size, fun q hq hs => ?_⟩⟩
    rw [hO.block q (Nat.lt_of_lt_of_le hq HB2.out.size) (fun x => by
      rcases x with x | x
      · exact hs x
      · omega)]
    exact HB2.out.block q hq
  clear hL hO HVI HB2
  go_wp2
  go_ret
  exact ⟨rfl, HF.out⟩
end Go.Proofs.YtfdfamjajhmihaaGreat
