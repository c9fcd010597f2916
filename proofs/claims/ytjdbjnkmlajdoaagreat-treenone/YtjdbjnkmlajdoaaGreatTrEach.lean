/-
  Tree: through, Each, All over a tree of one leaf.
-/
import Derived.Test.YtjdbjnkmlajdoaaGreatTrTell
import Derived.Laws.EntriesVeiled
namespace Go.Proofs.YtjdbjnkmlajdoaaGreat
open Go.RowKit
open L4 (Ar ArP Abs arV nv)

/-- A variable that is no arena's is set. -/
theorem One.set {s : Ar} {t r l : Nat} {nd : L5.No} {w : World} (h : One s t r l nd w) {q : Nat} {cs : Array Value} (hq : w.heap[q]? = some (.cells cs 3 (0, 0))) (hn : ¬ s.own q) (v : Value) : One s t r l nd (w.setCell ⟨q, 0, none⟩ v) := by
  have oth : ∀ p, p ≠ q → (w.setCell ⟨q, 0, none⟩ v).heap[p]? = w.heap[p]? := fun p hp => heap_setCell_other _ _ _ _ hp
  exact ⟨L4.arSt.keep s w _ h.ar (fun p hp => oth p fun e => hn (e ▸ hp)) (fun p cs hp => oth p (tag_ne hp hq (by decide))), h.ok, ⟨(oth t (tag_ne h.tr.blk hq (by decide))).trans h.tr.blk⟩, h.at_, h.shaped, h.size, h.leaf, h.small, h.pos⟩

set_option maxRecDepth 100000 in
set_option maxHeartbeats 1000000 in
theorem visit_ok {s : Ar} {t r l k o n0 n1 n2 n3 n4 n5 : Nat} {nd : L5.No} {w : World} (h1 : One s t r l nd w) (hW : WalkC w k o) (ho : w.heap[o]? = some (.cells #[.slice none 0 0] 33 (0, 0))) (hl : w.heap[n4]? = some (.cells #[.int .i64 4096] 3 (0, 0))) (hno : ¬ s.own n4) (ht : w.cell? ⟨n0, 0, none⟩ = some (.pointer (some ⟨t, 0, none⟩))) (htl : w.cell? ⟨n2, 0, none⟩ = some (.func (.func 62) #[.pointer (some ⟨k, 0, none⟩)] #[])) (x0 : n0 ≠ n4) (x2 : n2 ≠ n4) (l2 : n2 < w.heap.size) :
    Calls Tryz.prog 87 #[.int .i64 (r : Int), .int .i64 1, .pointer (some ⟨n4, 0, none⟩), .pointer (some ⟨n0, 0, none⟩), .pointer (some ⟨n2, 0, none⟩), .pointer (some ⟨n1, 0, none⟩), .pointer (some ⟨n5, 0, none⟩), .pointer (some ⟨n3, 0, none⟩)] w fun e w' => e = .returned (.int .i64 0) ∧ ∃ v' B, w.heap.size ≤ B ∧ Lst B o v' nd.recs w' ∧ Only (fun q => q = o ∨ q = n4) w w' := by
  have H2 := thid (h1.set hl hno (.int .i64 4095))
  have oth : ∀ p, p ≠ n4 → (w.setCell ⟨n4, 0, none⟩ (.int .i64 4095)).heap[p]? = w.heap[p]? := fun p hp => heap_setCell_other _ _ _ _ hp
  have HW2 : Hid (WalkC (w.setCell ⟨n4, 0, none⟩ (.int .i64 4095)) k o) := (oth k (tag_ne hW hl (by decide))).trans hW
  have HO2 := thid ((oth o (tag_ne ho hl (by decide))).trans ho)
  have HS2 : Hid (Only (fun q => q = o ∨ q = n4) w (w.setCell ⟨n4, 0, none⟩ (.int .i64 4095))) := (Only.refl _ w).setCell (p := ⟨n4, 0, none⟩) (Or.inr (Or.inr rfl)) _
  have t2 : (w.setCell ⟨n4, 0, none⟩ (.int .i64 4095)).cell? ⟨n0, 0, none⟩ = some (.pointer (some ⟨t, 0, none⟩)) := (World.cell?_of_block (oth n0 x0)).trans ht
  have tl2 : (w.setCell ⟨n4, 0, none⟩ (.int .i64 4095)).cell? ⟨n2, 0, none⟩ = some (.func (.func 62) #[.pointer (some ⟨k, 0, none⟩)] #[]) := (World.cell?_of_block (oth n2 x2)).trans htl
  have zz : (w.setCell ⟨n4, 0, none⟩ (.int .i64 4095)).heap.size = w.heap.size := by simp [World.setCell]
  have HRD := thid (read_ok H2.out.ar H2.out.ok H2.out.tr H2.out.at_ H2.out.shaped H2.out.size)
  have hle := H2.out.leaf
  have HSM := thid H2.out.small
  rw [hle] at HRD
  have c4 : w.cell? ⟨n4, 0, none⟩ = some (.int .i64 4096) := by rw [cell_of_row _ _ _ _ _ _ hl]; rfl
  have f4 : ∀ i, w.frozen? ⟨n4, i, none⟩ = false := fun i => frozen_of_row _ _ _ _ _ hl
  have l4 := (Array.getElem?_eq_some_iff.1 hl).1
  clear h1 hW ho hl
  go_enter Tryz.func87, Tryz.ntmps87
  go_wp2_with fail
  refine HRD.out.mono ?_
  rintro e w2 ⟨v, rfl, a, c, a', c', rfl, o1, o2, B2⟩
  have HNR := thid (L5.NR.mk (L5.owns_rd_slice o1) (L5.owns_rd_slice o2) : L5.NR w2 nd a c a' c')
  have HB2 := thid B2
  have HW3 : Hid (WalkC w2 k o) := (B2.block k (Array.getElem?_eq_some_iff.1 HW2.out).1).trans HW2.out
  have HO3 := thid ((B2.block o (Array.getElem?_eq_some_iff.1 HO2.out).1).trans HO2.out)
  have tl3 := (B2.cell (p := ⟨n2, 0, none⟩) (by rw [zz]; exact l2)).trans tl2
  have l23 : n2 < w2.heap.size := Nat.lt_of_lt_of_le l2 (by rw [← zz]; exact B2.size)
  clear HRD o1 o2 B2 t2 tl2 HW2 HO2 c4 f4 l4 ht htl
  unfold L5.nodeV
  rw [hle]
  go_wp2_with fail
  have hb3 := tbelow w2 (.cells #[.bool true, .slice a nd.recs.length c, .slice a' nd.kids.length c'] 91)
  have n5 := (L5.box_cells w2 (.bool true) (.slice a nd.recs.length c) (.slice a' nd.kids.length c') 91).1
  have HTL := thid (tell_ok (at_ := (r : Int)) (n := nd) ((hb3.block k (Array.getElem?_eq_some_iff.1 HW3.out).1).trans HW3.out) ((hb3.block o (Array.getElem?_eq_some_iff.1 HO3.out).1).trans HO3.out) (HNR.out.below hb3) HSM.out hle)
  unfold L5.nodeV at HTL
  rw [hle] at HTL
  have hol := (Array.getElem?_eq_some_iff.1 HO3.out).1
  have HB3 := thid (tbelow_on HB2.out hb3)
  have z5 : w2.heap.size < (w2.alloc (.cells #[.bool true, .slice a nd.recs.length c, .slice a' nd.kids.length c'] 91)).heap.size := by simp
  clear hb3 HNR HW3 HO3 tl3 l23 HB2
  generalize w2.alloc (.cells #[.bool true, .slice a nd.recs.length c, .slice a' nd.kids.length c'] 91) = W3 at *
  refine HTL.out.mono ?_
  rintro e w4 ⟨rfl, v', hL, hO⟩
  have n6 : w4.cell? ⟨w2.heap.size, 0, none⟩ = some (.bool true) := (hO.cell (p := ⟨w2.heap.size, 0, none⟩) z5 (fun x => by
    rcases x with x | x
    · have x' : w2.heap.size = o := x
      omega
    · exact absurd z5 (Nat.not_lt.2 x))).trans n5
  have HF : Hid (∃ v' B, w.heap.size ≤ B ∧ Lst B o v' nd.recs w4 ∧ Only (fun q => q = o ∨ q = n4) w w4) := by
    refine ⟨v', W3.heap.size, ?_, hL, ?_⟩
    · have := HB3.out.size; omega
    · refine ⟨hO.os.trans (HB3.out.os.trans HS2.out.os), hO.tape.trans (HB3.out.tape.trans HS2.out.tape), hO.output.trans (HB3.out.output.trans HS2.out.output), Nat.le_trans HS2.out.size (Nat.le_trans HB3.out.size hO.size), fun q hq hs => ?_⟩
      have z1 := HB3.out.size
      rw [hO.block q (by omega) (fun x => by
        rcases x with x | x
        · exact hs (Or.inl x)
        · omega), HB3.out.block q (by omega)]
      exact HS2.out.block q hq hs
  clear HTL hL hO n5 HB3 HS2 H2 HSM
  go_wp2
  go_ret
  exact ⟨rfl, HF.out⟩

set_option maxRecDepth 100000 in
set_option maxHeartbeats 1000000 in
theorem through_ok {s : Ar} {t r l k o : Nat} {nd : L5.No} {w : World} (h1 : One s t r l nd w) (hW : WalkC w k o) (ho : w.heap[o]? = some (.cells #[.slice none 0 0] 33 (0, 0))) :
    Calls Tryz.prog 61 #[.pointer (some ⟨t, 0, none⟩), .string ⟨#[]⟩, .func (.func 62) #[.pointer (some ⟨k, 0, none⟩)] #[], .func (.func 63) #[.pointer (some ⟨k, 0, none⟩)] #[]] w fun e w' => e = .returned (.int .i64 0) ∧ ∃ v' B, w.heap.size ≤ B ∧ Lst B o v' nd.recs w' ∧ Only (fun q => q = o) w w' := by
  obtain ⟨c0, c1, c2, c3, ct, cf⟩ := h1.tr.cells
  have H1 := thid h1
  have HW := thid hW
  have HO := thid ho
  have hmf : ∀ (fn : Fn) (first cap : Array Value) (w : World), (Instr.makeFunc fn first cap).run Tryz.prog w = .ok (.func fn first cap) w := fun _ _ _ _ => rfl
  have own_lt : ∀ q, s.own q → q < w.heap.size := fun q hq => L4.arSt.lt s w q h1.ar hq
  clear h1 hW ho
  go_enter Tryz.func61, Tryz.ntmps61
  have p5 : ((((((w.alloc (.cells #[.pointer (some ⟨t, 0, none⟩)] 29)).alloc (.cells #[.string ⟨#[]⟩] 9)).alloc (.cells #[.func (.func 62) #[.pointer (some ⟨k, 0, none⟩)] #[]] 89)).alloc (.cells #[.func (.func 63) #[.pointer (some ⟨k, 0, none⟩)] #[]] 23)).alloc (.cells #[.int .i64 4096] 3)).alloc (.cells #[.nilFunc] 136)).cell? ⟨w.heap.size + 1 + 1 + 1 + 1 + 1, 0, none⟩ = some .nilFunc := by simp [go_sem]
  have f5 : ∀ i, ((((((w.alloc (.cells #[.pointer (some ⟨t, 0, none⟩)] 29)).alloc (.cells #[.string ⟨#[]⟩] 9)).alloc (.cells #[.func (.func 62) #[.pointer (some ⟨k, 0, none⟩)] #[]] 89)).alloc (.cells #[.func (.func 63) #[.pointer (some ⟨k, 0, none⟩)] #[]] 23)).alloc (.cells #[.int .i64 4096] 3)).alloc (.cells #[.nilFunc] 136)).frozen? ⟨w.heap.size + 1 + 1 + 1 + 1 + 1, i, none⟩ = false := fun i => by simp [go_sem]
  go_wp2_with fail
  clear p5 f5
  have HB := thid ((((((tbelow w (.cells #[.pointer (some ⟨t, 0, none⟩)] 29)).alloc (by simp) (.cells #[.string ⟨#[]⟩] 9)).alloc (by simp; omega) (.cells #[.func (.func 62) #[.pointer (some ⟨k, 0, none⟩)] #[]] 89)).alloc (by simp; omega) (.cells #[.func (.func 63) #[.pointer (some ⟨k, 0, none⟩)] #[]] 23)).alloc (by simp; omega) (.cells #[.int .i64 4096] 3)).alloc (by simp; omega) (.cells #[(.func (.func 87) #[] #[.pointer (some ⟨w.heap.size + 1 + 1 + 1 + 1, 0, none⟩), .pointer (some ⟨w.heap.size, 0, none⟩), .pointer (some ⟨w.heap.size + 1 + 1, 0, none⟩), .pointer (some ⟨w.heap.size + 1, 0, none⟩), .pointer (some ⟨w.heap.size + 1 + 1 + 1 + 1 + 1, 0, none⟩), .pointer (some ⟨w.heap.size + 1 + 1 + 1, 0, none⟩)])] 136))
  have z6 : ((((((w.alloc (.cells #[.pointer (some ⟨t, 0, none⟩)] 29)).alloc (.cells #[.string ⟨#[]⟩] 9)).alloc (.cells #[.func (.func 62) #[.pointer (some ⟨k, 0, none⟩)] #[]] 89)).alloc (.cells #[.func (.func 63) #[.pointer (some ⟨k, 0, none⟩)] #[]] 23)).alloc (.cells #[.int .i64 4096] 3)).alloc (.cells #[(.func (.func 87) #[] #[.pointer (some ⟨w.heap.size + 1 + 1 + 1 + 1, 0, none⟩), .pointer (some ⟨w.heap.size, 0, none⟩), .pointer (some ⟨w.heap.size + 1 + 1, 0, none⟩), .pointer (some ⟨w.heap.size + 1, 0, none⟩), .pointer (some ⟨w.heap.size + 1 + 1 + 1 + 1 + 1, 0, none⟩), .pointer (some ⟨w.heap.size + 1 + 1 + 1, 0, none⟩)])] 136)).heap.size = w.heap.size + 6 := by simp
  have v0 : ((((((w.alloc (.cells #[.pointer (some ⟨t, 0, none⟩)] 29)).alloc (.cells #[.string ⟨#[]⟩] 9)).alloc (.cells #[.func (.func 62) #[.pointer (some ⟨k, 0, none⟩)] #[]] 89)).alloc (.cells #[.func (.func 63) #[.pointer (some ⟨k, 0, none⟩)] #[]] 23)).alloc (.cells #[.int .i64 4096] 3)).alloc (.cells #[(.func (.func 87) #[] #[.pointer (some ⟨w.heap.size + 1 + 1 + 1 + 1, 0, none⟩), .pointer (some ⟨w.heap.size, 0, none⟩), .pointer (some ⟨w.heap.size + 1 + 1, 0, none⟩), .pointer (some ⟨w.heap.size + 1, 0, none⟩), .pointer (some ⟨w.heap.size + 1 + 1 + 1 + 1 + 1, 0, none⟩), .pointer (some ⟨w.heap.size + 1 + 1 + 1, 0, none⟩)])] 136)).cell? ⟨w.heap.size, 0, none⟩ = some (.pointer (some ⟨t, 0, none⟩)) := by simp [go_sem]
  have v2 : ((((((w.alloc (.cells #[.pointer (some ⟨t, 0, none⟩)] 29)).alloc (.cells #[.string ⟨#[]⟩] 9)).alloc (.cells #[.func (.func 62) #[.pointer (some ⟨k, 0, none⟩)] #[]] 89)).alloc (.cells #[.func (.func 63) #[.pointer (some ⟨k, 0, none⟩)] #[]] 23)).alloc (.cells #[.int .i64 4096] 3)).alloc (.cells #[(.func (.func 87) #[] #[.pointer (some ⟨w.heap.size + 1 + 1 + 1 + 1, 0, none⟩), .pointer (some ⟨w.heap.size, 0, none⟩), .pointer (some ⟨w.heap.size + 1 + 1, 0, none⟩), .pointer (some ⟨w.heap.size + 1, 0, none⟩), .pointer (some ⟨w.heap.size + 1 + 1 + 1 + 1 + 1, 0, none⟩), .pointer (some ⟨w.heap.size + 1 + 1 + 1, 0, none⟩)])] 136)).cell? ⟨w.heap.size + 1 + 1, 0, none⟩ = some (.func (.func 62) #[.pointer (some ⟨k, 0, none⟩)] #[]) := by simp [go_sem]
  have v5 : ((((((w.alloc (.cells #[.pointer (some ⟨t, 0, none⟩)] 29)).alloc (.cells #[.string ⟨#[]⟩] 9)).alloc (.cells #[.func (.func 62) #[.pointer (some ⟨k, 0, none⟩)] #[]] 89)).alloc (.cells #[.func (.func 63) #[.pointer (some ⟨k, 0, none⟩)] #[]] 23)).alloc (.cells #[.int .i64 4096] 3)).alloc (.cells #[(.func (.func 87) #[] #[.pointer (some ⟨w.heap.size + 1 + 1 + 1 + 1, 0, none⟩), .pointer (some ⟨w.heap.size, 0, none⟩), .pointer (some ⟨w.heap.size + 1 + 1, 0, none⟩), .pointer (some ⟨w.heap.size + 1, 0, none⟩), .pointer (some ⟨w.heap.size + 1 + 1 + 1 + 1 + 1, 0, none⟩), .pointer (some ⟨w.heap.size + 1 + 1 + 1, 0, none⟩)])] 136)).cell? ⟨w.heap.size + 1 + 1 + 1 + 1 + 1, 0, none⟩ = some (.func (.func 87) #[] #[.pointer (some ⟨w.heap.size + 1 + 1 + 1 + 1, 0, none⟩), .pointer (some ⟨w.heap.size, 0, none⟩), .pointer (some ⟨w.heap.size + 1 + 1, 0, none⟩), .pointer (some ⟨w.heap.size + 1, 0, none⟩), .pointer (some ⟨w.heap.size + 1 + 1 + 1 + 1 + 1, 0, none⟩), .pointer (some ⟨w.heap.size + 1 + 1 + 1, 0, none⟩)]) := by simp [go_sem]
  have v4 : ((((((w.alloc (.cells #[.pointer (some ⟨t, 0, none⟩)] 29)).alloc (.cells #[.string ⟨#[]⟩] 9)).alloc (.cells #[.func (.func 62) #[.pointer (some ⟨k, 0, none⟩)] #[]] 89)).alloc (.cells #[.func (.func 63) #[.pointer (some ⟨k, 0, none⟩)] #[]] 23)).alloc (.cells #[.int .i64 4096] 3)).alloc (.cells #[(.func (.func 87) #[] #[.pointer (some ⟨w.heap.size + 1 + 1 + 1 + 1, 0, none⟩), .pointer (some ⟨w.heap.size, 0, none⟩), .pointer (some ⟨w.heap.size + 1 + 1, 0, none⟩), .pointer (some ⟨w.heap.size + 1, 0, none⟩), .pointer (some ⟨w.heap.size + 1 + 1 + 1 + 1 + 1, 0, none⟩), .pointer (some ⟨w.heap.size + 1 + 1 + 1, 0, none⟩)])] 136)).heap[w.heap.size + 1 + 1 + 1 + 1]? = some (.cells #[.int .i64 4096] 3 (0, 0)) := by
    have h := heap_alloc_new ((((w.alloc (.cells #[.pointer (some ⟨t, 0, none⟩)] 29)).alloc (.cells #[.string ⟨#[]⟩] 9)).alloc (.cells #[.func (.func 62) #[.pointer (some ⟨k, 0, none⟩)] #[]] 89)).alloc (.cells #[.func (.func 63) #[.pointer (some ⟨k, 0, none⟩)] #[]] 23)) (.cells #[.int .i64 4096] 3)
    rw [show ((((w.alloc (.cells #[.pointer (some ⟨t, 0, none⟩)] 29)).alloc (.cells #[.string ⟨#[]⟩] 9)).alloc (.cells #[.func (.func 62) #[.pointer (some ⟨k, 0, none⟩)] #[]] 89)).alloc (.cells #[.func (.func 63) #[.pointer (some ⟨k, 0, none⟩)] #[]] 23)).heap.size = w.heap.size + 1 + 1 + 1 + 1 by simp] at h
    exact ((tbelow _ _).block _ (by simp)).trans h
  have HV4 := thid v4
  clear v4
  generalize ((((((w.alloc (.cells #[.pointer (some ⟨t, 0, none⟩)] 29)).alloc (.cells #[.string ⟨#[]⟩] 9)).alloc (.cells #[.func (.func 62) #[.pointer (some ⟨k, 0, none⟩)] #[]] 89)).alloc (.cells #[.func (.func 63) #[.pointer (some ⟨k, 0, none⟩)] #[]] 23)).alloc (.cells #[.int .i64 4096] 3)).alloc (.cells #[(.func (.func 87) #[] #[.pointer (some ⟨w.heap.size + 1 + 1 + 1 + 1, 0, none⟩), .pointer (some ⟨w.heap.size, 0, none⟩), .pointer (some ⟨w.heap.size + 1 + 1, 0, none⟩), .pointer (some ⟨w.heap.size + 1, 0, none⟩), .pointer (some ⟨w.heap.size + 1 + 1 + 1 + 1 + 1, 0, none⟩), .pointer (some ⟨w.heap.size + 1 + 1 + 1, 0, none⟩)])] 136)) = V at *
  have t1 := (HB.out.cell (p := ⟨t, 1, none⟩) ct).trans c1
  have t2 : V.cell? ⟨t, 2, none⟩ = some (.int .i64 1) := (HB.out.cell (p := ⟨t, 2, none⟩) ct).trans c2
  refine wp_region_quiet_tail (fun w' => ∃ n, w' = World.drewN V n) 11 (by kernel_rfl) (by kernel_rfl) ⟨1, rfl⟩ ?_
  simp only [List.take_succ_cons, List.take_zero, List.drop_succ_cons, List.drop_zero]
  repeat (go_big_quiet_step (fail))
  refine wpQuiet_nil ?_
  rintro _ ⟨nq, rfl⟩
  have hd : Below V.heap.size V (World.drewN V nq) := below_drewN (Below.refl _ _) nq
  have HB2 := thid (tbelow_on HB.out hd)
  have HVI := thid (visit_ok (n0 := w.heap.size) (n1 := w.heap.size + 1) (n2 := w.heap.size + 1 + 1) (n3 := w.heap.size + 1 + 1 + 1) (n4 := w.heap.size + 1 + 1 + 1 + 1) (n5 := w.heap.size + 1 + 1 + 1 + 1 + 1) (H1.out.below HB2.out) ((HB2.out.block k (Array.getElem?_eq_some_iff.1 HW.out).1).trans HW.out) ((HB2.out.block o (Array.getElem?_eq_some_iff.1 HO.out).1).trans HO.out) ((hd.block _ (by omega)).trans HV4.out) (fun x => by have := own_lt _ x; omega) ((hd.cell (p := ⟨w.heap.size, 0, none⟩) (by show w.heap.size < V.heap.size; omega)).trans v0) ((hd.cell (p := ⟨w.heap.size + 1 + 1, 0, none⟩) (by show w.heap.size + 1 + 1 < V.heap.size; omega)).trans v2) (by omega) (by omega) (by have := hd.size; omega))
  clear v0 v2 v5 t1 t2 hd HB HV4 H1 HW c0 c1 c2 c3 cf
  generalize World.drewN V nq = V2 at *
  go_wp2_with fail
  refine HVI.out.mono ?_
  rintro e w4 ⟨rfl, v', B, hB, hL, hO⟩
  have HF : Hid (∃ v' B, w.heap.size ≤ B ∧ Lst B o v' nd.recs w4 ∧ Only (fun q => q = o) w w4) := by
    refine ⟨v', B, Nat.le_trans HB2.out.size hB, hL, ⟨hO.os.trans HB2.out.os, hO.tape.trans HB2.out.tape, hO.output.trans HB2.out.output, Nat.le_trans HB2.out.size hO.size, fun q hq hs => ?_⟩⟩
    rw [hO.block q (Nat.lt_of_lt_of_le hq HB2.out.size) (fun x => by
      rcases x with x | x
      · exact hs x
      · omega)]
    exact HB2.out.block q hq
  clear hL hO HVI HB2
  go_wp2
  go_ret
  exact ⟨rfl, HF.out⟩
end Go.Proofs.YtjdbjnkmlajdoaaGreat
