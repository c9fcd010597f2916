/-
  Tree: New of an arena with room.
-/
import Derived.Test.YtjdbjnkmlajdoaaGreatTrCh
import Derived.Test.YtjdbjnkmlajdoaaGreatArG
namespace Go.Proofs.YtjdbjnkmlajdoaaGreat
open Go.RowKit
open L4 (Ar ArP Abs arV nv)

/-- A leaf without entries. -/
def leaf0 : L5.No := ⟨true, [], []⟩

theorem leaf0_small : leaf0.small := ⟨by decide, by decide, fun s hs => by simp [leaf0] at hs⟩

/-- Only the edit's block turned. -/
theorem Es.edset {B : Nat} {s : Ar} {t x r h l xr xh xl xr' xh' xl' : Nat} {tk ld gn : Value} {T : List Nat} {Ld : List Lay} {G : List Nat} {w W : World} (k : Es B s t x r h l xr xh xl tk ld gn T Ld G w) (hsz : W.heap.size = w.heap.size) (oth : ∀ q, q ≠ x → W.heap[q]? = w.heap[q]?) (he : EdC W x t xr' xh' xl' tk ld gn) : Es B s t x r h l xr' xh' xl' tk ld gn T Ld G W := by
  have row : ∀ {e : TypeId} {m : Nat} {v : Value} {n : Nat} {xs : List Value}, w.ownsRow B e m v n xs → e ≠ 88 → W.ownsRow B e m v n xs := fun hr he => L5.owns_of_block hr fun q hq => oth q (fun e => row_ne k.ed hr (fun e => he e.symm) (e ▸ hq))
  exact ⟨L4.arSt.keep s w _ k.ar (fun q hq => oth q fun e => not_own k.ar k.ed (by decide) (by decide) (by decide) (e ▸ hq)) (fun q cs hq => oth q (tag_ne hq k.ed (by decide))), ⟨(oth t (tag_ne k.tr.blk k.ed (by decide))).trans k.tr.blk⟩, he, by rw [hsz]; exact k.bs, row k.rt (by decide), row k.rl (by decide), row k.rg (by decide), fun y hy => row (k.rr y hy) (by decide), fun y hy => row (k.rk y hy) (by decide), k.a1, k.a2, k.a3⟩

/-- The edit's head turned. -/
theorem Es.headed {B : Nat} {s : Ar} {t x r h l xr xh xl : Nat} {tk ld gn : Value} {T : List Nat} {Ld : List Lay} {G : List Nat} {w : World} (k : Es B s t x r h l xr xh xl tk ld gn T Ld G w) (xr' xh' xl' : Nat) :
    Es B s t x r h l xr' xh' xl' tk ld gn T Ld G (((w.setCell ⟨x, 1, none⟩ (.int .i64 (xr' : Int))).setCell ⟨x, 2, none⟩ (.int .i64 (xh' : Int))).setCell ⟨x, 3, none⟩ (.int .i64 (xl' : Int))) ∧ Stp B s s t x w (((w.setCell ⟨x, 1, none⟩ (.int .i64 (xr' : Int))).setCell ⟨x, 2, none⟩ (.int .i64 (xh' : Int))).setCell ⟨x, 3, none⟩ (.int .i64 (xl' : Int))) := by
  have oth : ∀ q, q ≠ x → (((w.setCell ⟨x, 1, none⟩ (.int .i64 (xr' : Int))).setCell ⟨x, 2, none⟩ (.int .i64 (xh' : Int))).setCell ⟨x, 3, none⟩ (.int .i64 (xl' : Int))).heap[q]? = w.heap[q]? := fun q hq => by
    rw [heap_setCell_other _ _ _ _ hq, heap_setCell_other _ _ _ _ hq, heap_setCell_other _ _ _ _ hq]
  have e1 := heap_setCell_same w x 1 _ _ (.int .i64 (xr' : Int)) k.ed
  have e2 := heap_setCell_same _ x 2 _ _ (.int .i64 (xh' : Int)) e1
  have e3 := heap_setCell_same _ x 3 _ _ (.int .i64 (xl' : Int)) e2
  exact ⟨k.edset (by simp [World.setCell]) oth e3, ⟨⟨rfl, rfl, rfl, by simp [World.setCell], fun q _ hn => oth q fun e => hn (Or.inr (Or.inr (Or.inl e)))⟩, fun _ x => Or.inl x⟩⟩

/-- The edit's length turned. -/
theorem Es.lened {B : Nat} {s : Ar} {t x r h l xr xh xl : Nat} {tk ld gn : Value} {T : List Nat} {Ld : List Lay} {G : List Nat} {w : World} (k : Es B s t x r h l xr xh xl tk ld gn T Ld G w) (xl' : Nat) :
    Es B s t x r h l xr xh xl' tk ld gn T Ld G (w.setCell ⟨x, 3, none⟩ (.int .i64 (xl' : Int))) ∧ Stp B s s t x w (w.setCell ⟨x, 3, none⟩ (.int .i64 (xl' : Int))) := by
  have oth : ∀ q, q ≠ x → (w.setCell ⟨x, 3, none⟩ (.int .i64 (xl' : Int))).heap[q]? = w.heap[q]? := fun q hq => heap_setCell_other _ _ _ _ hq
  have e3 := heap_setCell_same _ x 3 _ _ (.int .i64 (xl' : Int)) k.ed
  exact ⟨k.edset (by simp [World.setCell]) oth e3, ⟨⟨rfl, rfl, rfl, by simp [World.setCell], fun q _ hn => oth q fun e => hn (Or.inr (Or.inr (Or.inl e)))⟩, fun _ x => Or.inl x⟩⟩

set_option maxRecDepth 100000 in
set_option maxHeartbeats 1000000 in
theorem new1_ok {N : Nat} {s : Ar} {t x : Nat} {w : World} (k : Es N s t x 0 0 0 0 0 0 (.slice none 0 0) (.slice none 0 0) (.slice none 0 0) [] [] [] w) (ho : s.abs.Ok) (hl : 0 < s.abs.left) :
    Calls Tryz.prog 44 #[.pointer (some ⟨x, 0, none⟩)] w fun e w' => e = .returned (.tuple #[]) ∧ Done N s t x 0 0 0 s.abs.next 1 0 (s.abs.alloc.lay s.abs.next (some (L5.pageL leaf0.toNd))) w w' := by
  have HT := thid (take_ok k ho hl (by simp))
  clear k
  go_enter Tryz.func44, Tryz.ntmps44
  go_wp2_with fail
  refine HT.out.mono ?_
  rintro e w1 ⟨rfl, s1, tk1, hp1, hab1, hE1, hS1⟩
  have HE1 := thid hE1
  have HS1 := thid hS1
  clear HT hE1 hS1
  obtain ⟨d0, d1, d2, d3, d4, d5, d6, dl, df⟩ := HE1.out.ed.cells
  have f1 := df 1
  have f2 := df 2
  have f3 := df 3
  unfold nv
  obtain ⟨nx, hnx⟩ : ∃ nx, Hid (s.abs.next = nx) := ⟨_, rfl⟩
  rw [hnx.out]
  go_wp2_with fail
  obtain ⟨hE2, hS2⟩ := HE1.out.headed nx 1 0
  have HS2 := thid (HS1.out.trans hS2)
  have HP := thid (put_ok hE2 (by simp) (n := leaf0) (at_ := nx) (ra := none) (ka := none) (rc := 0) (kc := 0) ⟨rfl, Or.inl ⟨rfl, rfl⟩⟩ ⟨rfl, Or.inl ⟨rfl, rfl⟩⟩ (fun q _ => by simp [Value.ownBlock]) (fun q _ => by simp [Value.ownBlock]) (fun q _ => by simp [Value.ownBlock]))
  clear hE2 hS2 d0 d1 d2 d3 d4 d5 d6 dl df f1 f2 f3 HE1 HS1
  refine HP.out.mono ?_
  rintro e w3 ⟨rfl, ld3, hE3, hS3⟩
  have HD : Hid (Done N s t x 0 0 0 s.abs.next 1 0 (s.abs.alloc.lay s.abs.next (some (L5.pageL leaf0.toNd))) w w3) := by
    refine ⟨s1, tk1, ld3, .slice none 0 0, _, _, hp1, ?_, by rw [hnx.out]; exact hE3, by simp, ?_, ?_, ?_, HS2.out.trans hS3⟩
    · rw [hab1]; exact (ho.alloc hl).1
    · intro y hy
      have hy' : y = ⟨nx, leaf0, .slice none 0 0, .slice none 0 0, 0⟩ := by simpa [leaf0] using hy
      subst hy'
      exact ⟨leaf0_small, (by decide : leaf0.shaped = true), (by decide : leaf0.size ≤ 1024)⟩
    · intro y hy
      have hy' : y = ⟨nx, leaf0, .slice none 0 0, .slice none 0 0, 0⟩ := by simpa [leaf0] using hy
      subst hy'
      rw [hab1]
      show ∃ c, s.abs.alloc.at (nx : Int) = some c
      rw [← hnx.out]
      exact ⟨_, (L4.Abs.alloc_used ho).2.2⟩
    · rw [hab1, hnx.out]; rfl
  clear HP HS2 hE3 hS3
  go_wp2
  go_end0
  exact ⟨rfl, HD.out⟩

/-- What a call leaves: an arena that has come to A, a tree in block t. -/
def TrHas (s : Ar) (t : Nat) (A : Abs) (xr xh xl : Nat) (w w' : World) : Prop := ∃ s' : Ar, s'.p = s.p ∧ s'.abs = A ∧ s'.abs.Ok ∧ ArP s' w' ∧ TrC w' t s.p xr xh xl ∧ Only (fun k => s.own k ∨ k = t) w w' ∧ (∀ k, s'.own k → s.own k ∨ w.heap.size ≤ k)

set_option maxRecDepth 100000 in
set_option maxHeartbeats 1000000 in
theorem new_ok {s : Ar} {w : World} (hA : ArP s w) (ho : s.abs.Ok) (hl : 0 < s.abs.left) :
    Calls Tryz.prog 14 #[arV s.p] w fun e w' => e = .returned (.tuple #[.pointer (some ⟨w.heap.size, 0, none⟩), .int .i64 0]) ∧ TrHas s w.heap.size (s.abs.alloc.lay s.abs.next (some (L5.pageL leaf0.toNd))) s.abs.next 1 0 w w' := by
  have HB := thid (tbelow w (.cells #[.pointer (some ⟨s.p, 0, none⟩), .int .i64 0, .int .i64 0, .int .i64 0] 83))
  have HT : Hid (TrC (w.alloc (.cells #[.pointer (some ⟨s.p, 0, none⟩), .int .i64 0, .int .i64 0, .int .i64 0] 83)) w.heap.size s.p 0 0 0) := ⟨heap_alloc_new _ _⟩
  have HC := thid (change_ok (L4.arSt.below hA HB.out) HT.out 44 (fun _ _ => rfl) #[] (fun N x W _ _ hE => by simpa using new1_ok hE ho hl))
  have hmf : ∀ (fn : Fn) (first cap : Array Value) (w : World), (Instr.makeFunc fn first cap).run Tryz.prog w = .ok (.func fn first cap) w := fun _ _ _ _ => rfl
  have HA := thid hA
  clear hA
  unfold arV
  go_enter Tryz.func14, Tryz.ntmps14
  go_wp2_with fail
  refine HC.out.mono ?_
  rintro e w1 ⟨rfl, s', hp, hab, hok, hA1, hT1, hon, hown⟩
  have HF : Hid (TrHas s w.heap.size (s.abs.alloc.lay s.abs.next (some (L5.pageL leaf0.toNd))) s.abs.next 1 0 w w1) := by
    refine ⟨s', hp, hab, hok, hA1, hT1, ?_, fun k hk => (hown k hk).imp id fun y => by have := HB.out.size; omega⟩
    exact ⟨hon.os.trans HB.out.os, hon.tape.trans HB.out.tape, hon.output.trans HB.out.output, Nat.le_trans HB.out.size hon.size, fun k hk hs => by
      rw [hon.block k (by have := HB.out.size; omega) hs]
      exact HB.out.block k hk⟩
  clear hA1 hT1 hon hown HC HB HT HA hmf
  go_wp2
  refine bodyPost_ret (v := .tuple #[.pointer (some ⟨w.heap.size, 0, none⟩), .int .i64 0]) (by simp [results, Tryz.results14, go_sem]) rfl ⟨rfl, HF.out⟩
end Go.Proofs.YtjdbjnkmlajdoaaGreat
