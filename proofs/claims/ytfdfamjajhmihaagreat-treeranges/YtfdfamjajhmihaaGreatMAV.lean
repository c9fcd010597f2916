/-
  Tree: change, where the work comes to its end.
-/
import Derived.Test.YtfdfamjajhmihaaGreatMAU
import Derived.Test.YtfdfamjajhmihaaGreatMAR
namespace Go.Proofs.YtfdfamjajhmihaaGreat
open Go.RowKit
open L4 (Ar ArP Abs arV nv)

open L1 (caughtW caught_any undoW Came faultV stopped OnlyAt)

set_option maxHeartbeats 1000000 in
/-- Undo of a function that comes to its end. -/
theorem undo_done (g : FuncId) (hg : ∀ args w, (callFunc g args).run Tryz.prog w = .ok (.enter g args) w) (cap : Array Value) (v2 : Value) (w : World) (S : Nat → Prop) (hS : ∀ k, w.heap.size ≤ k → ¬ S k) (R : World → Prop)
    (h : Calls Tryz.prog g cap (undoW w) fun e w1 => e = .returned (.tuple #[]) ∧ R w1 ∧ Only S (undoW w) w1) :
    Calls Tryz.prog 69 #[.func (.func g) #[] cap, v2] w fun e w' => e = .returned (faultV 0 0) ∧ ∃ w1, R w1 ∧ Only S (undoW w) w1 ∧ OnlyAt w.heap.size 3 w1 w' := by
  have H := thid (caught_any g hg cap (w.alloc (.cells #[.int .i64 0, .int .i64 0] 95)) S (hS _ (by simp)) (hS _ (by simp; omega)) (fun e w1 => e = .returned (.tuple #[]) ∧ R w1) (h.mono fun e w1 ⟨he, hR, ho⟩ => ⟨⟨he, hR⟩, ho, 0, 0, false, by rw [he]; exact .done⟩))
  clear hg h
  go_enter Tryz.func69, Tryz.ntmps69
  go_wp2_with fail
  refine H.out.mono ?_
  rintro e w2 ⟨e1, w1, c, a, t, ⟨he1, hR⟩, hc, rfl, ho, hsz, ho2⟩
  clear H
  cases hc with
  | stop => cases he1
  | done =>
    have hz := ho.size
    simp at hz
    have q0 : w2.cell? ⟨w.heap.size, 0, none⟩ = some (.int .i64 0) := by
      rw [ho2.cell (by simp; omega) (by simp; omega), ho.cell (by simp; omega) (hS _ (by simp))]; simp [go_sem]
    have q1 : w2.cell? ⟨w.heap.size, 1, none⟩ = some (.int .i64 0) := by
      rw [ho2.cell (by simp; omega) (by simp; omega), ho.cell (by simp; omega) (hS _ (by simp))]; simp [go_sem]
    have f0 : w2.frozen? ⟨w.heap.size, 0, none⟩ = false := by
      rw [ho2.frozen (by simp; omega) (by simp; omega), ho.frozen (by simp; omega) (hS _ (by simp))]; simp [go_sem]
    have f1 : w2.frozen? ⟨w.heap.size, 1, none⟩ = false := by
      rw [ho2.frozen (by simp; omega) (by simp; omega), ho.frozen (by simp; omega) (hS _ (by simp))]; simp [go_sem]
    have hz2 : w.heap.size < w2.heap.size := by omega
    clear hsz
    simp only [faultV]
    go_wp2
    refine bodyPost_ret (v := faultV 0 0) (by simp [results, Tryz.results69, go_sem, q0, q1, hz2, faultV]) rfl ⟨rfl, w1, hR, ho, ?_⟩
    exact (((ho2.weaken (fun k _ hk => by simp at hk; omega)).setCell (Or.inr (by simp)) _).setCell (Or.inr (by simp)) _).alloc _

/-- A fault's code. -/
theorem ffield (c a : Int) (w : World) : (Instr.field 95 (.agg #[.int .i64 c, .int .i64 a]) 0).run Tryz.prog w = .ok (.int .i64 c) w := by
  simp [Instr.field, run_underlying Tryz.underlying95, go_sem, Tryz.isAgg25, asAgg]

/-- The blocks that Undo lays are no pages. -/
theorem undoW_tags {w w1 : World} {S : Nat → Prop} (ho : Only S (undoW w) w1) (hS : ∀ k, w.heap.size ≤ k → k < w.heap.size + 3 → ¬ S k) (k : Nat) (hk : w.heap.size ≤ k ∧ k < w.heap.size + 3) : ∃ cs t, w1.heap[k]? = some (.cells cs t (0, 0)) ∧ (t = 95 ∨ t = 4) := by
  have e0 : (undoW w).heap[w.heap.size]? = some (.cells #[.int .i64 0, .int .i64 0] 95 (0, 0)) := ((tbelow _ _).block _ (by simp; omega)).trans (((tbelow _ _).block _ (by simp)).trans (heap_alloc_new w (.cells #[.int .i64 0, .int .i64 0] 95)))
  have e1 : (undoW w).heap[w.heap.size + 1]? = some (.cells #[.int .i64 0, .int .i64 0] 95 (0, 0)) := by
    have h := heap_alloc_new (w.alloc (.cells #[.int .i64 0, .int .i64 0] 95)) (.cells #[.int .i64 0, .int .i64 0] 95)
    rw [show (w.alloc (.cells #[.int .i64 0, .int .i64 0] 95)).heap.size = w.heap.size + 1 by simp] at h
    exact ((tbelow _ _).block _ (by simp)).trans h
  have e2 : (undoW w).heap[w.heap.size + 2]? = some (.cells #[.bool false] 4 (0, 0)) := by
    have h := heap_alloc_new ((w.alloc (.cells #[.int .i64 0, .int .i64 0] 95)).alloc (.cells #[.int .i64 0, .int .i64 0] 95)) (.cells #[.bool false] 4)
    rw [show ((w.alloc (.cells #[.int .i64 0, .int .i64 0] 95)).alloc (.cells #[.int .i64 0, .int .i64 0] 95)).heap.size = w.heap.size + 2 by simp] at h
    exact h
  have hz : (undoW w).heap.size = w.heap.size + 3 := by simp
  have hk' : k = w.heap.size ∨ k = w.heap.size + 1 ∨ k = w.heap.size + 2 := by omega
  rcases hk' with rfl | rfl | rfl
  · exact ⟨_, _, (ho.block _ (by omega) (hS _ hk.1 hk.2)).trans e0, Or.inl rfl⟩
  · exact ⟨_, _, (ho.block _ (by omega) (hS _ hk.1 hk.2)).trans e1, Or.inl rfl⟩
  · exact ⟨_, _, (ho.block _ (by omega) (hS _ hk.1 hk.2)).trans e2, Or.inr rfl⟩

/-- What the work of a change leaves: an edit that can be written. -/
def Done (N : Nat) (s : Ar) (t x r h l xr xh xl : Nat) (A : Abs) (W1 w1 : World) : Prop := ∃ (s' : Ar) (tk ld gn : Value) (T : List Nat) (Ld : List Lay), s'.p = s.p ∧ s'.abs.Ok ∧ Es N s' t x r h l xr xh xl tk ld gn T Ld [] w1 ∧ Ld.length ≤ 10000 ∧ (∀ y ∈ Ld, y.n.small ∧ y.n.shaped = true ∧ y.n.size ≤ 1024) ∧ (∀ y ∈ Ld, ∃ c, s'.abs.at (y.at_ : Int) = some c) ∧ Ld.foldl (fun a y => a.lay y.at_ (some (L5.pageL y.n.toNd))) s'.abs = A ∧ Stp N s s' t x W1 w1

/-- What a change leaves. -/
def Fin (N : Nat) (s : Ar) (t x xr xh xl : Nat) (A : Abs) (W1 w1 : World) : Prop := ∃ s' : Ar, s'.p = s.p ∧ s'.abs = A ∧ s'.abs.Ok ∧ ArP s' w1 ∧ TrC w1 t s.p xr xh xl ∧ Stp N s s' t x W1 w1

set_option maxRecDepth 100000 in
set_option maxHeartbeats 1000000 in
theorem change1_ok {N : Nat} {s : Ar} {t x r h l xr xh xl : Nat} {A : Abs} {w : World} {b0 b2 : Nat} {g : FuncId} {cap : Array Value} (hg : ∀ args w, (callFunc g args).run Tryz.prog w = .ok (.enter g args) w) (h0 : w.cell? ⟨b0, 0, none⟩ = some (.func (.func g) #[] cap)) (h2 : w.cell? ⟨b2, 0, none⟩ = some (.pointer (some ⟨x, 0, none⟩)))
    (hb2 : ∀ (s' : Ar) (w1 : World), Stp N s s' t x w w1 → w1.cell? ⟨b2, 0, none⟩ = some (.pointer (some ⟨x, 0, none⟩)) ∧ b2 < w1.heap.size)
    (H : Calls Tryz.prog g (#[.pointer (some ⟨x, 0, none⟩)] ++ cap) w fun e w1 => e = .returned (.tuple #[]) ∧ Done N s t x r h l xr xh xl A w w1) :
    Calls Tryz.prog 70 #[.pointer (some ⟨b0, 0, none⟩), .pointer (some ⟨b2, 0, none⟩)] w fun e w' => e = .returned (.tuple #[]) ∧ Fin N s t x xr xh xl A w w' := by
  have HH := thid H
  clear H
  go_enter Tryz.func70, Tryz.ntmps70
  go_wp2_with fail
  refine HH.out.mono ?_
  rintro e w1 ⟨rfl, s', tk, ld, gn, T, Ld, hp, hok, hE, hL, hn, hat, hf, hst⟩
  obtain ⟨d2, dl2⟩ := hb2 s' w1 hst
  have HW := thid (write_ok hE hok hL hn hat)
  have HST := thid hst
  clear h0 h2 hb2 HH hE hst hn hat
  go_wp2_with fail
  refine HW.out.mono ?_
  rintro e w2 ⟨rfl, s2, hp2, hab2, hok2, hA2, hT2, hst2⟩
  have HF : Hid (Fin N s t x xr xh xl A w w2) := ⟨s2, hp2.trans hp, hab2.trans hf, hok2, hA2, by rw [← hp]; exact hT2, HST.out.trans hst2⟩
  clear HW HST hA2 hT2 hst2 d2 dl2
  go_wp2
  go_end0
  exact ⟨rfl, HF.out⟩

set_option maxRecDepth 100000 in
set_option maxHeartbeats 1000000 in
theorem change_ok {s : Ar} {t r h l xr xh xl : Nat} {A : Abs} {w : World} (hA : ArP s w) (ht : TrC w t s.p r h l) (g : FuncId) (hg : ∀ args w, (callFunc g args).run Tryz.prog w = .ok (.enter g args) w) (cap : Array Value)
    (H : ∀ (N x : Nat) (W : World), w.heap.size ≤ x → Below w.heap.size w W → Es N s t x r h l r h l (.slice none 0 0) (.slice none 0 0) (.slice none 0 0) [] [] [] W → Calls Tryz.prog g (#[.pointer (some ⟨x, 0, none⟩)] ++ cap) W fun e w1 => e = .returned (.tuple #[]) ∧ Done N s t x r h l xr xh xl A W w1) :
    Calls Tryz.prog 40 #[.pointer (some ⟨t, 0, none⟩), .func (.func g) #[] cap] w fun e w' => e = .returned (.int .i64 0) ∧ ∃ s' : Ar, s'.p = s.p ∧ s'.abs = A ∧ s'.abs.Ok ∧ ArP s' w' ∧ TrC w' t s.p xr xh xl ∧ Only (fun k => s.own k ∨ k = t) w w' ∧ (∀ k, s'.own k → s.own k ∨ w.heap.size ≤ k) := by
  obtain ⟨c0, c1, c2, c3, ct, cf⟩ := ht.cells
  have HA := thid hA
  have HT := thid ht
  have HH := thid H
  clear hA ht H
  have hmf : ∀ (fn : Fn) (first cap : Array Value) (w : World), (Instr.makeFunc fn first cap).run Tryz.prog w = .ok (.func fn first cap) w := fun _ _ _ _ => rfl
  go_enter Tryz.func40, Tryz.ntmps40
  go_wp2_with fail
  have B3 : Below w.heap.size w (((w.alloc (.cells #[.func (.func g) #[] cap] 91)).alloc (.cells #[.pointer (some ⟨t, 0, none⟩), .int .i64 (r : Int), .int .i64 (h : Int), .int .i64 (l : Int), .slice none 0 0, .slice none 0 0, .slice none 0 0] 87)).alloc (.cells #[.pointer (some ⟨w.heap.size + 1, 0, none⟩)] 84)) := ((tbelow w _).alloc (by simp) _).alloc (by simp; omega) _
  have z3 : (((w.alloc (.cells #[.func (.func g) #[] cap] 91)).alloc (.cells #[.pointer (some ⟨t, 0, none⟩), .int .i64 (r : Int), .int .i64 (h : Int), .int .i64 (l : Int), .slice none 0 0, .slice none 0 0, .slice none 0 0] 87)).alloc (.cells #[.pointer (some ⟨w.heap.size + 1, 0, none⟩)] 84)).heap.size = w.heap.size + 3 := by simp
  have k0 : (((w.alloc (.cells #[.func (.func g) #[] cap] 91)).alloc (.cells #[.pointer (some ⟨t, 0, none⟩), .int .i64 (r : Int), .int .i64 (h : Int), .int .i64 (l : Int), .slice none 0 0, .slice none 0 0, .slice none 0 0] 87)).alloc (.cells #[.pointer (some ⟨w.heap.size + 1, 0, none⟩)] 84)).cell? ⟨w.heap.size, 0, none⟩ = some (.func (.func g) #[] cap) := by simp [go_sem]
  have k1 : EdC (((w.alloc (.cells #[.func (.func g) #[] cap] 91)).alloc (.cells #[.pointer (some ⟨t, 0, none⟩), .int .i64 (r : Int), .int .i64 (h : Int), .int .i64 (l : Int), .slice none 0 0, .slice none 0 0, .slice none 0 0] 87)).alloc (.cells #[.pointer (some ⟨w.heap.size + 1, 0, none⟩)] 84)) (w.heap.size + 1) t r h l (.slice none 0 0) (.slice none 0 0) (.slice none 0 0) := by
    have h1 := heap_alloc_new (w.alloc (.cells #[.func (.func g) #[] cap] 91)) (.cells #[.pointer (some ⟨t, 0, none⟩), .int .i64 (r : Int), .int .i64 (h : Int), .int .i64 (l : Int), .slice none 0 0, .slice none 0 0, .slice none 0 0] 87)
    rw [show (w.alloc (.cells #[.func (.func g) #[] cap] 91)).heap.size = w.heap.size + 1 by simp] at h1
    exact ((tbelow _ _).block _ (by simp)).trans h1
  have k2 : (((w.alloc (.cells #[.func (.func g) #[] cap] 91)).alloc (.cells #[.pointer (some ⟨t, 0, none⟩), .int .i64 (r : Int), .int .i64 (h : Int), .int .i64 (l : Int), .slice none 0 0, .slice none 0 0, .slice none 0 0] 87)).alloc (.cells #[.pointer (some ⟨w.heap.size + 1, 0, none⟩)] 84)).cell? ⟨w.heap.size + 1 + 1, 0, none⟩ = some (.pointer (some ⟨w.heap.size + 1, 0, none⟩)) := by simp [go_sem]
  have HB3 := thid B3
  have HK1 := thid k1
  clear B3 k1 c0 c1 c2 c3 ct cf hmf
  generalize ((w.alloc (.cells #[.func (.func g) #[] cap] 91)).alloc (.cells #[.pointer (some ⟨t, 0, none⟩), .int .i64 (r : Int), .int .i64 (h : Int), .int .i64 (l : Int), .slice none 0 0, .slice none 0 0, .slice none 0 0] 87)).alloc (.cells #[.pointer (some ⟨w.heap.size + 1, 0, none⟩)] 84) = W at *
  have HU := thid (L1.below_catchW W : Below W.heap.size W (undoW W))
  have zu : (undoW W).heap.size = w.heap.size + 6 := by simp [z3]
  have HBU := thid (HB3.out.trans (HU.out.mono HB3.out.size))
  have HE : Hid (Es (w.heap.size + 6) s t (w.heap.size + 1) r h l r h l (.slice none 0 0) (.slice none 0 0) (.slice none 0 0) [] [] [] (undoW W)) :=
    ⟨L4.arSt.below HA.out HBU.out, HT.out.on HBU.out, HK1.out.on HU.out, Nat.le_of_eq zu.symm, ⟨rfl, Or.inl ⟨rfl, rfl⟩⟩, ⟨rfl, Or.inl ⟨rfl, rfl⟩⟩, ⟨rfl, Or.inl ⟨rfl, rfl⟩⟩, fun y hy => by simp at hy, fun y hy => by simp at hy, fun k _ => ⟨by simp [Value.ownBlock], by simp [Value.ownBlock], fun y hy => by simp at hy⟩, fun k hk => by simp [Value.ownBlock] at hk, fun k hk => by simp [Value.ownBlock] at hk⟩
  have HG := thid (HH.out (w.heap.size + 6) (w.heap.size + 1) (undoW W) (by omega) HBU.out HE.out)
  have own_lt : ∀ k, s.own k → k < w.heap.size := fun k hk => L4.arSt.lt s w k HA.out hk
  have t_lt : t < w.heap.size := (Array.getElem?_eq_some_iff.1 HT.out.blk).1
  have HC := thid (change1_ok (N := w.heap.size + 6) (x := w.heap.size + 1) (w := undoW W) (b0 := w.heap.size) (b2 := w.heap.size + 1 + 1) hg ((HU.out.cell (p := ⟨w.heap.size, 0, none⟩) (by show w.heap.size < W.heap.size; omega)).trans k0) ((HU.out.cell (p := ⟨w.heap.size + 1 + 1, 0, none⟩) (by show w.heap.size + 1 + 1 < W.heap.size; omega)).trans k2) (fun s' w1 hst => ⟨(hst.only.cell (p := ⟨w.heap.size + 1 + 1, 0, none⟩) (by show w.heap.size + 1 + 1 < _; omega) (fun hk => by
      rcases hk with hk | hk | hk | hk
      · have := own_lt (w.heap.size + 1 + 1) hk; omega
      · have hk' : w.heap.size + 1 + 1 = t := hk; omega
      · have hk' : w.heap.size + 1 + 1 = w.heap.size + 1 := hk; omega
      · have hk' : w.heap.size + 6 ≤ w.heap.size + 1 + 1 := hk; omega)).trans ((HU.out.cell (p := ⟨w.heap.size + 1 + 1, 0, none⟩) (by show w.heap.size + 1 + 1 < W.heap.size; omega)).trans k2), by have := hst.only.size; omega⟩) HG.out)
  refine (undo_done 70 (fun _ _ => rfl) _ _ W (fun k => s.own k ∨ k = t ∨ k = w.heap.size + 1) (fun k hk x => by
      rcases x with x | x | x
      · have := own_lt k x; omega
      · omega
      · omega) (fun w1 => Fin (w.heap.size + 6) s t (w.heap.size + 1) xr xh xl A (undoW W) w1) (HC.out.mono fun e w1 ⟨he, hF⟩ => ⟨he, hF, ?_⟩)).mono ?_
  · obtain ⟨s', _, _, _, _, _, hst⟩ := hF
    exact ⟨hst.only.os, hst.only.tape, hst.only.output, hst.only.size, fun k hk hs => hst.only.block k hk (fun x => by
      rcases x with x | x | x | x
      · exact hs (Or.inl x)
      · exact hs (Or.inr (Or.inl x))
      · exact hs (Or.inr (Or.inr x))
      · omega)⟩
  rintro e w2 ⟨rfl, w1, ⟨s', hp, hab, hok, hA1, hT1, hst⟩, ho, hat⟩
  have hS : ∀ k, W.heap.size ≤ k → k < W.heap.size + 3 → ¬ (s.own k ∨ k = t ∨ k = w.heap.size + 1) := fun k hk _ x => by
    rcases x with x | x | x
    · have := own_lt k x; omega
    · omega
    · omega
  have HF : Hid (∃ s' : Ar, s'.p = s.p ∧ s'.abs = A ∧ s'.abs.Ok ∧ ArP s' w2 ∧ TrC w2 t s.p xr xh xl ∧ Only (fun k => s.own k ∨ k = t) w w2 ∧ (∀ k, s'.own k → s.own k ∨ w.heap.size ≤ k)) := by
    refine ⟨s', hp, hab, hok, L4.arSt.keep s' w1 w2 hA1 (fun k hk => hat.block k (L4.arSt.lt _ _ _ hA1 hk) fun x => ?_) (L4.pk_of_only hat fun k hk _ => ?_), ⟨(hat.block t (Array.getElem?_eq_some_iff.1 hT1.blk).1 fun x => ?_).trans hT1.blk⟩, ⟨?_, ?_, ?_, ?_, fun k hk hs => ?_⟩, fun k hk => ?_⟩
    · rcases hst.own k hk with y | y
      · have := own_lt k y; omega
      · omega
    · obtain ⟨cs, tg, h1, h2⟩ := undoW_tags ho hS k hk
      exact ⟨cs, tg, h1, by rcases h2 with rfl | rfl <;> decide⟩
    · omega
    · rw [hat.os, ho.os, HBU.out.os]
    · rw [hat.tape, ho.tape, HBU.out.tape]
    · rw [hat.output, ho.output, HBU.out.output]
    · have a := hat.size; have b := ho.size; omega
    · have a := ho.size
      rw [hat.block k (by omega) (fun x => by omega), ho.block k (by omega) (fun x => by
        rcases x with x | x | x
        · exact hs (Or.inl x)
        · exact hs (Or.inr x)
        · omega)]
      exact HBU.out.block k hk
    · rcases hst.own k hk with y | y
      · exact Or.inl y
      · exact Or.inr (by omega)
  clear hat ho hst hA1 hT1 HG HC HH HE HBU HU HB3 HK1 k0 k2
  simp only [faultV]
  have ff := fun w => ffield 0 0 w
  go_wp2
  refine bodyPost_ret (v := .int .i64 0) (by simp [results, Tryz.results40, go_sem]) rfl ⟨rfl, HF.out⟩
end Go.Proofs.YtfdfamjajhmihaaGreat
/-
  Tree: New of an arena with room.
-/
namespace Go.Proofs.YtfdfamjajhmihaaGreat
open Go.RowKit
open L4 (Ar ArP Abs arV nv)

/-- A leaf without entries. -/
def leaf0 : L5.No := ⟨true, [], []⟩

theorem leaf0_small : leaf0.small := ⟨by decide, by decide, fun s hs => by simp [leaf0] at hs⟩

/-- Only the edit's block turned. -/
theorem Es.edset {B : Nat} {s : Ar} {t x r h l xr xh xl xr' xh' xl' : Nat} {tk ld gn : Value} {T : List Nat} {Ld : List Lay} {G : List Nat} {w W : World} (k : Es B s t x r h l xr xh xl tk ld gn T Ld G w) (hsz : W.heap.size = w.heap.size) (oth : ∀ q, q ≠ x → W.heap[q]? = w.heap[q]?) (he : EdC W x t xr' xh' xl' tk ld gn) : Es B s t x r h l xr' xh' xl' tk ld gn T Ld G W := by
  have row : ∀ {e : TypeId} {m : Nat} {v : Value} {n : Nat} {xs : List Value}, w.ownsRow B e m v n xs → e ≠ 87 → W.ownsRow B e m v n xs := fun hr he => L5.owns_of_block hr fun q hq => oth q (fun e => row_ne k.ed hr (fun e => he e.symm) (e ▸ hq))
  exact ⟨L4.arSt.keep s w _ k.ar (fun q hq => oth q fun e => not_own k.ar k.ed (by decide) (by decide) (by decide) (e ▸ hq)) (fun q cs hq => oth q (tag_ne hq k.ed (by decide))), ⟨(oth t (tag_ne k.tr.blk k.ed (by decide))).trans k.tr.blk⟩, he, by rw [hsz]; exact k.bs, row k.rt (by decide), row k.rl (by decide), row k.rg (by decide), fun y hy => row (k.rr y hy) (by decide), fun y hy => row (k.rk y hy) (by decide), k.a1, k.a2, k.a3⟩

/-- The edit's head turned. -/
theorem Es.headed {B : Nat} {s : Ar} {t x r h l xr xh xl : Nat} {tk ld gn : Value} {T : List Nat} {Ld : List Lay} {G : List Nat} {w : World} (k : Es B s t x r h l xr xh xl tk ld gn T Ld G w) (xr' xh' xl' : Nat) :
    Es B s t x r h l xr' xh' xl' tk ld gn T Ld G (((w.setCell ⟨x, 1, none⟩ (.int .i64 (xr' : Int))).setCell ⟨x, 2, none⟩ (.int .i64 (xh' : Int))).setCell ⟨x, 3, none⟩ (.int .i64 (xl' : Int))) ∧ Stp B s s t x w (((w.setCell ⟨x, 1, none⟩ (.int .i64 (xr' : Int))).setCell ⟨x, 2, none⟩ (.int .i64 (xh' : Int))).setCell ⟨x, 3, none⟩ (.int .i64 (xl' : Int))) := by
  have oth : ∀ q, q ≠ x → (((w.setCell ⟨x, 1, none⟩ (.int .i64 (xr' : Int))).setCell ⟨x, 2, none⟩ (.int .i64 (xh' : Int))).setCell ⟨x, 3, none⟩ (.int .i64 (xl' : Int))).heap[q]? = w.heap[q]? := fun q hq => by
    rw [heap_setCell_other _ _ _ _ hq, heap_setCell_other _ _ _ _ hq, heap_setCell_other _ _ _ _ hq]
  have e1 := heap_setCell_same w x 1 _ _ (.int .i64 (xr' : Int)) k.ed
  have e2 := heap_setCell_same _ x 2 _ _ (.int .i64 (xh' : Int)) e1
  have e3 := heap_setCell_same _ x 3 _ _ (.int .i64 (xl' : Int)) e2
  exact ⟨k.edset (by simp [World.setCell]) oth e3, ⟨⟨rfl, rfl, rfl, by simp [World.setCell], fun q _ hn => oth q fun e => hn (Or.inr (Or.inr (Or.inl e)))⟩, fun _ x => Or.inl x⟩⟩

/-- The edit's length turned. -/
theorem Es.lened {B : Nat} {s : Ar} {t x r h l xr xh xl : Nat} {tk ld gn : Value} {T : List Nat} {Ld : List Lay} {G : List Nat} {w : World} (k : Es B s t x r h l xr xh xl tk ld gn T Ld G w) (xl' : Nat) :
    Es B s t x r h l xr xh xl' tk ld gn T Ld G (w.setCell ⟨x, 3, none⟩ (.int .i64 (xl' : Int))) ∧ Stp B s s t x w (w.setCell ⟨x, 3, none⟩ (.int .i64 (xl' : Int))) := by
  have oth : ∀ q, q ≠ x → (w.setCell ⟨x, 3, none⟩ (.int .i64 (xl' : Int))).heap[q]? = w.heap[q]? := fun q hq => heap_setCell_other _ _ _ _ hq
  have e3 := heap_setCell_same _ x 3 _ _ (.int .i64 (xl' : Int)) k.ed
  exact ⟨k.edset (by simp [World.setCell]) oth e3, ⟨⟨rfl, rfl, rfl, by simp [World.setCell], fun q _ hn => oth q fun e => hn (Or.inr (Or.inr (Or.inl e)))⟩, fun _ x => Or.inl x⟩⟩

set_option maxRecDepth 100000 in
set_option maxHeartbeats 1000000 in
theorem new1_ok {N : Nat} {s : Ar} {t x : Nat} {w : World} (k : Es N s t x 0 0 0 0 0 0 (.slice none 0 0) (.slice none 0 0) (.slice none 0 0) [] [] [] w) (ho : s.abs.Ok) (hl : 0 < s.abs.left) :
    Calls Tryz.prog 41 #[.pointer (some ⟨x, 0, none⟩)] w fun e w' => e = .returned (.tuple #[]) ∧ Done N s t x 0 0 0 s.abs.next 1 0 (s.abs.alloc.lay s.abs.next (some (L5.pageL leaf0.toNd))) w w' := by
  have HT := thid (take_ok k ho hl (by simp))
  clear k
  go_enter Tryz.func41, Tryz.ntmps41
  go_wp2_with fail
  refine HT.out.mono ?_
  rintro e w1 ⟨rfl, s1, tk1, hp1, hab1, hE1, hS1⟩
  have HE1 := thid hE1
  have HS1 := thid hS1
  clear HT hE1 hS1
  obtain ⟨d0, d1, d2, d3, d4, d5, d6, dl, df⟩ := HE1.out.ed.cells
  have f1 := df 1
  have f2 := df 2
  have f3 := df 3
  unfold nv
  obtain ⟨nx, hnx⟩ : ∃ nx, Hid (s.abs.next = nx) := ⟨_, rfl⟩
  rw [hnx.out]
  go_wp2_with fail
  obtain ⟨hE2, hS2⟩ := HE1.out.headed nx 1 0
  have HS2 := thid (HS1.out.trans hS2)
  have HP := thid (put_ok hE2 (by simp) (n := leaf0) (at_ := nx) (ra := none) (ka := none) (rc := 0) (kc := 0) ⟨rfl, Or.inl ⟨rfl, rfl⟩⟩ ⟨rfl, Or.inl ⟨rfl, rfl⟩⟩ (fun q _ => by simp [Value.ownBlock]) (fun q _ => by simp [Value.ownBlock]) (fun q _ => by simp [Value.ownBlock]))
  clear hE2 hS2 d0 d1 d2 d3 d4 d5 d6 dl df f1 f2 f3 HE1 HS1
  refine HP.out.mono ?_
  rintro e w3 ⟨rfl, ld3, hE3, hS3⟩
  have HD : Hid (Done N s t x 0 0 0 s.abs.next 1 0 (s.abs.alloc.lay s.abs.next (some (L5.pageL leaf0.toNd))) w w3) := by
    refine ⟨s1, tk1, ld3, .slice none 0 0, _, _, hp1, ?_, by rw [hnx.out]; exact hE3, by simp, ?_, ?_, ?_, HS2.out.trans hS3⟩
    · rw [hab1]; exact (ho.alloc hl).1
    · intro y hy
      have hy' : y = ⟨nx, leaf0, .slice none 0 0, .slice none 0 0, 0⟩ := by simpa [leaf0] using hy
      subst hy'
      exact ⟨leaf0_small, (by decide : leaf0.shaped = true), (by decide : leaf0.size ≤ 1024)⟩
    · intro y hy
      have hy' : y = ⟨nx, leaf0, .slice none 0 0, .slice none 0 0, 0⟩ := by simpa [leaf0] using hy
      subst hy'
      rw [hab1]
      show ∃ c, s.abs.alloc.at (nx : Int) = some c
      rw [← hnx.out]
      exact ⟨_, (L4.Abs.alloc_used ho).2.2⟩
    · rw [hab1, hnx.out]; rfl
  clear HP HS2 hE3 hS3
  go_wp2
  go_end0
  exact ⟨rfl, HD.out⟩

/-- What a call leaves: an arena that has come to A, a tree in block t. -/
def TrHas (s : Ar) (t : Nat) (A : Abs) (xr xh xl : Nat) (w w' : World) : Prop := ∃ s' : Ar, s'.p = s.p ∧ s'.abs = A ∧ s'.abs.Ok ∧ ArP s' w' ∧ TrC w' t s.p xr xh xl ∧ Only (fun k => s.own k ∨ k = t) w w' ∧ (∀ k, s'.own k → s.own k ∨ w.heap.size ≤ k)

set_option maxRecDepth 100000 in
set_option maxHeartbeats 1000000 in
theorem new_ok {s : Ar} {w : World} (hA : ArP s w) (ho : s.abs.Ok) (hl : 0 < s.abs.left) :
    Calls Tryz.prog 12 #[arV s.p] w fun e w' => e = .returned (.tuple #[.pointer (some ⟨w.heap.size, 0, none⟩), .int .i64 0]) ∧ TrHas s w.heap.size (s.abs.alloc.lay s.abs.next (some (L5.pageL leaf0.toNd))) s.abs.next 1 0 w w' := by
  have HB := thid (tbelow w (.cells #[.pointer (some ⟨s.p, 0, none⟩), .int .i64 0, .int .i64 0, .int .i64 0] 82))
  have HT : Hid (TrC (w.alloc (.cells #[.pointer (some ⟨s.p, 0, none⟩), .int .i64 0, .int .i64 0, .int .i64 0] 82)) w.heap.size s.p 0 0 0) := ⟨heap_alloc_new _ _⟩
  have HC := thid (change_ok (L4.arSt.below hA HB.out) HT.out 41 (fun _ _ => rfl) #[] (fun N x W _ _ hE => by simpa using new1_ok hE ho hl))
  have hmf : ∀ (fn : Fn) (first cap : Array Value) (w : World), (Instr.makeFunc fn first cap).run Tryz.prog w = .ok (.func fn first cap) w := fun _ _ _ _ => rfl
  have HA := thid hA
  clear hA
  unfold arV
  go_enter Tryz.func12, Tryz.ntmps12
  go_wp2_with fail
  refine HC.out.mono ?_
  rintro e w1 ⟨rfl, s', hp, hab, hok, hA1, hT1, hon, hown⟩
  have HF : Hid (TrHas s w.heap.size (s.abs.alloc.lay s.abs.next (some (L5.pageL leaf0.toNd))) s.abs.next 1 0 w w1) := by
    refine ⟨s', hp, hab, hok, hA1, hT1, ?_, fun k hk => (hown k hk).imp id fun y => by have := HB.out.size; omega⟩
    exact ⟨hon.os.trans HB.out.os, hon.tape.trans HB.out.tape, hon.output.trans HB.out.output, Nat.le_trans HB.out.size hon.size, fun k hk hs => by
      rw [hon.block k (by have := HB.out.size; omega) hs]
      exact HB.out.block k hk⟩
  clear hA1 hT1 hon hown HC HB HT HA hmf
  go_wp2
  refine bodyPost_ret (v := .tuple #[.pointer (some ⟨w.heap.size, 0, none⟩), .int .i64 0]) (by simp [results, Tryz.results12, go_sem]) rfl ⟨rfl, HF.out⟩
end Go.Proofs.YtfdfamjajhmihaaGreat
/-
  Tree: the way in a tree of one leaf.
-/
namespace Go.Proofs.YtfdfamjajhmihaaGreat
open Go.RowKit
open L4 (Ar ArP Abs arV nv)

/-- A step onto a row of steps. -/
theorem append_step {ops : Array Oper} {rest : List Oper} {o : Oper} {a : Act} {Q : Exit → Act → World → Prop} {W1 : World} (base : Nat) (hbase : base ≤ W1.heap.size) (hgd : o.guard = none) (s x : Operand) (ho : o.op = .call { callee := .builtin .append, args := #[s, x], argTypes := #[85, 85] })
    (v : Value) (n : Nat) (ys xs : List Value) (hs : a.eval s = v) (h : W1.ownsRow base 100 5 v n ys) (hn : n ≤ 10000) (ad : Addr) (cap : Nat) (hx : a.eval x = .slice (some ad) 1 cap) (hl : xs.length = 5) (hc : ∀ j u, xs[j]? = some u → W1.cell? (ad.add j) = some u) (h1 : ∀ u ∈ xs, u.oneCell' = true)
    (hK : ∀ v' W', W'.ownsRow base 100 5 v' (n + 1) (ys ++ xs) → W1.grownBy W' v.ownBlock → wpList Tryz.prog ops Q rest (a.put o.dst v') W') : wpList Tryz.prog ops Q (o :: rest) a W1 := by
  have hinfo : (Tryz.prog.info? 100).map (fun i => (i.zero, i.size, i.bytes)) = some (some zStep, 5, 72) := by kernel_rfl
  obtain ⟨i, hi, hz⟩ := Option.map_eq_some_iff.1 hinfo
  simp only [Prod.mk.injEq] at hz
  obtain ⟨h3, h4, h5⟩ := hz
  exact wpList_append_own_at (P := Tryz.prog) W1 hgd s x 85 ho base 100 i zStep 5 72 Tryz.underlying85 hi h3 h4 h5 rfl (by decide) v n ys hs h ad 1 cap xs hx (by omega) hc h1 (by unfold maxLen; omega) (by omega) hbase (fun v' W' hown hg _ _ => hK v' W' hown hg)

set_option maxRecDepth 100000 in
set_option maxHeartbeats 1000000 in
theorem way_ok {s : Ar} {w : World} {t r l : Nat} {nd : L5.No} {k : ByteArray} (hA : ArP s w) (ho : s.abs.Ok) (ht : TrC w t s.p r 1 l) (hn : s.abs.at (r : Int) = some (L5.pageL nd.toNd)) (hs : nd.shaped = true) (hz : nd.size ≤ 1024) (hlf : nd.leaf = true) :
    Calls Tryz.prog 50 #[.pointer (some ⟨t, 0, none⟩), .string k] w fun e w' => ∃ a c a' c' b cp, e = .returned (.slice (some ⟨b, 0, none⟩) 1 cp) ∧ w'.ownsRow w.heap.size 100 5 (.slice (some ⟨b, 0, none⟩) 1 cp) 1 [nv r, .bool true, .slice a nd.recs.length c, .slice a' nd.kids.length c', nv 0] ∧
      w'.ownsRow w.heap.size 9 1 (.slice a nd.recs.length c) nd.recs.length (L5.svs nd.recs) ∧ w'.ownsRow w.heap.size 3 1 (.slice a' nd.kids.length c') nd.kids.length (L5.ivs nd.kids) ∧ Below w.heap.size w w' := by
  obtain ⟨c0, c1, c2, c3, ct, cf⟩ := ht.cells
  have HL := thid (load_ok hA ho ht hn hs hz)
  rw [hlf] at HL
  clear hA ht ho
  have c2' : w.cell? ⟨t, 2, none⟩ = some (.int .i64 1) := c2
  clear c2
  go_enter Tryz.func50, Tryz.ntmps50
  go_wp2_with fail
  go_loopw [5, 6, 20] (fun u5 u6 i w2 => u5 = .slice none 0 0 ∧ u6 = .int .i64 (r : Int) ∧ i = .int .i64 0 ∧ w2 = w) (fun _ _ _ _ => 0)
  case atStart => exact ⟨rfl, rfl, rfl, rfl⟩
  case round =>
    obtain ⟨rfl, rfl, rfl, rfl⟩ := hrel
    go_wp2_with fail
    refine HL.out.mono ?_
    rintro e w1 ⟨v, rfl, a, c, a', c', rfl, o1, o2, B1⟩
    have HO1 := thid o1
    have HO2 := thid o2
    have HB1 := thid B1
    unfold L5.nodeV
    clear HL o1 o2 B1 c0 c1 c2' c3 ct cf
    have HB2 := thid (tbelow w1 (.cells #[.int .i64 (r : Int), .bool true, .slice a nd.recs.length c, .slice a' nd.kids.length c', .int .i64 0] 100))
    rw [hlf]
    go_wp2_with (first
      | (at_builtin
         revert HB2)
      | fail)
    intro HB2
    refine append_step wr.heap.size (Nat.le_trans HB1.out.size HB2.out.size) rfl _ _ rfl (.slice none 0 0) 0 [] [.int .i64 (r : Int), .bool true, .slice a nd.recs.length c, .slice a' nd.kids.length c', .int .i64 0] rfl ⟨rfl, Or.inl ⟨rfl, rfl⟩⟩ (by omega) ⟨w1.heap.size, 0, none⟩ 1 rfl rfl (fun i u hi => by
        rw [Addr.add_lit, cell_of_row _ _ _ _ _ _ (heap_alloc_new _ _)]
        simpa using hi) (by simp; exact ⟨rfl, rfl, rfl, rfl, rfl⟩) ?_
    intro v' w3 hown hg
    obtain ⟨ad, cp, rfl, had, _⟩ := L4.owns_slice hown
    obtain ⟨b, rfl, hb⟩ := had (by omega)
    have HR := thid hown
    have HG := thid (⟨hg.os, hg.tape, hg.output, hg.size, fun k hk => hg.block k hk (by simp [Value.ownBlock])⟩ : Below (w1.alloc (.cells #[.int .i64 (r : Int), .bool true, .slice a nd.recs.length c, .slice a' nd.kids.length c', .int .i64 0] 100)).heap.size _ w3)
    clear hown hg had hb
    go_wp2
    go_ret
    exact ⟨a, c, a', c', b, cp, rfl, HR.out, L5.owns_below (L5.owns_below HO1.out HB2.out) HG.out, L5.owns_below (L5.owns_below HO2.out HB2.out) HG.out, tbelow_on (tbelow_on HB1.out HB2.out) HG.out⟩
end Go.Proofs.YtfdfamjajhmihaaGreat
/-
  Tree: grow of a node that fits; insert into a leaf that has room.
-/
namespace Go.Proofs.YtfdfamjajhmihaaGreat
open Go.RowKit
open L4 (Ar ArP Abs arV nv)

/-- A way of one step. -/
structure Way1 (w : World) (b cp : Nat) (at_ : Nat) (n : L5.No) (vr vk : Value) (kid : Nat) : Prop where
  lt : b < w.heap.size
  cap : 1 ≤ cp
  c0 : w.cell? ⟨b, 0, none⟩ = some (.int .i64 (at_ : Int))
  c1 : w.cell? ⟨b, 1, none⟩ = some (.bool n.leaf)
  c2 : w.cell? ⟨b, 2, none⟩ = some vr
  c3 : w.cell? ⟨b, 3, none⟩ = some vk
  c4 : w.cell? ⟨b, 4, none⟩ = some (.int .i64 (kid : Int))

theorem Way1.on {w w' : World} {b cp at_ : Nat} {n : L5.No} {vr vk : Value} {kid : Nat} (k : Way1 w b cp at_ n vr vk kid) (hb : Below w.heap.size w w') : Way1 w' b cp at_ n vr vk kid :=
  ⟨Nat.lt_of_lt_of_le k.lt hb.size, k.cap, (hb.cell k.lt).trans k.c0, (hb.cell k.lt).trans k.c1, (hb.cell k.lt).trans k.c2, (hb.cell k.lt).trans k.c3, (hb.cell k.lt).trans k.c4⟩

set_option maxRecDepth 100000 in
set_option maxHeartbeats 1000000 in
theorem parted_ok {w : World} {b cp at_ kid : Nat} {n : L5.No} {ra ka : Option Addr} {rc kc : Nat} (k : Way1 w b cp at_ n (.slice ra n.recs.length rc) (.slice ka n.kids.length kc) kid) :
    Calls Tryz.prog 106 #[.slice (some ⟨b, 0, none⟩) 1 cp] w fun e w' => e = .returned (.tuple #[.slice (some ⟨b, 0, none⟩) 0 cp, .agg #[.int .i64 (at_ : Int), .bool n.leaf, .slice ra n.recs.length rc, .slice ka n.kids.length kc, .int .i64 (kid : Int)]]) ∧ Below w.heap.size w w' := by
  have HB1 := thid (tbelow w (.cells #[.int .i64 0, .bool false, .slice none 0 0, .slice none 0 0, .int .i64 0] 100))
  obtain ⟨hb, hcp, c0, c1, c2, c3, c4⟩ := k.on HB1.out
  have hz : (w.alloc (.cells #[.int .i64 0, .bool false, .slice none 0 0, .slice none 0 0, .int .i64 0] 100)).heap[w.heap.size]? = some (.cells #[.int .i64 0, .bool false, .slice none 0 0, .slice none 0 0, .int .i64 0] 100 (0, 0)) := heap_alloc_new _ _
  clear k
  go_enter Tryz.func106, Tryz.ntmps106
  go_wp2_with fail
  generalize w.alloc (.cells #[.int .i64 0, .bool false, .slice none 0 0, .slice none 0 0, .int .i64 0] 100) = W at *
  refine wp_region_quiet_tail (fun w' => ∃ n, w' = World.drewN W n) 8 (by kernel_rfl) (by kernel_rfl) ⟨1, rfl⟩ ?_
  simp only [List.take_succ_cons, List.take_zero, List.drop_succ_cons, List.drop_zero]
  repeat (go_big_quiet_step (fail))
  refine wpQuiet_nil ?_
  rintro _ ⟨nq, rfl⟩
  have HB2 := thid (HB1.out.trans ((below_drewN (Below.refl _ _) nq : Below W.heap.size W (World.drewN W nq)).mono HB1.out.size))
  have hz2 : (World.drewN W nq).heap[w.heap.size]? = some (.cells #[.int .i64 0, .bool false, .slice none 0 0, .slice none 0 0, .int .i64 0] 100 (0, 0)) := ((below_drewN (Below.refl _ _) nq : Below W.heap.size W (World.drewN W nq)).block _ (Array.getElem?_eq_some_iff.1 hz).1).trans hz
  clear c0 c1 c2 c3 c4 hb hz HB1
  generalize World.drewN W nq = V at *
  have z0 : V.cell? ⟨w.heap.size, 0, none⟩ = some (.int .i64 0) := by rw [cell_of_row _ _ _ _ _ _ hz2]; rfl
  have z1 : V.cell? ⟨w.heap.size, 1, none⟩ = some (.bool false) := by rw [cell_of_row _ _ _ _ _ _ hz2]; rfl
  have z2 : V.cell? ⟨w.heap.size, 2, none⟩ = some (.slice none 0 0) := by rw [cell_of_row _ _ _ _ _ _ hz2]; rfl
  have z3 : V.cell? ⟨w.heap.size, 3, none⟩ = some (.slice none 0 0) := by rw [cell_of_row _ _ _ _ _ _ hz2]; rfl
  have z4 : V.cell? ⟨w.heap.size, 4, none⟩ = some (.int .i64 0) := by rw [cell_of_row _ _ _ _ _ _ hz2]; rfl
  have zf : ∀ i, V.frozen? ⟨w.heap.size, i, none⟩ = false := fun i => frozen_of_row _ _ _ _ _ hz2
  go_wp2
  refine bodyPost_ret (v := .tuple #[.slice (some ⟨b, 0, none⟩) 0 cp, .agg #[.int .i64 (at_ : Int), .bool n.leaf, .slice ra n.recs.length rc, .slice ka n.kids.length kc, .int .i64 (kid : Int)]]) (by simp [results, Tryz.results106, go_sem, z0, z1, z2, z3, z4]) rfl ⟨rfl, ?_⟩
  exact ((((HB2.out.setCell (Nat.le_refl _) _).setCell (Nat.le_refl _) _).setCell (Nat.le_refl _) _).setCell (Nat.le_refl _) _).setCell (Nat.le_refl _) _

set_option maxRecDepth 100000 in
set_option maxHeartbeats 1000000 in
theorem grow_fit {B : Nat} {s : Ar} {t x r h l xr xh xl : Nat} {tk ld gn : Value} {T : List Nat} {Ld : List Lay} {G : List Nat} {w : World} (k : Es B s t x r h l xr xh xl tk ld gn T Ld G w) (hL : Ld.length ≤ 10000) {n : L5.No} {at_ b cp kid : Nat} {ra ka : Option Addr} {rc kc : Nat} (hw : Way1 w b cp at_ n (.slice ra n.recs.length rc) (.slice ka n.kids.length kc) kid)
    (yr : w.ownsRow B 9 1 (.slice ra n.recs.length rc) n.recs.length (L5.svs n.recs)) (yk : w.ownsRow B 3 1 (.slice ka n.kids.length kc) n.kids.length (L5.ivs n.kids)) (b1 : ∀ q, s.own q → (Value.slice ka n.kids.length kc).ownBlock ≠ some q) (b2 : ∀ q, tk.ownBlock = some q → (Value.slice ka n.kids.length kc).ownBlock ≠ some q) (b3 : ∀ q, gn.ownBlock = some q → (Value.slice ka n.kids.length kc).ownBlock ≠ some q) (hs : n.small) (hz : n.size ≤ 1024) :
    Calls Tryz.prog 88 #[.pointer (some ⟨x, 0, none⟩), .slice (some ⟨b, 0, none⟩) 1 cp] w fun e w' => e = .returned (.tuple #[]) ∧ ∃ ld', Es B s t x r h l xr xh xl tk ld' gn T (Ld ++ [⟨at_, n, .slice ra n.recs.length rc, .slice ka n.kids.length kc, 0⟩]) G w' ∧ Stp B s s t x w w' := by
  have HK := thid k
  have HW := thid hw
  have HR := thid yr
  have HKK := thid yk
  clear k hw yr yk
  go_enter Tryz.func88, Tryz.ntmps88
  go_wp2_with fail
  refine (parted_ok HW.out).mono ?_
  rintro e w1 ⟨rfl, hb1⟩
  have HB1 := thid hb1
  clear hb1
  have HA1 := thid (tbelow w1 (.cells #[.int .i64 (at_ : Int), .bool n.leaf, .slice ra n.recs.length rc, .slice ka n.kids.length kc, .int .i64 (kid : Int)] 100))
  have a1 : (w1.alloc (.cells #[.int .i64 (at_ : Int), .bool n.leaf, .slice ra n.recs.length rc, .slice ka n.kids.length kc, .int .i64 (kid : Int)] 100)).heap[w1.heap.size]? = some (.cells #[.int .i64 (at_ : Int), .bool n.leaf, .slice ra n.recs.length rc, .slice ka n.kids.length kc, .int .i64 (kid : Int)] 100 (0, 0)) := heap_alloc_new _ _
  have HB2 := thid (tbelow_on HB1.out HA1.out)
  go_wp2_with fail
  generalize w1.alloc (.cells #[.int .i64 (at_ : Int), .bool n.leaf, .slice ra n.recs.length rc, .slice ka n.kids.length kc, .int .i64 (kid : Int)] 100) = W1 at *
  refine (L5.size_walk (n := n) (L5.NR.mk (L5.owns_rd_slice (L5.owns_below HR.out HB2.out)) (L5.owns_rd_slice (L5.owns_below HKK.out HB2.out))) hs).mono ?_
  rintro e w2 ⟨rfl, hb2⟩
  have HB3 := thid (tbelow_on HB2.out hb2)
  have a2 : w2.heap[w1.heap.size]? = some (.cells #[.int .i64 (at_ : Int), .bool n.leaf, .slice ra n.recs.length rc, .slice ka n.kids.length kc, .int .i64 (kid : Int)] 100 (0, 0)) := (hb2.block _ (Array.getElem?_eq_some_iff.1 a1).1).trans a1
  clear hb2 a1 HA1 HB1 HB2
  have la : w1.heap.size < w2.heap.size := (Array.getElem?_eq_some_iff.1 a2).1
  have z0 : w2.cell? ⟨w1.heap.size, 0, none⟩ = some (.int .i64 (at_ : Int)) := by rw [cell_of_row _ _ _ _ _ _ a2]; rfl
  have z1 : w2.cell? ⟨w1.heap.size, 1, none⟩ = some (.bool n.leaf) := by rw [cell_of_row _ _ _ _ _ _ a2]; rfl
  have z2 : w2.cell? ⟨w1.heap.size, 2, none⟩ = some (.slice ra n.recs.length rc) := by rw [cell_of_row _ _ _ _ _ _ a2]; rfl
  have z3 : w2.cell? ⟨w1.heap.size, 3, none⟩ = some (.slice ka n.kids.length kc) := by rw [cell_of_row _ _ _ _ _ _ a2]; rfl
  have z4 : w2.cell? ⟨w1.heap.size, 4, none⟩ = some (.int .i64 (kid : Int)) := by rw [cell_of_row _ _ _ _ _ _ a2]; rfl
  have hzb : ((n.size : Int) ≤ 1024) := by omega
  have HK2 := thid (HK.out.below HB3.out)
  have HR2 := thid (L5.owns_below HR.out HB3.out)
  have HKK2 := thid (L5.owns_below HKK.out HB3.out)
  clear HK HR HKK HW a2
  go_wp2_with fail
  refine (put_ok HK2.out hL HR2.out HKK2.out b1 b2 b3).mono ?_
  rintro e w3 ⟨rfl, ld', hE, hS⟩
  have HF : Hid (∃ ld', Es B s t x r h l xr xh xl tk ld' gn T (Ld ++ [⟨at_, n, .slice ra n.recs.length rc, .slice ka n.kids.length kc, 0⟩]) G w3 ∧ Stp B s s t x w w3) := ⟨ld', hE, (Stp.below HB3.out).trans hS⟩
  clear hE hS HB3 HK2 HR2 HKK2 z0 z1 z2 z3 z4 la
  go_wp2
  refine bodyPost_ret (v := .tuple #[]) (by simp [results, Tryz.results88, go_sem]) rfl ⟨rfl, HF.out⟩
end Go.Proofs.YtfdfamjajhmihaaGreat
