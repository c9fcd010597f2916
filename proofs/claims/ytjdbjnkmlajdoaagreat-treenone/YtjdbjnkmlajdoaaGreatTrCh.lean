/-
  Tree: change, where the work comes to its end.
-/
import Derived.Test.YtjdbjnkmlajdoaaGreatTrWr
namespace Go.Proofs.YtjdbjnkmlajdoaaGreat
open Go.RowKit
open L4 (Ar ArP Abs arV nv)

open L1 (caughtW caught_any undoW Came faultV stopped OnlyAt)

set_option maxHeartbeats 1000000 in
/-- Undo of a function that comes to its end. -/
theorem undo_done (g : FuncId) (hg : ∀ args w, (callFunc g args).run Tryz.prog w = .ok (.enter g args) w) (cap : Array Value) (v2 : Value) (w : World) (S : Nat → Prop) (hS : ∀ k, w.heap.size ≤ k → ¬ S k) (R : World → Prop)
    (h : Calls Tryz.prog g cap (undoW w) fun e w1 => e = .returned (.tuple #[]) ∧ R w1 ∧ Only S (undoW w) w1) :
    Calls Tryz.prog 71 #[.func (.func g) #[] cap, v2] w fun e w' => e = .returned (faultV 0 0) ∧ ∃ w1, R w1 ∧ Only S (undoW w) w1 ∧ OnlyAt w.heap.size 3 w1 w' := by
  have H := thid (caught_any g hg cap (w.alloc (.cells #[.int .i64 0, .int .i64 0] 96)) S (hS _ (by simp)) (hS _ (by simp; omega)) (fun e w1 => e = .returned (.tuple #[]) ∧ R w1) (h.mono fun e w1 ⟨he, hR, ho⟩ => ⟨⟨he, hR⟩, ho, 0, 0, false, by rw [he]; exact .done⟩))
  clear hg h
  go_enter Tryz.func71, Tryz.ntmps71
  go_wp2_with fail
  refine H.out.mono ?_
  rintro e w2 ⟨e1, w1, c, a, t, ⟨he1, hR⟩, hc, rfl, ho, hsz, ho2⟩
  clear H
  cases hc with
  | stop => cases he1
  | done =>
    have hz := ho.size
    simp at hz
    have q0 : w2.cell? ⟨w.heap.size, 0, none⟩ = some (.int .i64 0) := by
      rw [ho2.cell (by simp; omega) (by simp; omega), ho.cell (by simp; omega) (hS _ (by simp))]; simp [go_sem]
    have q1 : w2.cell? ⟨w.heap.size, 1, none⟩ = some (.int .i64 0) := by
      rw [ho2.cell (by simp; omega) (by simp; omega), ho.cell (by simp; omega) (hS _ (by simp))]; simp [go_sem]
    have f0 : w2.frozen? ⟨w.heap.size, 0, none⟩ = false := by
      rw [ho2.frozen (by simp; omega) (by simp; omega), ho.frozen (by simp; omega) (hS _ (by simp))]; simp [go_sem]
    have f1 : w2.frozen? ⟨w.heap.size, 1, none⟩ = false := by
      rw [ho2.frozen (by simp; omega) (by simp; omega), ho.frozen (by simp; omega) (hS _ (by simp))]; simp [go_sem]
    have hz2 : w.heap.size < w2.heap.size := by omega
    clear hsz
    simp only [faultV]
    go_wp2
    refine bodyPost_ret (v := faultV 0 0) (by simp [results, Tryz.results71, go_sem, q0, q1, hz2, faultV]) rfl ⟨rfl, w1, hR, ho, ?_⟩
    exact (((ho2.weaken (fun k _ hk => by simp at hk; omega)).setCell (Or.inr (by simp)) _).setCell (Or.inr (by simp)) _).alloc _

/-- A fault's code. -/
theorem ffield (c a : Int) (w : World) : (Instr.field 96 (.agg #[.int .i64 c, .int .i64 a]) 0).run Tryz.prog w = .ok (.int .i64 c) w := by
  simp [Instr.field, run_underlying Tryz.underlying96, go_sem, Tryz.isAgg25, asAgg]

/-- The blocks that Undo lays are no pages. -/
theorem undoW_tags {w w1 : World} {S : Nat → Prop} (ho : Only S (undoW w) w1) (hS : ∀ k, w.heap.size ≤ k → k < w.heap.size + 3 → ¬ S k) (k : Nat) (hk : w.heap.size ≤ k ∧ k < w.heap.size + 3) : ∃ cs t, w1.heap[k]? = some (.cells cs t (0, 0)) ∧ (t = 96 ∨ t = 4) := by
  have e0 : (undoW w).heap[w.heap.size]? = some (.cells #[.int .i64 0, .int .i64 0] 96 (0, 0)) := ((tbelow _ _).block _ (by simp; omega)).trans (((tbelow _ _).block _ (by simp)).trans (heap_alloc_new w (.cells #[.int .i64 0, .int .i64 0] 96)))
  have e1 : (undoW w).heap[w.heap.size + 1]? = some (.cells #[.int .i64 0, .int .i64 0] 96 (0, 0)) := by
    have h := heap_alloc_new (w.alloc (.cells #[.int .i64 0, .int .i64 0] 96)) (.cells #[.int .i64 0, .int .i64 0] 96)
    rw [show (w.alloc (.cells #[.int .i64 0, .int .i64 0] 96)).heap.size = w.heap.size + 1 by simp] at h
    exact ((tbelow _ _).block _ (by simp)).trans h
  have e2 : (undoW w).heap[w.heap.size + 2]? = some (.cells #[.bool false] 4 (0, 0)) := by
    have h := heap_alloc_new ((w.alloc (.cells #[.int .i64 0, .int .i64 0] 96)).alloc (.cells #[.int .i64 0, .int .i64 0] 96)) (.cells #[.bool false] 4)
    rw [show ((w.alloc (.cells #[.int .i64 0, .int .i64 0] 96)).alloc (.cells #[.int .i64 0, .int .i64 0] 96)).heap.size = w.heap.size + 2 by simp] at h
    exact h
  have hz : (undoW w).heap.size = w.heap.size + 3 := by simp
  have hk' : k = w.heap.size ∨ k = w.heap.size + 1 ∨ k = w.heap.size + 2 := by omega
  rcases hk' with rfl | rfl | rfl
  · exact ⟨_, _, (ho.block _ (by omega) (hS _ hk.1 hk.2)).trans e0, Or.inl rfl⟩
  · exact ⟨_, _, (ho.block _ (by omega) (hS _ hk.1 hk.2)).trans e1, Or.inl rfl⟩
  · exact ⟨_, _, (ho.block _ (by omega) (hS _ hk.1 hk.2)).trans e2, Or.inr rfl⟩

/-- What the work of a change leaves: an edit that can be written. -/
def Done (N : Nat) (s : Ar) (t x r h l xr xh xl : Nat) (A : Abs) (W1 w1 : World) : Prop := ∃ (s' : Ar) (tk ld gn : Value) (T : List Nat) (Ld : List Lay), s'.p = s.p ∧ s'.abs.Ok ∧ Es N s' t x r h l xr xh xl tk ld gn T Ld [] w1 ∧ Ld.length ≤ 10000 ∧ (∀ y ∈ Ld, y.n.small ∧ y.n.shaped = true ∧ y.n.size ≤ 1024) ∧ (∀ y ∈ Ld, ∃ c, s'.abs.at (y.at_ : Int) = some c) ∧ Ld.foldl (fun a y => a.lay y.at_ (some (L5.pageL y.n.toNd))) s'.abs = A ∧ Stp N s s' t x W1 w1

/-- What a change leaves. -/
def Fin (N : Nat) (s : Ar) (t x xr xh xl : Nat) (A : Abs) (W1 w1 : World) : Prop := ∃ s' : Ar, s'.p = s.p ∧ s'.abs = A ∧ s'.abs.Ok ∧ ArP s' w1 ∧ TrC w1 t s.p xr xh xl ∧ Stp N s s' t x W1 w1

set_option maxRecDepth 100000 in
set_option maxHeartbeats 1000000 in
theorem change1_ok {N : Nat} {s : Ar} {t x r h l xr xh xl : Nat} {A : Abs} {w : World} {b0 b2 : Nat} {g : FuncId} {cap : Array Value} (hg : ∀ args w, (callFunc g args).run Tryz.prog w = .ok (.enter g args) w) (h0 : w.cell? ⟨b0, 0, none⟩ = some (.func (.func g) #[] cap)) (h2 : w.cell? ⟨b2, 0, none⟩ = some (.pointer (some ⟨x, 0, none⟩)))
    (hb2 : ∀ (s' : Ar) (w1 : World), Stp N s s' t x w w1 → w1.cell? ⟨b2, 0, none⟩ = some (.pointer (some ⟨x, 0, none⟩)) ∧ b2 < w1.heap.size)
    (H : Calls Tryz.prog g (#[.pointer (some ⟨x, 0, none⟩)] ++ cap) w fun e w1 => e = .returned (.tuple #[]) ∧ Done N s t x r h l xr xh xl A w w1) :
    Calls Tryz.prog 72 #[.pointer (some ⟨b0, 0, none⟩), .pointer (some ⟨b2, 0, none⟩)] w fun e w' => e = .returned (.tuple #[]) ∧ Fin N s t x xr xh xl A w w' := by
  have HH := thid H
  clear H
  go_enter Tryz.func72, Tryz.ntmps72
  go_wp2_with fail
  refine HH.out.mono ?_
  rintro e w1 ⟨rfl, s', tk, ld, gn, T, Ld, hp, hok, hE, hL, hn, hat, hf, hst⟩
  obtain ⟨d2, dl2⟩ := hb2 s' w1 hst
  have HW := thid (write_ok hE hok hL hn hat)
  have HST := thid hst
  clear h0 h2 hb2 HH hE hst hn hat
  go_wp2_with fail
  refine HW.out.mono ?_
  rintro e w2 ⟨rfl, s2, hp2, hab2, hok2, hA2, hT2, hst2⟩
  have HF : Hid (Fin N s t x xr xh xl A w w2) := ⟨s2, hp2.trans hp, hab2.trans hf, hok2, hA2, by rw [← hp]; exact hT2, HST.out.trans hst2⟩
  clear HW HST hA2 hT2 hst2 d2 dl2
  go_wp2
  go_end0
  exact ⟨rfl, HF.out⟩

set_option maxRecDepth 100000 in
set_option maxHeartbeats 1000000 in
theorem change_ok {s : Ar} {t r h l xr xh xl : Nat} {A : Abs} {w : World} (hA : ArP s w) (ht : TrC w t s.p r h l) (g : FuncId) (hg : ∀ args w, (callFunc g args).run Tryz.prog w = .ok (.enter g args) w) (cap : Array Value)
    (H : ∀ (N x : Nat) (W : World), w.heap.size ≤ x → Below w.heap.size w W → Es N s t x r h l r h l (.slice none 0 0) (.slice none 0 0) (.slice none 0 0) [] [] [] W → Calls Tryz.prog g (#[.pointer (some ⟨x, 0, none⟩)] ++ cap) W fun e w1 => e = .returned (.tuple #[]) ∧ Done N s t x r h l xr xh xl A W w1) :
    Calls Tryz.prog 43 #[.pointer (some ⟨t, 0, none⟩), .func (.func g) #[] cap] w fun e w' => e = .returned (.int .i64 0) ∧ ∃ s' : Ar, s'.p = s.p ∧ s'.abs = A ∧ s'.abs.Ok ∧ ArP s' w' ∧ TrC w' t s.p xr xh xl ∧ Only (fun k => s.own k ∨ k = t) w w' ∧ (∀ k, s'.own k → s.own k ∨ w.heap.size ≤ k) := by
  obtain ⟨c0, c1, c2, c3, ct, cf⟩ := ht.cells
  have HA := thid hA
  have HT := thid ht
  have HH := thid H
  clear hA ht H
  have hmf : ∀ (fn : Fn) (first cap : Array Value) (w : World), (Instr.makeFunc fn first cap).run Tryz.prog w = .ok (.func fn first cap) w := fun _ _ _ _ => rfl
  go_enter Tryz.func43, Tryz.ntmps43
  go_wp2_with fail
  have B3 : Below w.heap.size w (((w.alloc (.cells #[.func (.func g) #[] cap] 92)).alloc (.cells #[.pointer (some ⟨t, 0, none⟩), .int .i64 (r : Int), .int .i64 (h : Int), .int .i64 (l : Int), .slice none 0 0, .slice none 0 0, .slice none 0 0] 88)).alloc (.cells #[.pointer (some ⟨w.heap.size + 1, 0, none⟩)] 85)) := ((tbelow w _).alloc (by simp) _).alloc (by simp; omega) _
  have z3 : (((w.alloc (.cells #[.func (.func g) #[] cap] 92)).alloc (.cells #[.pointer (some ⟨t, 0, none⟩), .int .i64 (r : Int), .int .i64 (h : Int), .int .i64 (l : Int), .slice none 0 0, .slice none 0 0, .slice none 0 0] 88)).alloc (.cells #[.pointer (some ⟨w.heap.size + 1, 0, none⟩)] 85)).heap.size = w.heap.size + 3 := by simp
  have k0 : (((w.alloc (.cells #[.func (.func g) #[] cap] 92)).alloc (.cells #[.pointer (some ⟨t, 0, none⟩), .int .i64 (r : Int), .int .i64 (h : Int), .int .i64 (l : Int), .slice none 0 0, .slice none 0 0, .slice none 0 0] 88)).alloc (.cells #[.pointer (some ⟨w.heap.size + 1, 0, none⟩)] 85)).cell? ⟨w.heap.size, 0, none⟩ = some (.func (.func g) #[] cap) := by simp [go_sem]
  have k1 : EdC (((w.alloc (.cells #[.func (.func g) #[] cap] 92)).alloc (.cells #[.pointer (some ⟨t, 0, none⟩), .int .i64 (r : Int), .int .i64 (h : Int), .int .i64 (l : Int), .slice none 0 0, .slice none 0 0, .slice none 0 0] 88)).alloc (.cells #[.pointer (some ⟨w.heap.size + 1, 0, none⟩)] 85)) (w.heap.size + 1) t r h l (.slice none 0 0) (.slice none 0 0) (.slice none 0 0) := by
    have h1 := heap_alloc_new (w.alloc (.cells #[.func (.func g) #[] cap] 92)) (.cells #[.pointer (some ⟨t, 0, none⟩), .int .i64 (r : Int), .int .i64 (h : Int), .int .i64 (l : Int), .slice none 0 0, .slice none 0 0, .slice none 0 0] 88)
    rw [show (w.alloc (.cells #[.func (.func g) #[] cap] 92)).heap.size = w.heap.size + 1 by simp] at h1
    exact ((tbelow _ _).block _ (by simp)).trans h1
  have k2 : (((w.alloc (.cells #[.func (.func g) #[] cap] 92)).alloc (.cells #[.pointer (some ⟨t, 0, none⟩), .int .i64 (r : Int), .int .i64 (h : Int), .int .i64 (l : Int), .slice none 0 0, .slice none 0 0, .slice none 0 0] 88)).alloc (.cells #[.pointer (some ⟨w.heap.size + 1, 0, none⟩)] 85)).cell? ⟨w.heap.size + 1 + 1, 0, none⟩ = some (.pointer (some ⟨w.heap.size + 1, 0, none⟩)) := by simp [go_sem]
  have HB3 := thid B3
  have HK1 := thid k1
  clear B3 k1 c0 c1 c2 c3 ct cf hmf
  generalize ((w.alloc (.cells #[.func (.func g) #[] cap] 92)).alloc (.cells #[.pointer (some ⟨t, 0, none⟩), .int .i64 (r : Int), .int .i64 (h : Int), .int .i64 (l : Int), .slice none 0 0, .slice none 0 0, .slice none 0 0] 88)).alloc (.cells #[.pointer (some ⟨w.heap.size + 1, 0, none⟩)] 85) = W at *
  have HU := thid (L1.below_catchW W : Below W.heap.size W (undoW W))
  have zu : (undoW W).heap.size = w.heap.size + 6 := by simp [z3]
  have HBU := thid (HB3.out.trans (HU.out.mono HB3.out.size))
  have HE : Hid (Es (w.heap.size + 6) s t (w.heap.size + 1) r h l r h l (.slice none 0 0) (.slice none 0 0) (.slice none 0 0) [] [] [] (undoW W)) :=
    ⟨L4.arSt.below HA.out HBU.out, HT.out.on HBU.out, HK1.out.on HU.out, Nat.le_of_eq zu.symm, ⟨rfl, Or.inl ⟨rfl, rfl⟩⟩, ⟨rfl, Or.inl ⟨rfl, rfl⟩⟩, ⟨rfl, Or.inl ⟨rfl, rfl⟩⟩, fun y hy => by simp at hy, fun y hy => by simp at hy, fun k _ => ⟨by simp [Value.ownBlock], by simp [Value.ownBlock], fun y hy => by simp at hy⟩, fun k hk => by simp [Value.ownBlock] at hk, fun k hk => by simp [Value.ownBlock] at hk⟩
  have HG := thid (HH.out (w.heap.size + 6) (w.heap.size + 1) (undoW W) (by omega) HBU.out HE.out)
  have own_lt : ∀ k, s.own k → k < w.heap.size := fun k hk => L4.arSt.lt s w k HA.out hk
  have t_lt : t < w.heap.size := (Array.getElem?_eq_some_iff.1 HT.out.blk).1
  have HC := thid (change1_ok (N := w.heap.size + 6) (x := w.heap.size + 1) (w := undoW W) (b0 := w.heap.size) (b2 := w.heap.size + 1 + 1) hg ((HU.out.cell (p := ⟨w.heap.size, 0, none⟩) (by show w.heap.size < W.heap.size; omega)).trans k0) ((HU.out.cell (p := ⟨w.heap.size + 1 + 1, 0, none⟩) (by show w.heap.size + 1 + 1 < W.heap.size; omega)).trans k2) (fun s' w1 hst => ⟨(hst.only.cell (p := ⟨w.heap.size + 1 + 1, 0, none⟩) (by show w.heap.size + 1 + 1 < _; omega) (fun hk => by
      rcases hk with hk | hk | hk | hk
      · have := own_lt (w.heap.size + 1 + 1) hk; omega
      · have hk' : w.heap.size + 1 + 1 = t := hk; omega
      · have hk' : w.heap.size + 1 + 1 = w.heap.size + 1 := hk; omega
      · have hk' : w.heap.size + 6 ≤ w.heap.size + 1 + 1 := hk; omega)).trans ((HU.out.cell (p := ⟨w.heap.size + 1 + 1, 0, none⟩) (by show w.heap.size + 1 + 1 < W.heap.size; omega)).trans k2), by have := hst.only.size; omega⟩) HG.out)
  refine (undo_done 72 (fun _ _ => rfl) _ _ W (fun k => s.own k ∨ k = t ∨ k = w.heap.size + 1) (fun k hk x => by
      rcases x with x | x | x
      · have := own_lt k x; omega
      · omega
      · omega) (fun w1 => Fin (w.heap.size + 6) s t (w.heap.size + 1) xr xh xl A (undoW W) w1) (HC.out.mono fun e w1 ⟨he, hF⟩ => ⟨he, hF, ?_⟩)).mono ?_
  · obtain ⟨s', _, _, _, _, _, hst⟩ := hF
    exact ⟨hst.only.os, hst.only.tape, hst.only.output, hst.only.size, fun k hk hs => hst.only.block k hk (fun x => by
      rcases x with x | x | x | x
      · exact hs (Or.inl x)
      · exact hs (Or.inr (Or.inl x))
      · exact hs (Or.inr (Or.inr x))
      · omega)⟩
  rintro e w2 ⟨rfl, w1, ⟨s', hp, hab, hok, hA1, hT1, hst⟩, ho, hat⟩
  have hS : ∀ k, W.heap.size ≤ k → k < W.heap.size + 3 → ¬ (s.own k ∨ k = t ∨ k = w.heap.size + 1) := fun k hk _ x => by
    rcases x with x | x | x
    · have := own_lt k x; omega
    · omega
    · omega
  have HF : Hid (∃ s' : Ar, s'.p = s.p ∧ s'.abs = A ∧ s'.abs.Ok ∧ ArP s' w2 ∧ TrC w2 t s.p xr xh xl ∧ Only (fun k => s.own k ∨ k = t) w w2 ∧ (∀ k, s'.own k → s.own k ∨ w.heap.size ≤ k)) := by
    refine ⟨s', hp, hab, hok, L4.arSt.keep s' w1 w2 hA1 (fun k hk => hat.block k (L4.arSt.lt _ _ _ hA1 hk) fun x => ?_) (L4.pk_of_only hat fun k hk _ => ?_), ⟨(hat.block t (Array.getElem?_eq_some_iff.1 hT1.blk).1 fun x => ?_).trans hT1.blk⟩, ⟨?_, ?_, ?_, ?_, fun k hk hs => ?_⟩, fun k hk => ?_⟩
    · rcases hst.own k hk with y | y
      · have := own_lt k y; omega
      · omega
    · obtain ⟨cs, tg, h1, h2⟩ := undoW_tags ho hS k hk
      exact ⟨cs, tg, h1, by rcases h2 with rfl | rfl <;> decide⟩
    · omega
    · rw [hat.os, ho.os, HBU.out.os]
    · rw [hat.tape, ho.tape, HBU.out.tape]
    · rw [hat.output, ho.output, HBU.out.output]
    · have a := hat.size; have b := ho.size; omega
    · have a := ho.size
      rw [hat.block k (by omega) (fun x => by omega), ho.block k (by omega) (fun x => by
        rcases x with x | x | x
        · exact hs (Or.inl x)
        · exact hs (Or.inr x)
        · omega)]
      exact HBU.out.block k hk
    · rcases hst.own k hk with y | y
      · exact Or.inl y
      · exact Or.inr (by omega)
  clear hat ho hst hA1 hT1 HG HC HH HE HBU HU HB3 HK1 k0 k2
  simp only [faultV]
  have ff := fun w => ffield 0 0 w
  go_wp2
  refine bodyPost_ret (v := .int .i64 0) (by simp [results, Tryz.results43, go_sem]) rfl ⟨rfl, HF.out⟩
end Go.Proofs.YtjdbjnkmlajdoaaGreat
