/-
  Pictures: Snap, Restore.
-/
import Derived.LaidEqlPtr
import Derived.Test.YtcoehlnmaehhjaaSnA
namespace Go.Proofs.Ytcoehlnmaehhjaa
open Go.RowKit

/-- A picture: the blocks of it, and what it shows. -/
structure Sn where
  pb : Nat
  vp : Value
  vf : Value
  pg : List (Option (Nat × List UInt8))
  fr : List Nat

structure SnP (n : Sn) (W : World) : Prop where
  blk : W.heap[n.pb]? = some (.cells #[n.vp, n.vf] 66 (0, 0))
  rp : W.ownsRow 0 69 1 n.vp n.pg.length (n.pg.map pgv)
  rf : W.ownsRow 0 3 1 n.vf n.fr.length (n.fr.map nv)
  pgs : ∀ b c, some (b, c) ∈ n.pg → W.heap[b]? = some (.cells (bcs c).toArray 71 (0, 0))

def Sn.own (n : Sn) (k : Nat) : Prop := k = n.pb ∨ n.vp.ownBlock = some k ∨ n.vf.ownBlock = some k

theorem SnP.keep {n : Sn} {w w' : World} (h : SnP n w) (hk : ∀ k, n.own k → w'.heap[k]? = w.heap[k]?) (hp : Pk w w') : SnP n w' :=
  ⟨(hk _ (Or.inl rfl)).trans h.blk, owns_of_block h.rp fun k x => hk k (Or.inr (Or.inl x)), owns_of_block h.rf fun k x => hk k (Or.inr (Or.inr x)), fun b c x => (hp b _ (h.pgs b c x)).trans (h.pgs b c x)⟩

theorem SnP.lt {n : Sn} {w : World} (h : SnP n w) {k : Nat} (hk : n.own k) : k < w.heap.size := by
  rcases hk with rfl | hk | hk
  · exact (Array.getElem?_eq_some_iff.1 h.blk).1
  · exact (h.rp.lt k hk).2
  · exact (h.rf.lt k hk).2

theorem snap_nil (w : World) : Calls Try.prog 26 #[.pointer none] w fun e w' => e = .returned (.agg #[.pointer none, .pointer none]) ∧ Below w.heap.size w w' := by
  go_enter Try.func26, Try.ntmps26
  go_wp2
  refine bodyPost_ret (v := .agg #[.pointer none, .pointer none]) ?_ rfl ?_
  · simp [results, Try.results26, go_sem]
  · exact ⟨rfl, below_alloc _ _⟩

theorem snap_end {s : Ar} {w w1 : World} (h : ArP s w) {v1 v2 u x1 x2 : Value} {o : Obj} (C1 : w1.ownsRow (w.alloc o).heap.size 69 1 v1 s.pg.length (s.pg.map pgv)) (C2 : w1.ownsRow (w.alloc o).heap.size 3 1 v2 s.fr.length (s.fr.map nv)) (C3 : Below (w.alloc o).heap.size (w.alloc o) w1) (hb : w1.heap[w.heap.size]? = some (.cells #[x1, x2] 60 (0, 0))) :
    (((w1.setCell ⟨w.heap.size, 0, none⟩ u).setCell ⟨w.heap.size, 1, none⟩ (.pointer (some ⟨w1.heap.size, 0, none⟩))).alloc (.cells #[v1, v2] 66)).cell? ⟨w.heap.size, 0, none⟩ = some u ∧ (((w1.setCell ⟨w.heap.size, 0, none⟩ u).setCell ⟨w.heap.size, 1, none⟩ (.pointer (some ⟨w1.heap.size, 0, none⟩))).alloc (.cells #[v1, v2] 66)).cell? ⟨w.heap.size, 1, none⟩ = some (.pointer (some ⟨w1.heap.size, 0, none⟩)) ∧
    SnP ⟨w1.heap.size, v1, v2, s.pg, s.fr⟩ (((w1.setCell ⟨w.heap.size, 0, none⟩ u).setCell ⟨w.heap.size, 1, none⟩ (.pointer (some ⟨w1.heap.size, 0, none⟩))).alloc (.cells #[v1, v2] 66)) ∧ Below w.heap.size w (((w1.setCell ⟨w.heap.size, 0, none⟩ u).setCell ⟨w.heap.size, 1, none⟩ (.pointer (some ⟨w1.heap.size, 0, none⟩))).alloc (.cells #[v1, v2] 66)) ∧ ∀ k, Sn.own ⟨w1.heap.size, v1, v2, s.pg, s.fr⟩ k → w.heap.size ≤ k := by
  have b1 := heap_setCell_same w1 w.heap.size 0 _ _ u hb
  have b2 := heap_setCell_same _ w.heap.size 1 _ _ (.pointer (some ⟨w1.heap.size, 0, none⟩)) b1
  have hlt : w.heap.size < w1.heap.size := (Array.getElem?_eq_some_iff.1 hb).1
  have hsz : ((w1.setCell ⟨w.heap.size, 0, none⟩ u).setCell ⟨w.heap.size, 1, none⟩ (.pointer (some ⟨w1.heap.size, 0, none⟩))).heap.size = w1.heap.size := by simp [World.setCell]
  have B : Below w.heap.size w ((w1.setCell ⟨w.heap.size, 0, none⟩ u).setCell ⟨w.heap.size, 1, none⟩ (.pointer (some ⟨w1.heap.size, 0, none⟩))) := ((below_on (below_alloc w o) C3).setCell (Nat.le_refl _) _).setCell (Nat.le_refl _) _
  have hne : ∀ (k : Nat) (cur : Array Value) (t : TypeId), w1.heap[k]? = some (Obj.cells cur t (0, 0)) → t ≠ 60 → ((w1.setCell ⟨w.heap.size, 0, none⟩ u).setCell ⟨w.heap.size, 1, none⟩ (.pointer (some ⟨w1.heap.size, 0, none⟩))).heap[k]? = w1.heap[k]? := fun k cur t hk ht => by
    have hk' : k ≠ w.heap.size := fun e => by
      rw [e, hb] at hk
      simp only [Option.some.injEq, Obj.cells.injEq] at hk
      exact ht hk.2.1.symm
    rw [heap_setCell_other _ _ _ _ hk', heap_setCell_other _ _ _ _ hk']
  generalize ((w1.setCell ⟨w.heap.size, 0, none⟩ u).setCell ⟨w.heap.size, 1, none⟩ (.pointer (some ⟨w1.heap.size, 0, none⟩))) = W3 at *
  have b3 : (W3.alloc (.cells #[v1, v2] 66)).heap[w.heap.size]? = some (.cells #[u, .pointer (some ⟨w1.heap.size, 0, none⟩)] 60 (0, 0)) := by
    rw [heap_alloc_old _ _ (by omega)]
    exact b2
  have hle : (w.alloc o).heap.size = w.heap.size + 1 := by simp
  refine ⟨by rw [cell_of_row _ _ _ _ _ _ b3]; rfl, by rw [cell_of_row _ _ _ _ _ _ b3]; rfl, ⟨?_, ?_, ?_, ?_⟩, below_on B (below_alloc _ _), ?_⟩
  · show (W3.alloc _).heap[w1.heap.size]? = _
    rw [← hsz]
    exact heap_alloc_new _ _
  · refine owns_base (owns_of_block C1 fun k hk => ?_) (Nat.zero_le _)
    obtain ⟨cur, h⟩ := owns_tag C1 hk
    rw [heap_alloc_old _ _ (by rw [hsz]; exact (C1.lt k hk).2)]
    exact hne k _ _ h (by decide)
  · refine owns_base (owns_of_block C2 fun k hk => ?_) (Nat.zero_le _)
    obtain ⟨cur, h⟩ := owns_tag C2 hk
    rw [heap_alloc_old _ _ (by rw [hsz]; exact (C2.lt k hk).2)]
    exact hne k _ _ h (by decide)
  · intro b c hbc
    have h1 := h.pgs b c hbc
    have h2 := (Array.getElem?_eq_some_iff.1 h1).1
    exact ((below_on B (below_alloc _ _)).block b h2).trans h1
  · rintro k (rfl | hk | hk)
    · exact Nat.le_of_lt hlt
    · have := (C1.lt k hk).1; omega
    · have := (C2.lt k hk).1; omega

set_option maxRecDepth 100000 in
set_option maxHeartbeats 1000000 in
theorem snap_walk {s : Ar} {w : World} (h : ArP s w) (ho : s.abs.Ok) : Calls Try.prog 26 #[arV s.p] w fun e w' => ∃ n, e = .returned (.agg #[arV s.p, .pointer (some ⟨n.pb, 0, none⟩)]) ∧ SnP n w' ∧ n.pg = s.pg ∧ n.fr = s.fr ∧ Below w.heap.size w w' ∧ ∀ k, n.own k → w.heap.size ≤ k := by
  have hs : s.pg.length ≤ 4096 := small_of ho
  have hle : s.fr.length ≤ s.pg.length := by simpa [Ar.abs] using ho.le
  have HH : Hid (ArP s w) := h
  clear h ho
  go_enter Try.func26, Try.ntmps26
  unfold arV
  go_wp2_with fail
  have H1 : ArP s (w.alloc (.cells #[.pointer none, .pointer none] 60)) := arSt.below HH.out (below_alloc _ _)
  obtain ⟨c0, c1, _, hp, _⟩ := H1.cell
  refine (copied_walk hp c0 c1 H1.rp H1.rf (by omega) (by omega)).mono ?_
  rintro e w1 ⟨vp', vf', rfl, C1, C2, C3⟩
  obtain ⟨a1, k1, rfl, _⟩ := owns_slice C1
  obtain ⟨a2, k2, rfl, _⟩ := owns_slice C2
  have hblk : w1.heap[w.heap.size]? = some (.cells #[.pointer none, .pointer none] 60 (0, 0)) := by
    rw [C3.block _ (by simp)]
    exact heap_alloc_new _ _
  have hlt : w.heap.size < w1.heap.size := (Array.getElem?_eq_some_iff.1 hblk).1
  have f0 : w1.cell? ⟨w.heap.size, 0, none⟩ = some (.pointer none) := by rw [cell_of_row _ _ _ _ _ _ hblk]; rfl
  have f1 : w1.cell? ⟨w.heap.size, 1, none⟩ = some (.pointer none) := by rw [cell_of_row _ _ _ _ _ _ hblk]; rfl
  have ff : ∀ j, w1.frozen? ⟨w.heap.size, j, none⟩ = false := fun j => frozen_of_row _ _ _ _ _ hblk
  have HC1 : Hid _ := C1
  have HC2 : Hid _ := C2
  have HC3 : Hid _ := C3
  have HBK : Hid (w1.heap[w.heap.size]? = some (.cells #[.pointer none, .pointer none] 60 (0, 0))) := hblk
  clear C1 C2 C3 c0 c1 hp H1 hblk
  go_wp2
  obtain ⟨e0, e1, E⟩ := snap_end (u := .pointer (some ⟨s.p, 0, none⟩)) HH.out HC1.out HC2.out HC3.out HBK.out
  have HE : Hid _ := E
  clear E f0 f1 ff HC1 HC2 HC3 HBK
  generalize ((w1.setCell ⟨w.heap.size, 0, none⟩ (.pointer (some ⟨s.p, 0, none⟩))).setCell ⟨w.heap.size, 1, none⟩ (.pointer (some ⟨w1.heap.size, 0, none⟩))).alloc (.cells #[.slice a1 s.pg.length k1, .slice a2 s.fr.length k2] 66) = W4 at *
  refine bodyPost_ret (v := .agg #[.pointer (some ⟨s.p, 0, none⟩), .pointer (some ⟨w1.heap.size, 0, none⟩)]) ?_ rfl ?_
  · simp [results, Try.results26, go_sem, e0, e1]
  · exact ⟨_, rfl, HE.out.1, rfl, rfl, HE.out.2⟩

theorem restore_nil (v1 v2 : Value) (w : World) : Calls Try.prog 27 #[.pointer none, .agg #[v1, v2]] w fun e w' => e = .returned (.int .i64 15) ∧ Below w.heap.size w w' := by
  go_enter Try.func27, Try.ntmps27
  go_wp2
  go_ret
  exact ⟨rfl, below_alloc _ _⟩

theorem info_arena : ∃ j, Try.prog.info? 68 = some j ∧ j.size = 3 :=
  Option.map_eq_some_iff.1 (show (Try.prog.info? 68).map (fun i => i.size) = some 3 by kernel_rfl)

theorem neq_same (w : World) (a : Addr) : (binOp .neq 24 (.pointer (some a)) (.pointer (some a))).run Try.prog w = .ok (.bool false) w := by
  obtain ⟨j, hj, _⟩ := info_arena
  have h : ∀ d : Nat, (Op.equalIn (d + 1) 24 (.pointer (some a)) (.pointer (some a))).run Try.prog w = .ok true w := fun d => by
    simp [Op.equalIn, run_underlying Try.underlying24, sizeOf, typeInfo, hj, run_sameAddr_same]
  simp only [binOp]
  simp [Op.equal, Op.maxDepth, h 9999]

theorem neq_nil (w : World) (a : Addr) : (binOp .neq 24 (.pointer none) (.pointer (some a))).run Try.prog w = .ok (.bool true) w := by
  have h : ∀ d : Nat, (Op.equalIn (d + 1) 24 (.pointer none) (.pointer (some a))).run Try.prog w = .ok false w := fun d => by
    simp [Op.equalIn, run_underlying Try.underlying24]
  simp only [binOp]
  simp [Op.equal, Op.maxDepth, h 9999]

theorem neq_other (w : World) {a b : Addr} {ca cb : Array Value} {ta tb : TypeId} (hne : a ≠ b) (ha : w.heap[a.block]? = some (.cells ca ta (0, 0))) (hb : w.heap[b.block]? = some (.cells cb tb (0, 0))) : (binOp .neq 24 (.pointer (some a)) (.pointer (some b))).run Try.prog w = .ok (.bool true) w := by
  obtain ⟨j, hj, hsz⟩ := info_arena
  have h0 : j.size ≠ 0 := by omega
  have h : ∀ d : Nat, (Op.equalIn (d + 1) 24 (.pointer (some a)) (.pointer (some b))).run Try.prog w = .ok false w := fun d => by
    simp [Op.equalIn, run_underlying Try.underlying24, sizeOf, typeInfo, hj, h0, run_sameAddr_other w hne ha hb]
  simp only [binOp]
  simp [Op.equal, Op.maxDepth, h 9999]

/-- A picture of no arena. -/
theorem restore_none (p : Nat) (w : World) : Calls Try.prog 27 #[arV p, .agg #[.pointer none, .pointer none]] w fun e w' => e = .returned (.int .i64 15) ∧ Below w.heap.size w w' := by
  unfold arV
  have hq := neq_nil
  go_enter Try.func27, Try.ntmps27
  go_wp2
  go_ret
  exact ⟨rfl, below_alloc _ _⟩

/-- A picture of another arena. -/
theorem restore_other {s t : Ar} {w : World} (h : ArP s w) (ht : ArP t w) (hne : s.p ≠ t.p) (was : Option Addr) : Calls Try.prog 27 #[arV t.p, .agg #[arV s.p, .pointer was]] w fun e w' => e = .returned (.int .i64 15) ∧ Below w.heap.size w w' := by
  have hs := (arSt.below h (below_alloc w (.cells #[arV s.p, .pointer was] 60)) : ArP s _).blk
  have hs' := (arSt.below ht (below_alloc w (.cells #[arV s.p, .pointer was] 60)) : ArP t _).blk
  have hq := neq_other _ (a := ⟨s.p, 0, none⟩) (b := ⟨t.p, 0, none⟩) (by intro e; exact hne (by injection e)) hs hs'
  clear hs hs' h ht
  unfold arV at *
  go_enter Try.func27, Try.ntmps27
  go_wp2
  go_ret
  exact ⟨rfl, below_alloc _ _⟩

theorem restore_end {s : Ar} {n : Sn} {w w1 : World} (h : ArP s w1) (hb : Below w.heap.size w w1) (hn : SnP n w1) {v1 v2 : Value} (C1 : w1.ownsRow w.heap.size 69 1 v1 n.pg.length (n.pg.map pgv)) (C2 : w1.ownsRow w.heap.size 3 1 v2 n.fr.length (n.fr.map nv)) :
    Goes s w ⟨n.pg.map (Option.map Prod.snd), n.fr, s.q⟩ ((w1.setCell ⟨s.p, 0, none⟩ v1).setCell ⟨s.p, 1, none⟩ v2) := by
  have b1 := heap_setCell_same w1 s.p 0 _ _ v1 h.blk
  have b2 := heap_setCell_same _ s.p 1 _ _ v2 b1
  have hne : ∀ (k : Nat) (cur : Array Value) (t : TypeId), w1.heap[k]? = some (Obj.cells cur t (0, 0)) → t ≠ 68 → ((w1.setCell ⟨s.p, 0, none⟩ v1).setCell ⟨s.p, 1, none⟩ v2).heap[k]? = w1.heap[k]? := fun k cur t hk ht => by
    have hk' : k ≠ s.p := fun e => by
      rw [e, h.blk] at hk
      simp only [Option.some.injEq, Obj.cells.injEq] at hk
      exact ht hk.2.1.symm
    rw [heap_setCell_other _ _ _ _ hk', heap_setCell_other _ _ _ _ hk']
  refine ⟨{ s with vp := v1, vf := v2, pg := n.pg, fr := n.fr }, ⟨b2, ?_, ?_, ?_⟩, rfl, rfl, ?_, ?_⟩
  · refine owns_base (owns_of_block C1 fun k hk => ?_) (Nat.zero_le _)
    obtain ⟨cur, h⟩ := owns_tag C1 hk
    exact hne k _ _ h (by decide)
  · refine owns_base (owns_of_block C2 fun k hk => ?_) (Nat.zero_le _)
    obtain ⟨cur, h⟩ := owns_tag C2 hk
    exact hne k _ _ h (by decide)
  · intro b c hbc
    have h1 := hn.pgs b c hbc
    exact (hne b _ _ h1 (by decide)).trans h1
  · exact ((Only.of_below (S := s.own) hb).setCell (Or.inr (Or.inl rfl)) _).setCell (Or.inr (Or.inl rfl)) _
  · rintro k (rfl | hk | hk)
    · exact Or.inl (Or.inl rfl)
    · exact Or.inr (C1.lt k hk).1
    · exact Or.inr (C2.lt k hk).1

set_option maxRecDepth 100000 in
set_option maxHeartbeats 1000000 in
theorem restore_ok {s : Ar} {n : Sn} {w : World} (h : ArP s w) (hn : SnP n w) (h1 : n.pg.length ≤ 4096) (h2 : n.fr.length ≤ 4096) : Calls Try.prog 27 #[arV s.p, .agg #[arV s.p, .pointer (some ⟨n.pb, 0, none⟩)]] w fun e w' => e = .returned (.int .i64 0) ∧ Goes s w ⟨n.pg.map (Option.map Prod.snd), n.fr, s.q⟩ w' := by
  have HH : Hid (ArP s w) := h
  have HN : Hid (SnP n w) := hn
  clear h hn
  unfold arV
  have hq := neq_same
  go_enter Try.func27, Try.ntmps27
  go_wp2_with fail
  obtain ⟨W0, hW0⟩ : ∃ W0, Hid (W0 = w.alloc (.cells #[.pointer (some ⟨s.p, 0, none⟩), .pointer (some ⟨n.pb, 0, none⟩)] 60)) := ⟨_, rfl⟩
  rw [← hW0.out]
  have hb0 : Below w.heap.size w W0 := by rw [hW0.out]; exact below_alloc _ _
  have N0 : SnP n W0 := HN.out.keep (fun k hk => hb0.block k (HN.out.lt hk)) (Pk.of_below hb0)
  have c0 : W0.cell? ⟨n.pb, 0, none⟩ = some n.vp := by rw [cell_of_row _ _ _ _ _ _ N0.blk]; rfl
  have c1 : W0.cell? ⟨n.pb, 1, none⟩ = some n.vf := by rw [cell_of_row _ _ _ _ _ _ N0.blk]; rfl
  refine (copied_walk (N0.lt (Or.inl rfl)) c0 c1 N0.rp N0.rf h1 h2).mono ?_
  rintro e w1 ⟨vp', vf', rfl, C1, C2, C3⟩
  obtain ⟨a1, k1, rfl, _⟩ := owns_slice C1
  obtain ⟨a2, k2, rfl, _⟩ := owns_slice C2
  have B1 := below_on hb0 C3
  have A1 : ArP s w1 := arSt.below HH.out B1
  have N1 : SnP n w1 := HN.out.keep (fun k hk => B1.block k (HN.out.lt hk)) (Pk.of_below B1)
  obtain ⟨d0, d1, _, hp, hf⟩ := A1.cell
  obtain ⟨⟨_, _, e1⟩, _, _, e2⟩ := owns_ints A1
  rw [e1] at d0
  rw [e2] at d1
  have HE : Hid (Goes s w ⟨n.pg.map (Option.map Prod.snd), n.fr, s.q⟩ ((w1.setCell ⟨s.p, 0, none⟩ (.slice a1 n.pg.length k1)).setCell ⟨s.p, 1, none⟩ (.slice a2 n.fr.length k2))) := restore_end A1 B1 N1 (owns_base C1 hb0.size) (owns_base C2 hb0.size)
  clear C1 C2 C3 c0 c1 N0 N1 A1 B1 hb0 e1 e2 hq
  go_wp2
  go_ret
  exact ⟨rfl, HE.out⟩
end Go.Proofs.Ytcoehlnmaehhjaa
