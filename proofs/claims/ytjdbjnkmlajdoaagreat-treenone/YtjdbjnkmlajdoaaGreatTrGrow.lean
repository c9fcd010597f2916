/-
  Tree: grow of a node that fits; insert into a leaf that has room.
-/
import Derived.Test.YtjdbjnkmlajdoaaGreatTrWay
namespace Go.Proofs.YtjdbjnkmlajdoaaGreat
open Go.RowKit
open L4 (Ar ArP Abs arV nv)

/-- A way of one step. -/
structure Way1 (w : World) (b cp : Nat) (at_ : Nat) (n : L5.No) (vr vk : Value) (kid : Nat) : Prop where
  lt : b < w.heap.size
  cap : 1 ≤ cp
  c0 : w.cell? ⟨b, 0, none⟩ = some (.int .i64 (at_ : Int))
  c1 : w.cell? ⟨b, 1, none⟩ = some (.bool n.leaf)
  c2 : w.cell? ⟨b, 2, none⟩ = some vr
  c3 : w.cell? ⟨b, 3, none⟩ = some vk
  c4 : w.cell? ⟨b, 4, none⟩ = some (.int .i64 (kid : Int))

theorem Way1.on {w w' : World} {b cp at_ : Nat} {n : L5.No} {vr vk : Value} {kid : Nat} (k : Way1 w b cp at_ n vr vk kid) (hb : Below w.heap.size w w') : Way1 w' b cp at_ n vr vk kid :=
  ⟨Nat.lt_of_lt_of_le k.lt hb.size, k.cap, (hb.cell k.lt).trans k.c0, (hb.cell k.lt).trans k.c1, (hb.cell k.lt).trans k.c2, (hb.cell k.lt).trans k.c3, (hb.cell k.lt).trans k.c4⟩

set_option maxRecDepth 100000 in
set_option maxHeartbeats 1000000 in
theorem parted_ok {w : World} {b cp at_ kid : Nat} {n : L5.No} {ra ka : Option Addr} {rc kc : Nat} (k : Way1 w b cp at_ n (.slice ra n.recs.length rc) (.slice ka n.kids.length kc) kid) :
    Calls Tryz.prog 108 #[.slice (some ⟨b, 0, none⟩) 1 cp] w fun e w' => e = .returned (.tuple #[.slice (some ⟨b, 0, none⟩) 0 cp, .agg #[.int .i64 (at_ : Int), .bool n.leaf, .slice ra n.recs.length rc, .slice ka n.kids.length kc, .int .i64 (kid : Int)]]) ∧ Below w.heap.size w w' := by
  have HB1 := thid (tbelow w (.cells #[.int .i64 0, .bool false, .slice none 0 0, .slice none 0 0, .int .i64 0] 101))
  obtain ⟨hb, hcp, c0, c1, c2, c3, c4⟩ := k.on HB1.out
  have hz : (w.alloc (.cells #[.int .i64 0, .bool false, .slice none 0 0, .slice none 0 0, .int .i64 0] 101)).heap[w.heap.size]? = some (.cells #[.int .i64 0, .bool false, .slice none 0 0, .slice none 0 0, .int .i64 0] 101 (0, 0)) := heap_alloc_new _ _
  clear k
  go_enter Tryz.func108, Tryz.ntmps108
  go_wp2_with fail
  generalize w.alloc (.cells #[.int .i64 0, .bool false, .slice none 0 0, .slice none 0 0, .int .i64 0] 101) = W at *
  refine wp_region_quiet_tail (fun w' => ∃ n, w' = World.drewN W n) 8 (by kernel_rfl) (by kernel_rfl) ⟨1, rfl⟩ ?_
  simp only [List.take_succ_cons, List.take_zero, List.drop_succ_cons, List.drop_zero]
  repeat (go_big_quiet_step (fail))
  refine wpQuiet_nil ?_
  rintro _ ⟨nq, rfl⟩
  have HB2 := thid (HB1.out.trans ((below_drewN (Below.refl _ _) nq : Below W.heap.size W (World.drewN W nq)).mono HB1.out.size))
  have hz2 : (World.drewN W nq).heap[w.heap.size]? = some (.cells #[.int .i64 0, .bool false, .slice none 0 0, .slice none 0 0, .int .i64 0] 101 (0, 0)) := ((below_drewN (Below.refl _ _) nq : Below W.heap.size W (World.drewN W nq)).block _ (Array.getElem?_eq_some_iff.1 hz).1).trans hz
  clear c0 c1 c2 c3 c4 hb hz HB1
  generalize World.drewN W nq = V at *
  have z0 : V.cell? ⟨w.heap.size, 0, none⟩ = some (.int .i64 0) := by rw [cell_of_row _ _ _ _ _ _ hz2]; rfl
  have z1 : V.cell? ⟨w.heap.size, 1, none⟩ = some (.bool false) := by rw [cell_of_row _ _ _ _ _ _ hz2]; rfl
  have z2 : V.cell? ⟨w.heap.size, 2, none⟩ = some (.slice none 0 0) := by rw [cell_of_row _ _ _ _ _ _ hz2]; rfl
  have z3 : V.cell? ⟨w.heap.size, 3, none⟩ = some (.slice none 0 0) := by rw [cell_of_row _ _ _ _ _ _ hz2]; rfl
  have z4 : V.cell? ⟨w.heap.size, 4, none⟩ = some (.int .i64 0) := by rw [cell_of_row _ _ _ _ _ _ hz2]; rfl
  have zf : ∀ i, V.frozen? ⟨w.heap.size, i, none⟩ = false := fun i => frozen_of_row _ _ _ _ _ hz2
  go_wp2
  refine bodyPost_ret (v := .tuple #[.slice (some ⟨b, 0, none⟩) 0 cp, .agg #[.int .i64 (at_ : Int), .bool n.leaf, .slice ra n.recs.length rc, .slice ka n.kids.length kc, .int .i64 (kid : Int)]]) (by simp [results, Tryz.results108, go_sem, z0, z1, z2, z3, z4]) rfl ⟨rfl, ?_⟩
  exact ((((HB2.out.setCell (Nat.le_refl _) _).setCell (Nat.le_refl _) _).setCell (Nat.le_refl _) _).setCell (Nat.le_refl _) _).setCell (Nat.le_refl _) _

set_option maxRecDepth 100000 in
set_option maxHeartbeats 1000000 in
theorem grow_fit {B : Nat} {s : Ar} {t x r h l xr xh xl : Nat} {tk ld gn : Value} {T : List Nat} {Ld : List Lay} {G : List Nat} {w : World} (k : Es B s t x r h l xr xh xl tk ld gn T Ld G w) (hL : Ld.length ≤ 10000) {n : L5.No} {at_ b cp kid : Nat} {ra ka : Option Addr} {rc kc : Nat} (hw : Way1 w b cp at_ n (.slice ra n.recs.length rc) (.slice ka n.kids.length kc) kid)
    (yr : w.ownsRow B 9 1 (.slice ra n.recs.length rc) n.recs.length (L5.svs n.recs)) (yk : w.ownsRow B 3 1 (.slice ka n.kids.length kc) n.kids.length (L5.ivs n.kids)) (b1 : ∀ q, s.own q → (Value.slice ka n.kids.length kc).ownBlock ≠ some q) (b2 : ∀ q, tk.ownBlock = some q → (Value.slice ka n.kids.length kc).ownBlock ≠ some q) (b3 : ∀ q, gn.ownBlock = some q → (Value.slice ka n.kids.length kc).ownBlock ≠ some q) (hs : n.small) (hz : n.size ≤ 1024) :
    Calls Tryz.prog 90 #[.pointer (some ⟨x, 0, none⟩), .slice (some ⟨b, 0, none⟩) 1 cp] w fun e w' => e = .returned (.tuple #[]) ∧ ∃ ld', Es B s t x r h l xr xh xl tk ld' gn T (Ld ++ [⟨at_, n, .slice ra n.recs.length rc, .slice ka n.kids.length kc, 0⟩]) G w' ∧ Stp B s s t x w w' := by
  have HK := thid k
  have HW := thid hw
  have HR := thid yr
  have HKK := thid yk
  clear k hw yr yk
  go_enter Tryz.func90, Tryz.ntmps90
  go_wp2_with fail
  refine (parted_ok HW.out).mono ?_
  rintro e w1 ⟨rfl, hb1⟩
  have HB1 := thid hb1
  clear hb1
  have HA1 := thid (tbelow w1 (.cells #[.int .i64 (at_ : Int), .bool n.leaf, .slice ra n.recs.length rc, .slice ka n.kids.length kc, .int .i64 (kid : Int)] 101))
  have a1 : (w1.alloc (.cells #[.int .i64 (at_ : Int), .bool n.leaf, .slice ra n.recs.length rc, .slice ka n.kids.length kc, .int .i64 (kid : Int)] 101)).heap[w1.heap.size]? = some (.cells #[.int .i64 (at_ : Int), .bool n.leaf, .slice ra n.recs.length rc, .slice ka n.kids.length kc, .int .i64 (kid : Int)] 101 (0, 0)) := heap_alloc_new _ _
  have HB2 := thid (tbelow_on HB1.out HA1.out)
  go_wp2_with fail
  generalize w1.alloc (.cells #[.int .i64 (at_ : Int), .bool n.leaf, .slice ra n.recs.length rc, .slice ka n.kids.length kc, .int .i64 (kid : Int)] 101) = W1 at *
  refine (L5.size_walk (n := n) (L5.NR.mk (L5.owns_rd_slice (L5.owns_below HR.out HB2.out)) (L5.owns_rd_slice (L5.owns_below HKK.out HB2.out))) hs).mono ?_
  rintro e w2 ⟨rfl, hb2⟩
  have HB3 := thid (tbelow_on HB2.out hb2)
  have a2 : w2.heap[w1.heap.size]? = some (.cells #[.int .i64 (at_ : Int), .bool n.leaf, .slice ra n.recs.length rc, .slice ka n.kids.length kc, .int .i64 (kid : Int)] 101 (0, 0)) := (hb2.block _ (Array.getElem?_eq_some_iff.1 a1).1).trans a1
  clear hb2 a1 HA1 HB1 HB2
  have la : w1.heap.size < w2.heap.size := (Array.getElem?_eq_some_iff.1 a2).1
  have z0 : w2.cell? ⟨w1.heap.size, 0, none⟩ = some (.int .i64 (at_ : Int)) := by rw [cell_of_row _ _ _ _ _ _ a2]; rfl
  have z1 : w2.cell? ⟨w1.heap.size, 1, none⟩ = some (.bool n.leaf) := by rw [cell_of_row _ _ _ _ _ _ a2]; rfl
  have z2 : w2.cell? ⟨w1.heap.size, 2, none⟩ = some (.slice ra n.recs.length rc) := by rw [cell_of_row _ _ _ _ _ _ a2]; rfl
  have z3 : w2.cell? ⟨w1.heap.size, 3, none⟩ = some (.slice ka n.kids.length kc) := by rw [cell_of_row _ _ _ _ _ _ a2]; rfl
  have z4 : w2.cell? ⟨w1.heap.size, 4, none⟩ = some (.int .i64 (kid : Int)) := by rw [cell_of_row _ _ _ _ _ _ a2]; rfl
  have hzb : ((n.size : Int) ≤ 1024) := by omega
  have HK2 := thid (HK.out.below HB3.out)
  have HR2 := thid (L5.owns_below HR.out HB3.out)
  have HKK2 := thid (L5.owns_below HKK.out HB3.out)
  clear HK HR HKK HW a2
  go_wp2_with fail
  refine (put_ok HK2.out hL HR2.out HKK2.out b1 b2 b3).mono ?_
  rintro e w3 ⟨rfl, ld', hE, hS⟩
  have HF : Hid (∃ ld', Es B s t x r h l xr xh xl tk ld' gn T (Ld ++ [⟨at_, n, .slice ra n.recs.length rc, .slice ka n.kids.length kc, 0⟩]) G w3 ∧ Stp B s s t x w w3) := ⟨ld', hE, (Stp.below HB3.out).trans hS⟩
  clear hE hS HB3 HK2 HR2 HKK2 z0 z1 z2 z3 z4 la
  go_wp2
  refine bodyPost_ret (v := .tuple #[]) (by simp [results, Tryz.results90, go_sem]) rfl ⟨rfl, HF.out⟩
end Go.Proofs.YtjdbjnkmlajdoaaGreat
