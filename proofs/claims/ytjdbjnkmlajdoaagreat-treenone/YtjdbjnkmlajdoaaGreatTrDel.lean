/-
  slices.Delete of one element of a row of the call's own.
-/
import Derived.Shelf.Slices.Cells
import Derived.Test.YtjdbjnkmlajdoaaGreatProg
import Derived.Test.YtjdbjnkmlajdoaaGreatTrRow
namespace Go.Proofs.YtjdbjnkmlajdoaaGreat
open Go.Shelf Go.RowKit

def delS_ren : Go.Shelf.Ren := ⟨fun | 24 => 91 | n => n, fun | 24 => 33 | 9 => 9 | 3 => 3 | 4 => 4 | 0 => 0 | n => n, fun | n => n⟩
theorem delS_lays : Go.Proofs.Lays2.n24 Tryz.prog delS_ren := {
  mixed := by kernel_rfl
  f24 := Tryz.func91.trans (congrArg some (by kernel_rfl))
  t0 := Tryz.underlying0
  a0 := Tryz.isAgg0
  z0 := Tryz.sizeOf0
  v0 := Tryz.zeroValue0
  t3 := Tryz.underlying3
  a3 := Tryz.isAgg3
  z3 := Tryz.sizeOf3
  v3 := Tryz.zeroValue3
  t4 := Tryz.underlying4
  a4 := Tryz.isAgg4
  z4 := Tryz.sizeOf4
  v4 := Tryz.zeroValue4
  t9 := Tryz.underlying9
  a9 := Tryz.isAgg9
  z9 := Tryz.sizeOf9
  v9 := Tryz.zeroValue9
  t24 := Tryz.underlying33
  a24 := Tryz.isAgg33
  z24 := Tryz.sizeOf33
  v24 := Tryz.zeroValue33
  i9 := by kernel_rfl }

def delI_ren : Go.Shelf.Ren := ⟨fun | 23 => 154 | n => n, fun | 22 => 49 | 3 => 3 | 4 => 4 | 0 => 0 | n => n, fun | n => n⟩
theorem delI_lays : Go.Proofs.Lays2.n23 Tryz.prog delI_ren := {
  mixed := by kernel_rfl
  f23 := Tryz.func154.trans (congrArg some (by kernel_rfl))
  t0 := Tryz.underlying0
  a0 := Tryz.isAgg0
  z0 := Tryz.sizeOf0
  v0 := Tryz.zeroValue0
  t3 := Tryz.underlying3
  a3 := Tryz.isAgg3
  z3 := Tryz.sizeOf3
  v3 := Tryz.zeroValue3
  t4 := Tryz.underlying4
  a4 := Tryz.isAgg4
  z4 := Tryz.sizeOf4
  v4 := Tryz.zeroValue4
  t22 := Tryz.underlying49
  a22 := Tryz.isAgg49
  z22 := Tryz.sizeOf49
  v22 := Tryz.zeroValue49
  i3 := by kernel_rfl }

/-- What a deletion leaves in the row. -/
theorem del_row {w w' : World} {base g cap n i : Nat} {e : TypeId} {cur : Array Value} {xs ys : List Value} {z : Value} (hbg : base ≤ g) (hg : w.heap[g]? = some (.cells cur e (0, 0))) (hnc : n ≤ cap) (hcm : cap ≤ maxLen) (hcs : cur.size = cap) (hxl : xs.length = n) (hi : i < n) (q : Nat) (hys : ys = xs.take i ++ xs.drop (i + 1) ++ [z]) (hw : w' = (w.drewN q).setCells g 0 ys) :
    w'.ownsRow base e 1 (.slice (some ⟨g, 0, none⟩) (n - 1) cap) (n - 1) (xs.take i ++ xs.drop (i + 1)) ∧ w.grownBy w' (some g) := by
  have hyl : ys.length = n := by rw [hys]; simp; omega
  have hg' : (w.drewN q).heap[g]? = some (.cells cur.toList.toArray e (0, 0)) := by simpa using hg
  have hb := setCells_blk ys 0 (w.drewN q) cur.toList hg' (by rw [hyl, Array.length_toList]; omega)
  have hd : w.grownBy (w.drewN q) (some g) := ⟨rfl, rfl, rfl, Nat.le_refl _, fun _ _ _ => rfl⟩
  rw [hw]
  refine ⟨own_row hbg hb (by omega) hcm (by rw [ov_length _ _ _ (by rw [hyl, Array.length_toList]; omega), Array.length_toList]; omega) ?_, setCells_grown g _ _ _ _ hd⟩
  unfold ov
  rw [List.take_zero, List.nil_append, hys, List.append_assoc]
  have hl : (xs.take i ++ xs.drop (i + 1)).length = n - 1 := by simp; omega
  rw [← hl]
  exact List.take_left

theorem delete_str {w : World} {base n i : Nat} {v : Value} {l : List ByteArray} (h : w.ownsRow base 9 1 v n (l.map Value.string)) (hi : i < n) :
    Calls Tryz.prog 91 #[v, .int .i64 (i : Int), .int .i64 ((i + 1 : Nat) : Int)] w fun e w' => ∃ v', e = .returned v' ∧ w'.ownsRow base 9 1 v' (n - 1) ((l.take i ++ l.drop (i + 1)).map Value.string) ∧ w.grownBy w' v.ownBlock ∧ v'.ownBlock = v.ownBlock := by
  have hxl : l.length = n := by have := h.1; simpa using this
  rcases h.2 with ⟨rfl, rfl⟩ | ⟨g, cap, cur, rfl, hbg, hg, hnc, hcm, hcs, htake⟩
  · omega
  have hcell : ∀ j, j < n → w.cell? ⟨g, 0 + j, none⟩ = some (.string (l.getD j ⟨#[]⟩)) := fun j hj => by
    rw [cell_of_row _ _ _ _ _ _ hg, Nat.zero_add]
    have e : cur.toList[j]? = (l.map Value.string)[j]? := by rw [← htake, List.getElem?_take, if_pos (by omega)]
    rw [← Array.getElem?_toList, e, List.getElem?_map, List.getElem?_eq_getElem (by omega), List.getD_eq_getElem?_getD, List.getElem?_eq_getElem (by omega)]
    rfl
  refine (Any.slices_Delete_string_cells delS_lays g 0 n cap i (i + 1) (fun j => l.getD j ⟨#[]⟩) w hnc (by unfold maxLen at hcm; omega) (by omega) (by omega) hcell (fun j _ => frozen_of_row _ _ _ _ _ hg)).mono ?_
  rintro e w' ⟨rfl, q, hw⟩
  have hst : (Lib.strsOf (fun j => l.getD j ⟨#[]⟩) n).map Go.Proofs.encStr = l.map Value.string := by
    apply List.ext_getElem?
    intro j
    unfold Lib.strsOf
    rw [List.getElem?_map, List.getElem?_map, List.getElem?_map]
    by_cases hj : j < n
    · rw [List.getElem?_range hj, List.getElem?_eq_getElem (by omega)]
      simp [Go.Proofs.encStr, List.getD_eq_getElem?_getD, List.getElem?_eq_getElem (show j < l.length by omega)]
    · rw [List.getElem?_eq_none (by simpa using hj), List.getElem?_eq_none (by omega)]
      rfl
  obtain ⟨h1, h2⟩ := del_row (i := i) hbg hg hnc hcm (by omega) (xs := l.map Value.string) (by simpa using hxl) hi q (z := .string ⟨#[]⟩) (by
    rw [List.map_append, List.map_append, List.map_take, List.map_drop, hst, show i + 1 - i = 1 by omega]
    rfl) hw
  refine ⟨.slice (some ⟨g, 0, none⟩) (n - 1) cap, by rw [show i + 1 - i = 1 by omega], ?_, h2, rfl⟩
  rw [List.map_append, List.map_take, List.map_drop]
  exact h1

theorem delete_int {w : World} {base n i : Nat} {v : Value} {l : List Int} (h : w.ownsRow base 3 1 v n (l.map (Value.int .i64))) (hi : i < n) :
    Calls Tryz.prog 154 #[v, .int .i64 (i : Int), .int .i64 ((i + 1 : Nat) : Int)] w fun e w' => ∃ v', e = .returned v' ∧ w'.ownsRow base 3 1 v' (n - 1) ((l.take i ++ l.drop (i + 1)).map (Value.int .i64)) ∧ w.grownBy w' v.ownBlock ∧ v'.ownBlock = v.ownBlock := by
  have hxl : l.length = n := by have := h.1; simpa using this
  rcases h.2 with ⟨rfl, rfl⟩ | ⟨g, cap, cur, rfl, hbg, hg, hnc, hcm, hcs, htake⟩
  · omega
  have hcell : ∀ j, j < l.length → w.cell? ⟨g, 0 + j, none⟩ = some (.int .i64 (l.getD j 0)) := fun j hj => by
    rw [cell_of_row _ _ _ _ _ _ hg, Nat.zero_add]
    have e : cur.toList[j]? = (l.map (Value.int .i64))[j]? := by rw [← htake, List.getElem?_take, if_pos (by omega)]
    rw [← Array.getElem?_toList, e, List.getElem?_map, List.getElem?_eq_getElem (by omega), List.getD_eq_getElem?_getD, List.getElem?_eq_getElem (by omega)]
    rfl
  refine (Any.slices_Delete_int_cells delI_lays g 0 n cap i (i + 1) l w (by omega) hnc (by unfold maxLen at hcm; omega) (by omega) (by omega) hcell (fun j _ => frozen_of_row _ _ _ _ _ hg)).mono ?_
  rintro e w' ⟨rfl, q, hw⟩
  have hln : l.take n = l := List.take_of_length_le (by omega)
  obtain ⟨h1, h2⟩ := del_row (i := i) hbg hg hnc hcm (by omega) (xs := l.map (Value.int .i64)) (by simpa using hxl) hi q (z := .int .i64 0) (by
    rw [hln, List.map_append, List.map_append, List.map_take, List.map_drop, show i + 1 - i = 1 by omega]
    rfl) hw
  refine ⟨.slice (some ⟨g, 0, none⟩) (n - 1) cap, by rw [show i + 1 - i = 1 by omega], ?_, h2, rfl⟩
  rw [List.map_append, List.map_take, List.map_drop]
  exact h1
end Go.Proofs.YtjdbjnkmlajdoaaGreat
