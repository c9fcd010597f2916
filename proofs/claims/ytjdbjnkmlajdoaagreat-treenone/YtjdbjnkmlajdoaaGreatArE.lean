/-
  The program's arena: Pages.
-/
import Derived.Test.YtjdbjnkmlajdoaaGreatArD
namespace Go.Proofs.YtjdbjnkmlajdoaaGreat.L4
open Go.RowKit

/-- The numbers in use, of the first j. -/
def upto {β : Type} (pg : List (Option β)) (j : Nat) : List Nat := ((List.range j).filter fun i => ((pg[i]?).join).isSome).map (· + 1)

theorem upto_succ {β : Type} (pg : List (Option β)) (j : Nat) : upto pg (j + 1) = upto pg j ++ (if ((pg[j]?).join).isSome then [j + 1] else []) := by
  unfold upto
  rw [List.range_succ, List.filter_append, List.map_append]
  congr 1
  by_cases h : ((pg[j]?).join).isSome <;> simp [h]

theorem upto_length {β : Type} (pg : List (Option β)) (j : Nat) : (upto pg j).length ≤ j := by
  unfold upto
  rw [List.length_map]
  exact Nat.le_trans (List.length_filter_le _ _) (by simp)

def Abs.pages (a : Abs) : List Nat := upto a.pg a.pg.length

theorem upto_abs (s : Ar) (j : Nat) : upto s.abs.pg j = upto s.pg j := by
  unfold upto Ar.abs
  congr 1
  apply List.filter_congr
  intro i _
  simp only [List.getElem?_map]
  cases s.pg[i]? with
  | none => rfl
  | some x => cases x <;> rfl

/-- Numbers in a row of the call's own. -/
def IS (base : Nat) (W : World) (v : Value) (l : List Nat) : Prop := W.ownsRow base 3 1 v l.length (l.map nv)

theorem IS.below {base : Nat} {W W' : World} {v : Value} {l : List Nat} (h : IS base W v l) (hb : Below W.heap.size W W') : IS base W' v l :=
  owns_of_block h fun k hk => hb.block k (World.ownsRow.lt h k hk).2

theorem pages_nil (w : World) : Calls Tryz.prog 30 #[.pointer none] w fun e w' => e = .returned (.slice none 0 0) ∧ w' = w := by
  go_enter Tryz.func30, Tryz.ntmps30
  go_wp2
  go_ret
  exact ⟨rfl, rfl⟩

set_option maxRecDepth 100000 in
set_option maxHeartbeats 1000000 in
theorem pages_walk {s : Ar} {w : World} (h : ArP s w) (ho : s.abs.Ok) : Calls Tryz.prog 30 #[arV s.p] w fun e w' => ∃ v, e = .returned v ∧ IS w.heap.size w' v s.abs.pages ∧ Below w.heap.size w w' := by
  have hl : s.pg.length ≤ 4096 := by simpa [Ar.abs] using ho.small
  obtain ⟨⟨ap, cp, e1⟩, _⟩ := owns_ints h
  obtain ⟨c0, _, _, hp, hf⟩ := h.cell
  have hpp : s.abs.pages = upto s.pg s.pg.length := by
    unfold Abs.pages
    rw [upto_abs]; simp [Ar.abs]
  rw [hpp]
  rw [e1] at c0
  have HH : Hid (ArP s w) := h
  have E1 : Hid (s.vp = .slice ap s.pg.length cp) := e1
  clear h ho e1 hpp
  unfold arV
  go_enter Tryz.func30, Tryz.ntmps30
  go_wp2
  go_loopw [3, 14] (fun v i wr => ∃ j : Nat, j ≤ s.pg.length ∧ i = .int .i64 (j : Int) ∧ Hid (IS w.heap.size wr v (upto s.pg j)) ∧ Below w.heap.size w wr) (fun _ i _ => s.pg.length - (intOf i).toNat)
  case atStart => exact ⟨0, by omega, rfl, World.ownsRow_nil _ _ _ _, Below.refl _ _⟩
  case round =>
    obtain ⟨j, hj, rfl, HI, B⟩ := hrel
    have HB : Hid (Below w.heap.size w wr) := B
    have hsz := B.size
    clear B c0 hf hp
    obtain ⟨av, cv, rfl, _⟩ := owns_slice HI.out
    have hul := upto_length s.pg j
    by_cases hlt : j < s.pg.length
    · have hx : s.pg[j]? = some s.pg[j] := List.getElem?_eq_getElem hlt
      obtain ⟨g, cap, hv, hg, _, hc, hcell, hfz⟩ := (arSt.below HH.out HB.out : ArP s wr).page hx
      rw [E1.out] at hv
      cases hv
      have HU : Hid _ := upto_succ s.pg j
      rw [hx] at HU
      rcases hy : s.pg[j] with _ | ⟨b, c⟩
      · rw [hy] at hcell HU
        have hcell' : wr.cell? ⟨g, j, none⟩ = some (.pointer none) := hcell
        have HU' : Hid (upto s.pg (j + 1) = upto s.pg j) := by
          show upto s.pg (j + 1) = upto s.pg j
          have := HU.out
          simpa using this
        clear hcell HU hx hy
        go_wp2
        refine ⟨⟨j + 1, by omega, by go_num, ?_, HB.out⟩, by simp [intOf]; omega⟩
        rw [HU'.out]; exact HI.out
      · rw [hy] at hcell HU
        have hcell' : wr.cell? ⟨g, j, none⟩ = some (.pointer (some ⟨b, 0, none⟩)) := hcell
        have HU' : Hid (upto s.pg (j + 1) = upto s.pg j ++ [j + 1]) := by
          show upto s.pg (j + 1) = upto s.pg j ++ [j + 1]
          have := HU.out
          simpa using this
        clear hcell HU hx hy
        generalize upto s.pg j = acc at *
        have HR : Hid (World.ownsRow (wr.alloc (.cells #[.int .i64 ((j : Int) + 1)] 3)) w.heap.size 3 1 (.slice av acc.length cv) acc.length (acc.map nv)) := World.ownsRow.alloc HI.out _
        go_wp2_with (first
          | (at_builtin
             refine append_int w.heap.size (Nat.le_trans hsz (by simp)) rfl _ _ rfl (.slice av acc.length cv) acc.length (acc.map nv) rfl HR.out (by omega) wr.heap.size (.int .i64 ((j : Int) + 1)) rfl _ rfl (by simp [go_sem]) ?_
             intro g' cap' W' hown hgr hat
             have HO : Hid (W'.ownsRow w.heap.size 3 1 (.slice (some ⟨g', 0, none⟩) (acc.length + 1) cap') (acc.length + 1) (acc.map nv ++ [.int .i64 ((j : Int) + 1)])) := hown
             have HB' : Hid (Below w.heap.size w W') := (HB.out.alloc hsz _).grown hgr (Nat.le_trans hsz (by simp)) (fun k hk => (World.ownsRow.lt HR.out k hk).1)
             clear hown hgr hat)
          | go_in)
        refine ⟨⟨j + 1, by omega, by go_num, ?_, HB'.out⟩, by simp [intOf]; omega⟩
        rw [HU'.out]
        show World.ownsRow _ _ _ _ _ _ _
        simpa [nv] using HO.out
    · have hj' : j = s.pg.length := by omega
      subst hj'
      go_wp2
      go_ret
      exact ⟨_, rfl, HI.out, HB.out⟩
end Go.Proofs.YtjdbjnkmlajdoaaGreat.L4
