/-
  The document's arena: Drop, Pages; the two arenas side by side.
-/
import Derived.Test.YtcoehlnmaehhjaaRfF
namespace Go.Proofs.Ytcoehlnmaehhjaa
open Go.RowKit

theorem rdrop_ok {r : Rf} {w : World} (h : RfP r w) (hl : r.L.length ≤ 4096) (hfl : r.fr.length ≤ 10000) (hd : (r.L.map Prod.fst).Nodup) {j m : Nat} {c : List UInt8} (hj : r.L[j]? = some (m, c)) : Calls Try.prog 15 #[arV r.p, .int .i64 (m : Int)] w fun e w' => e = .returned (.int .i64 0) ∧ RGoes r w (r.abs.drop j m) w' := by
  rcases h.rf.2 with ⟨hv, _⟩ | ⟨g, cap, cur, hv, _⟩
  · exact rdrop_nil h hl hfl hd hj hv
  · exact rdrop_some h hl hfl hd hj ⟨g, cap, hv⟩

set_option maxRecDepth 100000 in
set_option maxHeartbeats 1000000 in
theorem rpages_walk {r : Rf} {a : Abs} {w : World} (h : RfP r w) (hr : Rel a r.abs) (ho : a.Ok) : Calls Try.prog 24 #[arV r.p] w fun e w' => ∃ v, e = .returned v ∧ IS w.heap.size w' v a.pages ∧ Below w.heap.size w w' := by
  have hs := ho.small
  have hnx : r.nx = a.pg.length + 1 := hr.nx
  have hl : r.L.length ≤ 1000000 := by
    have : r.L.length = a.used := hr.len
    rw [this]
    unfold Abs.used
    omega
  have HH : Hid (RfP r w) := h
  have HR : Hid (Rel a r.abs) := hr
  obtain ⟨_, _, c2, _, hp, _⟩ := h.cell
  rw [hnx] at c2
  have c2' : w.cell? ⟨r.p, 2, none⟩ = some (.int .i64 ((a.pg.length : Int) + 1)) := c2
  clear h hr ho c2
  unfold arV
  obtain ⟨PL, hPL⟩ : ∃ PL, Hid (PL = a.pg.length) := ⟨_, rfl⟩
  rw [← hPL.out] at hs c2' hnx
  go_enter Try.func24, Try.ntmps24
  go_wp2
  go_loopw [3, 4] (fun v i wr => ∃ j : Nat, j ≤ PL ∧ i = .int .i64 ((j : Int) + 1) ∧ Hid (IS w.heap.size wr v (upto a.pg j)) ∧ Below w.heap.size w wr) (fun _ i _ => PL - (intOf i - 1).toNat)
  case atStart => exact ⟨0, by omega, rfl, owns_newi w, below_alloc _ _⟩
  case round =>
    obtain ⟨j, hj, rfl, HI, B⟩ := hrel
    have HB : Hid (Below w.heap.size w wr) := B
    have hsz := B.size
    have RW : Hid (RfP r wr) := rfSt.below HH.out B
    have d2 : wr.cell? ⟨r.p, 2, none⟩ = some (.int .i64 ((PL : Int) + 1)) := by rw [B.cell hp]; exact c2'
    clear B c2'
    obtain ⟨av, cv, rfl, _⟩ := owns_slice HI.out
    have hul := upto_length a.pg j
    by_cases hlt : j < PL
    · have HU : Hid _ := upto_succ a.pg j
      cases hx : ((a.pg[j]?).join).isSome
      · have HU' : Hid (upto a.pg (j + 1) = upto a.pg j) := by
          have := HU.out
          rw [hx] at this
          show upto a.pg (j + 1) = upto a.pg j
          simpa using this
        have HA := at_none RW.out hl (n := (j : Int) + 1) (fun x hm e => by
          have := (rel_pages HR.out j).1 ⟨x, hm, by omega⟩
          rw [hx] at this
          cases this)
        clear HU hx
        unfold arV at HA
        go_wp2_with fail
        refine HA.mono ?_
        rintro e w1 ⟨rfl, rfl⟩
        go_wp2_with fail
        refine ⟨⟨j + 1, by omega, by go_num, ?_, HB.out⟩, by simp [intOf]; omega⟩
        rw [HU'.out]; exact HI.out
      · have HU' : Hid (upto a.pg (j + 1) = upto a.pg j ++ [j + 1]) := by
          have := HU.out
          rw [hx] at this
          show upto a.pg (j + 1) = upto a.pg j ++ [j + 1]
          simpa using this
        obtain ⟨⟨m, c⟩, hm, e⟩ := (rel_pages HR.out j).2 hx
        have em : m = j + 1 := e
        subst em
        obtain ⟨i, hi⟩ := List.getElem?_of_mem hm
        have HA := at_some RW.out hl HR.out.nodup hi
        have hge : (0 : Int) ≤ (i : Int) := by omega
        have HA' : Calls Try.prog 11 #[arV r.p, .int .i64 ((j : Int) + 1)] wr fun e w' => e = .returned (.int .i64 (i : Int)) ∧ w' = wr := HA
        clear HU hx HA hi hm e
        unfold arV at HA'
        generalize upto a.pg j = acc at *
        have HR' : Hid (World.ownsRow (wr.alloc (.cells #[.int .i64 ((j : Int) + 1)] 3)) w.heap.size 3 1 (.slice av acc.length cv) acc.length (acc.map nv)) := World.ownsRow.alloc HI.out _
        go_wp2_with fail
        refine HA'.mono ?_
        rintro e w1 ⟨rfl, rfl⟩
        go_wp2_with (first
          | (at_builtin
             refine append_int w.heap.size (Nat.le_trans hsz (by simp)) rfl _ _ rfl (.slice av acc.length cv) acc.length (acc.map nv) rfl HR'.out (by omega) w1.heap.size (.int .i64 ((j : Int) + 1)) rfl _ rfl (by simp [go_sem]) ?_
             intro g' cap' W' hown hgr hat
             have HO : Hid (W'.ownsRow w.heap.size 3 1 (.slice (some ⟨g', 0, none⟩) (acc.length + 1) cap') (acc.length + 1) (acc.map nv ++ [.int .i64 ((j : Int) + 1)])) := hown
             have HB' : Hid (Below w.heap.size w W') := (HB.out.alloc hsz _).grown hgr (Nat.le_trans hsz (by simp)) (fun k hk => (World.ownsRow.lt HR'.out k hk).1)
             clear hown hgr hat)
          | go_in)
        refine ⟨⟨j + 1, by omega, by go_num, ?_, HB'.out⟩, by simp [intOf]; omega⟩
        rw [HU'.out]
        show World.ownsRow _ _ _ _ _ _ _
        simpa [nv] using HO.out
    · have hj' : j = PL := by omega
      subst hj'
      go_wp2_with fail
      go_ret
      have e : a.pages = upto a.pg j := by unfold Abs.pages; rw [hPL.out]
      exact ⟨_, rfl, by rw [e]; exact HI.out, HB.out⟩
end Go.Proofs.Ytcoehlnmaehhjaa
